/- swingbridgeref2: Put, Sort of rows of items. -/
import Derived.Test.YtpcbonljbfbdmaaSort
import Derived.IntWalk
import Derived.Deep.QuietTactic
import Derived.BigQuiet
namespace Go.Proofs.Ytpcbonljbfbdmaa
set_option maxRecDepth 100000
open Go.ChangeShapes Go.WideShapes Go.ChangeAt Go.RowKit
set_option linter.unusedVariables false
theorem take_snoc2 (l : List (Int × Int)) (k : Nat) (h : k < l.length) : l.take (k + 1) = l.take k ++ [l.getD k (0, 0)] := by
  rw [List.take_succ_eq_append_getElem h]; simp [List.getD, h]
/-- what Put has put out of the first k; whether x is among it -/
theorem ins_take_hit {l : List (Int × Int)} {x : Int × Int} {k : Nat} (hk : k < l.length) (hd : ∀ y ∈ l.take k, y.1 ≤ x.1) (h : x.1 < (l.getD k (0, 0)).1) : ins l x = l.take k ++ x :: l.drop k := by
  induction k generalizing l with
  | zero =>
    cases l with
    | nil => simp at hk
    | cons y l => simp at h; simp [ins, h]
  | succ k ih =>
    cases l with
    | nil => simp at hk
    | cons y l =>
      have h1 := hd y (by simp)
      simp only [ins]
      rw [if_neg (by omega), ih (by simpa using hk) (fun z hz => hd z (by simp [hz])) (by simpa using h)]
      simp
theorem le_alloc {B : Nat} {w : World} (h : B ≤ w.heap.size) (o : Obj) : B ≤ (w.alloc o).heap.size := by simp; omega
theorem app_below {B : Nat} {e : TypeId} {size : Nat} {W0 wX w1 : World} {A A' : Option Addr} {n c : Nat} {xs : List Value} (hb : Below B W0 wX) (happ : App B e size wX A A' n c xs w1) (hfp : ∀ k ∈ fp A, B ≤ k) (hB : B ≤ wX.heap.size) : Below B W0 w1 := hb.trans (happ.turned.below hB hfp)
theorem cell_over {B : Nat} {W0 w1 : World} {p : Addr} {v : Value} (hb : Below B W0 w1) (hc : W0.cell? p = some v) (hB : W0.heap.size ≤ B) : w1.cell? p = some v := (hb.cell (Nat.lt_of_lt_of_le (cell_lt hc) hB)).trans hc

set_option maxHeartbeats 2000000
theorem rputI_any {w : World} {A : Option Addr} {n c : Nat} {ps : List (Int × Int)} {x1 x2 : Int} (h : RdI w A n c ps) (hl : n ≤ 900) (hx : I64 x1 ∧ I64 x2) :
    Calls Try.prog 22 #[.slice A n c, .agg #[.int .i64 x1, .int .i64 x2]] w (SortPost w (n + 1) (ins ps (x1, x2))) := by
  obtain ⟨i0, hi0, hz0, hz1, hz2⟩ := info_parts infoItem
  have HL := hidp h.len
  have Hx := hidp hx
  have Hf := hidp h.fit
  obtain ⟨W0, hW0⟩ : ∃ W0, W0 = w.alloc (.cells #[.int .i64 x1, .int .i64 x2] 62) := ⟨_, rfl⟩
  have h0 : RdI W0 A n c ps := by rw [hW0]; exact h.over ((Below.refl _ _).alloc (Nat.le_refl _) (.cells #[.int .i64 x1, .int .i64 x2] 62))
  have kb0 : W0.cell? ⟨w.heap.size, 0, none⟩ = some (.int .i64 x1) := by rw [hW0]; simp
  have kb1 : W0.cell? ⟨w.heap.size, 1, none⟩ = some (.int .i64 x2) := by rw [hW0]; simp
  have hbW : Below w.heap.size w W0 := by rw [hW0]; exact (Below.refl _ _).alloc (Nat.le_refl _) _
  have hsW : w.heap.size < W0.heap.size := by rw [hW0]; simp
  have HW0 := hidp hW0
  clear hW0 hx
  have H0 := hidp h0
  clear h0 h
  go_enter Try.func22, Try.ntmps22
  go_wp2_with fail
  go_loopg [5, 6, 7] n (fun g o b i wr => ∃ (k m : Nat) (D : Option Addr) (d : Nat) (bb : Bool) (rs : List (Int × Int)), k + g = n ∧ i = .int .i64 k ∧ o = .slice D m d ∧ b = .bool bb ∧ OwnI W0.heap.size wr D m d rs ∧ Below W0.heap.size W0 wr ∧
    Hid ((bb = false ∧ m = k ∧ rs = ps.take k ∧ ∀ y ∈ ps.take k, y.1 ≤ x1) ∨ (bb = true ∧ m = k + 1 ∧ rs ++ ps.drop k = ins ps (x1, x2))))
  case atStart => exact ⟨0, 0, none, 0, false, [], by omega, rfl, rfl, rfl, ⟨World.ownsRow_nil _ _ _ _, rfl, ⟨Nat.le_refl _, Nat.zero_le _⟩, fun _ => ⟨rfl, rfl⟩, by simp⟩, by rw [← HW0.out]; exact Below.refl _ _, hidp (.inl ⟨rfl, rfl, by simp, by simp⟩)⟩
  case round =>
    obtain ⟨k, m, D, d, bb, rs, hk, rfl, rfl, rfl, o, hbe, hst⟩ := hrel
    have cb0 := cell_over hbe kb0 (Nat.le_refl _)
    have cb1 := cell_over hbe kb1 (Nat.le_refl _)
    have hown := o.own
    by_cases hlt : k < n
    · have hkp : k < ps.length := by rw [← HL.out]; exact hlt
      obtain ⟨g, off, rfl⟩ := H0.out.some_ (by omega)
      obtain ⟨a1, a2⟩ := H0.out.cells hkp
      obtain ⟨y, HY⟩ : ∃ y, Hid (ps.getD k (0, 0) = y) := ⟨_, rfl⟩
      have hy := Hf.out (ps.getD k (0, 0)) (by simp [List.getD, hkp])
      rw [HY.out] at a1 a2 hy
      obtain ⟨y1, y2⟩ := y
      simp only at a1 a2 hy
      have Hy := hidp hy
      clear hy
      have r1 := cell_over hbe a1 (Nat.le_refl _)
      have r2 := cell_over hbe a2 (Nat.le_refl _)
      have hdr : Hid (ps.drop k = (y1, y2) :: ps.drop (k + 1)) := hidp (by rw [List.drop_eq_getElem_cons hkp, ← HY.out]; simp [List.getD, hkp])
      have htk : Hid (ps.take (k + 1) = ps.take k ++ [(y1, y2)]) := hidp (by rw [take_snoc2 ps k hkp, HY.out])
      have i5 : (0 : Int) ≤ (k : Int) := by omega
      have i6 : (k : Int) < (n : Int) := by omega
      have O2 := hidp (pcs_one [(y1, y2)])
      have OX := hidp (pcs_one [(x1, x2)])
      have hm902 : m ≤ 902 := by rcases hst.out with ⟨_, h, _⟩ | ⟨_, h, _⟩ <;> omega
      have N2 : Hid (m + 1 ≤ maxLen) := hidp (by unfold maxLen; omega)
      have T2 : Hid ((m + 1) * 16 ≤ 140737488355328) := hidp (by omega)
      cases bb with
      | true =>
        go_wp2_with fail
        go_quiet (fail)
        have hown2 := (World.ownsRow.alloc (w := wr.drewN nq) hown (.cells (pcs [(y1, y2)]).toArray 62))
        have S2 := hidp (Lies.newCells (wr.drewN nq) (pcs [(y1, y2)]) 62)
        have Z2 : Hid (W0.heap.size ≤ ((wr.drewN nq).alloc (.cells (pcs [(y1, y2)]).toArray 62)).heap.size) := hidp (Nat.le_trans hbe.size (by simp))
        go_wp2_with (at_builtin; go_loud (refine wpList_app2 _ rfl (.tmp 30) (.tmp 35) 54 rfl W0.heap.size 62 i0 _ 2 16 Try.underlying54 hi0 hz0 hz1 hz2 rfl (by decide) D m d _ rfl hown2 _ _ 1 1 (pcs [(y1, y2)]) rfl (by simp) rfl S2.out O2.out N2.out T2.out Z2.out ?_); intro A' c' w1 happ)
        go_roundg (gk - 1)
        case measure => omega
        case rel =>
          refine ⟨k + 1, m + 1, A', c', true, rs ++ [(y1, y2)], by omega, by go_num, rfl, rfl, o.app happ rfl (by intro p hp; simp at hp; subst hp; exact Hy.out), app_below ((below_drewN hbe nq).alloc (by have := hbe.size; simpa using this) _) happ (fun k hk => (own_fp hown k hk).1) Z2.out, hidp (.inr ?_)⟩
          rcases hst.out with ⟨h, _⟩ | ⟨_, h2, h3⟩
          · cases h
          · exact ⟨rfl, by omega, by rw [← h3, hdr.out]; simp⟩
      | false =>
        have hst2 : m = k ∧ rs = ps.take k ∧ ∀ y ∈ ps.take k, y.1 ≤ x1 := by
          rcases hst.out with ⟨_, h⟩ | ⟨h, _⟩
          · exact h
          · cases h
        have Hst := hidp hst2
        clear hst2 hst
        by_cases hgt : x1 < y1
        · have N3 : Hid (m + 1 + 1 ≤ maxLen) := hidp (by unfold maxLen; omega)
          have T3 : Hid ((m + 1 + 1) * 16 ≤ 140737488355328) := hidp (by omega)
          go_wp2_with fail
          go_quiet (fail)
          have hown2 := (World.ownsRow.alloc (w := wr.drewN nq) hown (.cells (pcs [(x1, x2)]).toArray 62))
          have S2 := hidp (Lies.newCells (wr.drewN nq) (pcs [(x1, x2)]) 62)
          have Z2 : Hid (W0.heap.size ≤ ((wr.drewN nq).alloc (.cells (pcs [(x1, x2)]).toArray 62)).heap.size) := hidp (Nat.le_trans hbe.size (by simp))
          have hbA := hidp ((below_drewN hbe nq).alloc (by have := hbe.size; simpa using this) (.cells (pcs [(x1, x2)]).toArray 62))
          go_wp2_with (at_builtin; first | (go_loud (refine wpList_app2 _ rfl (.tmp 26) (.tmp 28) 54 rfl W0.heap.size 62 i0 _ 2 16 Try.underlying54 hi0 hz0 hz1 hz2 rfl (by decide) D m d _ rfl hown2 _ _ 1 1 (pcs [(x1, x2)]) rfl (by simp) rfl S2.out OX.out N2.out T2.out Z2.out ?_); intro A1 c1 w1 happ; have hb1 := app_below hbA.out happ (fun k hk => (own_fp hown k hk).1) Z2.out; have s1 := cell_over hb1 a1 (Nat.le_refl _); have s2 := cell_over hb1 a2 (Nat.le_refl _); have hown3 := World.ownsRow.alloc (w := w1) happ.own (.cells (pcs [(y1, y2)]).toArray 62); have S3 := Lies.newCells w1 (pcs [(y1, y2)]) 62; have Z3 := le_alloc hb1.size (.cells (pcs [(y1, y2)]).toArray 62)) | (go_loud (refine wpList_app2 _ rfl (.tmp 30) (.tmp 35) 54 rfl W0.heap.size 62 i0 _ 2 16 Try.underlying54 hi0 hz0 hz1 hz2 rfl (by decide) A1 (m + 1) c1 _ rfl hown3 _ _ 1 1 (pcs [(y1, y2)]) rfl (by simp) rfl S3 O2.out N3.out T3.out Z3 ?_); intro A2 c2 w2 happ2))
          go_roundg (gk - 1)
          case measure => omega
          case rel =>
            obtain ⟨e1, e2, e3⟩ := Hst.out
            have o1 := o.app happ rfl (by intro p hp; simp at hp; subst hp; exact Hx.out)
            rw [← pcs_append rs] at happ2
            refine ⟨k + 1, m + 1 + 1, A2, c2, true, rs ++ [(x1, x2)] ++ [(y1, y2)], by omega, by go_num, rfl, rfl, o1.app happ2 rfl (by intro p hp; simp at hp; subst hp; exact Hy.out), app_below (hb1.alloc hb1.size _) happ2 (fun k hk => (own_fp happ.own k hk).1) Z3, hidp (.inr ⟨rfl, by omega, ?_⟩)⟩
            rw [ins_take_hit hkp e3 (by rw [HY.out]; exact hgt), hdr.out, e2]; simp
        · have hd : decide (x1 < y1) = false := by simpa using hgt
          have hle : y1 ≤ x1 := by omega
          go_wp2_with fail
          go_quiet (fail)
          have hown2 := (World.ownsRow.alloc (w := wr.drewN nq) hown (.cells (pcs [(y1, y2)]).toArray 62))
          have S2 := hidp (Lies.newCells (wr.drewN nq) (pcs [(y1, y2)]) 62)
          have Z2 : Hid (W0.heap.size ≤ ((wr.drewN nq).alloc (.cells (pcs [(y1, y2)]).toArray 62)).heap.size) := hidp (Nat.le_trans hbe.size (by simp))
          go_wp2_with (at_builtin; (go_loud (refine wpList_app2 _ rfl (.tmp 30) (.tmp 35) 54 rfl W0.heap.size 62 i0 _ 2 16 Try.underlying54 hi0 hz0 hz1 hz2 rfl (by decide) D m d _ rfl hown2 _ _ 1 1 (pcs [(y1, y2)]) rfl (by simp) rfl S2.out O2.out N2.out T2.out Z2.out ?_); intro A' c' w1 happ))
          go_roundg (gk - 1)
          case measure => omega
          case rel =>
            obtain ⟨e1, e2, e3⟩ := Hst.out
            refine ⟨k + 1, m + 1, A', c', false, rs ++ [(y1, y2)], by omega, by go_num, rfl, rfl, o.app happ rfl (by intro p hp; simp at hp; subst hp; exact Hy.out), app_below ((below_drewN hbe nq).alloc (by have := hbe.size; simpa using this) _) happ (fun k hk => (own_fp hown k hk).1) Z2.out, hidp (.inl ⟨rfl, by omega, by rw [htk.out, e2], ?_⟩)⟩
            intro y hy
            rw [htk.out] at hy
            rcases List.mem_append.1 hy with hy | hy
            · exact e3 y hy
            · simp at hy; subst hy; exact hle
    · obtain rfl : k = n := by omega
      have ht : ps.take k = ps := List.take_of_length_le (by rw [← HL.out]; exact Nat.le_refl _)
      have hd0 : ps.drop k = [] := List.drop_of_length_le (by rw [← HL.out]; exact Nat.le_refl _)
      cases bb with
      | true =>
        have hst2 : m = k + 1 ∧ rs = ins ps (x1, x2) := by
          rcases hst.out with ⟨h, _⟩ | ⟨_, h1, h2⟩
          · cases h
          · rw [hd0] at h2; exact ⟨h1, by simpa using h2⟩
        obtain ⟨rfl, h2⟩ := hst2
        have H2 := hidp h2
        clear h2 ht hd0 hst
        go_wp2_with fail
        go_ret
        exact ⟨D, d, rfl, by rw [← H2.out]; exact o.low (Nat.le_of_lt hsW), hbW.trans (hbe.mono (Nat.le_of_lt hsW))⟩
      | false =>
        have hst2 : m = k ∧ rs = ps ∧ ∀ y ∈ ps, y.1 ≤ x1 := by
          rcases hst.out with ⟨_, h⟩ | ⟨h, _⟩
          · rw [ht] at h; exact h
          · cases h
        obtain ⟨rfl, h1, h2⟩ := hst2
        have H1 : Hid (ins ps (x1, x2) = rs ++ [(x1, x2)]) := hidp (by rw [h1]; exact ins_last h2)
        clear h1 h2 ht hd0 hst
        have OX := hidp (pcs_one [(x1, x2)])
        have N2 : Hid (m + 1 ≤ maxLen) := hidp (by unfold maxLen; omega)
        have T2 : Hid ((m + 1) * 16 ≤ 140737488355328) := hidp (by omega)
        have hown2 := (World.ownsRow.alloc (w := wr) hown (.cells (pcs [(x1, x2)]).toArray 62))
        have S2 := hidp (Lies.newCells wr (pcs [(x1, x2)]) 62)
        have Z2 : Hid (W0.heap.size ≤ (wr.alloc (.cells (pcs [(x1, x2)]).toArray 62)).heap.size) := hidp (Nat.le_trans hbe.size (by simp))
        go_wp2_with (at_builtin; (go_loud (refine wpList_app2 _ rfl (.tmp 39) (.tmp 41) 54 rfl W0.heap.size 62 i0 _ 2 16 Try.underlying54 hi0 hz0 hz1 hz2 rfl (by decide) D m d _ rfl hown2 _ _ 1 1 (pcs [(x1, x2)]) rfl (by simp) rfl S2.out OX.out N2.out T2.out Z2.out ?_); intro A' c' w1 happ))
        try rw [Exit.noGoto_ret]
        go_ret
        have o1 := o.app happ rfl (by intro p hp; simp at hp; subst hp; exact Hx.out)
        have hb1 := app_below (hbe.alloc hbe.size _) happ (fun k hk => (own_fp hown k hk).1) Z2.out
        exact ⟨A', c', rfl, by rw [H1.out]; exact o1.low (Nat.le_of_lt hsW), hbW.trans (hb1.mono (Nat.le_of_lt hsW))⟩

def RPost (w : World) (n : Nat) (ps : List (Int × Int)) (e : Ending) (w' : World) : Prop := ∃ A c, e = .returned (.slice A n c) ∧ RdI w' A n c ps ∧ Below w.heap.size w w'
end Go.Proofs.Ytpcbonljbfbdmaa
