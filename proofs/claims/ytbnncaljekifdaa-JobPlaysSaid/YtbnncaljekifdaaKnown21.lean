/- swingbridgelaw21's known answers are as known; fits. -/
import Derived.Test.YtbnncaljekifdaaJob2
namespace Go.Proofs.Ytbnncaljekifdaa
open Go.ChangeShapes Go.WideShapes Go.ChangeAt Go.RowKit
set_option linter.unusedVariables false
set_option linter.unusedSimpArgs false

theorem parts_lit {w : World} {g : Nat} {e : TypeId} {ps : List PartM} (h : Bk w g e (ptc ps).toArray) : PartsAt w (some ⟨g, 0, none⟩) ps :=
  parts_lie (B := g + 1) (.inr ⟨g, 0, rfl, by omega, fun j v hj => by
    have := h.cell j
    rw [Nat.zero_add, this]
    simpa using hj⟩)
theorem below2 {W w w' : World} {b tb : Nat} (h : Below W.heap.size W w) (t : Turned [b, tb] w w') (hb : W.heap.size ≤ b) (ht : W.heap.size ≤ tb) : Below W.heap.size W w' :=
  h.trans (t.below h.size (fun k hk => by simp at hk; rcases hk with rfl | rfl <;> assumption))
theorem below1 {W w w' : World} {tb : Nat} (h : Below W.heap.size W w) (t : Turned [tb] w w') (ht : W.heap.size ≤ tb) : Below W.heap.size W w' :=
  h.trans (t.below h.size (fun k hk => by simp at hk; subst hk; assumption))
theorem below0 {W w w' : World} (h : Below W.heap.size W w) (t : Below w.heap.size w w') : Below W.heap.size W w' := h.trans (t.mono h.size)

set_option maxRecDepth 100000 in
set_option maxHeartbeats 2000000 in
theorem known21_any (w : World) : Calls Try.prog 18 #[] w fun e w' => e = .returned (.bool true) ∧ Below w.heap.size w w' := by
  go_enter Try.func18, Try.ntmps18
  go_wp2_with fail
  refine (tnew_any (RdB.none_ _) (by decide)).mono ?_
  rintro e w1 ⟨tb, F, rfl, ht, u⟩
  have htb := u.blocks _ ht.head
  have hb1 := u.below
  have hp : PartsAt (w1.alloc (.cells #[.int .i64 1, .int .i64 2, .int .i64 0, .int .i64 3, .int .i64 1, .int .i64 3] 49)) (some ⟨w1.heap.size, 0, none⟩) [⟨1, 2, 0⟩, ⟨3, 1, 3⟩] := parts_lit (Bk.new w1 _ _)
  replace ht := ht.over (Below.alloc (Below.refl w1.heap.size w1) (Nat.le_refl _) (.cells #[.int .i64 1, .int .i64 2, .int .i64 0, .int .i64 3, .int .i64 1, .int .i64 3] 49))
  replace hb1 := hb1.alloc hb1.size (.cells #[.int .i64 1, .int .i64 2, .int .i64 0, .int .i64 3, .int .i64 1, .int .i64 3] 49)
  clear u
  go_wp2_with fail
  refine (newj_any (n := 2) (ps := [⟨1, 2, 0⟩, ⟨3, 1, 3⟩]) rfl hp ⟨(fun e => by cases e), by decide, by decide⟩ (by simp [PartM.wf, I64]) (by decide) ht (by decide)).mono ?_
  rintro e w2 ⟨b, A, c, rfl, h, t, hb⟩
  rw [show beginL [] 0 [⟨1, 2, 0⟩, ⟨3, 1, 3⟩] 0 = 2 by simp [beginL, pickV], show beginU 0 [⟨1, 2, 0⟩, ⟨3, 1, 3⟩] 0 = 1 by simp [beginU, usedV]] at h
  have hb2 := below1 hb1 t htb
  have hbb : w.heap.size ≤ b := Nat.le_trans hb1.size (hb b (by simp))
  clear hp ht hb1 t hb
  go_wp2_with fail
  refine (tick_mid h (by decide) (by decide) (by decide)).mono ?_
  rw [show (2 : Int) - 1 = 1 by decide]
  rintro e w3 ⟨rfl, h3, t3⟩
  have hb3 := below2 hb2 t3 hbb htb
  clear h hb2 t3
  go_wp2_with fail
  refine (tick_end h3 (by decide) (by decide) (by decide) (by decide)).mono ?_
  rw [show beginL [] 1 [⟨1, 2, 0⟩, ⟨3, 1, 3⟩] (0 + 1) = 1 by simp [beginL, pickV], show beginU 1 [⟨1, 2, 0⟩, ⟨3, 1, 3⟩] (0 + 1) = 1 by simp [beginU, usedV], show 0 + 1 = 1 by decide]
  rintro e w4 ⟨rfl, h4, t4⟩
  have hb4 := below2 hb3 t4 hbb htb
  clear h3 hb3 t4
  go_wp2_with fail
  refine (part_any h4.job).mono ?_
  rintro e w' ⟨rfl, rfl⟩
  go_wp2_with fail
  refine (kind_any h4.job).mono ?_
  rw [show (partV [⟨1, 2, 0⟩, ⟨3, 1, 3⟩] 1).kind = 3 by decide]
  rintro e w5 ⟨rfl, b5⟩
  have h5 := h4.over b5
  have hb5 := below0 hb4 b5
  clear h4 hb4 b5
  go_wp2_with fail
  refine (res_any h5.job).mono ?_
  rw [show (partV [⟨1, 2, 0⟩, ⟨3, 1, 3⟩] 1).res = 3 by decide]
  rintro e w6 ⟨rfl, b6⟩
  have h6 := h5.over b6
  have hb6 := below0 hb5 b6
  clear h5 hb5 b6
  go_wp2_with fail
  refine (tnew_any (RdB.none_ _) (by decide)).mono ?_
  rintro e w7 ⟨tb2, F2, rfl, ht2, u2⟩
  have h7 := h6.over u2.below
  have hb7 := below0 hb6 u2.below
  clear h6 hb6 u2 ht2
  go_wp2_with fail
  refine (copyj_any (tb2 := tb2) h7.job).mono ?_
  rintro e w8 ⟨b2, rfl, k8, b8, hb2⟩
  have h8 := h7.over b8
  have hb8 := below0 hb7 b8
  have hne : ∀ k ∈ b2 :: fp A, k ∉ [b, tb] := by
    intro k hk hm
    have l1 := h7.job.blk.lt
    have l2 := h7.tape.lt _ h7.tape.head
    have l3 : tb ∉ fp A := fun hf => h7.ap _ (by simp [hf]) h7.tape.head
    simp at hm hk
    rcases hk with rfl | hk
    · omega
    · rcases hm with rfl | rfl
      · exact h7.job.ne hk
      · exact l3 hk
  clear h7 hb7 b8 hb2
  go_wp2_with fail
  refine (tick_end h8 (by decide) (by decide) (by decide) (by decide)).mono ?_
  rw [show beginL [] 1 [⟨1, 2, 0⟩, ⟨3, 1, 3⟩] (1 + 1) = 0 by simp [beginL], show beginU 1 [⟨1, 2, 0⟩, ⟨3, 1, 3⟩] (1 + 1) = 1 by simp [beginU], show 1 + 1 = 2 by decide]
  rintro e w9 ⟨rfl, h9, t9⟩
  have hb9 := below2 hb8 t9 hbb htb
  have k9 := k8.turned t9 (hne b2 (by simp)) (fun k hk => hne k (by simp [hk]))
  clear h8 hb8 t9 k8
  go_wp2_with fail
  refine (tick_over h9 (by decide)).mono ?_
  rintro e w10 ⟨rfl, h10, t10⟩
  have hb10 := below2 hb9 t10 hbb htb
  have k10 := k9.turned t10 (hne b2 (by simp)) (fun k hk => hne k (by simp [hk]))
  clear h9 hb9 t10 k9 hne
  go_wp2_with fail
  refine (release_any h10.job).mono ?_
  rintro e w' ⟨rfl, rfl⟩
  go_wp2_with fail
  refine (part_any k10).mono ?_
  rintro e w' ⟨rfl, rfl⟩
  go_wp2_with fail
  refine (over_any h10.job).mono ?_
  rw [show overB [⟨1, 2, 0⟩, ⟨3, 1, 3⟩] 2 = true by decide]
  rintro e w11 ⟨rfl, q11⟩
  have h11 := h10.over q11.b
  have k11 := k10.over q11.b
  have hb11 := below0 hb10 q11.b
  clear h10 k10 hb10 q11
  go_wp2_with fail
  refine (part_any h11.job).mono ?_
  rintro e w' ⟨rfl, rfl⟩
  go_wp2_with fail
  refine (left_any h11.job).mono ?_
  rintro e w' ⟨rfl, rfl⟩
  go_wp2_with fail
  refine (kind_any h11.job).mono ?_
  rw [show (partV [⟨1, 2, 0⟩, ⟨3, 1, 3⟩] 2).kind = 0 by decide]
  rintro e w12 ⟨rfl, b12⟩
  have k12 := k11.over b12
  have hb12 := below0 hb11 b12
  clear h11 k11 hb11 b12
  go_wp2_with fail
  refine (over_any k12).mono ?_
  rw [show overB [⟨1, 2, 0⟩, ⟨3, 1, 3⟩] 1 = false by decide]
  rintro e w13 ⟨rfl, q13⟩
  have hb13 := below0 hb12 q13.b
  clear k12 hb12 q13
  go_wp2_with fail
  go_ret
  exact ⟨rfl, hb13⟩

theorem Z6 {w : World} {g : Nat} {t : TypeId} {c0 c1 c2 c3 c4 c5 : Value} (h : Bk w g t #[c0, c1, c2, c3, c4, c5]) : w.cell? ⟨g, 0, none⟩ = some c0 ∧ w.cell? ⟨g, 1, none⟩ = some c1 ∧ w.cell? ⟨g, 2, none⟩ = some c2 ∧ w.cell? ⟨g, 3, none⟩ = some c3 ∧ w.cell? ⟨g, 4, none⟩ = some c4 ∧ w.cell? ⟨g, 5, none⟩ = some c5 :=
  ⟨h.cell 0, h.cell 1, h.cell 2, h.cell 3, h.cell 4, h.cell 5⟩
/-- a task whose parts are few, none shorter than a tick -/
def fitsB (ps : List PartM) : Bool := (ps.all fun p => decide (1 ≤ p.len ∧ p.len ≤ 200)) && (decide (1 ≤ ps.length) && decide (ps.length ≤ 10))
theorem fitsB_ok {ps : List PartM} (h : fitsB ps = true) : (∀ p ∈ ps, 1 ≤ p.len ∧ p.len ≤ 200) ∧ 1 ≤ ps.length ∧ ps.length ≤ 10 := by
  unfold fitsB at h
  simp only [Bool.and_eq_true, List.all_eq_true, decide_eq_true_eq] at h
  exact ⟨h.1, h.2.1, h.2.2⟩
theorem partsD_mem {ps : List PartM} {k : Nat} (h : k < ps.length) : ps.getD k default ∈ ps := by
  simp only [List.getD, List.getElem?_eq_getElem h, Option.getD_some]; exact List.getElem_mem h
set_option maxHeartbeats 1000000 in
theorem fits_any {nm : ByteArray} {per dl prio cl : Int} {pa : Option Addr} {pc : Nat} {ps : List PartM} {w : World} (hp : PartsAt w pa ps) (hsl : SlOk pa ps.length pc) (hwf : ∀ p ∈ ps, p.wf) :
    Calls Try.prog 19 #[.agg #[.string nm, .int .i64 per, .int .i64 dl, .int .i64 prio, .int .i64 cl, .slice pa ps.length pc]] w fun e w' => e = .returned (.bool (fitsB ps)) ∧ Below w.heap.size w w' := by
  obtain ⟨v, HV⟩ : ∃ v, Hid (fitsB ps = v) := ⟨_, rfl⟩
  obtain ⟨n, HN⟩ : ∃ n, Hid (ps.length = n) := ⟨_, rfl⟩
  rw [HV.out, HN.out]
  have hn : n ≤ maxLen := by rw [← HN.out]; exact Nat.le_trans hsl.2.1 hsl.2.2
  unfold maxLen at hn
  have B1 := Bk.new w 38 #[.string nm, .int .i64 per, .int .i64 dl, .int .i64 prio, .int .i64 cl, .slice pa n pc]
  have hb := (Below.refl w.heap.size w).alloc (Nat.le_refl _) (.cells #[.string nm, .int .i64 per, .int .i64 dl, .int .i64 prio, .int .i64 cl, .slice pa n pc] 38)
  have HP := hidp (hp.keep (Keeps.of_below hb))
  have C5 := B1.cell 5
  have HW := hidp hwf
  clear hp hsl hwf B1
  go_enter Try.func19, Try.ntmps19
  go_wp2
  go_loopg [3] n (fun g i wr => ∃ k : Nat, k + g = n ∧ i = .int .i64 k ∧ wr = w.alloc (.cells #[.string nm, .int .i64 per, .int .i64 dl, .int .i64 prio, .int .i64 cl, .slice pa n pc] 38) ∧ Hid (∀ j, j < k → 1 ≤ (ps.getD j default).len ∧ (ps.getD j default).len ≤ 200))
  case atStart => exact ⟨0, by omega, rfl, rfl, hidp (by omega)⟩
  case round =>
    obtain ⟨k, hk, rfl, rfl, Hj⟩ := hrel
    by_cases hlt : k < n
    · obtain ⟨g, off, rfl, hc⟩ := HP.out.resolve_left (by intro e; have := HN.out; rw [e] at this; simp at this; omega)
      obtain ⟨p, HX⟩ : ∃ p, Hid (ps.getD k default = p) := ⟨_, rfl⟩
      obtain ⟨c0, c1, c2⟩ := HX.out ▸ hc k (by rw [HN.out]; exact hlt)
      clear hc c0 c2
      by_cases h1 : p.len < 1
      · have Hv : Hid (v = false) := hidp (by
          rw [← HV.out]; unfold fitsB
          have : (ps.all fun p => decide (1 ≤ p.len ∧ p.len ≤ 200)) = false := by
            rw [List.all_eq_false]
            exact ⟨p, HX.out ▸ partsD_mem (by rw [HN.out]; exact hlt), by simp; omega⟩
          rw [this]; rfl)
        go_wp2
        go_ret
        exact ⟨ret_bool Hv.out.symm, hb⟩
      · by_cases h2 : 200 < p.len
        · have Hv : Hid (v = false) := hidp (by
            rw [← HV.out]; unfold fitsB
            have : (ps.all fun p => decide (1 ≤ p.len ∧ p.len ≤ 200)) = false := by
              rw [List.all_eq_false]
              exact ⟨p, HX.out ▸ partsD_mem (by rw [HN.out]; exact hlt), by simp; omega⟩
            rw [this]; rfl)
          go_wp2
          go_ret
          exact ⟨ret_bool Hv.out.symm, hb⟩
        · have Hj2 : Hid (∀ j, j < k + 1 → 1 ≤ (ps.getD j default).len ∧ (ps.getD j default).len ≤ 200) := hidp (by
            intro j hj
            by_cases e : j = k
            · subst e; rw [HX.out]; omega
            · exact Hj.out j (by omega))
          go_wp2
          go_roundg (gk - 1)
          case measure => omega
          case rel => exact ⟨k + 1, by omega, by go_num, rfl, Hj2⟩
    · obtain rfl : k = n := by omega
      have Hv : Hid (v = (decide (1 ≤ k) && decide (k ≤ 10))) := hidp (by
        rw [← HV.out]; unfold fitsB
        have : (ps.all fun p => decide (1 ≤ p.len ∧ p.len ≤ 200)) = true := by
          rw [List.all_eq_true]
          intro p hp
          obtain ⟨j, hj, rfl⟩ := List.mem_iff_getElem.1 hp
          have := Hj.out j (by rw [← HN.out]; exact hj)
          simpa [List.getD, hj] using this
        rw [this, HN.out]; rfl)
      by_cases h1 : 1 ≤ k
      · by_cases h2 : k ≤ 10
        · have Hv2 : Hid (v = true) := hidp (by rw [Hv.out]; simp [h1, h2])
          go_wp2
          go_ret
          exact ⟨ret_bool (by first | (rw [Hv2.out]; done) | (rw [Hv2.out]; simp; omega)), hb⟩
        · have Hv2 : Hid (v = false) := hidp (by rw [Hv.out]; simp [h2])
          go_wp2
          go_ret
          exact ⟨ret_bool (by first | (rw [Hv2.out]; done) | (rw [Hv2.out]; simp; omega)), hb⟩
      · have Hv2 : Hid (v = false) := hidp (by rw [Hv.out]; simp [h1])
        go_wp2
        go_ret
        exact ⟨ret_bool (by first | (rw [Hv2.out]; done) | (rw [Hv2.out]; simp; omega)), hb⟩
end Go.Proofs.Ytbnncaljekifdaa
