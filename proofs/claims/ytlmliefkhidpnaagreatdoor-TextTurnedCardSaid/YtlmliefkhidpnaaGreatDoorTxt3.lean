/- text.partsOf. -/
import Derived.Test.YtlmliefkhidpnaaGreatDoorTxt2
namespace Go.Proofs.YtlmliefkhidpnaaGreatDoor
open Go.ChangeShapes Go.WideShapes Go.ChangeAt Go.RowKit
set_option linter.unusedVariables false
set_option linter.unusedSimpArgs false
def partsM (l : List Bts) : Option (List PartM) := (partsT l).map (List.map PartT.m)
theorem partsM_snoc {l : List Bts} {ps : List PartM} {w : Bts} {p : PartM} (h : partsM l = some ps) (hp : partV w = (p, true)) : partsM (l ++ [w]) = some (ps ++ [p]) := by
  unfold partsM at h ⊢
  have hq : ∃ q, partT w = some q ∧ q.m = p := by
    unfold partV at hp
    cases e : partT w with
    | none => rw [e] at hp; cases hp
    | some q => rw [e] at hp; exact ⟨q, rfl, by injection hp⟩
  obtain ⟨q, hq, rfl⟩ := hq
  have key : ∀ l qs, partsT l = some qs → partsT (l ++ [w]) = some (qs ++ [q]) := by
    intro l
    induction l with
    | nil => intro qs h; simp [partsT] at h; subst h; simp [partsT, hq]
    | cons a t ih =>
      intro qs h
      simp only [List.cons_append, partsT] at h ⊢
      cases h1 : partT a with
      | none => rw [h1] at h; simp at h
      | some m =>
        cases h2 : partsT t with
        | none => rw [h1, h2] at h; simp at h
        | some l2 => rw [h1, h2] at h; simp at h; subst h; rw [ih l2 h2]; simp
  cases h1 : partsT l with
  | none => rw [h1] at h; cases h
  | some qs =>
    rw [h1] at h
    rw [key l qs h1]
    simp only [Option.map_some, Option.some.injEq] at h ⊢
    rw [List.map_append, h]; rfl
theorem partsM_bad {l : List Bts} {w : Bts} {p : PartM} (hw : w ∈ l) (hn : partV w = (p, false)) : partsM l = none := by
  have hq : partT w = none := by
    unfold partV at hn
    cases e : partT w with
    | none => rfl
    | some q => rw [e] at hn; cases hn
  have : partsT l = none := by
    induction l with
    | nil => simp at hw
    | cons a t ih =>
      simp only [partsT]
      rcases List.mem_cons.1 hw with rfl | h
      · rw [hq]
      · rw [ih h]; cases partT a <;> rfl
  unfold partsM; rw [this]; rfl
theorem partsM_len {l : List Bts} {ps : List PartM} (h : partsM l = some ps) : ps.length = l.length := by
  unfold partsM at h
  cases h1 : partsT l with
  | none => rw [h1] at h; cases h
  | some qs =>
    rw [h1] at h
    simp only [Option.map_some, Option.some.injEq] at h
    rw [← h, List.length_map]
    have key : ∀ l qs, partsT l = some qs → qs.length = l.length := by
      intro l
      induction l with
      | nil => intro qs h; simp [partsT] at h; subst h; rfl
      | cons a t ih =>
        intro qs h
        simp only [partsT] at h
        cases h1 : partT a with
        | none => rw [h1] at h; simp at h
        | some m =>
          cases h2 : partsT t with
          | none => rw [h1, h2] at h; simp at h
          | some l2 => rw [h1, h2] at h; simp at h; subst h; simp [ih l2 h2]
    exact key l qs h1
theorem partT_bd {w : Bts} {q : PartT} (h : partT w = some q) : (1 ≤ q.kind ∧ q.kind ≤ 3) ∧ (0 ≤ q.len ∧ q.len ≤ 9999999) ∧ 0 ≤ q.res ∧ q.res ≤ 9999999 := by
  rw [partT_K] at h
  have hb : ∀ zs, numsT (sp 58 [] (cutT 58 [] w).2) = some zs → ∀ n ∈ zs, 0 ≤ n ∧ n ≤ 9999999 := fun zs e => numsT_bd e
  revert hb h
  generalize (cutT 58 [] w).1 = k
  generalize numsT _ = o
  intro h hb
  match o, h, hb with
  | none, h, _ => cases h
  | some [], h, _ => cases h
  | some [n], h, hb =>
    have := hb [n] rfl n (by simp)
    unfold partK at h
    dsimp only at h
    split at h
    · injection h with h; subst h; dsimp only; omega
    · split at h
      · injection h with h; subst h; dsimp only; omega
      · cases h
  | some [r, n], h, hb =>
    have h1 := hb [r, n] rfl n (by simp)
    have h2 := hb [r, n] rfl r (by simp)
    unfold partK at h
    dsimp only at h
    split at h
    · injection h with h; subst h; dsimp only; omega
    · cases h
  | some (a :: b :: c :: d), h, _ => cases h
theorem partV_wf (w : Bts) : (partV w).1.wf := by
  unfold partV
  cases h : partT w with
  | none => exact ⟨by unfold I64; decide, by unfold I64; decide, by unfold I64; decide⟩
  | some q =>
    have := partT_bd h
    refine ⟨?_, ?_, ?_⟩ <;> unfold I64 <;> show _ ≤ _ ∧ _ ≤ _ <;> simp only [PartT.m] <;> omega
def PartsPost (w : World) (l : List Bts) (e : Ending) (w' : World) : Prop := ∃ A c ps ok, e = .returned (.tuple #[.slice A ps.length c, .bool ok]) ∧ OwnP w.heap.size w' A ps.length c ps ∧ Below w.heap.size w w' ∧ (∀ p ∈ ps, PartM.wf p) ∧ ps.length ≤ l.length ∧ partsM l = if ok = true then some ps else none
set_option maxHeartbeats 4000000 in
theorem partsOf_any (A0 : Option Addr) (c0 : Nat) (ls : List ByteArray) (m : Int) (w : World) (hm : w.cell? ⟨0, 0, none⟩ = some (.int .i64 m)) (hs : StrsAt w A0 ls) (hl : ls.length ≤ 100000) (hz : ∀ x ∈ ls, x.size ≤ 90000) : Calls Tryz.prog 73 #[.slice A0 ls.length c0] w (PartsPost w (ls.map bl)) := by
  obtain ⟨i0, hi0, hy0, hy1, hy2⟩ := info_parts infoPart
  have o0 : OwnP w.heap.size w none 0 0 [] := OwnP.none _ _
  have hb0 := Below.refl w.heap.size w
  obtain ⟨N, hN⟩ : ∃ N, ls.length = N := ⟨_, rfl⟩
  have HN := hidp hN
  have HZ := hidp hz
  have HMx := hidp hm
  rw [hN] at hl ⊢
  clear hN hz hm
  go_enter Tryz.func73, Tryz.ntmps73
  go_wp2
  go_step3
  go_wp2
  go_step3
  go_wp2
  go_loopg [4, 11] N (fun g all i wr => ∃ (k c : Nat) (A : Option Addr) (ps : List PartM), k + g = N ∧ i = .int .i64 k ∧ all = .slice A k c ∧ OwnP w.heap.size wr A k c ps ∧ Hid (partsM ((ls.take k).map bl) = some ps) ∧ Hid (∀ p ∈ ps, PartM.wf p) ∧ Below w.heap.size w wr)
  case atStart => exact ⟨0, 0, none, [], by omega, rfl, rfl, o0, hidp rfl, hidp (by simp), hb0⟩
  case round =>
    clear o0 hb0
    obtain ⟨k, c, A, ps, hk, rfl, rfl, ho, HI, HW, hbr⟩ := hrel
    by_cases hin : k < N
    · have hs2 := hs.below hbr
      obtain ⟨g, off, rfl, hc⟩ := hs2.resolve_left (by intro e; have := HN.out; rw [e] at this; simp at this; omega)
      have hkl : k < ls.length := by rw [HN.out]; exact hin
      obtain ⟨x, HX⟩ : ∃ x, Hid (ls.getD k ByteArray.empty = x) := ⟨_, hidp rfl⟩
      have c1 : wr.cell? ⟨g, off + k, none⟩ = some (.string x) := HX.out ▸ hc k hkl
      have HM := hidp (strs_mem hkl HX.out)
      have HT := hidp (strs_take hkl HX.out)
      have hx := HZ.out x HM.out
      have CN := hidp (partOf_any x m wr (mem_max HMx.out hbr) hx)
      clear hs hs2 hc hkl hx
      have b1 : (0 : Int) ≤ (k : Int) := by omega
      have b2 : (k : Int) < (N : Int) := by omega
      unfold PartPost at CN
      have HPW := hidp (partV_wf (bl x))
      obtain ⟨⟨⟨kd, ln, rs⟩, o⟩, HV⟩ : ∃ v, Hid (partV (bl x) = v) := ⟨_, hidp rfl⟩
      rw [HV.out] at CN HPW
      dsimp only at CN HPW
      go_wp2_with fail
      refine CN.out.mono ?_
      rintro e u ⟨rfl, hbu⟩
      cases o with
      | true =>
        have B1 := hidp (Bk.new u 46 #[.int .i64 kd, .int .i64 ln, .int .i64 rs])
        obtain ⟨y0, y1, y2⟩ := cz3 B1.out
        have TL : Turned [] wr ((u.alloc (.cells #[.int .i64 kd, .int .i64 ln, .int .i64 rs] 46)).alloc (.cells #[.int .i64 kd, .int .i64 ln, .int .i64 rs] 46)) := ((Turned.of_below hbu []).alloc _).alloc _
        have own4 := own_turned ho.own TL (by simp)
        have S2 := hidp (new_liesW (u.alloc (.cells #[.int .i64 kd, .int .i64 ln, .int .i64 rs] 46)) [.int .i64 kd, .int .i64 ln, .int .i64 rs] 46)
        rw [show (u.alloc (.cells #[.int .i64 kd, .int .i64 ln, .int .i64 rs] 46)).heap.size = u.heap.size + 1 by simp] at S2
        have N2 : Hid (k + 1 ≤ maxLen) := hidp (by unfold maxLen; omega)
        have T2 : Hid ((k + 1) * 24 ≤ 140737488355328) := hidp (by omega)
        have W0 := (hbr.trans (hbu.mono hbr.size))
        have W1 := (W0.alloc W0.size (.cells #[.int .i64 kd, .int .i64 ln, .int .i64 rs] 46))
        have W2 := W1.alloc W1.size (.cells #[.int .i64 kd, .int .i64 ln, .int .i64 rs] 46)
        have Z2 : Hid (w.heap.size ≤ ((u.alloc (.cells #[.int .i64 kd, .int .i64 ln, .int .i64 rs] 46)).alloc (.cells #[.int .i64 kd, .int .i64 ln, .int .i64 rs] 46)).heap.size) := hidp W2.size
        have O2 := hidp (ptc_one [⟨kd, ln, rs⟩])
        have Hfp := hidp (own_fp own4)
        have hW := hidp W2
        have HO := hidp (ho.turned TL (by simp))
        clear ho hbr hbu W0 W1 W2 TL CN B1
        go_wp2_with (at_builtin; refine wpList_app2 _ rfl (.tmp 22) (.tmp 24) 42 rfl w.heap.size 46 i0 _ 3 24 Tryz.underlying42 hi0 hy0 hy1 hy2 rfl (by decide) A k c _ rfl own4 _ _ 1 1 [.int .i64 kd, .int .i64 ln, .int .i64 rs] rfl (by simp) rfl S2.out O2.out N2.out T2.out Z2.out ?_; intro A9 c9 w6 happ)
        go_roundg (gk - 1)
        case measure => omega
        case rel => exact ⟨k + 1, c9, A9, ps ++ [⟨kd, ln, rs⟩], by omega, by go_num, by go_num, HO.out.app (ps := [⟨kd, ln, rs⟩]) happ rfl, hidp (by rw [HT.out]; exact partsM_snoc HI.out HV.out), hidp (fun p hp => (List.mem_append.1 hp).elim (HW.out p) (fun h => by rw [List.mem_singleton.1 h]; exact HPW.out)), hW.out.trans (happ.turned.below hW.out.size (fun i hi => (Hfp.out i hi).1))⟩
      | false =>
        have f1 : ((k : Int) == (N : Int)) = false := by rw [beq_eq_false_iff_ne]; omega
        have HL := hidp ho.len
        have HO := hidp ((ho.turned (Turned.of_below hbu []) (by simp)).turned ((Turned.refl [] u).alloc (.cells #[.int .i64 kd, .int .i64 ln, .int .i64 rs] 46)) (by simp))
        have W0 := (hbr.trans (hbu.mono hbr.size))
        have HBR := hidp (W0.alloc W0.size (.cells #[.int .i64 kd, .int .i64 ln, .int .i64 rs] 46))
        clear ho hbr hbu W0 CN
        go_wp2_with fail
        go_ret2
        refine ⟨A, c, ps, false, ret_sb HL.out rfl, HL.out ▸ HO.out, HBR.out, HW.out, ?_, ?_⟩
        · rw [← HL.out, List.length_map, HN.out]; omega
        · rw [if_neg (by decide)]
          exact partsM_bad (List.mem_map.2 ⟨x, HM.out, rfl⟩) HV.out
    · obtain rfl : k = N := by omega
      have HL := hidp ho.len
      have HO := hidp ho
      have HBR := hidp hbr
      clear ho hbr
      have f1 : ((k : Int) == (k : Int)) = true := by simp
      go_wp2
      go_ret2
      refine ⟨A, c, ps, true, ret_sb HL.out rfl, HL.out ▸ HO.out, HBR.out, HW.out, ?_, ?_⟩
      · rw [← HL.out, List.length_map, HN.out]; exact Nat.le_refl _
      · have := HI.out
        rw [if_pos rfl, ← this, List.take_of_length_le (by rw [HN.out]; exact Nat.le_refl _)]
end Go.Proofs.YtlmliefkhidpnaaGreatDoor
