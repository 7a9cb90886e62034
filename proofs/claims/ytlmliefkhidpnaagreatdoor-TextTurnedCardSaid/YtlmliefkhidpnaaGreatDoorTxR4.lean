/- swingbridgeref7.taskOf. Printed by tools/text/txr4.py. -/
import Derived.Test.YtlmliefkhidpnaaGreatDoorTxR3
import Derived.Test.YtlmliefkhidpnaaGreatDoorTxt5
namespace Go.Proofs.YtlmliefkhidpnaaGreatDoor
open Go.ChangeShapes Go.WideShapes Go.ChangeAt Go.RowKit
set_option linter.unusedVariables false
set_option linter.unusedSimpArgs false
def zeroT : Value := .agg #[.string ⟨#[]⟩, .int .i64 0, .int .i64 0, .int .i64 0, .int .i64 0, .slice none 0 0]
def RTaskPost (w : World) (l : List Bts) (e : Ending) (w' : World) : Prop :=
  Below w.heap.size w w' ∧ match taskT l with
  | .error x => x ≠ 0 ∧ e = .returned (.tuple #[zeroT, .int .i64 x])
  | .ok q => ∃ t : TaskR, e = .returned (.tuple #[.agg #[.string t.name, .int .i64 t.per, .int .i64 t.dl, .int .i64 t.prio, .int .i64 t.cl, .slice t.pa t.parts.length t.pc], .int .i64 0]) ∧ t.bare = q.bare ∧ TaskOk w' t ∧ (∀ k ∈ fp t.pa, w.heap.size ≤ k ∧ k < w'.heap.size)
theorem rtask_err {w w' : World} {l : List Bts} {x : Int} (ht : taskT l = .error x) (hx : x ≠ 0) (hb : Below w.heap.size w w') : RTaskPost w l (.returned (.tuple #[zeroT, .int .i64 x])) w' := by
  refine ⟨hb, ?_⟩
  rw [ht]
  exact ⟨hx, rfl⟩
theorem cz6 {w : World} {g : Nat} {t : TypeId} {c0 c1 c2 c3 c4 c5 : Value} (h : Bk w g t #[c0, c1, c2, c3, c4, c5]) : w.cell? ⟨g, 0, none⟩ = some c0 ∧ w.cell? ⟨g, 1, none⟩ = some c1 ∧ w.cell? ⟨g, 2, none⟩ = some c2 ∧ w.cell? ⟨g, 3, none⟩ = some c3 ∧ w.cell? ⟨g, 4, none⟩ = some c4 ∧ w.cell? ⟨g, 5, none⟩ = some c5 :=
  ⟨h.cell 0, h.cell 1, h.cell 2, h.cell 3, h.cell 4, h.cell 5⟩
theorem rtask_ok {w w' : World} {l : List Bts} {q : TaskT} {t : TaskR} {n : Nat} (ht : taskT l = .ok q) (hb : Below w.heap.size w w') (hq : t.bare = q.bare) (hn : n = t.parts.length) (hok : TaskOk w' t) (hf : ∀ k ∈ fp t.pa, w.heap.size ≤ k ∧ k < w'.heap.size) :
    RTaskPost w l (.returned (.tuple #[.agg #[.string t.name, .int .i64 t.per, .int .i64 t.dl, .int .i64 t.prio, .int .i64 t.cl, .slice t.pa n t.pc], .int .i64 0])) w' := by
  refine ⟨hb, ?_⟩
  rw [ht]
  subst hn
  exact ⟨t, rfl, hq, hok, hf⟩
/-- the result's box, the task's (g, the first of w1), the row of its parts -/
structure RTb (w w1 v : World) (x : ByteArray) (p dl q cl : Int) (A : Option Addr) (k c : Nat) (ps : List PartM) : Prop where
  hb : Below w.heap.size w v
  hg : Below w1.heap.size w1 v
  ne : w.heap.size < w1.heap.size
  b0 : Bk v w.heap.size 44 #[.string ⟨#[]⟩, .int .i64 0, .int .i64 0, .int .i64 0, .int .i64 0, .slice none 0 0]
  b1 : Bk v w1.heap.size 44 #[.string x, .int .i64 p, .int .i64 dl, .int .i64 q, .int .i64 cl, .slice A k c]
  own : OwnP (w1.heap.size + 1) v A k c ps
section
variable {w w1 v v2 w6 : World} {x : ByteArray} {p dl q cl : Int} {A A' : Option Addr} {k c c' : Nat} {ps : List PartM} {pt : PartM}
theorem RTb.make (hb : Below w.heap.size w v) (b0 : Bk v w.heap.size 44 #[.string ⟨#[]⟩, .int .i64 0, .int .i64 0, .int .i64 0, .int .i64 0, .slice none 0 0]) : RTb w v (v.alloc (.cells #[.string x, .int .i64 p, .int .i64 dl, .int .i64 q, .int .i64 cl, .slice none 0 0] 44)).drew x p dl q cl none 0 0 [] :=
  ⟨below_drewN (hb.alloc hb.size _) 1, below_drewN ((Below.refl v.heap.size v).alloc (Nat.le_refl _) _) 1, b0.lt, b0.alloc _, Bk.new v 44 _, OwnP.none _ _⟩
theorem RTb.fps (h : RTb w w1 v x p dl q cl A k c ps) : w1.heap.size ∉ fp A ∧ w.heap.size ∉ fp A := by
  have := h.ne
  refine ⟨fun hm => ?_, fun hm => ?_⟩
  · have := (own_fp h.own.own _ hm).1; omega
  · have := (own_fp h.own.own _ hm).1; omega
theorem RTb.turned {F : List Nat} (h : RTb w w1 v x p dl q cl A k c ps) (ht : Turned F v v2) (hF : ∀ i ∈ F, v.heap.size ≤ i) : RTb w w1 v2 x p dl q cl A k c ps := by
  have h0 := h.b0.lt
  have h1 := h.b1.lt
  exact ⟨h.hb.trans (ht.below h.hb.size (fun i hi => by have := hF i hi; omega)), h.hg.trans (ht.below h.hg.size (fun i hi => by have := hF i hi; omega)), h.ne, h.b0.turned ht (fun hm => by have := hF _ hm; omega), h.b1.turned ht (fun hm => by have := hF _ hm; omega), h.own.turned ht (fun i hi hm => by have := (own_fp h.own.own i hi).2; have := hF _ hm; omega)⟩
theorem RTb.step (h : RTb w w1 v x p dl q cl A k c ps) (ht : Turned [] v v2) (happ : App (w1.heap.size + 1) 46 3 v2 A A' (k + 1) c' (ptc ps ++ ptc [pt]) w6) : RTb w w1 (w6.setCell ⟨w1.heap.size, 5, none⟩ (.slice A' (k + 1) c')) x p dl q cl A' (k + 1) c' (ps ++ [pt]) := by
  have h1 := h.turned ht (by simp)
  have hf := h1.fps
  have hne := h.ne
  have hlt := h1.b1.lt
  have hfp : ∀ i ∈ fp A, w1.heap.size + 1 ≤ i := fun i hi => (own_fp h1.own.own i hi).1
  have hb6 := h1.hb.trans (happ.turned.below h1.hb.size (fun i hi => by have := hfp i hi; omega))
  have hg6 := h1.hg.trans (happ.turned.below h1.hg.size (fun i hi => by have := hfp i hi; omega))
  have TS : Turned [w1.heap.size] w6 (w6.setCell ⟨w1.heap.size, 5, none⟩ (.slice A' (k + 1) c')) := (Turned.refl [w1.heap.size] w6).setCell (.inl (by simp)) _
  have ho := h1.own.app (ps := [pt]) happ rfl
  have b6 := h1.b1.turned happ.turned hf.1
  refine ⟨hb6.trans (TS.below hb6.size (by simp; omega)), hg6.trans (TS.below hg6.size (by simp)), hne, (h1.b0.turned happ.turned hf.2).far (Nat.ne_of_lt hne) _, by simpa using b6.put 5 (.slice A' (k + 1) c'), ho.turned TS (fun i hi => ?_)⟩
  have := (own_fp ho.own i hi).1
  simp; omega
end
theorem rpart_calls (x : ByteArray) (w : World) (hx : x.size ≤ 90000) (hn : nestT (bl x) = false) : ∃ kd ln rs o, Hid (Calls Tryz.prog 44 #[.string x] w fun e w' => e = .returned (.tuple #[.agg #[.int .i64 kd, .int .i64 ln, .int .i64 rs], .int .i64 o]) ∧ Below w.heap.size w w') ∧ PartM.wf ⟨kd, ln, rs⟩ ∧ ((o = 0 ∧ partV (bl x) = (⟨kd, ln, rs⟩, true)) ∨ (o = 10 ∧ partV (bl x) = (⟨0, 0, 0⟩, false))) := by
  refine ⟨_, _, _, _, hidp (rpartOf_any x w (by omega) hn), ?_, ?_⟩
  · have h := partV_wf (bl x)
    unfold partV at h
    unfold rpartV
    cases e : partT (bl x) with
    | none => rw [e] at h; exact h
    | some p => rw [e] at h; exact h
  · unfold rpartV partV
    cases e : partT (bl x) with
    | none => right; exact ⟨rfl, rfl⟩
    | some p => left; exact ⟨rfl, rfl⟩
set_option maxHeartbeats 16000000 in
theorem rtaskOf_any (L : Option Addr) (cl0 : Nat) (h0 : ByteArray) (ls : List ByteArray) (w : World) (hs : StrsAt w L (h0 :: ls)) (hl : ls.length ≤ 90000) (hcl : ls.length + 1 ≤ cl0) (hz : ∀ x ∈ h0 :: ls, x.size ≤ 90000) (hn0 : nestT (bl h0) = false) :
    Calls Tryz.prog 21 #[.slice L (ls.length + 1) cl0] w (RTaskPost w (ls.map bl)) := by
  obtain ⟨N, hN⟩ : ∃ N, ls.length + 1 = N := ⟨_, rfl⟩
  have HN : Hid ((h0 :: ls).length = N) := hidp hN
  have HB0 := hidp ((Below.refl w.heap.size w).alloc (Nat.le_refl _) (.cells #[.string ⟨#[]⟩, .int .i64 0, .int .i64 0, .int .i64 0, .int .i64 0, .slice none 0 0] 44))
  have B0 := hidp (Bk.new w 44 #[.string ⟨#[]⟩, .int .i64 0, .int .i64 0, .int .i64 0, .int .i64 0, .slice none 0 0])
  have HZ := hidp hz
  have HS := hidp hs
  rw [hN] at hcl ⊢
  have hN1 : N ≤ 90001 := by omega
  clear hN hs hz hl
  go_enter Tryz.func21, Tryz.ntmps21
  go_wp2_with fail
  go_loopg [4] N (fun g i wr => ∃ (k : Nat), k + g = N ∧ i = .int .i64 k ∧ Hid ((((h0 :: ls).take k).map bl).any nestT = false) ∧ Below w.heap.size w wr ∧ Bk wr w.heap.size 44 #[.string ⟨#[]⟩, .int .i64 0, .int .i64 0, .int .i64 0, .int .i64 0, .slice none 0 0])
  case atStart => exact ⟨0, by omega, rfl, hidp rfl, HB0.out, B0.out⟩
  case round =>
    clear HB0 B0
    obtain ⟨k, hk, rfl, HI, hbr, bx⟩ := hrel
    have HB := hidp hbr
    have BX := hidp bx
    have S := HS.out.below hbr
    clear hbr bx
    by_cases hin : k < N
    · obtain ⟨g, off, rfl, hc⟩ := S.resolve_left (by simp)
      have hkl : k < (h0 :: ls).length := by rw [HN.out]; exact hin
      obtain ⟨x, HX⟩ : ∃ x, Hid ((h0 :: ls).getD k ByteArray.empty = x) := ⟨_, hidp rfl⟩
      have c1 : wr.cell? ⟨g, off + k, none⟩ = some (.string x) := HX.out ▸ hc k hkl
      have HMx := hidp (strs_mem hkl HX.out)
      have HT := hidp (strs_take hkl HX.out)
      have CN := hidp (rnested_any x wr (Nat.le_trans (HZ.out x HMx.out) (by decide)))
      obtain ⟨b, Hb⟩ : ∃ b, Hid (nestT (bl x) = b) := ⟨_, hidp rfl⟩
      rw [Hb.out] at CN
      have b1 : (0 : Int) ≤ (k : Int) := by omega
      have b2 : (k : Int) < (N : Int) := by omega
      have wk : IntKind.i64.wrap ((k : Int) + 1) = (k : Int) + 1 := IntWalk.i64_in _ (by omega)
      clear S hc hkl
      cases b with
      | false =>
        go_wp2_with fail
        refine CN.out.mono ?_
        rintro e u ⟨rfl, rfl⟩
        go_wp2_with fail
        go_roundg (gk - 1)
        case measure => omega
        case rel => exact ⟨k + 1, by omega, by go_num, hidp (by rw [HT.out, List.any_append, HI.out]; simp [Hb.out]), HB.out, BX.out⟩
      | true =>
        have HTK : Hid (taskT (ls.map bl) = .error 18) := hidp (by
          unfold taskT
          rw [if_pos]
          rcases List.mem_cons.1 HMx.out with e | e
          · exact absurd Hb.out (by rw [e, hn0]; decide)
          · exact List.any_eq_true.2 ⟨bl x, List.mem_map.2 ⟨x, e, rfl⟩, Hb.out⟩)
        go_wp2_with fail
        refine CN.out.mono ?_
        rintro e u ⟨rfl, rfl⟩
        have PB := put6_bk BX.out (v0 := .string ⟨#[]⟩) (v1 := .int .i64 0) (v2 := .int .i64 0) (v3 := .int .i64 0) (v4 := .int .i64 0) (v5 := .slice none 0 0)
        have T1 := put6_turned wr w.heap.size (.string ⟨#[]⟩) (.int .i64 0) (.int .i64 0) (.int .i64 0) (.int .i64 0) (.slice none 0 0)
        have hbe := hidp ((HB.out).trans (T1.below (HB.out).size (by simp)))
        obtain ⟨r0, r1, r2, r3, r4, r5⟩ := cz6 PB
        obtain ⟨z0, z1, z2, z3, z4, z5⟩ := cz6 BX.out
        obtain ⟨y0, y1, y2, y3, y4, y5⟩ := ZF BX.out
        clear PB T1
        unfold put6 at *
        go_wp2_with fail
        try rw [Exit.noGoto_ret]
        refine bodyPost_ret (v := .tuple #[.agg #[.string ⟨#[]⟩, .int .i64 0, .int .i64 0, .int .i64 0, .int .i64 0, .slice none 0 0], .int .i64 18]) (by simp [results, Tryz.results21, go_sem, r0, r1, r2, r3, r4, r5]) rfl (rtask_err HTK.out (by decide) hbe.out)
    · obtain rfl : k = N := by omega
      have HA : Hid ((ls.map bl).any nestT = false) := hidp (by
        have := HI.out
        rw [List.take_of_length_le (by rw [HN.out]; exact Nat.le_refl _)] at this
        rw [List.map_cons, List.any_cons, Bool.or_eq_false_iff] at this
        exact this.2)
      clear HI hin
      by_cases h6 : k < 6
      · have f6 : (k : Int) < 6 := by omega
        have f7 : ¬ (k : Int) < (k : Int) := by omega
        have HTK : Hid (taskT (ls.map bl) = .error 10) := hidp (taskT_short (by have := HN.out; simp at this; rw [List.length_map]; omega) HA.out)
        clear S
        have PB := put6_bk BX.out (v0 := .string ⟨#[]⟩) (v1 := .int .i64 0) (v2 := .int .i64 0) (v3 := .int .i64 0) (v4 := .int .i64 0) (v5 := .slice none 0 0)
        have T1 := put6_turned wr w.heap.size (.string ⟨#[]⟩) (.int .i64 0) (.int .i64 0) (.int .i64 0) (.int .i64 0) (.slice none 0 0)
        have hbe := hidp ((HB.out).trans (T1.below (HB.out).size (by simp)))
        obtain ⟨r0, r1, r2, r3, r4, r5⟩ := cz6 PB
        obtain ⟨z0, z1, z2, z3, z4, z5⟩ := cz6 BX.out
        obtain ⟨y0, y1, y2, y3, y4, y5⟩ := ZF BX.out
        clear PB T1
        unfold put6 at *
        go_wp2_with fail
        try rw [Exit.noGoto_ret]
        refine bodyPost_ret (v := .tuple #[.agg #[.string ⟨#[]⟩, .int .i64 0, .int .i64 0, .int .i64 0, .int .i64 0, .slice none 0 0], .int .i64 10]) (by simp [results, Tryz.results21, go_sem, r0, r1, r2, r3, r4, r5]) rfl (rtask_err HTK.out (by decide) hbe.out)
      obtain ⟨x0, x1, x2, x3, x4, ps, rfl⟩ : ∃ x0 x1 x2 x3 x4 ps, ls = x0 :: x1 :: x2 :: x3 :: x4 :: ps := by
        have := HN.out
        match ls, this with
        | [], h => simp at h; omega
        | [a], h => simp at h; omega
        | [a, b], h => simp at h; omega
        | [a, b, c], h => simp at h; omega
        | [a, b, c, d], h => simp at h; omega
        | a :: b :: c :: d :: e :: r, _ => exact ⟨a, b, c, d, e, r, rfl⟩
      obtain ⟨P, HPL⟩ : ∃ P, Hid (ps.length = P) := ⟨_, hidp rfl⟩
      obtain rfl : k = P + 6 := by have := HN.out; have := HPL.out; simp at *; omega
      have HT0 := hidp (taskT_long (nm := bl x0) (a := bl x1) (b := bl x2) (c := bl x3) (d := bl x4) (ps := ps.map bl) HA.out)
      have hln := HN.out
      have HZ0 := hidp (HZ.out x0 (by simp))
      have ZP := hidp (fun x (hx : x ∈ ps) => HZ.out x (by simp [hx]))
      have Z4 : Hid (∀ x ∈ [x1, x2, x3, x4], x.size ≤ 100000) := hidp (fun x hx => Nat.le_trans (HZ.out x (by simp only [List.mem_cons, List.not_mem_nil, or_false] at hx; rcases hx with h | h | h | h <;> simp [h])) (by omega))
      have S1 : StrsAt wr (cutA L cl0 2) [x1, x2, x3, x4] := strs_first (strs_from S (by rw [hln]; exact hcl) 2) 4
      have S6 : Hid (StrsAt wr (cutA L cl0 6) ps) := hidp (strs_from S (by rw [hln]; exact hcl) 6)
      have HC : Hid (∃ b off, L = some ⟨b, off, none⟩ ∧ ∀ i, i < P + 6 → wr.cell? ⟨b, off + i, none⟩ = some (.string ((h0 :: x0 :: x1 :: x2 :: x3 :: x4 :: ps).getD i ByteArray.empty))) := hidp (by
        obtain ⟨b, off, e, hc⟩ := S.resolve_left (by simp)
        exact ⟨b, off, e, fun i hi => hc i (by rw [hln]; exact hi)⟩)
      have CNs := hidp (rints_any (cutA L cl0 2) (cl0 - 2) [x1, x2, x3, x4] wr S1 (by simp) Z4.out)
      have e2 : ∀ u : World, (Instr.slice 38 (.slice L (P + 6) cl0) (some (.int .i64 2)) (some (.int .i64 6)) none).run Tryz.prog u = .ok (.slice (cutA L cl0 2) 4 (cl0 - 2)) u := fun u => strs_mid L (P + 6) cl0 2 6 (by omega) (by omega) u
      obtain ⟨L2, hL2⟩ : ∃ L2, cutA L cl0 2 = L2 := ⟨_, rfl⟩
      rw [hL2] at CNs e2
      have f6 : ¬ ((P + 6 : Nat) : Int) < 6 := by omega
      have f6b : ¬ (P : Int) + 6 < 6 := by omega
      have f7 : ¬ ((P + 6 : Nat) : Int) < ((P + 6 : Nat) : Int) := by omega
      have hP : P ≤ 89995 := by omega
      clear S1 hL2 S h6 hln HZ HS Z4 HN
      go_wp2_with fail
      refine CNs.out.mono ?_
      rintro e w1 ⟨A4, c4, ns, ok, rfl, ho4, hb1, hn4, hln4, hv4⟩
      have HB1 := hidp (HB.out.trans (hb1.mono HB.out.size))
      have BX1 := hidp (BX.out.below hb1)
      have HO4 := hidp ho4
      have HN4 := hidp hn4
      have HV4 := hidp hv4
      have HKB := hidp (Keeps.of_below hb1)
      clear hb1 ho4 hln4 hv4 hn4 HB BX CNs e2
      cases ok with
      | false =>
        have HTK : Hid (taskT ((x0 :: x1 :: x2 :: x3 :: x4 :: ps).map bl) = .error 10) := hidp (by
          refine HT0.out.trans ?_
          rw [show numsT [bl x1, bl x2, bl x3, bl x4] = none from (by have := HV4.out; rw [if_neg (by decide)] at this; exact this.1)])
        clear HV4 HO4 HN4
        have PB := put6_bk BX1.out (v0 := .string ⟨#[]⟩) (v1 := .int .i64 0) (v2 := .int .i64 0) (v3 := .int .i64 0) (v4 := .int .i64 0) (v5 := .slice none 0 0)
        have T1 := put6_turned w1 w.heap.size (.string ⟨#[]⟩) (.int .i64 0) (.int .i64 0) (.int .i64 0) (.int .i64 0) (.slice none 0 0)
        have hbe := hidp ((HB1.out).trans (T1.below (HB1.out).size (by simp)))
        obtain ⟨r0, r1, r2, r3, r4, r5⟩ := cz6 PB
        obtain ⟨z0, z1, z2, z3, z4, z5⟩ := cz6 BX1.out
        obtain ⟨y0, y1, y2, y3, y4, y5⟩ := ZF BX1.out
        clear PB T1
        unfold put6 at *
        go_wp2_with fail
        try rw [Exit.noGoto_ret]
        refine bodyPost_ret (v := .tuple #[.agg #[.string ⟨#[]⟩, .int .i64 0, .int .i64 0, .int .i64 0, .int .i64 0, .slice none 0 0], .int .i64 10]) (by simp [results, Tryz.results21, go_sem, r0, r1, r2, r3, r4, r5]) rfl (rtask_err HTK.out (by decide) hbe.out)
      | true =>
      have HV4b : Hid (numsT [bl x1, bl x2, bl x3, bl x4] = some ns) := hidp (by have := HV4.out; rw [if_pos rfl] at this; exact this)
      clear HV4
      obtain ⟨p, dl, q, tcl, rfl⟩ : ∃ p dl q tcl, ns = [p, dl, q, tcl] := by
        have := numsT_len HV4b.out
        match ns, this with
        | [a, b, c, d], _ => exact ⟨a, b, c, d, rfl⟩
      have HQ : Hid (taskT ((x0 :: x1 :: x2 :: x3 :: x4 :: ps).map bl) = match partsT (ps.map bl) with | some z => .ok ⟨bl x0, p, dl, q, tcl, z⟩ | none => .error 10) := hidp (by
        refine HT0.out.trans ?_
        rw [HV4b.out]
        cases partsT (ps.map bl) <;> rfl)
      obtain ⟨b, off, rfl, hcx⟩ := HC.out
      obtain ⟨g4, rfl, hc4⟩ := HO4.out.at0 (by simp)
      have d0 : w1.cell? ⟨g4, 0, none⟩ = some (.int .i64 p) := hc4 0 (by simp)
      have d1 : w1.cell? ⟨g4, 1, none⟩ = some (.int .i64 dl) := hc4 1 (by simp)
      have d2 : w1.cell? ⟨g4, 2, none⟩ = some (.int .i64 q) := hc4 2 (by simp)
      have d3 : w1.cell? ⟨g4, 3, none⟩ = some (.int .i64 tcl) := hc4 3 (by simp)
      have d4 : w1.cell? ⟨b, off + 1, none⟩ = some (.string x0) := HKB.out _ _ (hcx 1 (by omega))
      have e0 : w1.drew.cell? ⟨g4, 0, none⟩ = some (.int .i64 p) := d0
      have j0 : (w1.alloc (.cells #[.string ⟨#[]⟩, .int .i64 0, .int .i64 0, .int .i64 0, .int .i64 0, .slice none 0 0] 44)).drew.cell? ⟨g4, 0, none⟩ = some (.int .i64 p) := (Keeps.of_below ((Below.refl w1.heap.size w1).alloc (Nat.le_refl _) (.cells #[.string ⟨#[]⟩, .int .i64 0, .int .i64 0, .int .i64 0, .int .i64 0, .slice none 0 0] 44))) _ _ d0
      have e1 : w1.drew.cell? ⟨g4, 1, none⟩ = some (.int .i64 dl) := d1
      have j1 : (w1.alloc (.cells #[.string ⟨#[]⟩, .int .i64 0, .int .i64 0, .int .i64 0, .int .i64 0, .slice none 0 0] 44)).drew.cell? ⟨g4, 1, none⟩ = some (.int .i64 dl) := (Keeps.of_below ((Below.refl w1.heap.size w1).alloc (Nat.le_refl _) (.cells #[.string ⟨#[]⟩, .int .i64 0, .int .i64 0, .int .i64 0, .int .i64 0, .slice none 0 0] 44))) _ _ d1
      have e2 : w1.drew.cell? ⟨g4, 2, none⟩ = some (.int .i64 q) := d2
      have j2 : (w1.alloc (.cells #[.string ⟨#[]⟩, .int .i64 0, .int .i64 0, .int .i64 0, .int .i64 0, .slice none 0 0] 44)).drew.cell? ⟨g4, 2, none⟩ = some (.int .i64 q) := (Keeps.of_below ((Below.refl w1.heap.size w1).alloc (Nat.le_refl _) (.cells #[.string ⟨#[]⟩, .int .i64 0, .int .i64 0, .int .i64 0, .int .i64 0, .slice none 0 0] 44))) _ _ d2
      have e3 : w1.drew.cell? ⟨g4, 3, none⟩ = some (.int .i64 tcl) := d3
      have j3 : (w1.alloc (.cells #[.string ⟨#[]⟩, .int .i64 0, .int .i64 0, .int .i64 0, .int .i64 0, .slice none 0 0] 44)).drew.cell? ⟨g4, 3, none⟩ = some (.int .i64 tcl) := (Keeps.of_below ((Below.refl w1.heap.size w1).alloc (Nat.le_refl _) (.cells #[.string ⟨#[]⟩, .int .i64 0, .int .i64 0, .int .i64 0, .int .i64 0, .slice none 0 0] 44))) _ _ d3
      have e4 : w1.drew.cell? ⟨b, off + 1, none⟩ = some (.string x0) := d4
      have j4 : (w1.alloc (.cells #[.string ⟨#[]⟩, .int .i64 0, .int .i64 0, .int .i64 0, .int .i64 0, .slice none 0 0] 44)).drew.cell? ⟨b, off + 1, none⟩ = some (.string x0) := (Keeps.of_below ((Below.refl w1.heap.size w1).alloc (Nat.le_refl _) (.cells #[.string ⟨#[]⟩, .int .i64 0, .int .i64 0, .int .i64 0, .int .i64 0, .slice none 0 0] 44))) _ _ d4
      have HCX : Hid (∀ i, i < P → w1.cell? ⟨b, off + (i + 6), none⟩ = some (.string (ps.getD i ByteArray.empty))) := hidp (fun i hi => HKB.out _ _ (by
        have := hcx (i + 6) (by omega)
        rw [this]; simp [List.getD]))
      have HL1 : Hid (b < w1.heap.size) := hidp (cell_lt d4)
      have b0 : (1 : Int) < ((P + 6 : Nat) : Int) := by omega
      have b0b : (1 : Int) < (P : Int) + 6 := by omega
      have HM := hidp (RTb.make (x := x0) (p := p) (dl := dl) (q := q) (cl := tcl) HB1.out BX1.out)
      have HAx : Hid (∀ x ∈ ps, nestT (bl x) = false) := hidp (fun x hx => by
        cases h : nestT (bl x) with
        | false => rfl
        | true => exact absurd HA.out (by rw [List.any_eq_true.2 ⟨bl x, List.mem_map.2 ⟨x, by simp [hx], rfl⟩, h⟩]; decide))
      clear hcx hc4 HC HT0 HV4b HO4 HKB HB1 BX1 HA S6
      go_wp2_with fail
      go_region
      go_wp2_with fail
      clear d0 d1 d2 d3 d4 e0 e1 e2 e3 e4 j0 j1 j2 j3 j4
      go_loopg [8] P (fun g i wr => ∃ (j n c : Nat) (A : Option Addr) (qs : List PartM), j + g = P + 6 ∧ i = .int .i64 j ∧ Hid (j = n + 6) ∧ RTb w w1 wr x0 p dl q tcl A n c qs ∧ Hid (partsM ((ps.take n).map bl) = some qs) ∧ Hid (∀ p ∈ qs, PartM.wf p))
      case atStart => exact ⟨6, 0, 0, none, [], by omega, rfl, hidp rfl, HM.out, hidp rfl, hidp (by simp)⟩
      case round =>
        clear HM
        obtain ⟨j, n, c, A, qs, hj, rfl, HJ, R, HI, HW⟩ := hrel
        by_cases hin : j < P + 6
        · have hnP : n < P := by have := HJ.out; omega
          obtain ⟨x, HX⟩ : ∃ x, Hid (ps.getD n ByteArray.empty = x) := ⟨_, hidp rfl⟩
          have hkl : n < ps.length := by rw [HPL.out]; exact hnP
          have c1 : wr.cell? ⟨b, off + j, none⟩ = some (.string x) := by
            have := (Keeps.of_below R.hg) _ _ (HCX.out n hnP)
            rw [HJ.out, this, HX.out]
          have HMx := hidp (strs_mem hkl HX.out)
          have HT := hidp (strs_take hkl HX.out)
          obtain ⟨kd, ln, rs, o, CP, hw, hv⟩ := rpart_calls x wr (ZP.out x HMx.out) (HAx.out x HMx.out)
          have HWp := hidp hw
          have b1 : (0 : Int) ≤ (j : Int) := by omega
          have b2 : (j : Int) < ((P + 6 : Nat) : Int) := by omega
          have b2b : (j : Int) < (P : Int) + 6 := by omega
          have wj : IntKind.i64.wrap ((j : Int) + 1) = (j : Int) + 1 := IntWalk.i64_in _ (by omega)
          clear hkl hw
          rcases hv with ⟨rfl, hv⟩ | ⟨rfl, hv⟩
          · have HV := hidp hv
            clear hv
            obtain ⟨q0, hq0, hq1, hq2, hq3⟩ := info_parts infoPart
            go_wp2_with fail
            refine CP.out.mono ?_
            rintro e u ⟨rfl, hbu⟩
            have B1 := hidp (Bk.new u 46 #[.int .i64 kd, .int .i64 ln, .int .i64 rs])
            obtain ⟨y0, y1, y2⟩ := cz3 B1.out
            have TL : Turned [] wr ((u.alloc (.cells #[.int .i64 kd, .int .i64 ln, .int .i64 rs] 46)).alloc (.cells #[.int .i64 kd, .int .i64 ln, .int .i64 rs] 46)) := ((Turned.of_below hbu []).alloc _).alloc _
            have T0 : Turned [] wr (u.alloc (.cells #[.int .i64 kd, .int .i64 ln, .int .i64 rs] 46)) := (Turned.of_below hbu []).alloc _
            have own4 := own_turned R.own.own TL (by simp)
            have S2 := hidp (new_liesW (u.alloc (.cells #[.int .i64 kd, .int .i64 ln, .int .i64 rs] 46)) [.int .i64 kd, .int .i64 ln, .int .i64 rs] 46)
            rw [show (u.alloc (.cells #[.int .i64 kd, .int .i64 ln, .int .i64 rs] 46)).heap.size = u.heap.size + 1 by simp] at S2
            have N2 : Hid (n + 1 ≤ maxLen) := hidp (by unfold maxLen; omega)
            have T2 : Hid ((n + 1) * 24 ≤ 140737488355328) := hidp (by omega)
            have RT := hidp (R.turned TL (by simp))
            have Z2 : Hid (w1.heap.size + 1 ≤ ((u.alloc (.cells #[.int .i64 kd, .int .i64 ln, .int .i64 rs] 46)).alloc (.cells #[.int .i64 kd, .int .i64 ln, .int .i64 rs] 46)).heap.size) := hidp RT.out.b1.lt
            have O2 := hidp (ptc_one [⟨kd, ln, rs⟩])
            have HR := hidp R
            have HTL := hidp TL
            obtain ⟨a0, a1, a2, a3, a4, a5⟩ := cz6 (R.b1.below hbu)
            obtain ⟨m0, m1, m2, m3, m4, m5⟩ := cz6 (R.b1.turned T0 (by simp))
            obtain ⟨o0, o1, o2, o3, o4, o5⟩ := cz6 (R.b1.turned TL (by simp))
            clear R hbu TL T0 B1 CP
            go_wp2_with (at_builtin; refine wpList_app2 _ rfl (.tmp 71) (.tmp 73) 42 rfl (w1.heap.size + 1) 46 q0 _ 3 24 Tryz.underlying42 hq0 hq1 hq2 hq3 rfl (by decide) A n c _ rfl own4 _ _ 1 1 [.int .i64 kd, .int .i64 ln, .int .i64 rs] rfl (by simp) rfl S2.out O2.out N2.out T2.out Z2.out ?_; intro A9 c9 w6 happ; have bk6 := RT.out.b1.turned happ.turned RT.out.fps.1; have fz := bk6.frozen 5; have cz := bk6.cell 5; simp only [List.getElem?_toArray, List.getElem?_cons_succ, List.getElem?_cons_zero] at cz; clear bk6)
            go_roundg (gk - 1)
            case measure => omega
            case rel => exact ⟨j + 1, n + 1, c9, A9, qs ++ [⟨kd, ln, rs⟩], by omega, by go_num, hidp (by have := HJ.out; omega), HR.out.step (pt := ⟨kd, ln, rs⟩) HTL.out happ, hidp (by rw [HT.out]; exact partsM_snoc HI.out HV.out), hidp (fun p hp => (List.mem_append.1 hp).elim (HW.out p) (fun h => by rw [List.mem_singleton.1 h]; exact HWp.out))⟩
          · have HTK : Hid (taskT ((x0 :: x1 :: x2 :: x3 :: x4 :: ps).map bl) = .error 10) := hidp (by
              have h1 := partsM_bad (List.mem_map.2 ⟨x, HMx.out, rfl⟩) hv
              rw [HQ.out]
              unfold partsM at h1
              cases h : partsT (ps.map bl) with
              | none => rfl
              | some z => rw [h] at h1; simp at h1)
            clear hv
            go_wp2_with fail
            refine CP.out.mono ?_
            rintro e u ⟨rfl, hbu⟩
            have BU := R.b0.below hbu
            have PB0 := put6_bk BU (v0 := .string ⟨#[]⟩) (v1 := .int .i64 0) (v2 := .int .i64 0) (v3 := .int .i64 0) (v4 := .int .i64 0) (v5 := .slice none 0 0)
            have PB := PB0.alloc (.cells #[.int .i64 kd, .int .i64 ln, .int .i64 rs] 46)
            have HBU := R.hb.trans (hbu.mono R.hb.size)
            have T1 := HBU.trans ((put6_turned u w.heap.size (.string ⟨#[]⟩) (.int .i64 0) (.int .i64 0) (.int .i64 0) (.int .i64 0) (.slice none 0 0)).below HBU.size (by simp))
            have hbe := hidp (T1.alloc T1.size (.cells #[.int .i64 kd, .int .i64 ln, .int .i64 rs] 46))
            obtain ⟨r0, r1, r2, r3, r4, r5⟩ := cz6 PB
            obtain ⟨z0, z1, z2, z3, z4, z5⟩ := cz6 BU
            obtain ⟨y0, y1, y2, y3, y4, y5⟩ := ZF BU
            have hne := BU.lt
            have hne2 : ¬ w.heap.size = u.heap.size := by omega
            have hne3 : ¬ u.heap.size = w.heap.size := by omega
            clear PB0 PB T1 HBU BU R hbu CP
            unfold put6 at *
            go_wp2_with fail
            try rw [Exit.noGoto_ret]
            refine bodyPost_ret (v := .tuple #[.agg #[.string ⟨#[]⟩, .int .i64 0, .int .i64 0, .int .i64 0, .int .i64 0, .slice none 0 0], .int .i64 10]) (by simp [results, Tryz.results21, go_sem, r0, r1, r2, r3, r4, r5]) rfl (rtask_err HTK.out (by decide) hbe.out)
        · obtain rfl : j = P + 6 := by omega
          obtain rfl : n = P := by have := HJ.out; omega
          have HP : Hid (partsM (ps.map bl) = some qs) := hidp (by have := HI.out; rwa [List.take_of_length_le (by rw [HPL.out]; exact Nat.le_refl _)] at this)
          obtain ⟨zp, hzp, hzq⟩ : ∃ z, partsT (ps.map bl) = some z ∧ z.map PartT.m = qs := by
            have := HP.out
            unfold partsM at this
            cases h : partsT (ps.map bl) with
            | none => rw [h] at this; simp at this
            | some z => rw [h] at this; exact ⟨z, rfl, by simpa using this⟩
          have HTK : Hid (taskT ((x0 :: x1 :: x2 :: x3 :: x4 :: ps).map bl) = .ok ⟨bl x0, p, dl, q, tcl, zp⟩) := hidp (by rw [HQ.out, hzp])
          have HZQ := hidp hzq
          have iI : ∀ x : Int, 0 ≤ x ∧ x ≤ 9999999 → I64 x := fun x hx => by unfold I64; omega
          have nb := HN4.out
          have HII : Hid (I64 p ∧ I64 dl ∧ I64 q ∧ I64 tcl) := hidp ⟨iI _ (nb p (by simp)), iI _ (nb dl (by simp)), iI _ (nb q (by simp)), iI _ (nb tcl (by simp))⟩
          have PB := put6_bk R.b0 (v0 := .string x0) (v1 := .int .i64 p) (v2 := .int .i64 dl) (v3 := .int .i64 q) (v4 := .int .i64 tcl) (v5 := .slice A n c)
          have T1 := put6_turned wr w.heap.size (.string x0) (.int .i64 p) (.int .i64 dl) (.int .i64 q) (.int .i64 tcl) (.slice A n c)
          have hbe := hidp (R.hb.trans (T1.below R.hb.size (by simp)))
          have HO := hidp (R.own.turned T1 (fun i hi hm => by have h1 := R.fps.2; rw [List.mem_singleton.1 hm] at hi; exact h1 hi))
          have HNE := hidp R.ne
          have f7 : ¬ ((n + 6 : Nat) : Int) < ((n + 6 : Nat) : Int) := by omega
          obtain ⟨r0, r1, r2, r3, r4, r5⟩ := cz6 PB
          obtain ⟨z0, z1, z2, z3, z4, z5⟩ := cz6 R.b0
          obtain ⟨y0, y1, y2, y3, y4, y5⟩ := ZF R.b0
          obtain ⟨s0, s1, s2, s3, s4, s5⟩ := cz6 R.b1
          clear PB T1 R nb iI hzp hzq HN4 hin
          unfold put6 at *
          go_wp2_with fail
          try rw [Exit.noGoto_ret]
          refine bodyPost_ret (v := .tuple #[.agg #[.string x0, .int .i64 p, .int .i64 dl, .int .i64 q, .int .i64 tcl, .slice A n c], .int .i64 0]) (by simp [results, Tryz.results21, go_sem, r0, r1, r2, r3, r4, r5]) rfl (rtask_ok (t := ⟨x0, p, dl, q, tcl, A, c, qs⟩) HTK.out hbe.out ?_ HO.out.len ⟨Nat.le_trans HZ0.out (by decide), HII.out.1, HII.out.2.1, HII.out.2.2.1, HII.out.2.2.2, ⟨HO.out.len ▸ HO.out.nil, HO.out.len ▸ HO.out.cap⟩, HO.out.parts, HW.out⟩ (fun k hk => ?_))
          · simp [TaskR.bare, TaskT.bare, mk_bl, HZQ.out]
          · have h1 := own_fp HO.out.own k hk
            have := HNE.out
            exact ⟨by omega, h1.2⟩
end Go.Proofs.YtlmliefkhidpnaaGreatDoor
