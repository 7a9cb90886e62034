/- clock: All, by whatever is told of the library's stable sort. Printed by tools/clock/all.py. -/
import Derived.Test.YtkjobhocgiefdaaClkS4
namespace Go.Proofs.Ytkjobhocgiefdaa
open Go.ChangeShapes Go.WideShapes Go.ChangeAt Go.RowKit Go.Conc
set_option linter.unusedVariables false
set_option linter.unusedSimpArgs false
def catR (m : Nat → SpM) : Nat → List DueM
  | 0 => []
  | k + 1 => catR m k ++ (m k).rows
theorem catR_len (m : Nat → SpM) : ∀ k, (catR m k).length = totC m k
  | 0 => rfl
  | k + 1 => by unfold catR totC; rw [List.length_append, catR_len m k]
/-- what the library's stable sort does with a row of N at most -/
def SortsN (N : Nat) : Prop := ∀ (B g n c : Nat) (l : List DueM) (w : World), OwnE B w (some ⟨g, 0, none⟩) n c l → n ≤ N → (∀ x ∈ l, x.wf) →
  Calls Try.prog 25 #[.slice (some ⟨g, 0, none⟩) n c, .func (Fn.func 26) #[] #[]] w (InsPostE w B g n c (sortE l))
theorem sorts20 : SortsN 20 := fun B g n c l w ho hn wf => sortStableE_any B g n c l w ho hn wf
def AllPost (w : World) (l : List DueM) (e : Ending) (w' : World) : Prop := ∃ A c, e = .returned (.slice A l.length c) ∧ OwnE w.heap.size w' A l.length c l ∧ Below w.heap.size w w'
section
variable {w : World} {b o : Nat} {T : TypeId} {cs : Array Value} {now : Int} {m : Nat → SpM}
theorem catR_wf (h : ∀ i, i < 4 → ∀ d ∈ (m i).rows, d.wf) : ∀ k, k ≤ 4 → ∀ d ∈ catR m k, d.wf
  | 0, _, d, hd => by simp [catR] at hd
  | k + 1, hk, d, hd => by
    rcases List.mem_append.1 hd with h1 | h1
    · exact catR_wf h k (by omega) d h1
    · exact h k (by omega) d h1
theorem totC_mono (m : Nat → SpM) : ∀ j k, j ≤ k → totC m j ≤ totC m k := fun j k h => by
  induction h with
  | refl => exact Nat.le_refl _
  | step _ ih => exact Nat.le_trans ih (Nat.le_add_right _ _)
set_option maxHeartbeats 4000000 in
theorem all_any (N : Nat) (hS : SortsN N) (hN : N ≤ 64) (h : Clk w b o T cs now m) (hl : totC m 4 ≤ N) (wf : ∀ i, i < 4 → ∀ d ∈ (m i).rows, d.wf) : Calls Try.prog 17 #[.pointer (some ⟨b, o, none⟩)] w (AllPost w (sortE (catR m 4))) := by
  obtain ⟨cr, cb⟩ := h.cells
  have r0 := cr 0 (by omega)
  have r1 := cr 1 (by omega)
  have r2 := cr 2 (by omega)
  have r3 := cr 3 (by omega)
  have b0 := cb 0 (by omega)
  have b1 := cb 1 (by omega)
  have b2 := cb 2 (by omega)
  have b3 := cb 3 (by omega)
  have hb0 := Below.refl w.heap.size w
  have HH := hidp h
  have HW := hidp (catR_wf wf 4 (Nat.le_refl _))
  have HT := hidp hl
  have HSo := hidp hS
  have HE : Hid ((sortE (catR m 4)).length = totC m 4) := hidp (by rw [sortE_len, catR_len])
  have ho0 := hidp (⟨World.ownsRow_nil _ _ _ _, rfl, by decide, fun _ => ⟨rfl, rfl⟩⟩ : OwnE w.heap.size w none 0 0 (catR m 0))
  obtain ⟨i0, hi0, hy0, hy1, hy2⟩ := info_parts infoDue
  simp only [Nat.zero_mul, Nat.one_mul, Nat.reduceMul, Nat.add_zero, Nat.add_assoc, Nat.reduceAdd] at r0 r1 r2 r3 b0 b1 b2 b3
  clear h cr cb hl wf hS
  go_enter Try.func17, Try.ntmps17
  go_wp2
  go_loopg [3, 10] 4 (fun gg s i wr => ∃ (j n c' : Nat) (A' : Option Addr), j + gg = 4 ∧ n = totC m j ∧ s = .slice A' n c' ∧ i = .int .i64 j ∧ Hid (OwnE w.heap.size wr A' n c' (catR m j)) ∧ Below w.heap.size w wr)
  case atStart => exact ⟨0, 0, 0, none, by omega, rfl, rfl, rfl, ho0, hb0⟩
  case round =>
    clear hb0 ho0
    obtain ⟨j, n, c', A', hj, hnt, rfl, rfl, HO, hb⟩ := hrel
    have HB := hidp hb
    have Hnt := hidp hnt
    have hn64 : n ≤ 64 := by have := totC_mono m j 4 (by omega); have := HT.out; omega
    clear hb hnt
    rcases j with _ | _ | _ | _ | _ | j
    · have hix := idx0 (.slice (m 0).A (m 0).rows.length (m 0).c) (.chan (m 0).bell) (.slice (m 1).A (m 1).rows.length (m 1).c) (.chan (m 1).bell) (.slice (m 2).A (m 2).rows.length (m 2).c) (.chan (m 2).bell) (.slice (m 3).A (m 3).rows.length (m 3).c) (.chan (m 3).bell)
      have HB2 := hidp (HB.out.alloc HB.out.size (.cells #[.slice (m 0).A (m 0).rows.length (m 0).c, .chan (m 0).bell] 52))
      have hO := HO.out.turned ((Turned.refl [] wr).alloc (.cells #[.slice (m 0).A (m 0).rows.length (m 0).c, .chan (m 0).bell] 52)) (by simp)
      have hr := (HH.out.sp 0 (by omega)).own
      have hsum : n + (m 0).rows.length ≤ 64 := by
        have h1 := totC_mono m 1 4 (by omega)
        have h2 := HT.out
        have h3 := Hnt.out
        have h4 : totC m 1 = totC m 0 + (m 0).rows.length := rfl
        try simp only [Nat.zero_add, Nat.reduceAdd] at h3
        omega
      have Q2 : Hid ((m 0).A = none → (m 0).rows.length = 0 ∧ (m 0).c = 0) := hidp (fun e => by have := hr.nil e; exact ⟨by rw [this.1]; rfl, this.2⟩)
      have L2 : Hid ((dtc (m 0).rows).length = (m 0).rows.length * 2) := hidp (dtc_len _)
      have O2 := hidp (dtc_one (m 0).rows)
      have N2 : Hid (n + (m 0).rows.length ≤ maxLen) := hidp (by unfold maxLen; omega)
      have T2 : Hid ((n + (m 0).rows.length) * 16 ≤ 140737488355328) := hidp (by omega)
      have S2 := hidp ((Lies.of_own hr.own).below HB2.out)
      have Z2 := hidp HB2.out.size
      have hOw := hO.own
      have hlen := hidp hsum
      clear hO hr hsum
      go_wp2_with (at_builtin; go_loud (refine wpList_app2 _ rfl (.tmp 13) (.tmp 15) 27 rfl w.heap.size 31 i0 _ 2 16 Try.underlying27 hi0 hy0 hy1 hy2 rfl (by decide) A' n c' _ rfl hOw w.heap.size (m 0).A (m 0).rows.length (m 0).c (dtc (m 0).rows) rfl Q2.out L2.out S2.out O2.out N2.out T2.out Z2.out ?_); intro A9 c9 w6 happ)
      have HN : Hid (n + (m 0).rows.length = totC m 1) := hidp (congrArg (· + (m 0).rows.length) Hnt.out)
      have HO6 : Hid (OwnE w.heap.size w6 A9 (n + (m 0).rows.length) c9 (catR m 1)) := hidp ⟨by unfold catR; rw [dtc_append]; exact happ.own, by rw [catR_len]; exact HN.out, happ.cap, happ.nil⟩
      have Hfp : ∀ k ∈ fp A', w.heap.size ≤ k := fun k hk => (own_fp hOw k hk).1
      have HB6 := hidp (HB2.out.trans (happ.turned.below HB2.out.size Hfp))
      clear happ hOw Hfp
      go_roundg 3
      case measure => omega
      case rel => exact ⟨1, n + (m 0).rows.length, c9, A9, by omega, HN.out, rfl, by go_num, HO6, HB6.out⟩
    · have hix := idx1 (.slice (m 0).A (m 0).rows.length (m 0).c) (.chan (m 0).bell) (.slice (m 1).A (m 1).rows.length (m 1).c) (.chan (m 1).bell) (.slice (m 2).A (m 2).rows.length (m 2).c) (.chan (m 2).bell) (.slice (m 3).A (m 3).rows.length (m 3).c) (.chan (m 3).bell)
      have HB2 := hidp (HB.out.alloc HB.out.size (.cells #[.slice (m 1).A (m 1).rows.length (m 1).c, .chan (m 1).bell] 52))
      have hO := HO.out.turned ((Turned.refl [] wr).alloc (.cells #[.slice (m 1).A (m 1).rows.length (m 1).c, .chan (m 1).bell] 52)) (by simp)
      have hr := (HH.out.sp 1 (by omega)).own
      have hsum : n + (m 1).rows.length ≤ 64 := by
        have h1 := totC_mono m 2 4 (by omega)
        have h2 := HT.out
        have h3 := Hnt.out
        have h4 : totC m 2 = totC m 1 + (m 1).rows.length := rfl
        try simp only [Nat.zero_add, Nat.reduceAdd] at h3
        omega
      have Q2 : Hid ((m 1).A = none → (m 1).rows.length = 0 ∧ (m 1).c = 0) := hidp (fun e => by have := hr.nil e; exact ⟨by rw [this.1]; rfl, this.2⟩)
      have L2 : Hid ((dtc (m 1).rows).length = (m 1).rows.length * 2) := hidp (dtc_len _)
      have O2 := hidp (dtc_one (m 1).rows)
      have N2 : Hid (n + (m 1).rows.length ≤ maxLen) := hidp (by unfold maxLen; omega)
      have T2 : Hid ((n + (m 1).rows.length) * 16 ≤ 140737488355328) := hidp (by omega)
      have S2 := hidp ((Lies.of_own hr.own).below HB2.out)
      have Z2 := hidp HB2.out.size
      have hOw := hO.own
      have hlen := hidp hsum
      clear hO hr hsum
      go_wp2_with (at_builtin; go_loud (refine wpList_app2 _ rfl (.tmp 13) (.tmp 15) 27 rfl w.heap.size 31 i0 _ 2 16 Try.underlying27 hi0 hy0 hy1 hy2 rfl (by decide) A' n c' _ rfl hOw w.heap.size (m 1).A (m 1).rows.length (m 1).c (dtc (m 1).rows) rfl Q2.out L2.out S2.out O2.out N2.out T2.out Z2.out ?_); intro A9 c9 w6 happ)
      have HN : Hid (n + (m 1).rows.length = totC m 2) := hidp (congrArg (· + (m 1).rows.length) Hnt.out)
      have HO6 : Hid (OwnE w.heap.size w6 A9 (n + (m 1).rows.length) c9 (catR m 2)) := hidp ⟨by unfold catR; rw [dtc_append]; exact happ.own, by rw [catR_len]; exact HN.out, happ.cap, happ.nil⟩
      have Hfp : ∀ k ∈ fp A', w.heap.size ≤ k := fun k hk => (own_fp hOw k hk).1
      have HB6 := hidp (HB2.out.trans (happ.turned.below HB2.out.size Hfp))
      clear happ hOw Hfp
      go_roundg 2
      case measure => omega
      case rel => exact ⟨2, n + (m 1).rows.length, c9, A9, by omega, HN.out, rfl, by go_num, HO6, HB6.out⟩
    · have hix := idx2 (.slice (m 0).A (m 0).rows.length (m 0).c) (.chan (m 0).bell) (.slice (m 1).A (m 1).rows.length (m 1).c) (.chan (m 1).bell) (.slice (m 2).A (m 2).rows.length (m 2).c) (.chan (m 2).bell) (.slice (m 3).A (m 3).rows.length (m 3).c) (.chan (m 3).bell)
      have HB2 := hidp (HB.out.alloc HB.out.size (.cells #[.slice (m 2).A (m 2).rows.length (m 2).c, .chan (m 2).bell] 52))
      have hO := HO.out.turned ((Turned.refl [] wr).alloc (.cells #[.slice (m 2).A (m 2).rows.length (m 2).c, .chan (m 2).bell] 52)) (by simp)
      have hr := (HH.out.sp 2 (by omega)).own
      have hsum : n + (m 2).rows.length ≤ 64 := by
        have h1 := totC_mono m 3 4 (by omega)
        have h2 := HT.out
        have h3 := Hnt.out
        have h4 : totC m 3 = totC m 2 + (m 2).rows.length := rfl
        try simp only [Nat.zero_add, Nat.reduceAdd] at h3
        omega
      have Q2 : Hid ((m 2).A = none → (m 2).rows.length = 0 ∧ (m 2).c = 0) := hidp (fun e => by have := hr.nil e; exact ⟨by rw [this.1]; rfl, this.2⟩)
      have L2 : Hid ((dtc (m 2).rows).length = (m 2).rows.length * 2) := hidp (dtc_len _)
      have O2 := hidp (dtc_one (m 2).rows)
      have N2 : Hid (n + (m 2).rows.length ≤ maxLen) := hidp (by unfold maxLen; omega)
      have T2 : Hid ((n + (m 2).rows.length) * 16 ≤ 140737488355328) := hidp (by omega)
      have S2 := hidp ((Lies.of_own hr.own).below HB2.out)
      have Z2 := hidp HB2.out.size
      have hOw := hO.own
      have hlen := hidp hsum
      clear hO hr hsum
      go_wp2_with (at_builtin; go_loud (refine wpList_app2 _ rfl (.tmp 13) (.tmp 15) 27 rfl w.heap.size 31 i0 _ 2 16 Try.underlying27 hi0 hy0 hy1 hy2 rfl (by decide) A' n c' _ rfl hOw w.heap.size (m 2).A (m 2).rows.length (m 2).c (dtc (m 2).rows) rfl Q2.out L2.out S2.out O2.out N2.out T2.out Z2.out ?_); intro A9 c9 w6 happ)
      have HN : Hid (n + (m 2).rows.length = totC m 3) := hidp (congrArg (· + (m 2).rows.length) Hnt.out)
      have HO6 : Hid (OwnE w.heap.size w6 A9 (n + (m 2).rows.length) c9 (catR m 3)) := hidp ⟨by unfold catR; rw [dtc_append]; exact happ.own, by rw [catR_len]; exact HN.out, happ.cap, happ.nil⟩
      have Hfp : ∀ k ∈ fp A', w.heap.size ≤ k := fun k hk => (own_fp hOw k hk).1
      have HB6 := hidp (HB2.out.trans (happ.turned.below HB2.out.size Hfp))
      clear happ hOw Hfp
      go_roundg 1
      case measure => omega
      case rel => exact ⟨3, n + (m 2).rows.length, c9, A9, by omega, HN.out, rfl, by go_num, HO6, HB6.out⟩
    · have hix := idx3 (.slice (m 0).A (m 0).rows.length (m 0).c) (.chan (m 0).bell) (.slice (m 1).A (m 1).rows.length (m 1).c) (.chan (m 1).bell) (.slice (m 2).A (m 2).rows.length (m 2).c) (.chan (m 2).bell) (.slice (m 3).A (m 3).rows.length (m 3).c) (.chan (m 3).bell)
      have HB2 := hidp (HB.out.alloc HB.out.size (.cells #[.slice (m 3).A (m 3).rows.length (m 3).c, .chan (m 3).bell] 52))
      have hO := HO.out.turned ((Turned.refl [] wr).alloc (.cells #[.slice (m 3).A (m 3).rows.length (m 3).c, .chan (m 3).bell] 52)) (by simp)
      have hr := (HH.out.sp 3 (by omega)).own
      have hsum : n + (m 3).rows.length ≤ 64 := by
        have h1 := totC_mono m 4 4 (by omega)
        have h2 := HT.out
        have h3 := Hnt.out
        have h4 : totC m 4 = totC m 3 + (m 3).rows.length := rfl
        try simp only [Nat.zero_add, Nat.reduceAdd] at h3
        omega
      have Q2 : Hid ((m 3).A = none → (m 3).rows.length = 0 ∧ (m 3).c = 0) := hidp (fun e => by have := hr.nil e; exact ⟨by rw [this.1]; rfl, this.2⟩)
      have L2 : Hid ((dtc (m 3).rows).length = (m 3).rows.length * 2) := hidp (dtc_len _)
      have O2 := hidp (dtc_one (m 3).rows)
      have N2 : Hid (n + (m 3).rows.length ≤ maxLen) := hidp (by unfold maxLen; omega)
      have T2 : Hid ((n + (m 3).rows.length) * 16 ≤ 140737488355328) := hidp (by omega)
      have S2 := hidp ((Lies.of_own hr.own).below HB2.out)
      have Z2 := hidp HB2.out.size
      have hOw := hO.own
      have hlen := hidp hsum
      clear hO hr hsum
      go_wp2_with (at_builtin; go_loud (refine wpList_app2 _ rfl (.tmp 13) (.tmp 15) 27 rfl w.heap.size 31 i0 _ 2 16 Try.underlying27 hi0 hy0 hy1 hy2 rfl (by decide) A' n c' _ rfl hOw w.heap.size (m 3).A (m 3).rows.length (m 3).c (dtc (m 3).rows) rfl Q2.out L2.out S2.out O2.out N2.out T2.out Z2.out ?_); intro A9 c9 w6 happ)
      have HN : Hid (n + (m 3).rows.length = totC m 4) := hidp (congrArg (· + (m 3).rows.length) Hnt.out)
      have HO6 : Hid (OwnE w.heap.size w6 A9 (n + (m 3).rows.length) c9 (catR m 4)) := hidp ⟨by unfold catR; rw [dtc_append]; exact happ.own, by rw [catR_len]; exact HN.out, happ.cap, happ.nil⟩
      have Hfp : ∀ k ∈ fp A', w.heap.size ≤ k := fun k hk => (own_fp hOw k hk).1
      have HB6 := hidp (HB2.out.trans (happ.turned.below HB2.out.size Hfp))
      clear happ hOw Hfp
      go_roundg 0
      case measure => omega
      case rel => exact ⟨4, n + (m 3).rows.length, c9, A9, by omega, HN.out, rfl, by go_num, HO6, HB6.out⟩
    · have HC : Hid (totC m 4 = n) := hidp Hnt.out.symm
      rw [HC.out] at HE HT
      have HW2 := HW
      cases A' with
      | none =>
        have h1 := HO.out.nil rfl
        obtain ⟨rfl, rfl⟩ := h1
        have hcat : catR m 4 = [] := List.eq_nil_of_length_eq_zero (by have := HO.out.len; simpa using this.symm)
        have HP : Hid (AllPost w (sortE (catR m 4)) (.returned (.slice none 0 0)) wr) := hidp ⟨none, 0, by rw [hcat]; rfl, by rw [hcat]; exact ⟨World.ownsRow_nil _ _ _ _, rfl, by decide, fun _ => ⟨rfl, rfl⟩⟩, HB.out⟩
        have hb2 := HB.out
        clear hcat
        go_wp2_with fail
        refine (sortNilE_any _).mono ?_
        rintro e w2 ⟨rfl, rfl⟩
        go_wp2_with fail
        go_ret
        exact HP.out
      | some a =>
        obtain ⟨g, rfl, hg⟩ : ∃ g, a = ⟨g, 0, none⟩ ∧ w.heap.size ≤ g := by
          rcases HO.out.own.2 with ⟨hv, _⟩ | ⟨g, cap, cur, hv, hb, _⟩
          · cases hv
          · injection hv with e1; injection e1 with e1
            exact ⟨g, e1, hb⟩
        have CS := HSo.out w.heap.size g n c' (catR m 4) wr HO.out HT.out HW.out
        go_wp2_with fail
        refine CS.mono ?_
        rintro e w2 ⟨rfl, ho2, ht2⟩
        have HP : Hid (AllPost w (sortE (catR m 4)) (.returned (.slice (some ⟨g, 0, none⟩) n c')) w2) := hidp ⟨some ⟨g, 0, none⟩, c', by rw [HE.out], by rw [HE.out]; exact ho2, HB.out.trans (ht2.below HB.out.size (by simpa using hg))⟩
        clear CS ho2 ht2
        go_wp2_with fail
        go_ret
        exact HP.out
    · omega
end
end Go.Proofs.Ytkjobhocgiefdaa
