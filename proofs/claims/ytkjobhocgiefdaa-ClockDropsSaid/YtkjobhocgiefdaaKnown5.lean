/- clock: the law's known answers. -/
import Derived.Test.YtkjobhocgiefdaaClkB
import Derived.Test.YtkjobhocgiefdaaClkA
namespace Go.Proofs.Ytkjobhocgiefdaa
open Go.ChangeShapes Go.WideShapes Go.ChangeAt Go.RowKit Go.Conc
set_option linter.unusedVariables false
set_option linter.unusedSimpArgs false
section
variable {w : World} {b o : Nat} {T : TypeId} {cs : Array Value} {F : List Nat} {now : Int} {L : List DueM}
theorem call_nil (h : ClkL w b o T cs F now []) : Calls Try.prog 17 #[.pointer (some ⟨b, o, none⟩)] w (AllPost w []) := by
  obtain ⟨m, h, _, h3, _, h5⟩ := h
  have ht := tot_len h3 h5
  have hc : catR m 4 = [] := List.eq_nil_of_length_eq_zero (by rw [catR_len, ht]; rfl)
  have C := all_any 20 sorts20 (by omega) h (by rw [ht]; simp) (fun i hi d hd => by rw [h3 i hi] at hd; simp [splD] at hd)
  rw [hc] at C
  exact C
theorem cdrop_nil (h : ClkL w b o T cs F now []) (id : Int) : Calls Try.prog 11 #[.pointer (some ⟨b, o, none⟩), .int .i64 id] w fun e w' => e = .returned (.bool false) ∧ Below w.heap.size w w' := by
  have C := call_nil h
  have HB0 := hidp ((Below.refl w.heap.size w))
  clear h
  go_enter Try.func11, Try.ntmps11
  go_wp2_with fail
  refine C.mono ?_
  rintro e w2 ⟨A, c, rfl, ho, hb⟩
  have HB := hidp hb
  clear C ho hb
  go_wp2_with fail
  go_loopg [10] 0 (fun gg i wr => i = .int .i64 0 ∧ w2 = wr)
  case atStart => exact ⟨rfl, rfl⟩
  case round =>
    obtain ⟨rfl, rfl⟩ := hrel
    go_wp2
    go_ret
    exact ⟨rfl, HB.out⟩
end
set_option maxHeartbeats 4000000 in
set_option maxRecDepth 100000 in
theorem known5_any (w : World) : Calls Try.prog 7 #[] w fun e w' => e = .returned (.bool true) ∧ Below w.heap.size w w' := by
  go_enter Try.func7, Try.ntmps7
  go_wp2_with fail
  refine (cnew_any w).mono ?_
  rintro e w1 ⟨rfl, cs1, h1, _, hb1⟩
  have HB1 := hidp hb1
  have C := cput_ok h1 (by simp) ⟨1, 7⟩ (by decide) (by unfold I64; decide)
  clear hb1 h1
  go_wp2_with fail
  refine C.mono ?_
  rintro e w2 ⟨rfl, cs2, F2, h2, f2⟩
  have HF2 := hidp f2
  have C := cput_ok h2 (by simp) ⟨0, 8⟩ (by decide) (by unfold I64; decide)
  clear h2 f2
  go_wp2_with fail
  refine C.mono ?_
  rintro e w3 ⟨rfl, cs3, F3, h3, f3⟩
  have HF3 := hidp (HF2.out.trans f3)
  have C := cput_form h3 ⟨-1, 0⟩ (.inl (by decide))
  have H3 := hidp h3
  clear h3 f3
  go_wp2_with fail
  refine C.mono ?_
  rintro e w4 ⟨rfl, hb4⟩
  have h4 := H3.out.over hb4
  have HF4 := hidp (HF3.out.trans (Fr.below hb4))
  have C := cstep_any h4
  clear h4 hb4
  go_wp2_with fail
  refine C.mono ?_
  rintro e w5 ⟨A5, c5, cs5, F5, rfl, hs5⟩
  have HF5 := hidp (HF4.out.trans hs5.fr)
  have h5 : ClkL w5 w.heap.size 0 55 cs5 F5 1 [⟨1, 7⟩] := hs5.clk
  have r5 : Row w5 .i64 A5 [8] := hs5.ids
  have HR5 := hidp r5
  have Hfar5 := hidp hs5.far
  have C := cput_form h5 ⟨0, 0⟩ (.inl (by decide))
  have H5 := hidp h5
  have e5 : (idsAt ([] ++ [⟨1, 7⟩] ++ [⟨0, 8⟩]) 0).length = 1 := by decide
  rw [e5]
  clear hs5 h5 r5 e5
  go_wp2_with fail
  refine C.mono ?_
  rintro e w6 ⟨rfl, hb6⟩
  have h6 := H5.out.over hb6
  have HF6 := hidp (HF5.out.trans (Fr.below hb6))
  have HR6 := hidp (HR5.out.below hb6)
  have C := cstep_any h6
  clear h6 hb6
  go_wp2_with fail
  refine C.mono ?_
  rintro e w7 ⟨A7, c7, cs7, F7, rfl, hs7⟩
  have HF7 := hidp (HF6.out.trans hs7.fr)
  have h7 : ClkL w7 w.heap.size 0 55 cs7 F7 2 [] := hs7.clk
  have r7 : Row w7 .i64 A7 [7] := hs7.ids
  have r5 := HR6.out.turned hs7.fr.turned (fun k hk => by
    have h8 := (Hfar5.out k hk).2.2
    exact h8)
  obtain ⟨g5, o5, rfl, d5⟩ := r5.resolve_left (by simp)
  obtain ⟨g7, o7, rfl, d7⟩ := r7.resolve_left (by simp)
  have x5 : w7.cell? ⟨g5, o5, none⟩ = some (.int .i64 8) := d5 0 (by simp)
  have x7 : w7.cell? ⟨g7, o7, none⟩ = some (.int .i64 7) := d7 0 (by simp)
  have H7 := hidp h7
  have e7 : (idsAt [⟨1, 7⟩] 1).length = 1 := by decide
  have C1 := cnow_any h7
  have C2 := clen_any h7
  have e8 : (idsAt (notAt ([] ++ [⟨1, 7⟩] ++ [⟨0, 8⟩]) 0) (min (0 + 1) 1000000)).length = 1 := by decide
  try rw [e8]
  try rw [e7]
  clear hs7 h7 r5 r7 d5 d7 e7 e8 C
  go_wp2_with fail
  refine C1.mono ?_
  rintro e w8 ⟨rfl, rfl⟩
  go_wp2_with fail
  refine C2.mono ?_
  rintro e w8 ⟨rfl, hb8⟩
  have h8 := H7.out.over hb8
  have HB8 := hidp hb8
  have C3 := call_nil h8
  clear C1 C2 hb8 h8
  go_wp2_with fail
  refine C3.mono ?_
  rintro e w9 ⟨A9, c9, rfl, _, hb9⟩
  have HB9 := hidp (HB8.out.trans (hb9.mono HB8.out.size))
  have h9 := H7.out.over HB9.out
  have C4 := cdrop_nil h9 7
  clear C3 hb9 h9
  go_wp2_with fail
  refine C4.mono ?_
  rintro e wA ⟨rfl, hbA⟩
  have HBA := hidp (HB9.out.trans (hbA.mono HB9.out.size))
  have HF : Hid (Below w.heap.size w wA) := hidp ((HB1.out.trans (HF7.out.turned.below HB1.out.size (by simp))).trans (HBA.out.mono (Nat.le_trans HB1.out.size HF7.out.turned.size)))
  clear hbA C4
  go_wp2_with fail
  go_ret
  exact ⟨rfl, HF.out⟩
end Go.Proofs.Ytkjobhocgiefdaa
