/- swingbridgelaw16's known answers are as known. -/
import Derived.Test.YtnanpopghipmbaaTwo16
import Derived.Test.YtnanpopghipmbaaOkMk
import Derived.Test.YtnanpopghipmbaaWait
import Derived.Test.YtnanpopghipmbaaDemandNums
namespace Go.Proofs.Ytnanpopghipmbaa
open Go.ChangeShapes Go.WideShapes Go.ChangeAt Go.RowKit
set_option linter.unusedVariables false

theorem two16_vals {S : SetR} (hS : twoS16 S 1 1 3 1 4) : waitV S [9, 9] 0 1 = 7 ∧ waitK S [9, 9] 0 1 = true ∧ waitsL S [9, 9] 0 = [0, 7] ∧ waitsK S [9, 9] 0 = true ∧ waitV S [] 0 1 = 0 ∧ waitK S [] 0 1 = false := by
  obtain ⟨p1, p2, p3, a1, a2, c1, c2, p4⟩ := hS
  have hok := okTwo p1 p2 p3 p4 (by decide) (by decide) (by decide) (by decide) (by decide)
  have ht : thereB S 0 = true := thereB_true.2 ⟨hok, by decide, by rw [p4]; simp⟩
  have hk : fairK S 0 1 = true := fairK_iff.2 ⟨ht, by decide, by rw [p4]; show (1 : Int) < 2; decide, by unfold partAt; rw [p4]; rfl⟩
  have fv : fairV S 0 1 = 7 := by unfold fairV; rw [if_pos hk]; unfold partAt; rw [p4]; rfl
  have hl : ([9, 9] : List Int).length = S.tasks.length := by rw [p4]; rfl
  have hn : ¬ ([] : List Int).length = S.tasks.length := by rw [p4]; simp
  have v1 : waitV S [9, 9] 0 1 = 7 := by unfold waitV; rw [if_pos hl, if_pos p1, fv]
  have v2 : waitK S [9, 9] 0 1 = true := by unfold waitK; rw [if_pos hl, if_neg (by omega), hk]
  have hp : partsOf S 0 = [⟨1, 1, 0⟩, ⟨3, 3, 0⟩] := by unfold partsOf; rw [p4]; rfl
  have q0 : (partAt S 0 (0 : Nat)).kind = 1 := by unfold partAt; rw [p4]; rfl
  have q1 : (partAt S 0 (1 : Nat)).kind = 3 := by unfold partAt; rw [p4]; rfl
  have k0 : pK S [9, 9] 0 0 = true := by unfold pK; rw [if_neg (by rw [q0]; decide)]
  have k1 : pK S [9, 9] 0 1 = true := by unfold pK; rw [if_pos q1]; exact v2
  have w0 : pW S [9, 9] 0 0 = 0 := by unfold pW; rw [if_neg (by rw [q0]; decide)]
  have w1 : pW S [9, 9] 0 1 = 7 := by unfold pW; rw [if_pos q1]; exact v1
  obtain ⟨y1, y2⟩ := waits_yes (s := S) (bs := [9, 9]) (of := 0) ht (by
    rw [hp]; intro k hk
    match k, hk with
    | 0, _ => exact k0
    | 1, _ => exact k1)
  refine ⟨v1, v2, ?_, y1, ?_, ?_⟩
  · rw [y2, hp]
    show [pW S [9, 9] 0 0, pW S [9, 9] 0 1] = _
    rw [w0, w1]
  · unfold waitV; rw [if_neg hn]
  · unfold waitK; rw [if_neg hn]

set_option maxHeartbeats 1000000 in
set_option maxRecDepth 100000 in
theorem known16_any (w : World) : Calls Try.prog 5 #[] w fun e w' => e = .returned (.bool true) ∧ Below w.heap.size w w' := by
  go_enter Try.func5, Try.ntmps5
  go_wp2_with fail
  refine (two16_any 1 1 3 1 4 _ (by decide) (by decide) (by decide) (by decide) (by decide)).mono ?_
  rintro e w1 ⟨⟨S, rfl, hs, hS⟩, hb⟩
  obtain ⟨v1, v2, v3, v4, v5, v6⟩ := two16_vals hS
  clear hS
  have sc := SetCells.new w1 S 25
  replace hb := hb.alloc hb.size (.cells #[.int .i64 S.proto, .slice S.ca S.cores.length S.cc, .slice S.ha S.homes.length S.hc, .slice S.ta S.tasks.length S.tc] 25)
  replace hs := hs.keep (Keeps.alloc w1 (.cells #[.int .i64 S.proto, .slice S.ca S.cores.length S.cc, .slice S.ha S.homes.length S.hc, .slice S.ta S.tasks.length S.tc] 25))
  have k1 := Keeps.alloc (w1.alloc (.cells #[.int .i64 S.proto, .slice S.ca S.cores.length S.cc, .slice S.ha S.homes.length S.hc, .slice S.ta S.tasks.length S.tc] 25)) (.cells #[.int .i64 9, .int .i64 9] 3)
  have HB := lit_ints (w := w1.alloc (.cells #[.int .i64 S.proto, .slice S.ca S.cores.length S.cc, .slice S.ha S.homes.length S.hc, .slice S.ta S.tasks.length S.tc] 25)) (g := w1.heap.size + 1) (zs := [9, 9]) (t := 3) (by simp) rfl (by decide) (by decide)
  replace sc := sc.keep k1
  replace hs := hs.keep k1
  replace hb := hb.alloc hb.size (.cells #[.int .i64 9, .int .i64 9] 3)
  go_wp2_with fail
  refine (wpart_any S [9, 9] _ 2 0 1 _ hs HB).mono ?_
  rintro e u0 ⟨rfl, hb2⟩
  replace hb := hb.trans (hb2.mono hb.size)
  replace sc := sc.keep (Keeps.of_below hb2)
  replace hs := hs.keep (Keeps.of_below hb2)
  clear hb2
  try clear sc_0 sc_1 sc_2 sc_3
  have scx := sc
  obtain ⟨sc_0, sc_1, sc_2, sc_3⟩ := scx
  try dsimp only at sc_0 sc_1 sc_2 sc_3
  rw [v1, v2]
  clear HB k1
  have k1 := Keeps.alloc u0 (.cells #[.int .i64 9, .int .i64 9] 3)
  have HB := lit_ints (w := u0) (zs := [9, 9]) (t := 3) rfl rfl (by decide) (by decide)
  replace hs := hs.keep k1
  replace sc := sc.keep k1
  replace hb := hb.alloc hb.size (.cells #[.int .i64 9, .int .i64 9] 3)
  go_wp2_with fail
  have CC := wall_any S [9, 9] _ 2 0 _ hs HB
  rw [v3, v4] at CC
  refine CC.mono ?_
  rintro e u1 ⟨A, c, rfl, hr, hb2⟩
  clear CC
  replace hb := hb.trans (hb2.mono hb.size)
  replace sc := sc.keep (Keeps.of_below hb2)
  replace hs := hs.keep (Keeps.of_below hb2)
  clear hb2
  try clear sc_0 sc_1 sc_2 sc_3
  have scx := sc
  obtain ⟨sc_0, sc_1, sc_2, sc_3⟩ := scx
  try dsimp only at sc_0 sc_1 sc_2 sc_3
  obtain ⟨g, off, hA, hcl⟩ := hr.at_.resolve_left (by simp)
  subst hA
  have l0 := hcl 0 (by simp)
  have l1 := hcl 1 (by simp)
  simp only [List.getD_cons_zero, List.getD_cons_succ, Nat.add_zero] at l0 l1
  clear HB k1 hr hcl
  have k1 := Keeps.alloc u1 (.cells #[.int .i64 9, .int .i64 9] 3)
  have HB := lit_ints (w := u1) (zs := [9, 9]) (t := 3) rfl rfl (by decide) (by decide)
  replace hs := hs.keep k1
  replace sc := sc.keep k1
  replace hb := hb.alloc hb.size (.cells #[.int .i64 9, .int .i64 9] 3)
  replace l0 := k1 _ _ l0
  replace l1 := k1 _ _ l1
  go_wp2_with fail
  refine (wsum_any S [9, 9] _ 2 0 _ hs HB).mono ?_
  rintro e u2 ⟨rfl, hb2⟩
  replace hb := hb.trans (hb2.mono hb.size)
  replace sc := sc.keep (Keeps.of_below hb2)
  replace hs := hs.keep (Keeps.of_below hb2)
  replace l0 := Keeps.of_below hb2 _ _ l0
  replace l1 := Keeps.of_below hb2 _ _ l1
  clear hb2
  try clear sc_0 sc_1 sc_2 sc_3
  have scx := sc
  obtain ⟨sc_0, sc_1, sc_2, sc_3⟩ := scx
  try dsimp only at sc_0 sc_1 sc_2 sc_3
  rw [v3, v4]
  clear HB k1
  go_wp2_with fail
  refine (wpart_any S [] none 0 0 1 _ hs (nil_ints _)).mono ?_
  rintro e u3 ⟨rfl, hb2⟩
  replace hb := hb.trans (hb2.mono hb.size)
  replace l0 := Keeps.of_below hb2 _ _ l0
  replace l1 := Keeps.of_below hb2 _ _ l1
  clear hb2
  rw [v5, v6]
  go_wp2_with fail
  go_ret
  exact ⟨rfl, hb⟩
end Go.Proofs.Ytnanpopghipmbaa
