/- swingbridgelaw14's known answers are as known. -/
import Derived.Test.YtbjcoeipdnakkaaTwo14
import Derived.Test.YtbjcoeipdnakkaaOkMk
import Derived.Test.YtbjcoeipdnakkaaAgent3
import Derived.Test.YtbjcoeipdnakkaaLit
import Derived.Test.YtbjcoeipdnakkaaDemandNums
namespace Go.Proofs.Ytbjcoeipdnakkaa
open Go.ChangeShapes Go.WideShapes Go.ChangeAt Go.RowKit
set_option linter.unusedVariables false

theorem fix_now {F : Int → Int} {own : Int} (h2 : own ≤ 3000) (h3 : F own = own) : fixO F own = some own := fixO_at (Int.le_refl _) h2 h3 (fun u a b => by omega)
theorem two14_vals {S : SetR} (hS : twoS14 S 2 1 3 1 4) : agentV S [20, 40] 0 1 = 7 ∧ agentK S [20, 40] 0 1 = true ∧ agentV S [20, 40] 1 1 = 7 ∧ agentK S [20, 40] 1 1 = true ∧ agentV S [] 0 1 = 0 ∧ agentK S [] 0 1 = false ∧ lowerV S 0 0 = 4 ∧ higherV S [20, 40] 1 0 5 = 3 := by
  obtain ⟨p1, p2, p3, a1, a2, c1, c2, p4⟩ := hS
  have hok := okTwo p1 p2 p3 p4 (by decide) (by decide) (by decide) (by decide) (by decide)
  have ht0 : thereB S 0 = true := thereB_true.2 ⟨hok, by decide, by rw [p4]; simp⟩
  have ht1 : thereB S 1 = true := thereB_true.2 ⟨hok, by decide, by rw [p4]; simp⟩
  have hl : ([20, 40] : List Int).length = S.tasks.length := by rw [p4]; rfl
  have q0 : partAt S 0 1 = ⟨3, 3, 0⟩ := by unfold partAt; rw [p4]; rfl
  have q1 : partAt S 1 1 = ⟨3, 4, 0⟩ := by unfold partAt; rw [p4]; rfl
  have s0 : atV S 0 0 = 3 := by unfold atV; rw [show ((0 : Int)) = ((0 : Nat) : Int) from rfl, srv_in hok (by rw [p4]; simp), p4, p3]; rfl
  have m1 : mostV S 1 0 = 4 := by unfold mostV; rw [show ((1 : Int)) = ((1 : Nat) : Int) from rfl, srv_in hok (by rw [p4]; simp), p4, p3]; rfl
  have h0 : homeV S 0 1 = 0 := by unfold homeV; rw [q0, p3]; rfl
  have h1 : homeV S 1 1 = 0 := by unfold homeV; rw [q1, p3]; rfl
  have P0 : prioOf S 0 = 1 := by unfold prioOf; rw [p4]; rfl
  have P1 : prioOf S 1 = 2 := by unfold prioOf; rw [p4]; rfl
  have L0 : lowerV S 0 0 = 4 := by unfold lowerV; rw [if_pos ht0, P0, p4]; simp [lowL, m1]; decide
  have L1 : lowerV S 1 0 = 0 := by unfold lowerV; rw [if_pos ht1, P1, p4]; simp [lowL]
  have R0 : rivL S [20, 40] 1 0 0 S.tasks = [] := by rw [p4]; simp [rivL]
  have R1 : rivL S [20, 40] 2 0 0 S.tasks = [⟨20, 100, 3⟩] := by rw [p4]; simp [rivL, s0]
  have e0 := agent_yes (s := S) (bs := [20, 40]) (of := 0) (part := 1) ht0 hl (by decide) (by rw [p4]; show (1 : Int) < 2; decide) (by rw [q0])
  have e1 := agent_yes (s := S) (bs := [20, 40]) (of := 1) (part := 1) ht1 hl (by decide) (by rw [p4]; show (1 : Int) < 2; decide) (by rw [q1])
  have f0 : leastV S 0 1 = 7 := by unfold leastV; rw [q0, h0, L0]; rfl
  have f1 : leastV S 1 1 = 4 := by unfold leastV; rw [q1, h1, L1]; rfl
  rw [f0, P0, h0, R0] at e0
  rw [f1, P1, h1, R1] at e1
  have x0 : fixO (winF 7 []) 7 = some 7 := by decide +kernel
  have x1 : fixO (winF 4 [⟨20, 100, 3⟩]) 4 = some 7 := by decide +kernel
  unfold setV setK at e0 e1
  rw [x0] at e0
  rw [x1] at e1
  have n0 := agent_not (s := S) (bs := []) (of := 0) (part := 1) (fun h => by have := h.2.1; rw [p4] at this; simp at this)
  refine ⟨e0.1, e0.2, e1.1, e1.2, n0.1, n0.2, L0, ?_⟩
  unfold higherV
  rw [if_pos (higherB_true.2 ⟨ht1, hl⟩), P1, R1]
  decide +kernel

set_option maxHeartbeats 1000000 in
set_option maxRecDepth 100000 in
theorem known14_any (w : World) : Calls Try.prog 18 #[] w fun e w' => e = .returned (.bool true) ∧ Below w.heap.size w w' := by
  go_enter Try.func18, Try.ntmps18
  go_wp2_with fail
  refine (two14_any 2 1 3 1 4 _ (by decide) (by decide) (by decide) (by decide) (by decide)).mono ?_
  rintro e w1 ⟨⟨S, rfl, hs, hS⟩, hb⟩
  obtain ⟨v1, v2, v3, v4, v5, v6, v7, v8⟩ := two14_vals hS
  clear hS
  have sc := SetCells.new w1 S 26
  replace hb := hb.alloc hb.size (.cells #[.int .i64 S.proto, .slice S.ca S.cores.length S.cc, .slice S.ha S.homes.length S.hc, .slice S.ta S.tasks.length S.tc] 26)
  replace hs := hs.keep (Keeps.alloc w1 (.cells #[.int .i64 S.proto, .slice S.ca S.cores.length S.cc, .slice S.ha S.homes.length S.hc, .slice S.ta S.tasks.length S.tc] 26))
  have k1 := Keeps.alloc (w1.alloc (.cells #[.int .i64 S.proto, .slice S.ca S.cores.length S.cc, .slice S.ha S.homes.length S.hc, .slice S.ta S.tasks.length S.tc] 26)) (.cells #[.int .i64 20, .int .i64 40] 3)
  have HB := lit_ints (w := w1.alloc (.cells #[.int .i64 S.proto, .slice S.ca S.cores.length S.cc, .slice S.ha S.homes.length S.hc, .slice S.ta S.tasks.length S.tc] 26)) (g := w1.heap.size + 1) (zs := [20, 40]) (t := 3) (by simp) rfl (by decide) (by decide)
  replace sc := sc.keep k1
  replace hs := hs.keep k1
  replace hb := hb.alloc hb.size (.cells #[.int .i64 20, .int .i64 40] 3)
  go_wp2_with fail
  refine (apart_any S [20, 40] _ 2 0 1 _ hs HB).mono ?_
  rintro e u0 ⟨rfl, hb2⟩
  replace hb := hb.trans (hb2.mono hb.size)
  replace sc := sc.keep (Keeps.of_below hb2)
  replace hs := hs.keep (Keeps.of_below hb2)
  clear hb2
  try clear sc_0 sc_1 sc_2 sc_3
  have scx := sc
  obtain ⟨sc_0, sc_1, sc_2, sc_3⟩ := scx
  try dsimp only at sc_0 sc_1 sc_2 sc_3
  rw [v1, v2]
  clear HB k1
  have k1 := Keeps.alloc u0 (.cells #[.int .i64 20, .int .i64 40] 3)
  have HB := lit_ints (w := u0) (zs := [20, 40]) (t := 3) rfl rfl (by decide) (by decide)
  replace hs := hs.keep k1
  replace sc := sc.keep k1
  replace hb := hb.alloc hb.size (.cells #[.int .i64 20, .int .i64 40] 3)
  go_wp2_with fail
  refine (apart_any S [20, 40] _ 2 1 1 _ hs HB).mono ?_
  rintro e u1 ⟨rfl, hb2⟩
  replace hb := hb.trans (hb2.mono hb.size)
  replace sc := sc.keep (Keeps.of_below hb2)
  replace hs := hs.keep (Keeps.of_below hb2)
  clear hb2
  try clear sc_0 sc_1 sc_2 sc_3
  have scx := sc
  obtain ⟨sc_0, sc_1, sc_2, sc_3⟩ := scx
  try dsimp only at sc_0 sc_1 sc_2 sc_3
  rw [v3, v4]
  clear HB k1
  go_wp2_with fail
  refine (apart_any S [] none 0 0 1 _ hs (nil_ints _)).mono ?_
  rintro e u2 ⟨rfl, hb2⟩
  replace hb := hb.trans (hb2.mono hb.size)
  replace sc := sc.keep (Keeps.of_below hb2)
  replace hs := hs.keep (Keeps.of_below hb2)
  clear hb2
  try clear sc_0 sc_1 sc_2 sc_3
  have scx := sc
  obtain ⟨sc_0, sc_1, sc_2, sc_3⟩ := scx
  try dsimp only at sc_0 sc_1 sc_2 sc_3
  rw [v5, v6]
  go_wp2_with fail
  refine (lower_any S 0 0 _ hs).mono ?_
  rintro e u3 ⟨rfl, hb2⟩
  replace hb := hb.trans (hb2.mono hb.size)
  replace sc := sc.keep (Keeps.of_below hb2)
  replace hs := hs.keep (Keeps.of_below hb2)
  clear hb2
  try clear sc_0 sc_1 sc_2 sc_3
  have scx := sc
  obtain ⟨sc_0, sc_1, sc_2, sc_3⟩ := scx
  try dsimp only at sc_0 sc_1 sc_2 sc_3
  rw [v7]
  have k1 := Keeps.alloc u3 (.cells #[.int .i64 20, .int .i64 40] 3)
  have HB := lit_ints (w := u3) (zs := [20, 40]) (t := 3) rfl rfl (by decide) (by decide)
  replace hs := hs.keep k1
  replace hb := hb.alloc hb.size (.cells #[.int .i64 20, .int .i64 40] 3)
  go_wp2_with fail
  refine (higher_any S [20, 40] _ 2 1 0 5 _ hs HB (by decide)).mono ?_
  rintro e u4 ⟨rfl, hb2⟩
  replace hb := hb.trans (hb2.mono hb.size)
  clear hb2
  rw [v8]
  go_wp2_with fail
  go_ret
  exact ⟨rfl, hb⟩
end Go.Proofs.Ytbjcoeipdnakkaa
