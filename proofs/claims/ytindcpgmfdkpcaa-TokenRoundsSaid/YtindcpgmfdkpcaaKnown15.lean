/- swingbridgelaw15's known answers are as known. -/
import Derived.Test.YtindcpgmfdkpcaaTwo15
import Derived.Test.YtindcpgmfdkpcaaOkMk
import Derived.Test.YtindcpgmfdkpcaaToken3
import Derived.Test.YtindcpgmfdkpcaaLit
namespace Go.Proofs.Ytindcpgmfdkpcaa
open Go.ChangeShapes Go.WideShapes Go.ChangeAt Go.RowKit
set_option linter.unusedVariables false

theorem tops_zero (zs : List Int) : tops zs 0 = [] := by
  unfold tops
  rw [show clampN 0 zs.length = 0 by unfold clampN; omega]
  rfl
theorem besV_one {s : SetR} (h : coresV s = 1) (of : Int) : besV s of = 0 := by
  unfold besV
  rw [h, show (1 : Int) - 1 = 0 from rfl, tops_zero]
  rfl
theorem empty_ok15 (w : World) : SetOk w ⟨0, none, 0, [], none, 0, [], none, 0, []⟩ := ⟨by decide, nil_ints w, nil_ints w, ⟨⟨fun _ => ⟨rfl, rfl⟩, by decide, by decide⟩, .inl rfl, by simp⟩⟩
theorem two15_vals {S : SetR} (hS : twoS15 S 3 1 3 1 4) : insV S 0 1 = 3 ∧ fairK S 0 1 = true ∧ tokV S 0 1 = 7 ∧ tokV S 0 0 = 0 ∧ fairK S 0 0 = false ∧ outV S 0 = 4 ∧ outV ⟨0, none, 0, [], none, 0, [], none, 0, []⟩ 0 = 0 := by
  obtain ⟨p1, p2, p3, a1, a2, c1, c2, p4⟩ := hS
  have hok := okTwo p1 p2 p3 p4 (by decide) (by decide) (by decide) (by decide) (by decide)
  have ht : thereB S 0 = true := thereB_true.2 ⟨hok, by decide, by rw [p4]; simp⟩
  have hk : fairK S 0 1 = true := fairK_iff.2 ⟨ht, by decide, by rw [p4]; show (1 : Int) < 2; decide, by unfold partAt; rw [p4]; rfl⟩
  have hk0 : fairK S 0 0 = false := fairK_not (fun h => by have := h.2.2.2; unfold partAt at this; rw [p4] at this; change (1 : Int) = 3 at this; omega)
  have hc : coresV S = 1 := by unfold coresV; rw [if_pos hok, p2]; rfl
  have hb : ∀ k, besV S k = 0 := besV_one hc
  have hi : insV S 0 1 = 3 := by unfold insV; rw [if_pos hk, hb]; unfold partAt; rw [p4]; rfl
  have ha : askersV S 0 = 2 := by unfold askersV; rw [if_pos hok, p4]; rfl
  have hr : rndV S 0 = 1 := by unfold rndV coreAt; rw [ha, p2]; decide
  have hs : slowL S 0 0 S.tasks = 4 := by rw [p4]; simp [slowL, maxL, hb]; decide
  have ho : outV S 0 = 4 := by
    unfold outV
    rw [if_pos ⟨ht, by rw [p4]; show ¬ maxL [⟨1, 1, 0⟩, ⟨3, 3, 0⟩] = 0; decide⟩]
    have e : (S.tasks.getD (0 : Int).toNat default).cl = 0 := by rw [p4]; rfl
    rw [e, hr, hs]; rfl
  refine ⟨hi, hk, ?_, ?_, hk0, ho, ?_⟩
  · unfold tokV; rw [if_pos hk, hi, ho]; rfl
  · unfold tokV; rw [hk0]; rfl
  · unfold outV; rw [if_neg]; intro h; have := (thereB_true.1 h.1).2.2; simp at this

set_option maxHeartbeats 1000000 in
set_option maxRecDepth 100000 in
theorem known15_any (w : World) : Calls Try.prog 17 #[] w fun e w' => e = .returned (.bool true) ∧ Below w.heap.size w w' := by
  go_enter Try.func17, Try.ntmps17
  go_wp2_with fail
  refine (two15_any 3 1 3 1 4 _ (by decide) (by decide) (by decide) (by decide) (by decide)).mono ?_
  rintro e w1 ⟨⟨S, rfl, hs, hS⟩, hb⟩
  obtain ⟨v1, v2, v3, v4, v5, v6, v7⟩ := two15_vals hS
  clear hS
  have sc := SetCells.new w1 S 26
  replace hb := hb.alloc hb.size (.cells #[.int .i64 S.proto, .slice S.ca S.cores.length S.cc, .slice S.ha S.homes.length S.hc, .slice S.ta S.tasks.length S.tc] 26)
  replace hs := hs.keep (Keeps.alloc w1 (.cells #[.int .i64 S.proto, .slice S.ca S.cores.length S.cc, .slice S.ha S.homes.length S.hc, .slice S.ta S.tasks.length S.tc] 26))
  go_wp2_with fail
  refine (inside_any S 0 1 _ hs).mono ?_
  rintro e u0 ⟨rfl, hb2⟩
  replace hb := hb.trans (hb2.mono hb.size)
  replace sc := sc.keep (Keeps.of_below hb2)
  replace hs := hs.keep (Keeps.of_below hb2)
  clear hb2
  try clear sc_0 sc_1 sc_2 sc_3
  have scx := sc
  obtain ⟨sc_0, sc_1, sc_2, sc_3⟩ := scx
  try dsimp only at sc_0 sc_1 sc_2 sc_3
  rw [v1, v2]
  go_wp2_with fail
  refine (tpart_any S 0 1 _ hs).mono ?_
  rintro e u1 ⟨rfl, hb2⟩
  replace hb := hb.trans (hb2.mono hb.size)
  replace sc := sc.keep (Keeps.of_below hb2)
  replace hs := hs.keep (Keeps.of_below hb2)
  clear hb2
  try clear sc_0 sc_1 sc_2 sc_3
  have scx := sc
  obtain ⟨sc_0, sc_1, sc_2, sc_3⟩ := scx
  try dsimp only at sc_0 sc_1 sc_2 sc_3
  rw [v3, v2]
  go_wp2_with fail
  refine (tpart_any S 0 0 _ hs).mono ?_
  rintro e u2 ⟨rfl, hb2⟩
  replace hb := hb.trans (hb2.mono hb.size)
  replace sc := sc.keep (Keeps.of_below hb2)
  replace hs := hs.keep (Keeps.of_below hb2)
  clear hb2
  try clear sc_0 sc_1 sc_2 sc_3
  have scx := sc
  obtain ⟨sc_0, sc_1, sc_2, sc_3⟩ := scx
  try dsimp only at sc_0 sc_1 sc_2 sc_3
  rw [v4, v5]
  go_wp2_with fail
  refine (outside_any S 0 _ hs).mono ?_
  rintro e u3 ⟨rfl, hb2⟩
  replace hb := hb.trans (hb2.mono hb.size)
  clear hb2
  rw [v6]
  go_wp2_with fail
  refine (outside_any ⟨0, none, 0, [], none, 0, [], none, 0, []⟩ 0 _ (empty_ok15 _)).mono ?_
  rintro e u4 ⟨rfl, hb2⟩
  replace hb := hb.trans (hb2.mono hb.size)
  clear hb2
  rw [v7]
  go_wp2_with fail
  go_ret
  exact ⟨rfl, hb⟩
end Go.Proofs.Ytindcpgmfdkpcaa
