/- swingbridgelaw13's known answers are as known. -/
import Derived.Test.YtindcpgmfdkpcaaTwo13
import Derived.Test.YtindcpgmfdkpcaaOkMk
import Derived.Test.YtindcpgmfdkpcaaFair2
namespace Go.Proofs.Ytindcpgmfdkpcaa
open Go.ChangeShapes Go.WideShapes Go.ChangeAt Go.RowKit
set_option linter.unusedVariables false

theorem two13_vals {S : SetR} (hS : twoS13 S 1 1 3 1 4) : fairV S 0 1 = 7 ∧ fairK S 0 1 = true ∧ fairK S 0 0 = false ∧ fairV S 0 0 = 0 ∧ aheadV S 0 = 1 := by
  obtain ⟨p1, p2, p3, a1, a2, c1, c2, p4⟩ := hS
  have hok := okTwo p1 p2 p3 p4 (by decide) (by decide) (by decide) (by decide) (by decide)
  have ht : thereB S 0 = true := thereB_true.2 ⟨hok, by decide, by rw [p4]; simp⟩
  have hk : fairK S 0 1 = true := fairK_iff.2 ⟨ht, by decide, by rw [p4]; show (1 : Int) < 2; decide, by unfold partAt; rw [p4]; rfl⟩
  have hk0 : fairK S 0 0 = false := fairK_not (fun h => by have := h.2.2.2; unfold partAt at this; rw [p4] at this; change (1 : Int) = 3 at this; omega)
  refine ⟨?_, hk, hk0, fair_no hk0, ?_⟩
  · unfold fairV; rw [if_pos hk]; unfold partAt; rw [p4]; rfl
  · unfold aheadV; rw [if_pos ht, p4]; rfl
theorem empty_ok (w : World) : SetOk w ⟨0, none, 0, [], none, 0, [], none, 0, []⟩ := ⟨by decide, ⟨⟨fun _ => ⟨rfl, rfl⟩, by decide, by decide⟩, .inl rfl, by simp⟩, ⟨⟨fun _ => ⟨rfl, rfl⟩, by decide, by decide⟩, .inl rfl, by simp⟩, ⟨⟨fun _ => ⟨rfl, rfl⟩, by decide, by decide⟩, .inl rfl, by simp⟩⟩
theorem empty_ahead : aheadV ⟨0, none, 0, [], none, 0, [], none, 0, []⟩ 0 = 0 := by
  unfold aheadV; rw [if_neg]; intro h; have := (thereB_true.1 h).2.2; simp at this

set_option maxHeartbeats 1000000 in
set_option maxRecDepth 100000 in
theorem known13_any (w : World) : Calls Try.prog 14 #[] w fun e w' => e = .returned (.bool true) ∧ Below w.heap.size w w' := by
  go_enter Try.func14, Try.ntmps14
  go_wp2_with fail
  refine (two13_any 1 1 3 1 4 _ (by decide) (by decide) (by decide) (by decide) (by decide)).mono ?_
  rintro e w1 ⟨⟨S, rfl, hs, hS⟩, hb⟩
  obtain ⟨v1, v2, v3, v4, v5⟩ := two13_vals hS
  have v6 := empty_ahead
  clear hS
  have sc := SetCells.new w1 S 26
  replace hb := hb.alloc hb.size (.cells #[.int .i64 S.proto, .slice S.ca S.cores.length S.cc, .slice S.ha S.homes.length S.hc, .slice S.ta S.tasks.length S.tc] 26)
  replace hs := hs.keep (Keeps.alloc w1 (.cells #[.int .i64 S.proto, .slice S.ca S.cores.length S.cc, .slice S.ha S.homes.length S.hc, .slice S.ta S.tasks.length S.tc] 26))
  go_wp2_with fail
  refine (part_any S 0 1 _ hs).mono ?_
  rintro e u0 ⟨rfl, hb2⟩
  replace hb := hb.trans (hb2.mono hb.size)
  replace sc := sc.keep (Keeps.of_below hb2)
  replace hs := hs.keep (Keeps.of_below hb2)
  clear hb2
  have sc2 := sc
  obtain ⟨c0, c1, c2, c3⟩ := sc2
  go_wp2_with fail
  refine (part_any S 0 0 _ hs).mono ?_
  rintro e u1 ⟨rfl, hb2⟩
  clear c0 c1 c2 c3
  replace hb := hb.trans (hb2.mono hb.size)
  replace sc := sc.keep (Keeps.of_below hb2)
  replace hs := hs.keep (Keeps.of_below hb2)
  clear hb2
  have sc2 := sc
  obtain ⟨c0, c1, c2, c3⟩ := sc2
  go_wp2_with fail
  refine (ahead_any S 0 _ hs).mono ?_
  rintro e u2 ⟨rfl, hb2⟩
  replace hb := hb.trans (hb2.mono hb.size)
  clear hb2
  go_wp2_with fail
  refine (ahead_any ⟨0, none, 0, [], none, 0, [], none, 0, []⟩ 0 _ (empty_ok _)).mono ?_
  rintro e u3 ⟨rfl, hb2⟩
  replace hb := hb.trans (hb2.mono hb.size)
  go_wp2_with fail
  go_ret
  exact ⟨rfl, hb⟩
end Go.Proofs.Ytindcpgmfdkpcaa
