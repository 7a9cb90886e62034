/- swingbridgelaw11's known answers are as known. -/
import Derived.Test.YtigmbfleffpmeaaTwo11
import Derived.Test.YtigmbfleffpmeaaFew11
import Derived.Test.YtigmbfleffpmeaaOkMk
import Derived.Test.YtigmbfleffpmeaaDemand3
namespace Go.Proofs.Ytigmbfleffpmeaa
open Go.ChangeShapes Go.WideShapes Go.ChangeAt Go.RowKit
set_option linter.unusedVariables false

set_option maxHeartbeats 1000000 in
set_option maxRecDepth 100000 in
theorem known11_any (w : World) : Calls Try.prog 22 #[] w fun e w' => e = .returned (.bool true) ∧ Below w.heap.size w w' := by
  go_enter Try.func22, Try.ntmps22
  go_wp2_with fail
  refine (two11_any 1 3 2 5 7 _ (by decide) (by decide) (by decide) (by decide) (by decide)).mono ?_
  rintro e w1 ⟨⟨S, rfl, hs, hS⟩, hb⟩
  have hS2 := hS
  obtain ⟨p1, p2, p3, a1, a2, c1, c2, p4⟩ := hS2
  have hok := okTwo p1 p2 p3 p4 (by decide) (by decide) (by decide) (by decide) (by decide)
  have v1 : atV S 1 0 = 7 := by unfold atV srv; rw [if_pos ⟨hok, by decide, by rw [p4]; simp⟩, p3, p4]; rfl
  have v2 : mostV S 1 0 = 7 := by unfold mostV srv; rw [if_pos ⟨hok, by decide, by rw [p4]; simp⟩, p3, p4]; rfl
  have v3 : atV S 2 0 = 0 := by unfold atV srv; rw [if_neg (by rintro ⟨_, _, h⟩; rw [p4] at h; simp at h)]; rfl
  have v4 : coresV S = 1 := by unfold coresV; rw [if_pos hok, p2]; rfl
  have v5 : askersV S 0 = 2 := by unfold askersV; rw [if_pos hok, p4]; rfl
  have u1 : sumK 1 [⟨1, 3, 0⟩, ⟨3, 2, 0⟩] = 3 := by decide
  have u2 : sumK 3 [⟨1, 3, 0⟩, ⟨3, 2, 0⟩] = 2 := by decide
  have u3 : sumK 2 [⟨1, 3, 0⟩, ⟨3, 2, 0⟩] = 0 := by decide
  have u4 : maxL [⟨1, 3, 0⟩, ⟨3, 2, 0⟩] = 2 := by decide
  clear hS hok
  obtain ⟨proto, ca, cc, cores, ha, hc, homes, ta, tc, tasks⟩ := S
  dsimp only at p1 p2 p3 p4
  subst p1 p2 p3 p4
  obtain ⟨g, off, hA, hcl⟩ := hs.tasks.at_.resolve_left (by simp)
  have hc1 := hcl 0 (by simp)
  have tl := hs.tasks.ok _ (show _ ∈ [_, _] from List.mem_cons_self)
  dsimp only at hA tl
  subst hA
  have TL : TaskLen w1 ⟨⟨#[97]⟩, 100, 100, 1, 0, a1, c1, [⟨1, 3, 0⟩, ⟨3, 2, 0⟩]⟩ := ⟨tl.at_, (by show LenOk [⟨1, 3, 0⟩, ⟨3, 2, 0⟩]; unfold LenOk; decide), (by show 2 ≤ 1000; decide)⟩
  clear hcl tl
  obtain ⟨x0, x1, x2, x3, x4, x5⟩ := hc1.keep (Keeps.alloc w1 (.cells #[.int .i64 1, .slice ca 1 cc, .slice ha 1 hc, .slice (some ⟨g, off, none⟩) 2 tc] 25))
  simp only [Nat.zero_mul, Nat.add_zero, List.getD_cons_zero] at x0 x1 x2 x3 x4 x5
  have sc := (SetCells.new w1 ⟨1, ca, cc, [1], ha, hc, [0], some ⟨g, off, none⟩, tc, [⟨⟨#[97]⟩, 100, 100, 1, 0, a1, c1, [⟨1, 3, 0⟩, ⟨3, 2, 0⟩]⟩, ⟨⟨#[98]⟩, 200, 200, 2, 0, a2, c2, [⟨1, 5, 0⟩, ⟨3, 7, 0⟩]⟩]⟩ 25).keep (Keeps.alloc _ (.cells #[.string ⟨#[97]⟩, .int .i64 100, .int .i64 100, .int .i64 1, .int .i64 0, .slice a1 2 c1] 37))
  have tb := TaskBox.new (w1.alloc (.cells #[.int .i64 1, .slice ca 1 cc, .slice ha 1 hc, .slice (some ⟨g, off, none⟩) 2 tc] 25)) ⟨⟨#[97]⟩, 100, 100, 1, 0, a1, c1, [⟨1, 3, 0⟩, ⟨3, 2, 0⟩]⟩ 37
  rw [show (w1.alloc (.cells #[.int .i64 1, .slice ca 1 cc, .slice ha 1 hc, .slice (some ⟨g, off, none⟩) 2 tc] 25)).heap.size = w1.heap.size + 1 by simp] at tb
  replace hb := (hb.alloc hb.size (.cells #[.int .i64 1, .slice ca 1 cc, .slice ha 1 hc, .slice (some ⟨g, off, none⟩) 2 tc] 25)).alloc (by have := hb.size; simp; omega) (.cells #[.string ⟨#[97]⟩, .int .i64 100, .int .i64 100, .int .i64 1, .int .i64 0, .slice a1 2 c1] 37)
  replace TL := (TL.keep (Keeps.alloc _ (.cells #[.int .i64 1, .slice ca 1 cc, .slice ha 1 hc, .slice (some ⟨g, off, none⟩) 2 tc] 25))).keep (Keeps.alloc _ (.cells #[.string ⟨#[97]⟩, .int .i64 100, .int .i64 100, .int .i64 1, .int .i64 0, .slice a1 2 c1] 37))
  replace hs := (hs.keep (Keeps.alloc _ (.cells #[.int .i64 1, .slice ca 1 cc, .slice ha 1 hc, .slice (some ⟨g, off, none⟩) 2 tc] 25))).keep (Keeps.alloc _ (.cells #[.string ⟨#[97]⟩, .int .i64 100, .int .i64 100, .int .i64 1, .int .i64 0, .slice a1 2 c1] 37))
  go_wp2_with fail
  refine (runs_any ⟨⟨#[97]⟩, 100, 100, 1, 0, a1, c1, [⟨1, 3, 0⟩, ⟨3, 2, 0⟩]⟩ _ TL).mono ?_
  rintro e u0 ⟨rfl, hb2⟩
  replace hb := hb.trans (hb2.mono hb.size)
  replace sc := sc.keep (Keeps.of_below hb2)
  replace tb := tb.keep (Keeps.of_below hb2)
  replace TL := TL.keep (Keeps.of_below hb2)
  replace hs := hs.keep (Keeps.of_below hb2)
  clear hb2
  have sc2 := sc
  have tb2 := tb
  obtain ⟨c0, cc1, cc2, c3⟩ := sc2
  obtain ⟨b0, b1, b2, b3, b4, b5⟩ := tb2
  dsimp only [List.length] at c0 cc1 cc2 c3 b0 b1 b2 b3 b4 b5
  go_wp2_with fail
  refine (locks_any ⟨⟨#[97]⟩, 100, 100, 1, 0, a1, c1, [⟨1, 3, 0⟩, ⟨3, 2, 0⟩]⟩ _ TL).mono ?_
  rintro e u1 ⟨rfl, hb2⟩
  clear c0 cc1 cc2 c3 b0 b1 b2 b3 b4 b5
  replace hb := hb.trans (hb2.mono hb.size)
  replace sc := sc.keep (Keeps.of_below hb2)
  replace tb := tb.keep (Keeps.of_below hb2)
  replace TL := TL.keep (Keeps.of_below hb2)
  replace hs := hs.keep (Keeps.of_below hb2)
  clear hb2
  have sc2 := sc
  have tb2 := tb
  obtain ⟨c0, cc1, cc2, c3⟩ := sc2
  obtain ⟨b0, b1, b2, b3, b4, b5⟩ := tb2
  dsimp only [List.length] at c0 cc1 cc2 c3 b0 b1 b2 b3 b4 b5
  go_wp2_with fail
  refine (sleeps_any ⟨⟨#[97]⟩, 100, 100, 1, 0, a1, c1, [⟨1, 3, 0⟩, ⟨3, 2, 0⟩]⟩ _ TL).mono ?_
  rintro e u2 ⟨rfl, hb2⟩
  clear c0 cc1 cc2 c3 b0 b1 b2 b3 b4 b5
  replace hb := hb.trans (hb2.mono hb.size)
  replace sc := sc.keep (Keeps.of_below hb2)
  replace tb := tb.keep (Keeps.of_below hb2)
  replace TL := TL.keep (Keeps.of_below hb2)
  replace hs := hs.keep (Keeps.of_below hb2)
  clear hb2
  have sc2 := sc
  have tb2 := tb
  obtain ⟨c0, cc1, cc2, c3⟩ := sc2
  obtain ⟨b0, b1, b2, b3, b4, b5⟩ := tb2
  dsimp only [List.length] at c0 cc1 cc2 c3 b0 b1 b2 b3 b4 b5
  go_wp2_with fail
  refine (longest_any ⟨⟨#[97]⟩, 100, 100, 1, 0, a1, c1, [⟨1, 3, 0⟩, ⟨3, 2, 0⟩]⟩ _ TL).mono ?_
  rintro e u3 ⟨rfl, hb2⟩
  clear c0 cc1 cc2 c3 b0 b1 b2 b3 b4 b5
  replace hb := hb.trans (hb2.mono hb.size)
  replace sc := sc.keep (Keeps.of_below hb2)
  replace tb := tb.keep (Keeps.of_below hb2)
  replace TL := TL.keep (Keeps.of_below hb2)
  replace hs := hs.keep (Keeps.of_below hb2)
  clear hb2
  have sc2 := sc
  have tb2 := tb
  obtain ⟨c0, cc1, cc2, c3⟩ := sc2
  obtain ⟨b0, b1, b2, b3, b4, b5⟩ := tb2
  dsimp only [List.length] at c0 cc1 cc2 c3 b0 b1 b2 b3 b4 b5
  go_wp2_with fail
  refine (at_any ⟨1, ca, cc, [1], ha, hc, [0], some ⟨g, off, none⟩, tc, [⟨⟨#[97]⟩, 100, 100, 1, 0, a1, c1, [⟨1, 3, 0⟩, ⟨3, 2, 0⟩]⟩, ⟨⟨#[98]⟩, 200, 200, 2, 0, a2, c2, [⟨1, 5, 0⟩, ⟨3, 7, 0⟩]⟩]⟩ 1 0 _ hs).mono ?_
  rintro e u4 ⟨rfl, hb2⟩
  clear c0 cc1 cc2 c3 b0 b1 b2 b3 b4 b5
  replace hb := hb.trans (hb2.mono hb.size)
  replace sc := sc.keep (Keeps.of_below hb2)
  replace tb := tb.keep (Keeps.of_below hb2)
  replace TL := TL.keep (Keeps.of_below hb2)
  replace hs := hs.keep (Keeps.of_below hb2)
  clear hb2
  have sc2 := sc
  have tb2 := tb
  obtain ⟨c0, cc1, cc2, c3⟩ := sc2
  obtain ⟨b0, b1, b2, b3, b4, b5⟩ := tb2
  dsimp only [List.length] at c0 cc1 cc2 c3 b0 b1 b2 b3 b4 b5
  go_wp2_with fail
  refine (most_any ⟨1, ca, cc, [1], ha, hc, [0], some ⟨g, off, none⟩, tc, [⟨⟨#[97]⟩, 100, 100, 1, 0, a1, c1, [⟨1, 3, 0⟩, ⟨3, 2, 0⟩]⟩, ⟨⟨#[98]⟩, 200, 200, 2, 0, a2, c2, [⟨1, 5, 0⟩, ⟨3, 7, 0⟩]⟩]⟩ 1 0 _ hs).mono ?_
  rintro e u5 ⟨rfl, hb2⟩
  clear c0 cc1 cc2 c3 b0 b1 b2 b3 b4 b5
  replace hb := hb.trans (hb2.mono hb.size)
  replace sc := sc.keep (Keeps.of_below hb2)
  replace tb := tb.keep (Keeps.of_below hb2)
  replace TL := TL.keep (Keeps.of_below hb2)
  replace hs := hs.keep (Keeps.of_below hb2)
  clear hb2
  have sc2 := sc
  have tb2 := tb
  obtain ⟨c0, cc1, cc2, c3⟩ := sc2
  obtain ⟨b0, b1, b2, b3, b4, b5⟩ := tb2
  dsimp only [List.length] at c0 cc1 cc2 c3 b0 b1 b2 b3 b4 b5
  go_wp2_with fail
  refine (at_any ⟨1, ca, cc, [1], ha, hc, [0], some ⟨g, off, none⟩, tc, [⟨⟨#[97]⟩, 100, 100, 1, 0, a1, c1, [⟨1, 3, 0⟩, ⟨3, 2, 0⟩]⟩, ⟨⟨#[98]⟩, 200, 200, 2, 0, a2, c2, [⟨1, 5, 0⟩, ⟨3, 7, 0⟩]⟩]⟩ 2 0 _ hs).mono ?_
  rintro e u6 ⟨rfl, hb2⟩
  clear c0 cc1 cc2 c3 b0 b1 b2 b3 b4 b5
  replace hb := hb.trans (hb2.mono hb.size)
  replace sc := sc.keep (Keeps.of_below hb2)
  replace tb := tb.keep (Keeps.of_below hb2)
  replace TL := TL.keep (Keeps.of_below hb2)
  replace hs := hs.keep (Keeps.of_below hb2)
  clear hb2
  have sc2 := sc
  have tb2 := tb
  obtain ⟨c0, cc1, cc2, c3⟩ := sc2
  obtain ⟨b0, b1, b2, b3, b4, b5⟩ := tb2
  dsimp only [List.length] at c0 cc1 cc2 c3 b0 b1 b2 b3 b4 b5
  go_wp2_with fail
  refine (cores_any ⟨1, ca, cc, [1], ha, hc, [0], some ⟨g, off, none⟩, tc, [⟨⟨#[97]⟩, 100, 100, 1, 0, a1, c1, [⟨1, 3, 0⟩, ⟨3, 2, 0⟩]⟩, ⟨⟨#[98]⟩, 200, 200, 2, 0, a2, c2, [⟨1, 5, 0⟩, ⟨3, 7, 0⟩]⟩]⟩ _ hs).mono ?_
  rintro e u7 ⟨rfl, hb2⟩
  clear c0 cc1 cc2 c3 b0 b1 b2 b3 b4 b5
  replace hb := hb.trans (hb2.mono hb.size)
  replace sc := sc.keep (Keeps.of_below hb2)
  replace tb := tb.keep (Keeps.of_below hb2)
  replace TL := TL.keep (Keeps.of_below hb2)
  replace hs := hs.keep (Keeps.of_below hb2)
  clear hb2
  have sc2 := sc
  have tb2 := tb
  obtain ⟨c0, cc1, cc2, c3⟩ := sc2
  obtain ⟨b0, b1, b2, b3, b4, b5⟩ := tb2
  dsimp only [List.length] at c0 cc1 cc2 c3 b0 b1 b2 b3 b4 b5
  go_wp2_with fail
  refine (askers_any ⟨1, ca, cc, [1], ha, hc, [0], some ⟨g, off, none⟩, tc, [⟨⟨#[97]⟩, 100, 100, 1, 0, a1, c1, [⟨1, 3, 0⟩, ⟨3, 2, 0⟩]⟩, ⟨⟨#[98]⟩, 200, 200, 2, 0, a2, c2, [⟨1, 5, 0⟩, ⟨3, 7, 0⟩]⟩]⟩ 0 _ hs).mono ?_
  rintro e u8 ⟨rfl, hb2⟩
  clear c0 cc1 cc2 c3 b0 b1 b2 b3 b4 b5
  replace hb := hb.trans (hb2.mono hb.size)
  replace sc := sc.keep (Keeps.of_below hb2)
  replace tb := tb.keep (Keeps.of_below hb2)
  replace TL := TL.keep (Keeps.of_below hb2)
  replace hs := hs.keep (Keeps.of_below hb2)
  clear hb2
  have sc2 := sc
  have tb2 := tb
  obtain ⟨c0, cc1, cc2, c3⟩ := sc2
  obtain ⟨b0, b1, b2, b3, b4, b5⟩ := tb2
  dsimp only [List.length] at c0 cc1 cc2 c3 b0 b1 b2 b3 b4 b5
  go_wp2_with fail
  go_ret
  exact ⟨rfl, hb⟩
end Go.Proofs.Ytigmbfleffpmeaa
