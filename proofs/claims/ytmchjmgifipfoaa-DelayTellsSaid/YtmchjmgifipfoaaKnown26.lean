/- swingbridgelaw26's known answers are as known. -/
import Derived.Test.YtmchjmgifipfoaaTwo26
import Derived.Test.YtmchjmgifipfoaaDelay6
namespace Go.Proofs.Ytmchjmgifipfoaa
open Go.ChangeShapes Go.WideShapes Go.ChangeAt Go.RowKit
set_option linter.unusedVariables false

set_option maxHeartbeats 2000000 in
set_option maxRecDepth 100000 in
theorem known26_any (w : World) : Calls Try.prog 14 #[] w fun e w' => e = .returned (.bool true) ∧ Below w.heap.size w w' := by
  go_enter Try.func14, Try.ntmps14
  go_wp2_with fail
  refine (two26_any 1 1 2 1 2 _ (by decide) (by decide) (by decide) (by decide) (by decide)).mono ?_
  rintro e w1 ⟨⟨S, rfl, hs, hS⟩, hb⟩
  obtain ⟨g, hg⟩ : ∃ g, w1.heap.size = g := ⟨_, rfl⟩
  obtain ⟨v1, v2⟩ := k26_vals hS (some ⟨g + 1 + 1, 0, none⟩) (some ⟨g + 1 + 1 + 1, 0, none⟩)
  have V1 := hidp v1
  have V2 := hidp v2
  clear hS v1 v2
  have B0 : Bk (w1.alloc (.cells #[.int .i64 S.proto, .slice S.ca S.cores.length S.cc, .slice S.ha S.homes.length S.hc, .slice S.ta S.tasks.length S.tc] 26)) g 26 #[.int .i64 S.proto, .slice S.ca S.cores.length S.cc, .slice S.ha S.homes.length S.hc, .slice S.ta S.tasks.length S.tc] := Bk.at_ hg rfl
  replace hb := hb.alloc hb.size (.cells #[.int .i64 S.proto, .slice S.ca S.cores.length S.cc, .slice S.ha S.homes.length S.hc, .slice S.ta S.tasks.length S.tc] 26)
  replace hs := hs.keep (Keeps.alloc w1 (.cells #[.int .i64 S.proto, .slice S.ca S.cores.length S.cc, .slice S.ha S.homes.length S.hc, .slice S.ta S.tasks.length S.tc] 26))
  have B1 := Bk.at_ (w := w1.alloc (.cells #[.int .i64 S.proto, .slice S.ca S.cores.length S.cc, .slice S.ha S.homes.length S.hc, .slice S.ta S.tasks.length S.tc] 26)) (g := g + 1) (t := 35) (cs := #[.int .i64 0, .int .i64 1, .int .i64 3, .int .i64 5, .int .i64 8]) (by simp; omega) rfl
  replace B0 := B0.alloc (.cells #[.int .i64 0, .int .i64 1, .int .i64 3, .int .i64 5, .int .i64 8] 35)
  replace hb := hb.alloc hb.size (.cells #[.int .i64 0, .int .i64 1, .int .i64 3, .int .i64 5, .int .i64 8] 35)
  replace hs := hs.keep (Keeps.alloc _ (.cells #[.int .i64 0, .int .i64 1, .int .i64 3, .int .i64 5, .int .i64 8] 35))
  have B2 := Bk.at_ (w := ((w1.alloc (.cells #[.int .i64 S.proto, .slice S.ca S.cores.length S.cc, .slice S.ha S.homes.length S.hc, .slice S.ta S.tasks.length S.tc] 26)).alloc (.cells #[.int .i64 0, .int .i64 1, .int .i64 3, .int .i64 5, .int .i64 8] 35))) (g := g + 1 + 1) (t := 29) (cs := #[.int .i64 3, .int .i64 0, .int .i64 1, .bool false, .int .i64 4, .int .i64 0, .int .i64 1, .bool false]) (by simp; omega) rfl
  replace B0 := B0.alloc (.cells #[.int .i64 3, .int .i64 0, .int .i64 1, .bool false, .int .i64 4, .int .i64 0, .int .i64 1, .bool false] 29)
  replace B1 := B1.alloc (.cells #[.int .i64 3, .int .i64 0, .int .i64 1, .bool false, .int .i64 4, .int .i64 0, .int .i64 1, .bool false] 29)
  replace hb := hb.alloc hb.size (.cells #[.int .i64 3, .int .i64 0, .int .i64 1, .bool false, .int .i64 4, .int .i64 0, .int .i64 1, .bool false] 29)
  replace hs := hs.keep (Keeps.alloc _ (.cells #[.int .i64 3, .int .i64 0, .int .i64 1, .bool false, .int .i64 4, .int .i64 0, .int .i64 1, .bool false] 29))
  have B3 := Bk.at_ (w := (((w1.alloc (.cells #[.int .i64 S.proto, .slice S.ca S.cores.length S.cc, .slice S.ha S.homes.length S.hc, .slice S.ta S.tasks.length S.tc] 26)).alloc (.cells #[.int .i64 0, .int .i64 1, .int .i64 3, .int .i64 5, .int .i64 8] 35)).alloc (.cells #[.int .i64 3, .int .i64 0, .int .i64 1, .bool false, .int .i64 4, .int .i64 0, .int .i64 1, .bool false] 29))) (g := g + 1 + 1 + 1) (t := 35) (cs := #[.int .i64 1, .int .i64 1, .int .i64 1, .int .i64 2, .int .i64 5, .int .i64 0, .int .i64 1, .int .i64 3, .int .i64 5, .int .i64 8]) (by simp; omega) rfl
  replace B0 := B0.alloc (.cells #[.int .i64 1, .int .i64 1, .int .i64 1, .int .i64 2, .int .i64 5, .int .i64 0, .int .i64 1, .int .i64 3, .int .i64 5, .int .i64 8] 35)
  replace B1 := B1.alloc (.cells #[.int .i64 1, .int .i64 1, .int .i64 1, .int .i64 2, .int .i64 5, .int .i64 0, .int .i64 1, .int .i64 3, .int .i64 5, .int .i64 8] 35)
  replace B2 := B2.alloc (.cells #[.int .i64 1, .int .i64 1, .int .i64 1, .int .i64 2, .int .i64 5, .int .i64 0, .int .i64 1, .int .i64 3, .int .i64 5, .int .i64 8] 35)
  replace hb := hb.alloc hb.size (.cells #[.int .i64 1, .int .i64 1, .int .i64 1, .int .i64 2, .int .i64 5, .int .i64 0, .int .i64 1, .int .i64 3, .int .i64 5, .int .i64 8] 35)
  replace hs := hs.keep (Keeps.alloc _ (.cells #[.int .i64 1, .int .i64 1, .int .i64 1, .int .i64 2, .int .i64 5, .int .i64 0, .int .i64 1, .int .i64 3, .int .i64 5, .int .i64 8] 35))
  have B4 := Bk.at_ (w := ((((w1.alloc (.cells #[.int .i64 S.proto, .slice S.ca S.cores.length S.cc, .slice S.ha S.homes.length S.hc, .slice S.ta S.tasks.length S.tc] 26)).alloc (.cells #[.int .i64 0, .int .i64 1, .int .i64 3, .int .i64 5, .int .i64 8] 35)).alloc (.cells #[.int .i64 3, .int .i64 0, .int .i64 1, .bool false, .int .i64 4, .int .i64 0, .int .i64 1, .bool false] 29)).alloc (.cells #[.int .i64 1, .int .i64 1, .int .i64 1, .int .i64 2, .int .i64 5, .int .i64 0, .int .i64 1, .int .i64 3, .int .i64 5, .int .i64 8] 35))) (g := g + 1 + 1 + 1 + 1) (t := 38) (cs := #[.int .i64 9, .slice (some ⟨g + 1 + 1, 0, none⟩) 2 2, .slice none 0 0, .slice (some ⟨g + 1 + 1 + 1, 0, none⟩) 2 2]) (by simp; omega) rfl
  replace B0 := B0.alloc (.cells #[.int .i64 9, .slice (some ⟨g + 1 + 1, 0, none⟩) 2 2, .slice none 0 0, .slice (some ⟨g + 1 + 1 + 1, 0, none⟩) 2 2] 38)
  replace B1 := B1.alloc (.cells #[.int .i64 9, .slice (some ⟨g + 1 + 1, 0, none⟩) 2 2, .slice none 0 0, .slice (some ⟨g + 1 + 1 + 1, 0, none⟩) 2 2] 38)
  replace B2 := B2.alloc (.cells #[.int .i64 9, .slice (some ⟨g + 1 + 1, 0, none⟩) 2 2, .slice none 0 0, .slice (some ⟨g + 1 + 1 + 1, 0, none⟩) 2 2] 38)
  replace B3 := B3.alloc (.cells #[.int .i64 9, .slice (some ⟨g + 1 + 1, 0, none⟩) 2 2, .slice none 0 0, .slice (some ⟨g + 1 + 1 + 1, 0, none⟩) 2 2] 38)
  replace hb := hb.alloc hb.size (.cells #[.int .i64 9, .slice (some ⟨g + 1 + 1, 0, none⟩) 2 2, .slice none 0 0, .slice (some ⟨g + 1 + 1 + 1, 0, none⟩) 2 2] 38)
  replace hs := hs.keep (Keeps.alloc _ (.cells #[.int .i64 9, .slice (some ⟨g + 1 + 1, 0, none⟩) 2 2, .slice none 0 0, .slice (some ⟨g + 1 + 1 + 1, 0, none⟩) 2 2] 38))
  have HTr := hidp (k_trace (a := ⟨g + 1 + 1, 0, none⟩) (b := ⟨g + 1 + 1 + 1, 0, none⟩) (.inr ⟨_, _, rfl, fun i hi => by
    have hi : i < 2 := hi
    match i, hi with
    | 0, _ => exact ⟨B2.cell 0, B2.cell 1, B2.cell 2, B2.cell 3⟩
    | 1, _ => exact ⟨B2.cell 4, B2.cell 5, B2.cell 6, B2.cell 7⟩⟩) (.inr ⟨_, _, rfl, fun i hi => by
    have hi : i < 2 := hi
    match i, hi with
    | 0, _ => exact ⟨B3.cell 0, B3.cell 1, B3.cell 2, B3.cell 3, B3.cell 4⟩
    | 1, _ => exact ⟨B3.cell 5, B3.cell 6, B3.cell 7, B3.cell 8, B3.cell 9⟩⟩))
  clear B2 B3
  have s0 := B0.cell 0
  have s1 := B0.cell 1
  have s2 := B0.cell 2
  have s3 := B0.cell 3
  have x0 := B1.cell 0
  have x1 := B1.cell 1
  have x2 := B1.cell 2
  have x3 := B1.cell 3
  have x4 := B1.cell 4
  have t0 := B4.cell 0
  have t1 := B4.cell 1
  have t2 := B4.cell 2
  have t3 := B4.cell 3
  go_wp2_with fail
  refine (dwait_any ⟨0, 1, 3, 5, 8⟩ 5 _ (by decide)).mono ?_
  rintro e u ⟨rfl, hb2⟩
  replace hb := hb.trans (hb2.mono hb.size)
  replace hs := hs.keep (Keeps.of_below hb2)
  replace HTr := hidp (HTr.out.keep (Keeps.of_below hb2))
  replace B0 := B0.below hb2
  replace B1 := B1.below hb2
  replace B4 := B4.below hb2
  clear s0 s1 s2 s3 x0 x1 x2 x3 x4 t0 t1 t2 t3
  clear hb2
  clear hg
  have s0 := B0.cell 0
  have s1 := B0.cell 1
  have s2 := B0.cell 2
  have s3 := B0.cell 3
  have x0 := B1.cell 0
  have x1 := B1.cell 1
  have x2 := B1.cell 2
  have x3 := B1.cell 3
  have x4 := B1.cell 4
  have t0 := B4.cell 0
  have t1 := B4.cell 1
  have t2 := B4.cell 2
  have t3 := B4.cell 3
  go_wp2_with fail
  refine (dresp_any ⟨0, 2, 8⟩ 6 _ (by decide)).mono ?_
  rintro e u ⟨rfl, hb2⟩
  replace hb := hb.trans (hb2.mono hb.size)
  replace hs := hs.keep (Keeps.of_below hb2)
  replace HTr := hidp (HTr.out.keep (Keeps.of_below hb2))
  replace B0 := B0.below hb2
  replace B1 := B1.below hb2
  replace B4 := B4.below hb2
  clear s0 s1 s2 s3 x0 x1 x2 x3 x4 t0 t1 t2 t3
  clear hb2
  have s0 := B0.cell 0
  have s1 := B0.cell 1
  have s2 := B0.cell 2
  have s3 := B0.cell 3
  have x0 := B1.cell 0
  have x1 := B1.cell 1
  have x2 := B1.cell 2
  have x3 := B1.cell 3
  have x4 := B1.cell 4
  have t0 := B4.cell 0
  have t1 := B4.cell 1
  have t2 := B4.cell 2
  have t3 := B4.cell 3
  go_wp2_with fail
  refine (dpass_any S (kT (some ⟨g + 1 + 1, 0, none⟩) (some ⟨g + 1 + 1 + 1, 0, none⟩)) ⟨0, 1, 3, 5, 8⟩ _ hs HTr.out).mono ?_
  rintro e u ⟨rfl, hb2⟩
  rw [V1.out]
  replace hb := hb.trans (hb2.mono hb.size)
  replace hs := hs.keep (Keeps.of_below hb2)
  replace HTr := hidp (HTr.out.keep (Keeps.of_below hb2))
  replace B0 := B0.below hb2
  replace B1 := B1.below hb2
  replace B4 := B4.below hb2
  clear s0 s1 s2 s3 x0 x1 x2 x3 x4 t0 t1 t2 t3
  clear hb2
  have s0 := B0.cell 0
  have s1 := B0.cell 1
  have s2 := B0.cell 2
  have s3 := B0.cell 3
  have x0 := B1.cell 0
  have x1 := B1.cell 1
  have x2 := B1.cell 2
  have x3 := B1.cell 3
  have x4 := B1.cell 4
  have t0 := B4.cell 0
  have t1 := B4.cell 1
  have t2 := B4.cell 2
  have t3 := B4.cell 3
  go_wp2_with fail
  refine (dinv_any S (kT (some ⟨g + 1 + 1, 0, none⟩) (some ⟨g + 1 + 1 + 1, 0, none⟩)) ⟨0, 2, 8⟩ _ hs HTr.out (show 2 ≤ 1000 by decide)).mono ?_
  rintro e u ⟨rfl, hb2⟩
  rw [V2.out]
  replace hb := hb.trans (hb2.mono hb.size)
  replace hs := hs.keep (Keeps.of_below hb2)
  replace HTr := hidp (HTr.out.keep (Keeps.of_below hb2))
  replace B0 := B0.below hb2
  replace B1 := B1.below hb2
  replace B4 := B4.below hb2
  clear s0 s1 s2 s3 x0 x1 x2 x3 x4 t0 t1 t2 t3
  clear hb2
  go_wp2_with fail
  go_ret
  exact ⟨rfl, hb⟩
end Go.Proofs.Ytmchjmgifipfoaa
