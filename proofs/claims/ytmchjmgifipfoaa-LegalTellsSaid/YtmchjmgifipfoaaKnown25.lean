/- swingbridgelaw25's known answers are as known. Printed by tools/legal/known.py. -/
import Derived.Test.YtmchjmgifipfoaaTwo25
import Derived.Test.YtmchjmgifipfoaaLegKnow
import Derived.Test.YtmchjmgifipfoaaLegal6
import Derived.Deep.CutBlock
namespace Go.Proofs.Ytmchjmgifipfoaa
open Go.ChangeShapes Go.WideShapes Go.ChangeAt Go.RowKit
set_option linter.unusedVariables false
set_option linter.unusedSimpArgs false

set_option maxHeartbeats 4000000 in
set_option maxRecDepth 100000 in
theorem known25_any (w : World) : Calls Try.prog 9 #[] w fun e w' => e = .returned (.bool true) ∧ Below w.heap.size w w' := by
  have hb0 := (Below.refl w.heap.size w).alloc (Nat.le_refl _) (.cells #[.int .i64 3, .int .i64 2, .int .i64 0] 51)
  have P0 := Bk.new w 51 (ptc [⟨3, 2, 0⟩]).toArray
  go_enter Try.func9, Try.ntmps9
  go_wp2_with fail
  refine (one25_any 1 (some ⟨w.heap.size, 0, none⟩) 1 [⟨3, 2, 0⟩] _).mono ?_
  rintro e w1 ⟨⟨ca, ha, ta, cc, hc, tc, rfl, kc, kh, kt, n1, n2⟩, hb1⟩
  have P1 := P0.below (show Below (w.alloc _).heap.size _ w1 from hb1)
  have hb := hb0.trans (hb1.mono hb0.size)
  obtain ⟨a, ha'⟩ : ∃ a, (some ⟨w.heap.size, 0, none⟩ : Option Addr) = a := ⟨_, rfl⟩
  obtain ⟨c, hc'⟩ : ∃ c : Nat, c = 1 := ⟨_, rfl⟩
  have hs : SetOk w1 (k25S ca cc ha hc ta tc (some ⟨w.heap.size, 0, none⟩) 1) := ⟨by show I64 1; decide, kc, kh, ⟨kt.sl, kt.tasks, fun t ht => by
    have ht : t ∈ [_] := ht
    simp at ht
    subst ht
    exact ⟨by show 1 ≤ maxLen; decide, by show I64 100; decide, by show I64 100; decide, by show I64 1; decide, by show I64 0; decide, ⟨(fun e => by cases e), by show 1 ≤ 1; decide, by show 1 ≤ maxLen; decide⟩, parts_lit P1, by
      intro p hp
      have hp : p ∈ [_] := hp
      simp at hp
      subst hp; exact ⟨by decide, by decide, by decide⟩⟩⟩⟩
  rw [ha', ← hc'] at hs
  clear kc kh kt n1 n2 P0 P1 hb1 hb0 ha' hc'
  obtain ⟨g, hg⟩ : ∃ g, w1.heap.size = g := ⟨_, rfl⟩
  have V1 := hidp (k25_1 ca cc ha hc ta tc a c (some ⟨g + 1, 0, none⟩) (some ⟨g + 1 + 1, 0, none⟩) (some ⟨g + 1 + 1 + 1, 0, none⟩))
  have V2 := hidp (k25_2 ca cc ha hc ta tc a c (some ⟨g + 1, 0, none⟩) (some ⟨g + 1 + 1, 0, none⟩) (some ⟨g + 1 + 1 + 1, 0, none⟩))
  have V3 := hidp (k25_3 ca cc ha hc ta tc a c)
  have V4 := hidp k25_4
  have V5 := hidp (k25_5 ca cc ha hc ta tc a c (some ⟨g + 1, 0, none⟩) (some ⟨g + 1 + 1, 0, none⟩) (some ⟨g + 1 + 1 + 1, 0, none⟩))
  have V6 := hidp (k25_6 ca cc ha hc ta tc a c (some ⟨g + 1, 0, none⟩) (some ⟨g + 1 + 1, 0, none⟩) (some ⟨g + 1 + 1 + 1, 0, none⟩))
  have V7 := hidp (k25_7 (some ⟨g + 1, 0, none⟩) (some ⟨g + 1 + 1, 0, none⟩) (some ⟨g + 1 + 1 + 1, 0, none⟩))
  have B0 : Bk (w1.alloc (.cells #[.int .i64 1, .slice ca 1 cc, .slice ha 1 hc, .slice ta 1 tc] 26)) g 26 #[.int .i64 1, .slice ca 1 cc, .slice ha 1 hc, .slice ta 1 tc] := Bk.at_ hg rfl
  replace hb := hb.alloc hb.size (.cells #[.int .i64 1, .slice ca 1 cc, .slice ha 1 hc, .slice ta 1 tc] 26)
  replace hs := hs.keep (Keeps.alloc _ (.cells #[.int .i64 1, .slice ca 1 cc, .slice ha 1 hc, .slice ta 1 tc] 26))
  have B1 := Bk.at_ (w := (w1.alloc (.cells #[.int .i64 1, .slice ca 1 cc, .slice ha 1 hc, .slice ta 1 tc] 26))) (g := g + 1) (t := 29) (cs := #[.int .i64 1, .int .i64 0, .int .i64 0, .bool true, .int .i64 2, .int .i64 0, .int .i64 0, .bool true]) (by simp; omega) rfl
  replace B0 := B0.alloc (.cells #[.int .i64 1, .int .i64 0, .int .i64 0, .bool true, .int .i64 2, .int .i64 0, .int .i64 0, .bool true] 29)
  replace hb := hb.alloc hb.size (.cells #[.int .i64 1, .int .i64 0, .int .i64 0, .bool true, .int .i64 2, .int .i64 0, .int .i64 0, .bool true] 29)
  replace hs := hs.keep (Keeps.alloc _ (.cells #[.int .i64 1, .int .i64 0, .int .i64 0, .bool true, .int .i64 2, .int .i64 0, .int .i64 0, .bool true] 29))
  have B2 := Bk.at_ (w := ((w1.alloc (.cells #[.int .i64 1, .slice ca 1 cc, .slice ha 1 hc, .slice ta 1 tc] 26)).alloc (.cells #[.int .i64 1, .int .i64 0, .int .i64 0, .bool true, .int .i64 2, .int .i64 0, .int .i64 0, .bool true] 29))) (g := g + 1 + 1) (t := 32) (cs := #[.int .i64 0, .int .i64 1, .int .i64 3]) (by simp; omega) rfl
  replace B0 := B0.alloc (.cells #[.int .i64 0, .int .i64 1, .int .i64 3] 32)
  replace B1 := B1.alloc (.cells #[.int .i64 0, .int .i64 1, .int .i64 3] 32)
  replace hb := hb.alloc hb.size (.cells #[.int .i64 0, .int .i64 1, .int .i64 3] 32)
  replace hs := hs.keep (Keeps.alloc _ (.cells #[.int .i64 0, .int .i64 1, .int .i64 3] 32))
  have B3 := Bk.at_ (w := (((w1.alloc (.cells #[.int .i64 1, .slice ca 1 cc, .slice ha 1 hc, .slice ta 1 tc] 26)).alloc (.cells #[.int .i64 1, .int .i64 0, .int .i64 0, .bool true, .int .i64 2, .int .i64 0, .int .i64 0, .bool true] 29)).alloc (.cells #[.int .i64 0, .int .i64 1, .int .i64 3] 32))) (g := g + 1 + 1 + 1) (t := 35) (cs := #[.int .i64 0, .int .i64 0, .int .i64 1, .int .i64 1, .int .i64 3]) (by simp; omega) rfl
  replace B0 := B0.alloc (.cells #[.int .i64 0, .int .i64 0, .int .i64 1, .int .i64 1, .int .i64 3] 35)
  replace B1 := B1.alloc (.cells #[.int .i64 0, .int .i64 0, .int .i64 1, .int .i64 1, .int .i64 3] 35)
  replace B2 := B2.alloc (.cells #[.int .i64 0, .int .i64 0, .int .i64 1, .int .i64 1, .int .i64 3] 35)
  replace hb := hb.alloc hb.size (.cells #[.int .i64 0, .int .i64 0, .int .i64 1, .int .i64 1, .int .i64 3] 35)
  replace hs := hs.keep (Keeps.alloc _ (.cells #[.int .i64 0, .int .i64 0, .int .i64 1, .int .i64 1, .int .i64 3] 35))
  have B4 := Bk.at_ (w := ((((w1.alloc (.cells #[.int .i64 1, .slice ca 1 cc, .slice ha 1 hc, .slice ta 1 tc] 26)).alloc (.cells #[.int .i64 1, .int .i64 0, .int .i64 0, .bool true, .int .i64 2, .int .i64 0, .int .i64 0, .bool true] 29)).alloc (.cells #[.int .i64 0, .int .i64 1, .int .i64 3] 32)).alloc (.cells #[.int .i64 0, .int .i64 0, .int .i64 1, .int .i64 1, .int .i64 3] 35))) (g := g + 1 + 1 + 1 + 1) (t := 38) (cs := #[.int .i64 5, .slice (some ⟨g + 1, 0, none⟩) 2 2, .slice (some ⟨g + 1 + 1, 0, none⟩) 1 1, .slice (some ⟨g + 1 + 1 + 1, 0, none⟩) 1 1]) (by simp; omega) rfl
  replace B0 := B0.alloc (.cells #[.int .i64 5, .slice (some ⟨g + 1, 0, none⟩) 2 2, .slice (some ⟨g + 1 + 1, 0, none⟩) 1 1, .slice (some ⟨g + 1 + 1 + 1, 0, none⟩) 1 1] 38)
  replace B1 := B1.alloc (.cells #[.int .i64 5, .slice (some ⟨g + 1, 0, none⟩) 2 2, .slice (some ⟨g + 1 + 1, 0, none⟩) 1 1, .slice (some ⟨g + 1 + 1 + 1, 0, none⟩) 1 1] 38)
  replace B2 := B2.alloc (.cells #[.int .i64 5, .slice (some ⟨g + 1, 0, none⟩) 2 2, .slice (some ⟨g + 1 + 1, 0, none⟩) 1 1, .slice (some ⟨g + 1 + 1 + 1, 0, none⟩) 1 1] 38)
  replace B3 := B3.alloc (.cells #[.int .i64 5, .slice (some ⟨g + 1, 0, none⟩) 2 2, .slice (some ⟨g + 1 + 1, 0, none⟩) 1 1, .slice (some ⟨g + 1 + 1 + 1, 0, none⟩) 1 1] 38)
  replace hb := hb.alloc hb.size (.cells #[.int .i64 5, .slice (some ⟨g + 1, 0, none⟩) 2 2, .slice (some ⟨g + 1 + 1, 0, none⟩) 1 1, .slice (some ⟨g + 1 + 1 + 1, 0, none⟩) 1 1] 38)
  replace hs := hs.keep (Keeps.alloc _ (.cells #[.int .i64 5, .slice (some ⟨g + 1, 0, none⟩) 2 2, .slice (some ⟨g + 1 + 1, 0, none⟩) 1 1, .slice (some ⟨g + 1 + 1 + 1, 0, none⟩) 1 1] 38))
  have HTr := hidp (k25T_ok (tk := 5) (sa := ⟨g + 1, 0, none⟩) (ja := ⟨g + 1 + 1, 0, none⟩) (wa := ⟨g + 1 + 1 + 1, 0, none⟩) (by decide) (.inr ⟨_, _, rfl, fun i hi => by
    have hi : i < 2 := hi
    match i, hi with
    | 0, _ => exact ⟨B1.cell 0, B1.cell 1, B1.cell 2, B1.cell 3⟩
    | 1, _ => exact ⟨B1.cell 4, B1.cell 5, B1.cell 6, B1.cell 7⟩⟩) (.inr ⟨_, _, rfl, fun i hi => by
    have hi : i < 1 := hi
    match i, hi with
    | 0, _ => exact ⟨B2.cell 0, B2.cell 1, B2.cell 2⟩⟩) (.inr ⟨_, _, rfl, fun i hi => by
    have hi : i < 1 := hi
    match i, hi with
    | 0, _ => exact ⟨B3.cell 0, B3.cell 1, B3.cell 2, B3.cell 3, B3.cell 4⟩⟩))
  have HT2 := hidp (k25T_ok (tk := 2) (by decide) HTr.out.slots HTr.out.jobs HTr.out.waits)
  clear B1 B2 B3
  have s0 := B0.cell 0
  have s1 := B0.cell 1
  have s2 := B0.cell 2
  have s3 := B0.cell 3
  have t0 := B4.cell 0
  have t1 := B4.cell 1
  have t2 := B4.cell 2
  have t3 := B4.cell 3
  go_wp2_with fail
  refine (lholder_any (k25S ca cc ha hc ta tc a c) (k25T 5 (some ⟨g + 1, 0, none⟩) (some ⟨g + 1 + 1, 0, none⟩) (some ⟨g + 1 + 1 + 1, 0, none⟩)) 2 0 _ hs HTr.out).mono ?_
  rintro e u ⟨rfl, hb2⟩
  rw [V5.out.1, V5.out.2]
  replace hb := hb.trans (hb2.mono hb.size)
  replace hs := hs.keep (Keeps.of_below hb2)
  replace HTr := hidp (HTr.out.keep (Keeps.of_below hb2))
  replace HT2 := hidp (HT2.out.keep (Keeps.of_below hb2))
  replace B0 := B0.below hb2
  replace B4 := B4.below hb2
  clear s0 s1 s2 s3 t0 t1 t2 t3
  clear hb2
  clear hg
  have s0 := B0.cell 0
  have s1 := B0.cell 1
  have s2 := B0.cell 2
  have s3 := B0.cell 3
  have t0 := B4.cell 0
  have t1 := B4.cell 1
  have t2 := B4.cell 2
  have t3 := B4.cell 3
  go_wp2_with fail
  refine (lholder_any (k25S ca cc ha hc ta tc a c) (k25T 5 (some ⟨g + 1, 0, none⟩) (some ⟨g + 1 + 1, 0, none⟩) (some ⟨g + 1 + 1 + 1, 0, none⟩)) 3 0 _ hs HTr.out).mono ?_
  rintro e u ⟨rfl, hb2⟩
  rw [V6.out.1, V6.out.2]
  replace hb := hb.trans (hb2.mono hb.size)
  replace hs := hs.keep (Keeps.of_below hb2)
  replace HTr := hidp (HTr.out.keep (Keeps.of_below hb2))
  replace HT2 := hidp (HT2.out.keep (Keeps.of_below hb2))
  replace B0 := B0.below hb2
  replace B4 := B4.below hb2
  clear s0 s1 s2 s3 t0 t1 t2 t3
  clear hb2
  have s0 := B0.cell 0
  have s1 := B0.cell 1
  have s2 := B0.cell 2
  have s3 := B0.cell 3
  have t0 := B4.cell 0
  have t1 := B4.cell 1
  have t2 := B4.cell 2
  have t3 := B4.cell 3
  go_wp2_with fail
  have CB := lbusy_any (k25T 5 (some ⟨g + 1, 0, none⟩) (some ⟨g + 1 + 1, 0, none⟩) (some ⟨g + 1 + 1 + 1, 0, none⟩)) 2 0 _ HTr.out (by show 2 ≤ 1000; decide)
  rw [V7.out] at CB
  refine CB.mono ?_
  rintro e u ⟨⟨A, ac, rfl, ho⟩, hb2⟩
  clear CB ho
  replace hb := hb.trans (hb2.mono hb.size)
  replace hs := hs.keep (Keeps.of_below hb2)
  replace HTr := hidp (HTr.out.keep (Keeps.of_below hb2))
  replace HT2 := hidp (HT2.out.keep (Keeps.of_below hb2))
  replace B0 := B0.below hb2
  replace B4 := B4.below hb2
  clear s0 s1 s2 s3 t0 t1 t2 t3
  clear hb2
  have s0 := B0.cell 0
  have s1 := B0.cell 1
  have s2 := B0.cell 2
  have s3 := B0.cell 3
  have t0 := B4.cell 0
  have t1 := B4.cell 1
  have t2 := B4.cell 2
  have t3 := B4.cell 3
  have B8 := Bk.new u 38 #[.int .i64 2, .slice (some ⟨g + 1, 0, none⟩) 2 2, .slice (some ⟨g + 1 + 1, 0, none⟩) 1 1, .slice (some ⟨g + 1 + 1 + 1, 0, none⟩) 1 1]
  replace B0 := B0.alloc (.cells #[.int .i64 2, .slice (some ⟨g + 1, 0, none⟩) 2 2, .slice (some ⟨g + 1 + 1, 0, none⟩) 1 1, .slice (some ⟨g + 1 + 1 + 1, 0, none⟩) 1 1] 38)
  replace B4 := B4.alloc (.cells #[.int .i64 2, .slice (some ⟨g + 1, 0, none⟩) 2 2, .slice (some ⟨g + 1 + 1, 0, none⟩) 1 1, .slice (some ⟨g + 1 + 1 + 1, 0, none⟩) 1 1] 38)
  replace hb := hb.alloc hb.size (.cells #[.int .i64 2, .slice (some ⟨g + 1, 0, none⟩) 2 2, .slice (some ⟨g + 1 + 1, 0, none⟩) 1 1, .slice (some ⟨g + 1 + 1 + 1, 0, none⟩) 1 1] 38)
  replace hs := hs.keep (Keeps.alloc _ (.cells #[.int .i64 2, .slice (some ⟨g + 1, 0, none⟩) 2 2, .slice (some ⟨g + 1 + 1, 0, none⟩) 1 1, .slice (some ⟨g + 1 + 1 + 1, 0, none⟩) 1 1] 38))
  replace HTr := hidp (HTr.out.keep (Keeps.alloc _ (.cells #[.int .i64 2, .slice (some ⟨g + 1, 0, none⟩) 2 2, .slice (some ⟨g + 1 + 1, 0, none⟩) 1 1, .slice (some ⟨g + 1 + 1 + 1, 0, none⟩) 1 1] 38)))
  replace HT2 := hidp (HT2.out.keep (Keeps.alloc _ (.cells #[.int .i64 2, .slice (some ⟨g + 1, 0, none⟩) 2 2, .slice (some ⟨g + 1 + 1, 0, none⟩) 1 1, .slice (some ⟨g + 1 + 1 + 1, 0, none⟩) 1 1] 38)))
  go_upto_region 8 with fail
  obtain ⟨v, hv⟩ : ∃ v, u.alloc (.cells #[.int .i64 2, .slice (some ⟨g + 1, 0, none⟩) 2 2, .slice (some ⟨g + 1 + 1, 0, none⟩) 1 1, .slice (some ⟨g + 1 + 1 + 1, 0, none⟩) 1 1] 38) = v := ⟨_, rfl⟩
  rw [hv] at B8 B0 B4 hb hs ⊢
  have HTr := hv ▸ HTr
  have HT2 := hv ▸ HT2
  obtain ⟨z, hz⟩ : ∃ z, u.heap.size = z := ⟨_, rfl⟩
  rw [hz] at B8 ⊢
  clear hv hz
  clear s0 s1 s2 s3 t0 t1 t2 t3
  have s0 := B0.cell 0
  have s1 := B0.cell 1
  have s2 := B0.cell 2
  have s3 := B0.cell 3
  have t0 := B4.cell 0
  have t1 := B4.cell 1
  have t2 := B4.cell 2
  have t3 := B4.cell 3
  have r0 := B8.cell 0
  have r1 := B8.cell 1
  have r2 := B8.cell 2
  have r3 := B8.cell 3
  go_wp2_with fail
  refine (lcheck_any (k25S ca cc ha hc ta tc a c) (k25T 5 (some ⟨g + 1, 0, none⟩) (some ⟨g + 1 + 1, 0, none⟩) (some ⟨g + 1 + 1 + 1, 0, none⟩)) _ hs HTr.out).mono ?_
  rintro e u1 ⟨rfl, hb2⟩
  rw [V1.out]
  replace hb := hb.trans (hb2.mono hb.size)
  replace hs := hs.keep (Keeps.of_below hb2)
  replace HTr := hidp (HTr.out.keep (Keeps.of_below hb2))
  replace HT2 := hidp (HT2.out.keep (Keeps.of_below hb2))
  replace B0 := B0.below hb2
  replace B4 := B4.below hb2
  replace B8 := B8.below hb2
  clear s0 s1 s2 s3 t0 t1 t2 t3 r0 r1 r2 r3
  clear hb2
  have s0 := B0.cell 0
  have s1 := B0.cell 1
  have s2 := B0.cell 2
  have s3 := B0.cell 3
  have t0 := B4.cell 0
  have t1 := B4.cell 1
  have t2 := B4.cell 2
  have t3 := B4.cell 3
  have r0 := B8.cell 0
  have r1 := B8.cell 1
  have r2 := B8.cell 2
  have r3 := B8.cell 3
  go_wp2_with fail
  refine (lcheck_any (k25S ca cc ha hc ta tc a c) (k25T 2 (some ⟨g + 1, 0, none⟩) (some ⟨g + 1 + 1, 0, none⟩) (some ⟨g + 1 + 1 + 1, 0, none⟩)) _ hs HT2.out).mono ?_
  rintro e u1 ⟨rfl, hb2⟩
  rw [V2.out]
  replace hb := hb.trans (hb2.mono hb.size)
  replace hs := hs.keep (Keeps.of_below hb2)
  replace HTr := hidp (HTr.out.keep (Keeps.of_below hb2))
  replace HT2 := hidp (HT2.out.keep (Keeps.of_below hb2))
  replace B0 := B0.below hb2
  replace B4 := B4.below hb2
  replace B8 := B8.below hb2
  clear s0 s1 s2 s3 t0 t1 t2 t3 r0 r1 r2 r3
  clear hb2
  have s0 := B0.cell 0
  have s1 := B0.cell 1
  have s2 := B0.cell 2
  have s3 := B0.cell 3
  have t0 := B4.cell 0
  have t1 := B4.cell 1
  have t2 := B4.cell 2
  have t3 := B4.cell 3
  have r0 := B8.cell 0
  have r1 := B8.cell 1
  have r2 := B8.cell 2
  have r3 := B8.cell 3
  go_wp2_with fail
  refine (lcheck_any (k25S ca cc ha hc ta tc a c) noT _ hs (noT_ok _)).mono ?_
  rintro e u1 ⟨rfl, hb2⟩
  rw [V3.out]
  replace hb := hb.trans (hb2.mono hb.size)
  replace hs := hs.keep (Keeps.of_below hb2)
  replace HTr := hidp (HTr.out.keep (Keeps.of_below hb2))
  replace HT2 := hidp (HT2.out.keep (Keeps.of_below hb2))
  replace B0 := B0.below hb2
  replace B4 := B4.below hb2
  replace B8 := B8.below hb2
  clear s0 s1 s2 s3 t0 t1 t2 t3 r0 r1 r2 r3
  clear hb2
  have s0 := B0.cell 0
  have s1 := B0.cell 1
  have s2 := B0.cell 2
  have s3 := B0.cell 3
  have t0 := B4.cell 0
  have t1 := B4.cell 1
  have t2 := B4.cell 2
  have t3 := B4.cell 3
  have r0 := B8.cell 0
  have r1 := B8.cell 1
  have r2 := B8.cell 2
  have r3 := B8.cell 3
  go_wp2_with fail
  refine (lcheck_any noS noT _ (noS_ok _) (noT_ok _)).mono ?_
  rintro e u1 ⟨rfl, hb2⟩
  rw [V4.out]
  replace hb := hb.trans (hb2.mono hb.size)
  clear hb2
  go_wp2_with fail
  go_ret
  exact ⟨rfl, hb⟩
end Go.Proofs.Ytmchjmgifipfoaa
