/- swingbridgelaw7.known is true. -/
import Derived.Test.YthokicikehemaaaDoorWdLines
import Derived.Test.YthokicikehemaaaDoorWdNum
import Derived.Test.YthokicikehemaaaDoorWdText
import Derived.Test.YthokicikehemaaaDoorDoorM
import Derived.Lib.SmallJoins
namespace Go.Proofs.YthokicikehemaaaDoor
open Go.ChangeShapes Go.WideShapes Go.ChangeAt Go.RowKit
set_option linter.unusedVariables false
set_option linter.unusedSimpArgs false
theorem strs_lit (w : World) (ls : List ByteArray) (T : TypeId) : StrsAt (w.alloc (.cells (ls.map Value.string).toArray T)) (some ⟨w.heap.size, 0, none⟩) ls :=
  .inr ⟨_, 0, rfl, fun i hi => by
    rw [Nat.zero_add, (Bk.new w T (ls.map Value.string).toArray).cell i]
    simp [List.getD, hi]⟩
theorem max_at {w w' : World} {m : Int} (h : w.cell? ⟨0, 0, none⟩ = some (.int .i64 m)) (hb : Below w.heap.size w w') : w'.cell? ⟨0, 0, none⟩ = some (.int .i64 m) := by rw [hb.cell (cell_lt h)]; exact h
theorem tab_at {w w' : World} (h : Lib.TabIs Tryd.prog w "internal/strconv.uint64pow10" .u64 Lib.pow10Tab) (hb : Below w.heap.size w w') : Lib.TabIs Tryd.prog w' "internal/strconv.uint64pow10" .u64 Lib.pow10Tab := Joins.tab_stays gPow h hb (Nat.le_refl _)
theorem qt_below {w w' : World} (h : Qt w w') : Below w.heap.size w w' := h.below (Below.refl _ _)
set_option maxHeartbeats 4000000 in
set_option maxRecDepth 100000 in
theorem known7_any (w : World) (m : Int) (hm : w.cell? ⟨0, 0, none⟩ = some (.int .i64 m)) (ht : Lib.TabIs Tryd.prog w "internal/strconv.uint64pow10" .u64 Lib.pow10Tab) : Calls Tryd.prog 8 #[] w fun e w' => e = .returned (.bool true) ∧ Below w.heap.size w w' := by
  have HM := hidp hm
  have HT := hidp ht
  clear hm ht
  go_enter Tryd.func8, Tryd.ntmps8
  go_wp2_with fail
  refine (num_any ⟨#[49, 50, 48]⟩ w (by decide)).mono ?_
  rintro e u ⟨rfl, rfl⟩
  rw [show numV ⟨#[49, 50, 48]⟩ = 120 by decide +kernel, show numOK ⟨#[49, 50, 48]⟩ = true by decide +kernel]
  go_wp2_with fail
  refine (num_any ⟨#[48, 49]⟩ w (by decide)).mono ?_
  rintro e u ⟨rfl, rfl⟩
  rw [show numV ⟨#[48, 49]⟩ = 0 by decide +kernel, show numOK ⟨#[48, 49]⟩ = false by decide +kernel]
  go_wp2_with fail
  refine (words_any ⟨#[97, 32, 32, 98, 32, 35, 32, 99]⟩ m w HM.out (by decide)).mono ?_
  rintro e w1 ⟨ls, h1, _, A, c, rfl, ho, hb1⟩
  have hls : ls = [⟨#[97]⟩, ⟨#[98]⟩] := map_bl_inj (h1.trans (by decide +kernel))
  subst hls
  have HB := hidp (hb1.alloc hb1.size (.cells #[.string ⟨#[97]⟩, .string ⟨#[98]⟩] 9))
  have S1 := hidp (strs_lit w1 [⟨#[97]⟩, ⟨#[98]⟩] 9)
  have S2 := hidp (ho.at_.below ((Below.refl _ w1).alloc (Nat.le_refl _) (.cells #[.string ⟨#[97]⟩, .string ⟨#[98]⟩] 9)))
  clear h1 ho hb1
  go_wp2_with fail
  refine (strs_same S2.out S1.out rfl rfl (by decide)).mono ?_
  rintro e w2 ⟨rfl, hq⟩
  replace HB := hidp (HB.out.trans ((qt_below hq).mono HB.out.size))
  clear hq S1 S2
  go_wp2_with fail
  refine (lines_any ⟨#[120, 10, 10, 121]⟩ m w2 (max_at HM.out HB.out) (by decide)).mono ?_
  rintro e w3 ⟨ls, h1, _, A, c, rfl, ho, _, _, _, hb1⟩
  have hls : ls = [⟨#[120]⟩, ⟨#[]⟩, ⟨#[121]⟩] := map_bl_inj (h1.trans (by decide +kernel))
  subst hls
  replace HB := hidp (HB.out.trans (hb1.mono HB.out.size))
  have HB2 := hidp (HB.out.alloc HB.out.size (.cells #[.string ⟨#[120]⟩, .string ⟨#[]⟩, .string ⟨#[121]⟩] 9))
  have S1 := hidp (strs_lit w3 [⟨#[120]⟩, ⟨#[]⟩, ⟨#[121]⟩] 9)
  have S2 := hidp (ho.below ((Below.refl _ w3).alloc (Nat.le_refl _) (.cells #[.string ⟨#[120]⟩, .string ⟨#[]⟩, .string ⟨#[121]⟩] 9)))
  clear h1 ho hb1 HB
  go_wp2_with fail
  refine (strs_same S2.out S1.out rfl rfl (by decide)).mono ?_
  rintro e w4 ⟨rfl, hq⟩
  have HB := hidp (HB2.out.trans ((qt_below hq).mono HB2.out.size))
  clear hq S1 S2 HB2
  go_wp2_with fail
  refine (name_any ⟨#[97, 49]⟩ w4 (by decide)).mono ?_
  rintro e u ⟨rfl, rfl⟩
  rw [show nameB ⟨#[97, 49]⟩ = true by decide +kernel]
  go_wp2_with fail
  refine (name_any ⟨#[49, 97]⟩ w4 (by decide)).mono ?_
  rintro e u ⟨rfl, rfl⟩
  rw [show nameB ⟨#[49, 97]⟩ = false by decide +kernel]
  go_wp2_with fail
  refine (text_any 120 w4 (by unfold I64; decide) (tab_at HT.out HB.out)).mono ?_
  rintro e w5 ⟨rfl, hb5⟩
  rw [show textV 120 = ⟨#[49, 50, 48]⟩ from bl_inj (by unfold textV; rw [if_neg (by decide)]; rw [bl_mk]; rw [Lib.decDigits, dif_neg (by decide), Lib.decDigits, dif_neg (by decide), Lib.decDigits, dif_pos (by decide)]; rfl)]
  replace HB := hidp (HB.out.trans (hb5.mono HB.out.size))
  clear hb5
  go_wp2_with fail
  refine (text_any (-1) w5 (by unfold I64; decide) (tab_at HT.out HB.out)).mono ?_
  rintro e w6 ⟨rfl, hb5⟩
  rw [textV_no (n := -1) (.inl (by decide))]
  replace HB := hidp (HB.out.trans (hb5.mono HB.out.size))
  clear hb5
  go_wp2_with fail
  go_ret
  exact ⟨rfl, HB.out⟩
end Go.Proofs.YthokicikehemaaaDoor
