/- swingbridgelaw20's known answers are as known. -/
import Derived.Test.YtbnncaljekifdaaTape
namespace Go.Proofs.Ytbnncaljekifdaa
open Go.ChangeShapes Go.WideShapes Go.ChangeAt Go.RowKit
set_option linter.unusedVariables false

theorem known20_any (w : World) : Calls Try.prog 12 #[] w fun e w' => e = .returned (.bool true) ∧ Below w.heap.size w w' := by
  have hr := RdB.two w 7 2
  go_enter Try.func12, Try.ntmps12
  go_wp2_with fail
  refine (tnew_any (hr _ (by decide) (by decide)) (by decide)).mono ?_
  rintro e w1 ⟨b, F, rfl, h, u⟩
  replace u := Up.since (W := w) ((Below.refl _ _).alloc (Nat.le_refl _) _) u
  clear hr
  go_wp2_with fail
  refine (tnew_any (RdB.none_ _) (by decide)).mono ?_
  rintro e w2 ⟨b2, F2, rfl, h2, u2⟩
  have A12 := h.new u2
  replace h := h.over u2.below
  have U := u.over u2.below
  have U2 := Up.since (W := w) u.below u2
  clear u u2
  go_wp2_with fail
  refine (tpick_any (lo := 1) (hi := 5) h (by decide) (by decide) (by decide)).mono ?_
  rw [show pickV [7, 2] 0 1 5 = 3 by simp [pickV, pickI, spanV, clipV, wrap64], show usedV 0 1 5 = 1 by decide]
  rintro e w3 ⟨rfl, h3, t3⟩
  replace h2 := h2.keep t3 h.head A12
  have U3 := U.turned t3 (fun k hk => by simp at hk; subst hk; exact h.head)
  have V3 := U2.blocks
  clear U U2 h t3
  go_wp2_with fail
  refine (tcopy_any h3 (by decide)).mono ?_
  rintro e w4 ⟨b4, F4, rfl, h4, u4⟩
  have A14 := h3.new u4
  have A24 := h2.new u4
  replace h3 := h3.over u4.below
  replace h2 := h2.over u4.below
  have U4 := U3.over u4.below
  have V4 := (Up.since U3.below u4).blocks
  clear U3 u4
  go_wp2_with fail
  refine (tpick_any (lo := 0) (hi := 1) h3 (by decide) (by decide) (by decide)).mono ?_
  rw [show pickV [7, 2] 1 0 1 = 0 by simp [pickV, pickI, spanV, clipV, wrap64], show usedV 1 0 1 = 2 by decide]
  rintro e w5 ⟨rfl, h5, t5⟩
  replace h2 := h2.keep t5 h3.head A12
  replace h4 := h4.keep t5 h3.head A14
  have U5 := U4.turned t5 (fun k hk => by simp at hk; subst hk; exact h3.head)
  clear U4 h3 t5
  go_wp2_with fail
  refine (tpick_any (lo := 0) (hi := 9) h5 (by decide) (by decide) (by decide)).mono ?_
  rw [show pickV [7, 2] 2 0 9 = 7 by simp [pickV, pickI, spanV, clipV, wrap64], show usedV 2 0 9 = 3 by decide]
  rintro e w6 ⟨rfl, h6, t6⟩
  replace h2 := h2.keep t6 h5.head A12
  replace h4 := h4.keep t6 h5.head A14
  have U6 := U5.turned t6 (fun k hk => by simp at hk; subst hk; exact h5.head)
  clear U5 h5 t6
  go_wp2_with fail
  refine (tused_any h6).mono ?_
  rintro e w' ⟨rfl, rfl⟩
  go_wp2_with fail
  refine (tused_any h4).mono ?_
  rintro e w' ⟨rfl, rfl⟩
  go_wp2_with fail
  refine (tpick_any (lo := 0) (hi := 9) h4 (by decide) (by decide) (by decide)).mono ?_
  rw [show pickV [7, 2] 1 0 9 = 2 by simp [pickV, pickI, spanV, clipV, wrap64], show usedV 1 0 9 = 2 by decide]
  rintro e w7 ⟨rfl, h7, t7⟩
  replace h2 := h2.keep t7 h4.head A24.symm
  replace h6 := h6.keep t7 h4.head A14.symm
  have U7 : Up w.heap.size w w7 F := ⟨U6.below.trans (t7.below U6.below.size (fun k hk => by simp at hk; subst hk; exact V4 _ h4.head)), U6.blocks, Nat.le_refl _⟩
  clear U6 h4 h7 t7 V4
  go_wp2_with fail
  refine (tpick_any (lo := 4) (hi := 4) h6 (by decide) (by decide) (by decide)).mono ?_
  rw [show pickV [7, 2] 3 4 4 = 4 by simp [pickV], show usedV 3 4 4 = 3 by decide]
  rintro e w8 ⟨rfl, h8, t8⟩
  replace h2 := h2.keep t8 h6.head A12
  have U8 := U7.turned t8 (fun k hk => by simp at hk; subst hk; exact h6.head)
  clear U7 h6 t8
  go_wp2_with fail
  refine (tused_any h8).mono ?_
  rintro e w' ⟨rfl, rfl⟩
  go_wp2_with fail
  refine (tpick_any (lo := 2) (hi := 8) h2 (by decide) (by decide) (by decide)).mono ?_
  rw [show pickV [] 0 2 8 = 8 by decide, show usedV 0 2 8 = 1 by decide]
  rintro e w9 ⟨rfl, h9, t9⟩
  have U9 : Below w.heap.size w w9 := U8.below.trans (t9.below U8.below.size (fun k hk => by simp at hk; subst hk; exact V3 _ h2.head))
  clear U8 h2 t9
  go_wp2_with fail
  refine (tused_any h9).mono ?_
  rintro e w' ⟨rfl, rfl⟩
  go_wp2_with fail
  go_ret
  exact ⟨rfl, U9⟩
end Go.Proofs.Ytbnncaljekifdaa
