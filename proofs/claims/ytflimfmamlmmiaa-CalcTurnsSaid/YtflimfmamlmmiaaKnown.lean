/- swingbridgelaw1's known answers are as known. -/
import Derived.Test.YtflimfmamlmmiaaSum
namespace Go.Proofs.Ytflimfmamlmmiaa
open Go.ChangeShapes Go.WideShapes Go.ChangeAt Go.RowKit
set_option linter.unusedVariables false

theorem row3 (w : World) (b : Nat) (k : IntKind) (x y z : Int) (T : TypeId) (hb : b = w.heap.size) : Row (w.alloc (.cells #[.int k x, .int k y, .int k z] T)) k (some ⟨b, 0, none⟩) [x, y, z] := by
  subst hb
  refine .inr ⟨_, 0, rfl, fun j hj => ?_⟩
  match j, hj with
  | 0, _ => simp
  | 1, _ => simp
  | 2, _ => simp

theorem known_any (w : World) : Calls Try.prog 10 #[] w fun e w' => e = .returned (.bool true) ∧ Below w.heap.size w w' := by
  have a1 : fitR 9223372036854775808 = 0 := by decide
  have a2 : fitK 9223372036854775808 = false := by decide
  have c1 : upR 7 2 = 4 := by decide
  have c2 : upK 7 2 = true := by decide
  have d1 : upR (-7) 2 = -3 := by decide
  have d2 : upK (-7) 2 = true := by decide
  have e1 : fitR (tot [9223372036854775807, 1, -1]) = 9223372036854775807 := by decide
  have e2 : fitK (tot [9223372036854775807, 1, -1]) = true := by decide
  have f1 : clipV 5 7 9 = 7 := by decide
  have f2 : clipV 5 1 3 = 3 := by decide
  go_enter Try.func10, Try.ntmps10
  go_wp2_with (first | (go_at_call 11; refine (add_any _ _ _ ?_ ?_).mono ?_; (decide); (decide); rintro e w' ⟨rfl, rfl⟩) | (go_at_call 12; refine (mul_any _ _ _ ?_ ?_).mono ?_; (decide); (decide); rintro e w' ⟨rfl, rfl⟩) | (go_at_call 13; refine (up_any _ _ _ ?_ ?_).mono ?_; (decide); (decide); rintro e w' ⟨rfl, _, rfl⟩) | (go_at_call 19; refine (sum_any _ _ [9223372036854775807, 1, -1] _ ?_ ?_ ?_).mono ?_; (exact row3 _ _ _ _ _ _ _ rfl); (decide); (decide); rintro e w' ⟨rfl, rfl⟩) | (go_at_call 17; refine (clip_any _ _ _ _).mono ?_; rintro e w' ⟨rfl, rfl⟩))
  go_ret
  exact ⟨rfl, (below_drewN (Below.refl _ _) _).alloc (by simp) _⟩
end Go.Proofs.Ytflimfmamlmmiaa
