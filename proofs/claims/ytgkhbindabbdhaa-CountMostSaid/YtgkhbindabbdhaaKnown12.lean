/- swingbridgelaw12's known answers are as known. -/
import Derived.Test.YtgkhbindabbdhaaCount
namespace Go.Proofs.Ytgkhbindabbdhaa
open Go.ChangeShapes Go.WideShapes Go.ChangeAt Go.RowKit
set_option linter.unusedVariables false
theorem known12_any (w : World) : Calls Try.prog 8 #[] w fun e w' => e = .returned (.bool true) ∧ Qt w w' := by
  have a1 : jobV 10 3 5 = 3 := by decide
  have a2 : jobV 0 3 5 = 0 := by decide
  have a3 : jobV 1 0 5 = 1 := by decide
  have a4 : workV 10 3 5 4 = 12 := by decide
  have a5 : workV 10 3 5 (-1) = 0 := by decide
  go_enter Try.func8, Try.ntmps8
  go_wp2_with fail
  refine (jobs_any _ _ _ _ (by decide) (by decide) (by decide)).mono ?_
  rintro e w1 ⟨rfl, h1⟩
  go_wp2_with fail
  refine (jobs_any _ _ _ _ (by decide) (by decide) (by decide)).mono ?_
  rintro e w2 ⟨rfl, h2⟩
  go_wp2_with fail
  refine (jobs_any _ _ _ _ (by decide) (by decide) (by decide)).mono ?_
  rintro e w3 ⟨rfl, h3⟩
  go_wp2_with fail
  refine (work_any _ _ _ _ _ (by decide) (by decide) (by decide) (by decide)).mono ?_
  rintro e w4 ⟨rfl, h4⟩
  go_wp2_with fail
  refine (work_any _ _ _ _ _ (by decide) (by decide) (by decide) (by decide)).mono ?_
  rintro e w5 ⟨rfl, h5⟩
  go_wp2_with fail
  go_ret
  exact ⟨rfl, (((h1.trans h2).trans h3).trans h4).trans h5⟩
end Go.Proofs.Ytgkhbindabbdhaa
