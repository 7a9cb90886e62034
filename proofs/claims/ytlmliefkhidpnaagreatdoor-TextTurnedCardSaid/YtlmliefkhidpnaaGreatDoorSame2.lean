/- slices.Equal of parts. -/
import Derived.Test.YtlmliefkhidpnaaGreatDoorSame1
namespace Go.Proofs.YtlmliefkhidpnaaGreatDoor
open Go.ChangeShapes Go.WideShapes Go.ChangeAt Go.RowKit
set_option linter.unusedVariables false
deriving instance DecidableEq for PartM
theorem ext_getP {α : Type} [Inhabited α] {xs ys : List α} {n : Nat} (h1 : xs.length = n) (h2 : ys.length = n) (h : ∀ j, j < n → xs.getD j default = ys.getD j default) : xs = ys := by
  apply List.ext_getElem (by omega)
  intro i a b
  have := h i (by omega)
  simpa [List.getD, a, b] using this
theorem ne_getP {α : Type} [Inhabited α] {xs ys : List α} {k : Nat} (h : xs.getD k default ≠ ys.getD k default) : xs ≠ ys := fun e => h (by rw [e])

end Go.Proofs.YtlmliefkhidpnaaGreatDoor
