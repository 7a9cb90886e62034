/- slices.EqualFunc of tasks with task.SameTask. -/
import Derived.Test.YtlmliefkhidpnaaGreatDoorSame3
import Derived.Test.YtlmliefkhidpnaaGreatDoorSound
namespace Go.Proofs.YtlmliefkhidpnaaGreatDoor
open Go.ChangeShapes Go.WideShapes Go.ChangeAt Go.RowKit
set_option linter.unusedVariables false
def sameTs (xs ys : List TaskR) : Bool := decide (xs.length = ys.length) && (List.range xs.length).all fun k => sameT (xs.getD k default) (ys.getD k default)
theorem sameTs_true {xs ys : List TaskR} (h : xs.length = ys.length) (hk : ∀ k, k < xs.length → sameT (xs.getD k default) (ys.getD k default) = true) : sameTs xs ys = true := by
  unfold sameTs
  rw [decide_eq_true h, Bool.true_and, List.all_eq_true]
  intro k hm
  exact hk k (List.mem_range.1 hm)
theorem sameTs_at {xs ys : List TaskR} {k : Nat} (hk : k < xs.length) (h : sameT (xs.getD k default) (ys.getD k default) = false) : sameTs xs ys = false := by
  rw [← Bool.not_eq_true]
  intro e
  unfold sameTs at e
  rw [Bool.and_eq_true, List.all_eq_true] at e
  rw [e.2 k (List.mem_range.2 hk)] at h
  cases h
theorem sameTs_len {xs ys : List TaskR} (h : xs.length ≠ ys.length) : sameTs xs ys = false := by
  unfold sameTs
  rw [decide_eq_false h, Bool.false_and]

end Go.Proofs.YtlmliefkhidpnaaGreatDoor
