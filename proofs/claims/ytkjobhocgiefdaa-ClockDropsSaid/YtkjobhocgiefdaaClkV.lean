/- ClockDrops: plain facts. -/
import Derived.Test.YtkjobhocgiefdaaClkU
namespace Go.Proofs.Ytkjobhocgiefdaa
set_option linter.unusedVariables false
/-- what is left of two -/
theorem two_drop (x y : Nat) (id : Int) : HasId (sortE ([] ++ [(⟨(x : Int), id⟩ : DueM)] ++ [(⟨(y : Int), id⟩ : DueM)])) id 0 ∧ ([] ++ [(⟨(x : Int), id⟩ : DueM)] ++ [(⟨(y : Int), id⟩ : DueM)]).erase ((sortE ([] ++ [(⟨(x : Int), id⟩ : DueM)] ++ [(⟨(y : Int), id⟩ : DueM)])).getD 0 default) = [(⟨((max x y : Nat) : Int), id⟩ : DueM)] := by
  by_cases h : y < x
  · have e : sortE ([] ++ [(⟨(x : Int), id⟩ : DueM)] ++ [(⟨(y : Int), id⟩ : DueM)]) = [⟨(y : Int), id⟩, ⟨(x : Int), id⟩] := by
      have hl : erl (⟨(y : Int), id⟩ : DueM) ⟨(x : Int), id⟩ = true := by simp [erl]; omega
      simp [sortE, insE, insG, hl]
    rw [e]
    refine ⟨⟨by simp, rfl, fun j hj => by omega⟩, ?_⟩
    rw [show max x y = x by omega]
    have hne : ¬ (⟨(x : Int), id⟩ : DueM) = ⟨(y : Int), id⟩ := by simp; omega
    simp [hne]
  · have e : sortE ([] ++ [(⟨(x : Int), id⟩ : DueM)] ++ [(⟨(y : Int), id⟩ : DueM)]) = [⟨(x : Int), id⟩, ⟨(y : Int), id⟩] := by
      have hl : erl (⟨(y : Int), id⟩ : DueM) ⟨(x : Int), id⟩ = false := by simp [erl]; omega
      simp [sortE, insE, insG, hl]
    rw [e]
    refine ⟨⟨by simp, rfl, fun j hj => by omega⟩, ?_⟩
    rw [show max x y = y by omega]
    simp
def lefts (z : Nat) (id : Int) (t : Nat) : List DueM := if t ≤ z then [⟨(z : Int), id⟩] else []
theorem lefts_not (z : Nat) (id : Int) (t : Nat) : notAt (lefts z id t) (t : Int) = lefts z id (t + 1) ∧ (idsAt (lefts z id t) (t : Int)).length = if t = z then 1 else 0 := by
  unfold lefts notAt idsAt
  by_cases h1 : t ≤ z
  · by_cases h2 : t = z
    · subst h2; simp
    · have h3 : t + 1 ≤ z := by omega
      have h4 : ¬ (z : Int) = (t : Int) := by omega
      simp [h1, h2, h3, h4]
  · have h2 : ¬ t = z := by omega
    have h3 : ¬ t + 1 ≤ z := by omega
    simp [h1, h2, h3]
end Go.Proofs.Ytkjobhocgiefdaa
