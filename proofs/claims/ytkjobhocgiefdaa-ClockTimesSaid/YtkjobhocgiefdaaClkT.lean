/- ClockTimes: plain facts of rows whose numbers are told by a function. -/
import Derived.Test.YtkjobhocgiefdaaClkB
namespace Go.Proofs.Ytkjobhocgiefdaa
set_option linter.unusedVariables false
def dueL (f : Nat → Int) (k : Nat) : List DueM := (List.range k).map fun i => ⟨f i, (i : Int)⟩
def geL (f : Nat → Int) (n : Nat) (t : Int) : List DueM := (dueL f n).filter fun d => decide (t ≤ d.time)
def cntL (f : Nat → Int) (t : Int) (i : Nat) : Nat := ((List.range i).filter fun j => f j == t).length
def atL (f : Nat → Int) (n : Nat) (t : Int) : List Int := ((List.range n).filter fun j => f j == t).map fun j : Nat => (j : Int)
theorem dueL_next (f : Nat → Int) (k : Nat) : dueL f (k + 1) = dueL f k ++ [⟨f k, (k : Int)⟩] := by simp [dueL, List.range_succ]
theorem dueL_len (f : Nat → Int) (k : Nat) : (dueL f k).length = k := by simp [dueL]
theorem geL_zero (f : Nat → Int) (n : Nat) (h : ∀ i, 0 ≤ f i) : geL f n 0 = dueL f n := by
  unfold geL dueL
  rw [List.filter_eq_self]
  intro d hd
  obtain ⟨i, _, rfl⟩ := List.mem_map.1 hd
  simpa using h i
theorem geL_end (f : Nat → Int) (n : Nat) (t : Int) (h : ∀ i, f i < t) : geL f n t = [] := by
  unfold geL dueL
  rw [List.filter_eq_nil_iff]
  intro d hd
  obtain ⟨i, _, rfl⟩ := List.mem_map.1 hd
  have := h i
  simp; omega
theorem geL_not (f : Nat → Int) (n : Nat) (t : Int) : notAt (geL f n t) t = geL f n (t + 1) := by
  unfold notAt geL
  rw [List.filter_filter]
  congr 1
  funext d
  by_cases h1 : d.time = t
  · simp [h1]; omega
  · by_cases h2 : t ≤ d.time
    · have : t + 1 ≤ d.time := by omega
      simp [h1, h2, this]
    · have : ¬ t + 1 ≤ d.time := by omega
      simp [h2, this]
theorem geL_ids (f : Nat → Int) (n : Nat) (t : Int) : idsAt (geL f n t) t = atL f n t := by
  unfold idsAt geL atL dueL
  rw [List.filter_filter]
  have : (fun d : DueM => (d.time == t) && decide (t ≤ d.time)) = fun d => d.time == t := by
    funext d
    by_cases h1 : d.time = t <;> simp [h1]
  rw [this, List.filter_map, List.map_map]
  rfl
theorem atL_len (f : Nat → Int) (n : Nat) (t : Int) : (atL f n t).length = cntL f t n := by simp [atL, cntL]
theorem cntL_next (f : Nat → Int) (t : Int) (i : Nat) : cntL f t (i + 1) = cntL f t i + (if f i = t then 1 else 0) := by
  unfold cntL
  rw [List.range_succ, List.filter_append, List.length_append]
  by_cases h : f i = t <;> simp [h]
theorem cntL_mono (f : Nat → Int) (t : Int) : ∀ i j, i ≤ j → cntL f t i ≤ cntL f t j := fun i j h => by
  induction h with
  | refl => exact Nat.le_refl _
  | step _ ih => rw [cntL_next]; omega
theorem cntL_le (f : Nat → Int) (t : Int) (i : Nat) : cntL f t i ≤ i := by
  unfold cntL
  have := List.length_filter_le (fun j => f j == t) (List.range i)
  simpa using this
theorem atL_at (f : Nat → Int) {t : Int} {i n : Nat} (hi : i < n) (h : f i = t) : cntL f t i < cntL f t n ∧ (atL f n t).getD (cntL f t i) 0 = (i : Int) := by
  have h1 : cntL f t (i + 1) ≤ cntL f t n := cntL_mono f t _ _ hi
  rw [cntL_next, if_pos h] at h1
  refine ⟨by omega, ?_⟩
  have e : List.range n = List.range i ++ (i :: (List.range n).drop (i + 1)) := by
    have h2 := List.take_append_drop i (List.range n)
    have h3 : (List.range n).take i = List.range i := by rw [List.take_range, Nat.min_eq_left (by omega)]
    have h4 : (List.range n).drop i = i :: (List.range n).drop (i + 1) := by
      rw [List.drop_eq_getElem_cons (by simpa using hi), List.getElem_range]
    rw [h3, h4] at h2
    exact h2.symm
  unfold atL cntL
  rw [e, List.filter_append, List.filter_cons, if_pos (by simpa using h), List.map_append, List.map_cons]
  have hl : ((List.range i).filter fun j => f j == t).length = (((List.range i).filter fun j => f j == t).map fun j : Nat => (j : Int)).length := by simp
  rw [hl, List.getD_eq_getElem?_getD, List.getElem?_append_right (Nat.le_refl _)]
  simp
theorem geL_len (f : Nat → Int) (n : Nat) (t : Int) : (geL f n t).length = cntL f t n + (geL f n (t + 1)).length := by
  rw [← geL_not, ← atL_len, ← geL_ids]
  unfold notAt idsAt
  rw [List.length_map]
  generalize geL f n t = l
  induction l with
  | nil => rfl
  | cons d l ih =>
    by_cases h : d.time = t
    · simp [h] at ih ⊢; omega
    · simp [h] at ih ⊢; omega
end Go.Proofs.Ytkjobhocgiefdaa
