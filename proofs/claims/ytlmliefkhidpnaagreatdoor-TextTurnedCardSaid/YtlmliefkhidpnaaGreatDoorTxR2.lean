/- swingbridgeref7's partOf. -/
import Derived.Test.YtlmliefkhidpnaaGreatDoorTxR1
import Derived.Test.YtlmliefkhidpnaaGreatDoorTxtC
import Derived.Deep.Cut
namespace Go.Proofs.YtlmliefkhidpnaaGreatDoor
open Go.ChangeShapes Go.WideShapes Go.ChangeAt Go.RowKit
set_option linter.unusedVariables false
set_option linter.unusedSimpArgs false
/-- where the first colon stands, or how many bytes there are -/
def cidx (l : Bts) : Nat := (cutT 58 [] l).1.length
theorem cutT_cur (c : UInt8) (l cur : Bts) : cutT c cur l = (cur ++ (cutT c [] l).1, (cutT c [] l).2) := by
  induction l generalizing cur with
  | nil => simp [cutT]
  | cons a t ih =>
    unfold cutT
    split
    · simp
    · rw [ih (cur ++ [a]), ih ([] ++ [a])]; simp
theorem cidx_facts (l : Bts) : cidx l ≤ l.length ∧ (∀ j, j < cidx l → l.getD j 0 ≠ 58) ∧ (cidx l < l.length → l.getD (cidx l) 0 = 58) ∧ (cutT 58 [] l).1 = l.take (cidx l) ∧ (cutT 58 [] l).2 = l.drop (cidx l + 1) := by
  unfold cidx
  induction l with
  | nil => simp [cutT]
  | cons a t ih =>
    unfold cutT
    by_cases h : a = 58
    · rw [if_pos h]; subst h; simp
    · rw [if_neg h, cutT_cur]
      obtain ⟨i1, i2, i3, i4, i5⟩ := ih
      refine ⟨by simp; omega, fun j hj => ?_, fun hj => ?_, ?_, ?_⟩
      · cases j with
        | zero => simpa using h
        | succ j => simp at hj ⊢; simpa [List.getD] using i2 j hj
      · simp at hj ⊢
        simpa [List.getD] using i3 hj
      · simp; rw [← i4]
      · simp; rw [← i5]
theorem take_noC (l : Bts) : ∀ c ∈ l.take (cidx l), c ≠ 58 := by
  obtain ⟨h1, h2, _, _, _⟩ := cidx_facts l
  intro c hc
  obtain ⟨i, hi, e⟩ := List.mem_iff_getElem.1 hc
  rw [List.length_take] at hi
  have := h2 i (by omega)
  rw [List.getElem_take] at e
  simpa [List.getD, show i < l.length by omega, e] using this
theorem num_noC {x : Bts} {n : Int} (h : numT x = some n) : ∀ c ∈ x, c ≠ 58 := by
  unfold numT at h
  split at h
  · rename_i h1
    rw [numOK_mk, Bool.and_eq_true, List.all_eq_true] at h1
    intro c hc
    have := h1.2 c hc
    rintro rfl
    revert this; decide
  · cases h
theorem numsT_one (x : Bts) : numsT [x] = (numT x).map (fun n => [n]) := by unfold numsT; cases numT x <;> rfl
theorem sp_two (x : Bts) (h : cidx x < x.length) : sp 58 [] x = x.take (cidx x) :: sp 58 [] (x.drop (cidx x + 1)) := by
  obtain ⟨h1, h2, h3, _, _⟩ := cidx_facts x
  have e : x = x.take (cidx x) ++ 58 :: x.drop (cidx x + 1) := by
    have h4 := h3 h
    conv => lhs; rw [← List.take_append_drop (cidx x) x, List.drop_eq_getElem_cons h]
    congr 2
    simpa [List.getD, h] using h4
  conv => lhs; rw [e]
  rw [sp_run _ (take_noC x)]; rfl
theorem sp_one (x : Bts) (h : ¬ cidx x < x.length) : sp 58 [] x = [x] := by
  obtain ⟨h1, h2, h3, _, _⟩ := cidx_facts x
  have e : x.take (cidx x) = x := List.take_of_length_le (by omega)
  have := sp_all x (by have := take_noC x; rwa [e] at this) []
  simpa using this
theorem sp_many (x : Bts) : ∃ a r, sp 58 [] x = a :: r := by
  obtain ⟨a, t, h⟩ := List.exists_cons_of_ne_nil (sp_ne 58 x [])
  exact ⟨a, t, h⟩
theorem numT_idx {x : Bts} {n : Int} (h : numT x = some n) : ¬ cidx x < x.length := fun hlt => by
  have h3 := (cidx_facts x).2.2.1 hlt
  have h4 := num_noC h (x.getD (cidx x) 0) (by simp [List.getD, hlt])
  exact h4 h3
theorem pk_one (k : Bts) (x : Bts) (hk : k = tRun ∨ k = tSleep) : partK k (numsT (sp 58 [] x)) = (numT x).map (fun n => if k = tRun then ⟨1, n, 0⟩ else ⟨2, n, 0⟩) := by
  by_cases h : cidx x < x.length
  · rw [sp_two x h]
    obtain ⟨a, t, e⟩ := sp_many (x.drop (cidx x + 1))
    have hn : numT x = none := by
      cases hx : numT x with
      | none => rfl
      | some n => exact absurd h (numT_idx hx)
    rw [e, hn]
    unfold numsT numsT
    have hl : k ≠ tLock := by rcases hk with e | e <;> rw [e] <;> decide
    cases numT (x.take (cidx x)) with
    | none => rfl
    | some p =>
      cases numT a with
      | none => rfl
      | some q =>
        cases hq : numsT t with
        | none => rfl
        | some u =>
          cases u with
          | nil => show (if k = tLock then some (⟨3, q, p⟩ : PartT) else none) = none; rw [if_neg hl]
          | cons y z => rfl
  · rw [sp_one x h, numsT_one]
    cases numT x with
    | none => rfl
    | some n =>
      show (if k = tRun then some (⟨1, n, 0⟩ : PartT) else if k = tSleep then some ⟨2, n, 0⟩ else none) = some (if k = tRun then ⟨1, n, 0⟩ else ⟨2, n, 0⟩)
      rcases hk with e | e
      · rw [if_pos e, if_pos e]
      · rw [if_neg (by rw [e]; decide), if_pos e, if_neg (by rw [e]; decide)]
theorem pk_lock0 (x : Bts) (h : ¬ cidx x < x.length) : partK tLock (numsT (sp 58 [] x)) = none := by
  rw [sp_one x h, numsT_one]
  cases numT x with
  | none => rfl
  | some n => rfl
theorem pk_lock (x : Bts) (h : cidx x < x.length) : partK tLock (numsT (sp 58 [] x)) = match numT (x.take (cidx x)), numT (x.drop (cidx x + 1)) with | some r, some n => some ⟨3, n, r⟩ | _, _ => none := by
  rw [sp_two x h]
  unfold numsT
  cases hp : numT (x.take (cidx x)) with
  | none => rfl
  | some p =>
    cases hd : numT (x.drop (cidx x + 1)) with
    | some n => rw [sp_one _ (numT_idx hd), numsT_one, hd]; rfl
    | none =>
      by_cases g : cidx (x.drop (cidx x + 1)) < (x.drop (cidx x + 1)).length
      · rw [sp_two _ g]
        obtain ⟨a, t, e⟩ := sp_many ((x.drop (cidx x + 1)).drop (cidx (x.drop (cidx x + 1)) + 1))
        rw [e]
        unfold numsT numsT
        cases numT ((x.drop (cidx x + 1)).take (cidx (x.drop (cidx x + 1)))) with
        | none => rfl
        | some q =>
          cases numT a with
          | none => rfl
          | some q2 =>
            cases numsT t with
            | none => rfl
            | some u => rfl
      · rw [sp_one _ g, numsT_one, hd]; rfl
def rpartV (b : Bts) : PartM × Int := match partT b with | some p => (p.m, 0) | none => (⟨0, 0, 0⟩, 10)
def RPartPost (w : World) (b : Bts) (e : Ending) (w' : World) : Prop := e = .returned (.tuple #[.agg #[.int .i64 (rpartV b).1.kind, .int .i64 (rpartV b).1.len, .int .i64 (rpartV b).1.res], .int .i64 (rpartV b).2]) ∧ Below w.heap.size w w'
theorem rpart_ret {b : Bts} {p : PartM} {o : Int} (h : rpartV b = (p, o)) : Ending.returned (.tuple #[.agg #[.int .i64 p.kind, .int .i64 p.len, .int .i64 p.res], .int .i64 o]) = .returned (.tuple #[.agg #[.int .i64 (rpartV b).1.kind, .int .i64 (rpartV b).1.len, .int .i64 (rpartV b).1.res], .int .i64 (rpartV b).2]) := by rw [h]
end Go.Proofs.YtlmliefkhidpnaaGreatDoor
