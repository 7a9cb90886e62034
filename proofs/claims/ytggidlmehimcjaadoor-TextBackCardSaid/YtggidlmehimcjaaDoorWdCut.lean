/- The document's pieces: cut, Lines, Words. -/
import Derived.Test.YtggidlmehimcjaaDoorWdWords
namespace Go.Proofs.YtggidlmehimcjaaDoor
open Go.ChangeShapes Go.WideShapes Go.ChangeAt Go.RowKit
set_option linter.unusedVariables false
set_option linter.unusedSimpArgs false
structure PlInv (T : Bts) (c : UInt8) (k f : Nat) (ls : List ByteArray) : Prop where
  le : f ≤ k
  eq : ls.map bl ++ pl c ((T.take k).drop f) (T.drop k) = pl c [] T
theorem PlInv.start (T : Bts) (c : UInt8) : PlInv T c 0 0 [] := ⟨Nat.le_refl _, by simp⟩
theorem PlInv.more {T : Bts} {c : UInt8} {k f : Nat} {ls : List ByteArray} (h : PlInv T c k f ls) (hk : k < T.length) (hc : T[k] ≠ c) : PlInv T c (k + 1) f ls := by
  refine ⟨Nat.le_succ_of_le h.le, ?_⟩
  rw [← h.eq, take_drop_snoc T h.le hk, List.drop_eq_getElem_cons hk]
  conv => rhs; rw [pl]
  rw [if_neg hc]
theorem PlInv.piece {T : Bts} {c : UInt8} {k f : Nat} {ls : List ByteArray} (h : PlInv T c k f ls) (hk : k < T.length) (hc : T[k] = c) {x : ByteArray} (hx : bl x = (T.take k).drop f) : PlInv T c (k + 1) (k + 1) (ls ++ [x]) := by
  refine ⟨Nat.le_refl _, ?_⟩
  rw [← h.eq, List.map_append, List.append_assoc]
  congr 1
  have e0 : (T.take (k + 1)).drop (k + 1) = [] := List.drop_of_length_le (by rw [List.length_take]; omega)
  rw [e0]
  simp only [List.map_cons, List.map_nil, hx, List.cons_append, List.nil_append]
  conv => rhs; rw [List.drop_eq_getElem_cons hk, pl]
  rw [if_pos hc]
theorem PlInv.last {T : Bts} {c : UInt8} {f : Nat} {ls : List ByteArray} (h : PlInv T c T.length f ls) (hf : f < T.length) {x : ByteArray} (hx : bl x = T.drop f) : (ls ++ [x]).map bl = pl c [] T := by
  have := h.eq
  rw [List.take_length, List.drop_length, pl, if_neg (fun e => by have := congrArg List.length e; simp at this; omega)] at this
  rw [List.map_append, ← this, List.map_cons, List.map_nil, hx]
theorem PlInv.done {T : Bts} {c : UInt8} {f : Nat} {ls : List ByteArray} (h : PlInv T c T.length f ls) (hf : ¬ f < T.length) : ls.map bl = pl c [] T := by
  have := h.eq
  rw [List.take_length, List.drop_length, pl, if_pos (List.drop_of_length_le (by omega)), List.append_nil] at this
  exact this
theorem pl_len (c : UInt8) : ∀ (l cur : Bts), (pl c cur l).length ≤ l.length + (if cur = [] then 0 else 1) := fun l => by
  induction l with
  | nil => intro cur; unfold pl; split <;> simp
  | cons x r ih =>
    intro cur
    unfold pl
    split
    · have := ih []; simp at this ⊢; omega
    · have := ih (cur ++ [x])
      rw [if_neg (by simp)] at this
      simp only [List.length_cons]
      split <;> omega
end Go.Proofs.YtggidlmehimcjaaDoor
