/- turn: the library's stable sort of many: plain facts (swaps, blocks, merged rows). -/
import Derived.Test.YtonodmoklbmfkaaTurnNums
import Derived.Test.YtonodmoklbmfkaaTurn2
namespace Go.Proofs.Ytonodmoklbmfkaa
open Go.ChangeShapes Go.WideShapes Go.ChangeAt Go.RowKit
set_option linter.unusedVariables false
set_option linter.unusedSimpArgs false
def swp (l : List WhoM) (i j : Nat) : List WhoM := (l.set i (l.getD j default)).set j (l.getD i default)
theorem getD_mid (A Q : List WhoM) (x : WhoM) {i : Nat} (h : i = A.length) : (A ++ x :: Q).getD i default = x := by
  subst h; simp [List.getD]
theorem set_mid (A Q : List WhoM) (x y : WhoM) {i : Nat} (h : i = A.length) : (A ++ x :: Q).set i y = A ++ y :: Q := by
  subst h; rw [List.set_append_right _ _ (Nat.le_refl _)]; simp
theorem swp_mid (A M Q : List WhoM) (x y : WhoM) {i j : Nat} (hi : i = A.length) (hj : j = A.length + 1 + M.length) :
    (A ++ x :: (M ++ y :: Q)).getD i default = x ∧ (A ++ x :: (M ++ y :: Q)).getD j default = y ∧ swp (A ++ x :: (M ++ y :: Q)) i j = A ++ y :: (M ++ x :: Q) ∧ swp (A ++ x :: (M ++ y :: Q)) j i = A ++ y :: (M ++ x :: Q) := by
  have e : ∀ z u : WhoM, A ++ z :: (M ++ u :: Q) = (A ++ z :: M) ++ u :: Q := fun z u => by simp
  have h1 : (A ++ x :: (M ++ y :: Q)).getD i default = x := getD_mid _ _ _ hi
  have h2 : (A ++ x :: (M ++ y :: Q)).getD j default = y := by rw [e]; exact getD_mid _ _ _ (by rw [hj]; simp; omega)
  refine ⟨h1, h2, ?_, ?_⟩
  · unfold swp
    rw [h1, h2, set_mid _ _ _ _ hi, e, set_mid _ _ _ _ (by rw [hj]; simp; omega), ← e]
  · unfold swp
    rw [h1, h2, e, set_mid _ _ _ _ (by rw [hj]; simp; omega), ← e, set_mid _ _ _ _ hi]
/-- two blocks, of which k have changed places -/
def swR (P X M Y Q : List WhoM) (k : Nat) : List WhoM := P ++ (Y.take k ++ X.drop k) ++ M ++ (X.take k ++ Y.drop k) ++ Q
theorem swR_zero (P X M Y Q : List WhoM) : swR P X M Y Q 0 = P ++ X ++ M ++ Y ++ Q := by simp [swR]
theorem swR_all (P X M Y Q : List WhoM) (h : X.length = Y.length) : swR P X M Y Q X.length = P ++ Y ++ M ++ X ++ Q := by
  unfold swR
  rw [List.take_of_length_le (by omega), List.drop_of_length_le (Nat.le_refl _), List.take_of_length_le (Nat.le_refl _), List.drop_of_length_le (by omega)]
  simp
theorem swR_len (P X M Y Q : List WhoM) (k : Nat) (h : X.length = Y.length) : (swR P X M Y Q k).length = P.length + X.length + M.length + Y.length + Q.length := by
  unfold swR; simp; omega
theorem swR_next (P X M Y Q : List WhoM) {k i j : Nat} (h : X.length = Y.length) (hk : k < X.length) (hi : i = P.length + k) (hj : j = P.length + X.length + M.length + k) :
    (swR P X M Y Q k).getD i default = X.getD k default ∧ (swR P X M Y Q k).getD j default = Y.getD k default ∧ swp (swR P X M Y Q k) i j = swR P X M Y Q (k + 1) := by
  have hy : k < Y.length := by omega
  have dx : X.drop k = X.getD k default :: X.drop (k + 1) := by rw [List.drop_eq_getElem_cons hk]; simp [List.getD, hk]
  have dy : Y.drop k = Y.getD k default :: Y.drop (k + 1) := by rw [List.drop_eq_getElem_cons hy]; simp [List.getD, hy]
  have tx : X.take (k + 1) = X.take k ++ [X.getD k default] := by rw [List.take_succ_eq_append_getElem hk]; simp [List.getD, hk]
  have ty : Y.take (k + 1) = Y.take k ++ [Y.getD k default] := by rw [List.take_succ_eq_append_getElem hy]; simp [List.getD, hy]
  have e0 : swR P X M Y Q k = (P ++ Y.take k) ++ X.getD k default :: ((X.drop (k + 1) ++ M ++ X.take k) ++ Y.getD k default :: (Y.drop (k + 1) ++ Q)) := by
    unfold swR; rw [dx, dy]; simp
  have e1 : swR P X M Y Q (k + 1) = (P ++ Y.take k) ++ Y.getD k default :: ((X.drop (k + 1) ++ M ++ X.take k) ++ X.getD k default :: (Y.drop (k + 1) ++ Q)) := by
    unfold swR; rw [tx, ty]; simp
  obtain ⟨h1, h2, h3, _⟩ := swp_mid (P ++ Y.take k) (X.drop (k + 1) ++ M ++ X.take k) (Y.drop (k + 1) ++ Q) (X.getD k default) (Y.getD k default) (i := i) (j := j) (by simp; omega) (by simp; omega)
  rw [← e0] at h1 h2 h3
  exact ⟨h1, h2, by rw [h3, e1]⟩
/-! ### Order -/
def Lew (x y : WhoM) : Prop := aheadB y x = false
theorem Lew.tr {x y z : WhoM} (h1 : Lew x y) (h2 : Lew y z) : Lew x z := by
  unfold Lew at *
  rw [not_ahead] at *
  omega
theorem Lew.of {x y : WhoM} (h : aheadB x y = true) : Lew x y := ahead_asym h
def Srt (l : List WhoM) : Prop := l.Pairwise Lew
theorem Srt.last {A : List WhoM} {x : WhoM} (h : Srt (A ++ [x])) : ∀ y ∈ A ++ [x], y = x ∨ Lew y x := fun y hy => by
  rcases List.mem_append.1 hy with h1 | h1
  · exact .inr ((List.pairwise_append.1 h).2.2 y h1 x (by simp))
  · exact .inl (List.mem_singleton.1 h1)
theorem Srt.first {A : List WhoM} {x : WhoM} (h : Srt (x :: A)) : ∀ y ∈ x :: A, y = x ∨ Lew x y := fun y hy => by
  rcases List.mem_cons.1 hy with h1 | h1
  · exact .inl h1
  · exact .inr ((List.pairwise_cons.1 h).1 y h1)
/-- all of the first are no later than all of the other, if its last is no later than the other's first -/
theorem all_le {A B : List WhoM} (ha : Srt A) (hb : Srt B) (h : A = [] ∨ B = [] ∨ ∃ A' x y B', A = A' ++ [x] ∧ B = y :: B' ∧ Lew x y) : ∀ x ∈ A, ∀ y ∈ B, Lew x y := by
  rcases h with rfl | rfl | ⟨A', x, y, B', rfl, rfl, hxy⟩
  · simp
  · simp
  · intro u hu v hv
    rcases ha.last u hu with rfl | h1 <;> rcases hb.first v hv with rfl | h2
    · exact hxy
    · exact hxy.tr h2
    · exact h1.tr hxy
    · exact (h1.tr hxy).tr h2
/-- two halves put in order make one row in order -/
theorem srt_join {A1 A2 B1 B2 C1 C2 : List WhoM} (ha : Srt (A1 ++ A2)) (hb : Srt (B1 ++ B2)) (h1 : ∀ x ∈ A1, ∀ y ∈ B2, Lew x y) (h2 : ∀ x ∈ B1, ∀ y ∈ A2, Lew x y) (s1 : Srt C1) (s2 : Srt C2) (p1 : C1.Perm (A1 ++ B1)) (p2 : C2.Perm (A2 ++ B2)) : Srt (C1 ++ C2) ∧ (C1 ++ C2).Perm ((A1 ++ A2) ++ (B1 ++ B2)) := by
  refine ⟨List.pairwise_append.2 ⟨s1, s2, fun x hx y hy => ?_⟩, ?_⟩
  · rcases List.mem_append.1 (p1.mem_iff.1 hx) with u | u <;> rcases List.mem_append.1 (p2.mem_iff.1 hy) with v | v
    · exact (List.pairwise_append.1 ha).2.2 x u y v
    · exact h1 x u y v
    · exact h2 x u y v
    · exact (List.pairwise_append.1 hb).2.2 x u y v
  · refine (p1.append p2).trans ?_
    rw [List.append_assoc, List.append_assoc]
    refine List.Perm.append_left A1 ?_
    rw [← List.append_assoc, ← List.append_assoc]
    exact (List.perm_append_comm).append_right B2
end Go.Proofs.Ytonodmoklbmfkaa
