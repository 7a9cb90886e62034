/- turn: who is ahead is an order; a sorted row is in it. Plain numbers. -/
import Derived.Test.YtonodmoklbmfkaaWhoM
namespace Go.Proofs.Ytonodmoklbmfkaa
open Go.ChangeShapes Go.WideShapes Go.ChangeAt Go.RowKit
set_option linter.unusedVariables false
set_option linter.unusedSimpArgs false
def key1 (a : WhoM) : Int := if 0 < a.boost then 0 else 1
def key2 (a : WhoM) : Int := if 0 < a.boost then a.boost else a.prio
theorem ahead_iff (a b : WhoM) : aheadB a b = true ↔ key1 a < key1 b ∨ (key1 a = key1 b ∧ (key2 a < key2 b ∨ (key2 a = key2 b ∧ a.task < b.task))) := by
  unfold aheadB key1 key2
  by_cases p : 0 < a.boost
  · have p1 : max a.boost 0 = a.boost := by omega
    by_cases q : 0 < b.boost
    · have q1 : max b.boost 0 = b.boost := by omega
      rw [p1, q1, if_neg (by simp [p, q]), if_pos p, if_pos q]
      simp only [p, q, if_true]
      by_cases r : a.boost = b.boost
      · rw [if_neg (by simp [r]), if_neg (by omega)]; simp; omega
      · rw [if_pos r]; simp; omega
    · have q1 : max b.boost 0 = 0 := by omega
      rw [p1, q1, if_pos (by simp [p]), if_pos p, if_neg q]
      simp [p]
  · have p1 : max a.boost 0 = 0 := by omega
    by_cases q : 0 < b.boost
    · have q1 : max b.boost 0 = b.boost := by omega
      rw [p1, q1, if_pos (by simp [q]), if_neg p, if_pos q]
      simp
    · have q1 : max b.boost 0 = 0 := by omega
      rw [p1, q1, if_neg (by simp), if_neg (by simp), if_neg p, if_neg q]
      simp only [p, q, if_false]
      by_cases r : a.prio = b.prio
      · rw [if_neg (by simp [r])]; simp; omega
      · rw [if_pos (by simp [r])]; simp; omega
theorem not_ahead {a b : WhoM} : aheadB a b = false ↔ ¬ (key1 a < key1 b ∨ (key1 a = key1 b ∧ (key2 a < key2 b ∨ (key2 a = key2 b ∧ a.task < b.task)))) := by
  rw [← ahead_iff]; simp
theorem insR_srt {x : WhoM} {R : List WhoM} (h : R.Pairwise (fun a b => aheadB a b = false)) : (insR x R).Pairwise (fun a b => aheadB a b = false) := by
  induction R with
  | nil => simp [insR]
  | cons y r ih =>
    obtain ⟨h1, h2⟩ := List.pairwise_cons.1 h
    simp only [insR]
    split
    · rename_i e
      refine List.pairwise_cons.2 ⟨fun z hz => ?_, ih h2⟩
      rcases List.mem_cons.1 ((insR_perm x r).mem_iff.1 hz) with e2 | e2
      · subst e2
        rw [ahead_iff] at e
        rw [not_ahead]; omega
      · exact h1 z e2
    · rename_i e
      refine List.pairwise_cons.2 ⟨fun z hz => ?_, h⟩
      rcases List.mem_cons.1 hz with e2 | e2
      · subst e2; simpa using e
      · have h3 := h1 z e2
        rw [ahead_iff] at e
        rw [not_ahead] at h3 ⊢
        omega
theorem sort_srt (l : List WhoM) : (sortW l).Pairwise (fun a b => aheadB b a = false) := by
  have go : ∀ (l a : List WhoM), a.Pairwise (fun a b => aheadB b a = false) → (l.foldl insW a).Pairwise (fun a b => aheadB b a = false) := fun l => by
    induction l with
    | nil => intro a h; exact h
    | cons x l ih =>
      intro a h
      refine ih _ ?_
      unfold insW
      rw [List.pairwise_reverse]
      exact insR_srt (List.pairwise_reverse.2 h)
  exact go l [] List.Pairwise.nil
/-- who has it stand first: as many as have it -/
theorem count_at (p : WhoM → Bool) {S : List WhoM} (h : S.Pairwise (fun a b => p b = true → p a = true)) : ∀ i, i < S.length → p (S.getD i default) = decide (i < S.countP p) := by
  induction S with
  | nil => intro i hi; simp at hi
  | cons a r ih =>
    obtain ⟨h1, h2⟩ := List.pairwise_cons.1 h
    intro i hi
    by_cases e : p a = true
    · rw [List.countP_cons_of_pos e]
      cases i with
      | zero => simp [e]
      | succ i =>
        have := ih h2 i (by simpa using hi)
        simp only [List.getD_cons_succ]
        rw [this]; simp
    · have hz : r.countP p = 0 := List.countP_eq_zero.2 (fun b hb x => e (h1 b hb x))
      rw [List.countP_cons_of_neg e, hz]
      have : ∀ b ∈ a :: r, p b = false := fun b hb => by
        rcases List.mem_cons.1 hb with e2 | e2
        · subst e2; simpa using e
        · cases hb2 : p b with
          | false => rfl
          | true => exact absurd (h1 b e2 hb2) e
      rw [this _ (by simp only [List.getD_eq_getElem?_getD, List.getElem?_eq_getElem hi, Option.getD_some]; exact List.getElem_mem hi)]
      simp
def boostB (a : WhoM) : Bool := decide (0 < a.boost)
/-- boosted ones first, of them and of the others in order -/
theorem sort_boost (l : List WhoM) (i : Nat) (hi : i < l.length) : boostB ((sortW l).getD i default) = decide (i < l.countP boostB) := by
  rw [← (sortW_perm l).countP_eq boostB]
  refine count_at boostB ?_ i (by rw [sortW_len]; exact hi)
  refine (sort_srt l).imp (fun {a b} h hb => ?_)
  rw [not_ahead] at h
  unfold boostB key1 key2 at *
  rw [decide_eq_true_eq] at hb ⊢
  rw [if_pos hb] at h
  by_cases e : 0 < a.boost
  · exact e
  · rw [if_neg e] at h; exact absurd (.inl (by omega)) h
theorem sort_next (l : List WhoM) (i : Nat) (hi : i + 1 < l.length) : aheadB ((sortW l).getD (i + 1) default) ((sortW l).getD i default) = false := by
  have hl := sortW_len l
  have := List.pairwise_iff_getElem.1 (sort_srt l) i (i + 1) (by omega) (by omega) (by omega)
  simpa [List.getD, show i < (sortW l).length by omega, show i + 1 < (sortW l).length by omega] using this
theorem sort_mem (l : List WhoM) (i : Nat) (hi : i < l.length) : (sortW l).getD i default ∈ l := by
  have hl := sortW_len l
  refine (sortW_perm l).mem_iff.1 ?_
  simp only [List.getD_eq_getElem?_getD, List.getElem?_eq_getElem (show i < (sortW l).length by omega), Option.getD_some]
  exact List.getElem_mem _
end Go.Proofs.Ytonodmoklbmfkaa
