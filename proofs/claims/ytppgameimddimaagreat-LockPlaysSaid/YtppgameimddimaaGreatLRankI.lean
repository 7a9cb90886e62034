/- rank: what put and take make of a heap. Plain lists. -/
import Derived.Test.YtppgameimddimaaGreatLRankH
import Derived.Test.YtppgameimddimaaGreatLRankU
namespace Go.Proofs.YtppgameimddimaaGreat
set_option linter.unusedVariables false
set_option linter.unusedSimpArgs false
theorem atE_get {l : List EntM} {i : Nat} (h : i < l.length) : atE l i = l[i] := by simp [List.getD, h]
theorem distE_iff (l : List EntM) : DistE l ↔ (l.map EntM.turn).Nodup := by
  unfold List.Nodup
  rw [List.pairwise_iff_getElem]
  constructor
  · intro h a b ha hb hab
    simp only [List.length_map] at ha hb
    have := h a b ha hb (by omega)
    rw [atE_get ha, atE_get hb] at this
    simpa using this
  · intro h i j hi hj hij
    rw [atE_get hi, atE_get hj]
    rcases Nat.lt_or_gt_of_ne hij with g | g
    · have := h i j (by rw [List.length_map]; exact hi) (by rw [List.length_map]; exact hj) g
      rw [List.getElem_map, List.getElem_map] at this
      exact this
    · have := h j i (by rw [List.length_map]; exact hj) (by rw [List.length_map]; exact hi) g
      rw [List.getElem_map, List.getElem_map] at this
      exact fun e => this e.symm
theorem DistE.perm {l m : List EntM} (h : DistE l) (hp : m.Perm l) : DistE m := (distE_iff m).2 (((hp.map EntM.turn).nodup_iff).2 ((distE_iff l).1 h))
theorem put_heap {l : List EntM} {x : EntM} (h : HeapE l) (hd : DistE (l ++ [x])) : HeapE (riseL (l ++ [x]) l.length) := by
  refine rise_heap _ _ (by simp) hd ⟨fun i h1 h2 h3 => ?_, fun h0 i h1 h2 h3 => ?_⟩
  · have hi : i < l.length := by simp at h2; omega
    have e : ∀ k, k < l.length → atE (l ++ [x]) k = atE l k := fun k hk => by unfold atE; simp [List.getD, List.getElem?_append, hk]
    rw [e _ (by omega), e _ hi]
    exact h i h1 hi
  · simp at h2; omega
theorem cut_perm {l : List EntM} (hl : 0 < l.length) : (atE l 0 :: cutL l 0).Perm l := by
  cases l with
  | nil => simp at hl
  | cons a r =>
    unfold cutL atE
    simp only [List.getD_cons_zero, List.length_cons, Nat.add_sub_cancel]
    rcases List.eq_nil_or_concat r with rfl | ⟨q, z, rfl⟩
    · exact .refl _
    · have e1 : (a :: (q ++ [z])).getD (q ++ [z]).length default = z := by simp
      rw [List.concat_eq_append] at *
      rw [e1]
      have e2 : ((a :: (q ++ [z])).set 0 z).take (q ++ [z]).length = z :: q := by simp
      rw [e2]
      refine List.Perm.cons a ?_
      exact (List.perm_append_comm (l₁ := [z]) (l₂ := q))
theorem cut_down {l : List EntM} (h : HeapE l) : DownE (cutL l 0) 0 := by
  refine ⟨fun i h1 h2 h3 => ?_, fun h0 => absurd h0 (by omega)⟩
  rw [cutL_len] at h2
  have e : ∀ k, 0 < k → k < l.length - 1 → atE (cutL l 0) k = atE l k := fun k h0 hk => by
    unfold atE cutL
    simp only [List.getD_eq_getElem?_getD, List.getElem?_take, List.getElem?_set]
    rw [if_pos hk, if_neg (by omega)]
  rw [e _ (by omega) (by omega), e _ h1 h2]
  exact h i h1 (by omega)
theorem remove_is (l : List EntM) : removeL l 0 = sinkL (cutL l 0) 0 ∨ (removeL l 0 = cutL l 0 ∧ cutL l 0 = []) := by
  unfold removeL
  by_cases h : 0 < l.length - 1
  · rw [if_pos h, riseL]; exact .inl (by simp)
  · rw [if_neg h]
    refine .inr ⟨rfl, List.eq_nil_of_length_eq_zero ?_⟩
    rw [cutL_len]; omega
theorem remove_perm {l : List EntM} (hl : 0 < l.length) : (atE l 0 :: removeL l 0).Perm l := by
  rcases remove_is l with e | ⟨e, _⟩
  · rw [e]; exact (List.Perm.cons _ (sinkL_perm _ _ _ (Nat.le_refl _))).trans (cut_perm hl)
  · rw [e]; exact cut_perm hl
theorem DistE.tail {a : EntM} {l : List EntM} (h : DistE (a :: l)) : DistE l := (distE_iff l).2 (List.nodup_cons.1 ((distE_iff (a :: l)).1 h)).2
theorem remove_dist {l : List EntM} (hl : 0 < l.length) (hd : DistE l) : DistE (removeL l 0) := (hd.perm (remove_perm hl)).tail
theorem remove_heap {l : List EntM} (hl : 0 < l.length) (h : HeapE l) (hd : DistE l) : HeapE (removeL l 0) := by
  rcases remove_is l with e | ⟨e, e2⟩
  · rw [e]; exact sink_heap _ _ _ (Nat.le_refl _) ((hd.perm (cut_perm hl)).tail) (cut_down h)
  · rw [e, e2]; exact fun i _ h2 => absurd h2 (by simp)
/-- who goes first is ahead of all that stay -/
theorem remove_first {l : List EntM} (hl : 0 < l.length) (h : HeapE l) (hd : DistE l) : ∀ x ∈ removeL l 0, lessE (atE l 0) x = true := by
  intro x hx
  have hp := remove_perm hl
  have hm : x ∈ l := hp.mem_iff.1 (List.mem_cons_of_mem _ hx)
  obtain ⟨i, hi, e⟩ := List.mem_iff_getElem.1 hm
  have hne : i ≠ 0 := fun e0 => by
    subst e0
    have hx0 : x = atE l 0 := by rw [atE_get hl]; exact e.symm
    have := (distE_iff _).1 (hd.perm hp)
    simp only [List.map_cons, List.nodup_cons] at this
    exact this.1 (List.mem_map.2 ⟨x, hx, by rw [hx0]⟩)
  have := h.first i (by omega) hi
  rw [atE_get hi, e] at this
  exact this
end Go.Proofs.YtppgameimddimaaGreat
