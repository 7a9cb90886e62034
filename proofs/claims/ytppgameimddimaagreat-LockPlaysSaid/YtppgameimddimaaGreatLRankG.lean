/- rank: what is left when one is taken out anywhere; what Drop leaves. Plain lists. -/
import Derived.Test.YtppgameimddimaaGreatLRankI
import Derived.Test.YtppgameimddimaaGreatLRankAll
namespace Go.Proofs.YtppgameimddimaaGreat
open Go.ChangeShapes Go.WideShapes Go.ChangeAt Go.RowKit
set_option linter.unusedVariables false
set_option linter.unusedSimpArgs false
theorem cut_perm_at {l : List EntM} {k : Nat} (hk : k < l.length) : (atE l k :: cutL l k).Perm l := by
  rcases List.eq_nil_or_concat l with rfl | ⟨q, z, rfl⟩
  · simp at hk
  rw [List.concat_eq_append] at *
  have hlen : (q ++ [z]).length - 1 = q.length := by simp
  have hz : (q ++ [z]).getD q.length default = z := by simp [List.getD]
  unfold cutL
  rw [hlen, hz]
  by_cases h : k = q.length
  · subst h
    have e1 : atE (q ++ [z]) q.length = z := hz
    have e2 : ((q ++ [z]).set q.length z).take q.length = q := by simp
    rw [e1, e2]
    exact (List.perm_append_singleton z q).symm
  · have hkq : k < q.length := by simp at hk; omega
    have e1 : atE (q ++ [z]) k = q[k] := by
      rw [atE_get hk, List.getElem_append_left hkq]
    have e2 : ((q ++ [z]).set k z).take q.length = q.set k z := by
      rw [List.set_append_left _ _ hkq, List.take_append_of_le_length (by simp)]
      exact List.take_of_length_le (by simp)
    rw [e1, e2, List.set_eq_take_append_cons_drop, if_pos hkq]
    have e3 : q = q.take k ++ q[k] :: q.drop (k + 1) := by rw [← List.drop_eq_getElem_cons hkq, List.take_append_drop]
    have p1 : (q[k] :: (q.take k ++ z :: q.drop (k + 1))).Perm (q[k] :: z :: (q.take k ++ q.drop (k + 1))) := List.Perm.cons _ List.perm_middle
    have p2 : (q ++ [z]).Perm (z :: (q[k] :: (q.take k ++ q.drop (k + 1)))) := by
      refine (List.perm_append_singleton z q).trans (List.Perm.cons z ?_)
      have : q.Perm (q.take k ++ q[k] :: q.drop (k + 1)) := List.Perm.of_eq e3
      exact this.trans List.perm_middle
    exact (p1.trans (List.Perm.swap _ _ _)).trans p2.symm
theorem cut_at {l : List EntM} {k : Nat} (hk : k < l.length - 1) (i : Nat) (hi : i < l.length - 1) : atE (cutL l k) i = if k = i then atE l (l.length - 1) else atE l i := by
  unfold atE cutL
  simp only [List.getD_eq_getElem?_getD, List.getElem?_take, List.getElem?_set]
  rw [if_pos hi]
  by_cases e : k = i
  · subst e; rw [if_pos rfl, if_pos (by omega), if_pos rfl]; rfl
  · rw [if_neg e, if_neg e]
theorem rise_id {l : List EntM} {k : Nat} (h : HeapE l) (hk : k < l.length) : riseL l k = l := by
  rw [riseL]
  split
  · rfl
  · rename_i h0
    rw [if_pos (h k (by omega) hk)]
theorem remove_perm_at {l : List EntM} {k : Nat} (hk : k < l.length) : (atE l k :: removeL l k).Perm l := by
  refine List.Perm.trans (List.Perm.cons _ ?_) (cut_perm_at hk)
  unfold removeL
  by_cases h : k < l.length - 1
  · rw [if_pos h]
    exact (riseL_perm _ k (by rw [sinkL_len, cutL_len]; exact h)).trans (sinkL_perm _ _ _ (Nat.le_refl _))
  · rw [if_neg h]
theorem remove_heap_at {l : List EntM} {k : Nat} (hk : k < l.length) (h : HeapE l) (hd : DistE l) : HeapE (removeL l k) := by
  have hdm : DistE (cutL l k) := (hd.perm (cut_perm_at hk)).tail
  have hlm := cutL_len l k
  unfold removeL
  by_cases h1 : k < l.length - 1
  · rw [if_pos h1]
    obtain ⟨m, hm⟩ : ∃ m, cutL l k = m := ⟨_, rfl⟩
    have ha : ∀ i, i < l.length - 1 → k ≠ i → atE m i = atE l i := fun i hi hne => by rw [← hm, cut_at h1 i hi, if_neg hne]
    rw [hm] at hdm hlm ⊢
    have fa : ∀ i, 0 < i → i < m.length → i ≠ k → (i - 1) / 2 ≠ k → lessE (atE m ((i - 1) / 2)) (atE m i) = true := fun i h2 h3 h4 h5 => by
      rw [ha i (by omega) (Ne.symm h4), ha _ (by omega) (Ne.symm h5)]
      exact h i h2 (by omega)
    have fb : 0 < k → ∀ i, 0 < i → i < m.length → (i - 1) / 2 = k → lessE (atE m ((k - 1) / 2)) (atE m i) = true := fun h0 i h2 h3 h4 => by
      rw [ha i (by omega) (by omega), ha _ (by omega) (by omega)]
      have a := h k h0 hk
      have b := h i h2 (by omega)
      rw [h4] at b
      exact lessE_trans a b
    by_cases hx : 0 < k ∧ lessE (atE m ((k - 1) / 2)) (atE m k) = false
    · obtain ⟨h0, hx⟩ := hx
      have hup : lessE (atE m k) (atE m ((k - 1) / 2)) = true := lessE_tot hx (hdm _ _ (by omega) (by omega) (by omega))
      have hch : ∀ i, 0 < i → i < m.length → (i - 1) / 2 = k → lessE (atE m k) (atE m i) = true := fun i h2 h3 h4 => lessE_trans hup (fb h0 i h2 h3 h4)
      have hs : sinkL m k = m := by
        rw [sinkL]
        have hb := downE_bd m k
        split
        · rfl
        · rename_i h2
          rw [if_pos (hch _ (by omega) (by omega) (by omega))]
      rw [hs]
      refine rise_heap k m (by omega) hdm ⟨fun i h2 h3 h4 => ?_, fb⟩
      by_cases h5 : (i - 1) / 2 = k
      · rw [h5]; exact hch i h2 h3 h5
      · exact fa i h2 h3 h4 h5
    · have hH : HeapE (sinkL m k) := by
        refine sink_heap _ m k (Nat.le_refl _) hdm ⟨fun i h2 h3 h4 => ?_, fb⟩
        by_cases h5 : i = k
        · subst h5
          cases hc : lessE (atE m ((i - 1) / 2)) (atE m i) with
          | true => rfl
          | false => exact absurd ⟨h2, hc⟩ hx
        · exact fa i h2 h3 h5 h4
      rw [rise_id hH (by rw [sinkL_len]; omega)]
      exact hH
  · rw [if_neg h1]
    have hk2 : k = l.length - 1 := by omega
    intro i h2 h3
    rw [hlm] at h3
    have e : ∀ j, j < l.length - 1 → atE (cutL l k) j = atE l j := fun j hj => by
      unfold atE cutL
      simp only [List.getD_eq_getElem?_getD, List.getElem?_take, List.getElem?_set]
      rw [if_pos hj, if_neg (by omega)]
    rw [e _ (by omega), e _ h3]
    exact h i h2 (by omega)
theorem bestE_none {l : List EntM} {id : Int} : ∀ k, bestE l id k = none → ∀ i, i < k → (atE l i).id ≠ id := by
  intro k
  induction k with
  | zero => intro _ i hi; omega
  | succ k ih =>
    intro h i hi
    unfold bestE at h
    split at h
    · rename_i h0
      split at h
      · cases h
      · rename_i hne
        by_cases e : i = k
        · subst e; exact hne
        · exact ih h0 i (by omega)
    · split at h <;> cases h
theorem bestE_id {l : List EntM} {id : Int} : ∀ k f, bestE l id k = some f → (atE l f).id = id := by
  intro k
  induction k with
  | zero => intro f h; cases h
  | succ k ih =>
    intro f h
    unfold bestE at h
    split at h
    · split at h
      · rename_i he; injection h with h; subst h; exact he
      · cases h
    · rename_i f' hf
      split at h
      · rename_i he; injection h with h; subst h; exact he.1
      · injection h with h; subst h; exact ih _ hf
/-- ahead of all that come behind -/
def UpRow (l : List EntM) : Prop := l.Pairwise fun a b => lessE a b = true
theorem upRow_of {l : List EntM} (hs : SortedE l) (hd : DistE l) : UpRow l := by
  unfold UpRow
  rw [List.pairwise_iff_getElem]
  intro i j hi hj hij
  have a := hs i j hij hj
  rw [atE_get hi, atE_get hj] at a
  have b := hd i j hi hj (by omega)
  rw [atE_get hi, atE_get hj] at b
  exact lessE_tot a (fun e => b e.symm)
/-- the first of a heap is the one that is ahead of all -/
theorem first_of {l T : List EntM} {y : EntM} (hh : HeapE l) (hd : DistE l) (hp : l.Perm (y :: T)) (hy : ∀ x ∈ T, lessE y x = true) : atE l 0 = y ∧ (removeL l 0).Perm T := by
  have hl : 0 < l.length := by rw [hp.length_eq]; simp
  have h1 := remove_perm hl
  have e : atE l 0 = y := by
    apply Classical.byContradiction
    intro hne
    have hy1 : y ∈ atE l 0 :: removeL l 0 := (h1.trans hp).mem_iff.2 List.mem_cons_self
    have hy2 : y ∈ removeL l 0 := (List.mem_cons.1 hy1).resolve_left (fun e => hne e.symm)
    have a := remove_first hl hh hd y hy2
    have h0 : atE l 0 ∈ y :: T := (h1.trans hp).mem_iff.1 List.mem_cons_self
    have h3 : atE l 0 ∈ T := (List.mem_cons.1 h0).resolve_left hne
    have b := hy _ h3
    rw [lessE_not a] at b
    cases b
  refine ⟨e, ?_⟩
  rw [e] at h1
  exact (h1.trans hp).cons_inv
end Go.Proofs.YtppgameimddimaaGreat
