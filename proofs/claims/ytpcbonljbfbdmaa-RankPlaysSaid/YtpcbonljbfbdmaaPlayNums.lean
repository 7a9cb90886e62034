/- RankPlays: the rank's heap and the reference's row tell the same. Plain lists. -/
import Derived.Test.YtpcbonljbfbdmaaRankRef3
namespace Go.Proofs.Ytpcbonljbfbdmaa
open Go.ChangeShapes Go.WideShapes Go.ChangeAt Go.RowKit
set_option linter.unusedVariables false
set_option linter.unusedSimpArgs false
theorem up_perm_eq : ∀ {a b : List EntM}, UpRow a → UpRow b → a.Perm b → a = b := by
  intro a
  induction a with
  | nil => intro b _ _ hp; exact (List.nil_perm.1 hp).symm
  | cons x a ih =>
    intro b ha hb hp
    cases b with
    | nil => have := hp.length_eq; simp at this
    | cons y b =>
      unfold UpRow at ha hb
      rw [List.pairwise_cons] at ha hb
      have e : x = y := by
        apply Classical.byContradiction
        intro hne
        have h1 : x ∈ b := (List.mem_cons.1 (hp.mem_iff.1 List.mem_cons_self)).resolve_left hne
        have h2 : y ∈ a := (List.mem_cons.1 (hp.mem_iff.2 List.mem_cons_self)).resolve_left (fun e => hne e.symm)
        have g1 := hb.1 x h1
        have g2 := ha.1 y h2
        rw [lessE_not g1] at g2
        cases g2
      subst e
      rw [ih ha.2 hb.2 hp.cons_inv]
def rowK (es : List EntM) : List (Int × Int) := es.map fun x => (x.key, x.id)
def insU : List EntM → EntM → List EntM
  | [], x => [x]
  | y :: l, x => if x.key < y.key then x :: y :: l else y :: insU l x
theorem rowK_ins (es : List EntM) (x : EntM) : rowK (insU es x) = ins (rowK es) (x.key, x.id) := by
  induction es with
  | nil => rfl
  | cons y l ih =>
    unfold insU
    show _ = ins ((y.key, y.id) :: rowK l) (x.key, x.id)
    unfold ins
    by_cases h : x.key < y.key
    · rw [if_pos h, if_pos h]; rfl
    · rw [if_neg h, if_neg h, ← ih]; rfl
theorem insU_perm (es : List EntM) (x : EntM) : (insU es x).Perm (x :: es) := by
  induction es with
  | nil => exact .refl _
  | cons y l ih =>
    unfold insU
    split
    · exact .refl _
    · exact (ih.cons y).trans (.swap x y l)
theorem insU_up {es : List EntM} {x : EntM} (h : UpRow es) (ht : ∀ y ∈ es, y.turn < x.turn) : UpRow (insU es x) := by
  induction es with
  | nil => exact List.pairwise_singleton _ _
  | cons y l ih =>
    unfold UpRow at h
    rw [List.pairwise_cons] at h
    unfold insU
    split
    · rename_i hk
      have hxy : lessE x y = true := by unfold lessE; simp [hk]
      exact List.pairwise_cons.2 ⟨fun z hz => by
        rcases List.mem_cons.1 hz with rfl | hz
        · exact hxy
        · exact lessE_trans hxy (h.1 z hz), List.pairwise_cons.2 h⟩
    · rename_i hk
      refine List.pairwise_cons.2 ⟨fun z hz => ?_, ih h.2 (fun z hz => ht z (List.mem_cons_of_mem _ hz))⟩
      rcases List.mem_cons.1 ((insU_perm l x).mem_iff.1 hz) with rfl | hz
      · have := ht y List.mem_cons_self
        unfold lessE
        rw [Bool.or_eq_true, Bool.and_eq_true, decide_eq_true_iff, decide_eq_true_iff, decide_eq_true_iff]
        omega
      · exact h.1 z hz
/-- a heap after so many puts, and the row in which it goes out -/
structure PlI (P : Int) (l es : List EntM) : Prop where
  heap : HeapE l
  dist : DistE l
  up : UpRow es
  perm : es.Perm l
  turns : ∀ x ∈ l, x.turn < P
theorem PlI.nil : PlI 0 [] [] := ⟨fun i _ h => absurd h (by simp), fun i _ h => absurd h (by simp), List.Pairwise.nil, .refl _, fun x hx => absurd hx (by simp)⟩
theorem PlI.put {P : Int} {l es : List EntM} (h : PlI P l es) (k i : Int) : PlI (P + 1) (riseL (l ++ [⟨k, P, i⟩]) l.length) (insU es ⟨k, P, i⟩) := by
  have hd : DistE (l ++ [⟨k, P, i⟩]) := by
    rw [distE_iff, List.map_append, List.nodup_append]
    refine ⟨(distE_iff l).1 h.dist, by simp, fun a ha b hb => ?_⟩
    obtain ⟨x, hx, rfl⟩ := List.mem_map.1 ha
    simp at hb
    subst hb
    have := h.turns x hx
    omega
  have hp := riseL_perm (l ++ [⟨k, P, i⟩]) l.length (by simp)
  refine ⟨put_heap h.heap hd, hd.perm hp, insU_up h.up (fun y hy => h.turns y (h.perm.mem_iff.1 hy)), ?_, fun x hx => ?_⟩
  · exact ((insU_perm es _).trans ((h.perm.cons _).trans (List.perm_append_singleton _ _).symm)).trans hp.symm
  · rcases List.mem_append.1 (hp.mem_iff.1 hx) with g | g
    · have := h.turns x g; omega
    · simp at g; subst g; show P < P + 1; omega
theorem PlI.take {P : Int} {l T : List EntM} {y : EntM} (h : PlI P l (y :: T)) : l.getD 0 default = y ∧ PlI P (removeL l 0) T := by
  have hu := h.up
  unfold UpRow at hu
  rw [List.pairwise_cons] at hu
  obtain ⟨e, hp⟩ := first_of h.heap h.dist h.perm.symm hu.1
  have hl : 0 < l.length := by rw [← h.perm.length_eq]; simp
  exact ⟨e, remove_heap hl h.heap h.dist, remove_dist hl h.dist, hu.2, hp.symm, fun x hx => h.turns x (h.perm.mem_iff.1 (List.mem_cons_of_mem _ (hp.mem_iff.1 hx)))⟩
theorem PlI.all {P : Int} {l es S : List EntM} (h : PlI P l es) (hp : S.Perm l) (hs : SortedE S) : S = es :=
  up_perm_eq (upRow_of hs (h.dist.perm hp)) h.up (hp.trans h.perm.symm)
theorem bestE_min {l : List EntM} {id : Int} (hd : DistE l) : ∀ k f, k ≤ l.length → bestE l id k = some f → ∀ i, i < k → (atE l i).id = id → i = f ∨ lessE (atE l f) (atE l i) = true := by
  intro k
  induction k with
  | zero => intro f _ h; cases h
  | succ k ih =>
    intro f hk h i hi hid
    unfold bestE at h
    split at h
    · rename_i h0
      split at h
      · injection h with h
        subst h
        by_cases e : i = k
        · exact .inl e
        · exact absurd hid (bestE_none k h0 i (by omega))
      · cases h
    · rename_i f' hf
      have hf2 := bestE_lt _ hf
      split at h
      · rename_i hc
        injection h with h
        subst h
        by_cases e : i = k
        · exact .inl e
        · rcases ih f' (by omega) hf i (by omega) hid with e2 | e2
          · subst e2; exact .inr hc.2
          · exact .inr (lessE_trans hc.2 e2)
      · rename_i hc
        injection h with h
        subst h
        by_cases e : i = k
        · subst e
          have hn : lessE (atE l i) (atE l f') = false := by
            cases g : lessE (atE l i) (atE l f') with
            | false => rfl
            | true => exact absurd ⟨hid, g⟩ hc
          exact .inr (lessE_tot hn (hd _ _ (by omega) (by omega) (by omega)))
        · exact ih f' (by omega) hf i (by omega) hid
theorem PlI.drop_not {P : Int} {l es : List EntM} (h : PlI P l es) {id : Int} (hn : bestE l id l.length = none) : id ∉ (rowK es).map Prod.snd := by
  intro hm
  obtain ⟨p, hp, e⟩ := List.mem_map.1 hm
  obtain ⟨x, hx, rfl⟩ := List.mem_map.1 hp
  obtain ⟨i, hi, e2⟩ := List.mem_iff_getElem.1 (h.perm.mem_iff.1 hx)
  have := bestE_none _ hn i hi
  rw [atE_get hi, e2] at this
  exact this e
theorem PlI.drop_yes {P : Int} {l es : List EntM} (h : PlI P l es) {id : Int} {f : Nat} (hf : bestE l id l.length = some f) : ∃ j, j < es.length ∧ atF ((rowK es).map Prod.snd) id = (j : Int) ∧ PlI P (removeL l f) (es.eraseIdx j) ∧ rowK (es.eraseIdx j) = (rowK es).eraseIdx j := by
  have hfl := bestE_lt _ hf
  have hfi := bestE_id _ _ hf
  have hmin := bestE_min h.dist _ _ (Nat.le_refl _) hf
  obtain ⟨m, hm, em⟩ := List.mem_iff_getElem.1 (h.perm.mem_iff.2 (by rw [atE_get hfl]; exact List.getElem_mem hfl : atE l f ∈ l))
  have hids : ∀ (es : List EntM), (rowK es).map Prod.snd = es.map EntM.id := fun es => by unfold rowK; rw [List.map_map]; rfl
  have hin : id ∈ es.map EntM.id := List.mem_map.2 ⟨es[m], List.getElem_mem hm, by rw [em]; exact hfi⟩
  obtain ⟨j, hj⟩ : ∃ j, (es.map EntM.id).idxOf id = j := ⟨_, rfl⟩
  have hjl : j < es.length := by have := List.idxOf_lt_length_of_mem hin; rw [hj, List.length_map] at this; exact this
  have hjid : es[j].id = id := by
    have := List.getElem_idxOf (x := id) (xs := es.map EntM.id) (by rw [hj, List.length_map]; exact hjl)
    simp only [hj] at this
    simpa using this
  have hjm : es[j] = atE l f := by
    obtain ⟨i, hi, ei⟩ := List.mem_iff_getElem.1 (h.perm.mem_iff.1 (List.getElem_mem hjl))
    have h1 := hmin i hi (by rw [atE_get hi, ei]; exact hjid)
    rw [atE_get hi, ei] at h1
    rcases h1 with e | h1
    · subst e; rw [atE_get hfl, ei]
    · by_cases e : j = m
      · subst e; exact em
      · have hup := h.up
        unfold UpRow at hup
        rw [List.pairwise_iff_getElem] at hup
        by_cases hlt : j < m
        · have g := hup j m hjl hm hlt
          rw [em, lessE_not h1] at g
          cases g
        · have hmj : m < j := by omega
          exfalso
          have hnot : ¬ (es.map EntM.id)[m]'(by rw [List.length_map]; exact hm) = id := by
            have := List.not_of_lt_findIdx (p := (· == id)) (xs := es.map EntM.id) (i := m) (by
              have : (es.map EntM.id).findIdx (· == id) = j := hj
              omega)
            simpa using this
          exact hnot (by rw [List.getElem_map, em]; exact hfi)
  have hpe : (es[j] :: es.eraseIdx j).Perm es := by
    have e1 : es = es.take j ++ es[j] :: es.drop (j + 1) := by rw [← List.drop_eq_getElem_cons hjl, List.take_append_drop]
    rw [List.eraseIdx_eq_take_drop_succ]
    exact (List.perm_middle (a := es[j]) (l₁ := es.take j) (l₂ := es.drop (j + 1))).symm.trans (List.Perm.of_eq e1.symm)
  have hp := remove_perm_at hfl
  refine ⟨j, hjl, by unfold atF; rw [hids, if_pos hin, hj], ⟨remove_heap_at hfl h.heap h.dist, (h.dist.perm hp).tail, h.up.sublist (List.eraseIdx_sublist _ _), ?_, fun x hx => h.turns x (hp.mem_iff.1 (List.mem_cons_of_mem _ hx))⟩, by unfold rowK; rw [List.eraseIdx_eq_take_drop_succ, List.eraseIdx_eq_take_drop_succ, List.map_append, List.map_take, List.map_drop]⟩
  have q := hpe.trans (h.perm.trans hp.symm)
  rw [hjm] at q
  exact q.cons_inv
end Go.Proofs.Ytpcbonljbfbdmaa
