/- rank: what is left when one is taken out anywhere; what Drop leaves. Plain lists. -/
import Derived.Test.YtpcbonljbfbdmaaRankW
import Derived.Test.YtpcbonljbfbdmaaRankAll
namespace Go.Proofs.Ytpcbonljbfbdmaa
open Go.ChangeShapes Go.WideShapes Go.ChangeAt Go.RowKit
set_option linter.unusedVariables false
set_option linter.unusedSimpArgs false
theorem cut_perm_at {l : List EntM} {k : Nat} (hk : k < l.length) : (atE l k :: cutL l k).Perm l := by
  rcases List.eq_nil_or_concat l with rfl | ⟨q, z, rfl⟩
  · simp at hk
  rw [List.concat_eq_append] at *
  have hlen : (q ++ [z]).length - 1 = q.length := by simp
  have hz : (q ++ [z]).getD q.length default = z := by simp [List.getD]
  unfold cutL
  rw [hlen, hz]
  by_cases h : k = q.length
  · subst h
    have e1 : atE (q ++ [z]) q.length = z := hz
    have e2 : ((q ++ [z]).set q.length z).take q.length = q := by simp
    rw [e1, e2]
    exact (List.perm_append_singleton z q).symm
  · have hkq : k < q.length := by simp at hk; omega
    have e1 : atE (q ++ [z]) k = q[k] := by
      rw [atE_get hk, List.getElem_append_left hkq]
    have e2 : ((q ++ [z]).set k z).take q.length = q.set k z := by
      rw [List.set_append_left _ _ hkq, List.take_append_of_le_length (by simp)]
      exact List.take_of_length_le (by simp)
    rw [e1, e2, List.set_eq_take_append_cons_drop, if_pos hkq]
    have e3 : q = q.take k ++ q[k] :: q.drop (k + 1) := by rw [← List.drop_eq_getElem_cons hkq, List.take_append_drop]
    have p1 : (q[k] :: (q.take k ++ z :: q.drop (k + 1))).Perm (q[k] :: z :: (q.take k ++ q.drop (k + 1))) := List.Perm.cons _ List.perm_middle
    have p2 : (q ++ [z]).Perm (z :: (q[k] :: (q.take k ++ q.drop (k + 1)))) := by
      refine (List.perm_append_singleton z q).trans (List.Perm.cons z ?_)
      have : q.Perm (q.take k ++ q[k] :: q.drop (k + 1)) := List.Perm.of_eq e3
      exact this.trans List.perm_middle
    exact (p1.trans (List.Perm.swap _ _ _)).trans p2.symm
theorem cut_at {l : List EntM} {k : Nat} (hk : k < l.length - 1) (i : Nat) (hi : i < l.length - 1) : atE (cutL l k) i = if k = i then atE l (l.length - 1) else atE l i := by
  unfold atE cutL
  simp only [List.getD_eq_getElem?_getD, List.getElem?_take, List.getElem?_set]
  rw [if_pos hi]
  by_cases e : k = i
  · subst e; rw [if_pos rfl, if_pos (by omega), if_pos rfl]; rfl
  · rw [if_neg e, if_neg e]
theorem rise_id {l : List EntM} {k : Nat} (h : HeapE l) (hk : k < l.length) : riseL l k = l := by
  rw [riseL]
  split
  · rfl
  · rename_i h0
    rw [if_pos (h k (by omega) hk)]
theorem remove_perm_at {l : List EntM} {k : Nat} (hk : k < l.length) : (atE l k :: removeL l k).Perm l := by
  refine List.Perm.trans (List.Perm.cons _ ?_) (cut_perm_at hk)
  unfold removeL
  by_cases h : k < l.length - 1
  · rw [if_pos h]
    exact (riseL_perm _ k (by rw [sinkL_len, cutL_len]; exact h)).trans (sinkL_perm _ _ _ (Nat.le_refl _))
  · rw [if_neg h]
theorem remove_heap_at {l : List EntM} {k : Nat} (hk : k < l.length) (h : HeapE l) (hd : DistE l) : HeapE (removeL l k) := by
  have hdm : DistE (cutL l k) := (hd.perm (cut_perm_at hk)).tail
  have hlm := cutL_len l k
  unfold removeL
  by_cases h1 : k < l.length - 1
  · rw [if_pos h1]
    obtain ⟨m, hm⟩ : ∃ m, cutL l k = m := ⟨_, rfl⟩
    have ha : ∀ i, i < l.length - 1 → k ≠ i → atE m i = atE l i := fun i hi hne => by rw [← hm, cut_at h1 i hi, if_neg hne]
    rw [hm] at hdm hlm ⊢
    have fa : ∀ i, 0 < i → i < m.length → i ≠ k → (i - 1) / 2 ≠ k → lessE (atE m ((i - 1) / 2)) (atE m i) = true := fun i h2 h3 h4 h5 => by
      rw [ha i (by omega) (Ne.symm h4), ha _ (by omega) (Ne.symm h5)]
      exact h i h2 (by omega)
    have fb : 0 < k → ∀ i, 0 < i → i < m.length → (i - 1) / 2 = k → lessE (atE m ((k - 1) / 2)) (atE m i) = true := fun h0 i h2 h3 h4 => by
      rw [ha i (by omega) (by omega), ha _ (by omega) (by omega)]
      have a := h k h0 hk
      have b := h i h2 (by omega)
      rw [h4] at b
      exact lessE_trans a b
    by_cases hx : 0 < k ∧ lessE (atE m ((k - 1) / 2)) (atE m k) = false
    · obtain ⟨h0, hx⟩ := hx
      have hup : lessE (atE m k) (atE m ((k - 1) / 2)) = true := lessE_tot hx (hdm _ _ (by omega) (by omega) (by omega))
      have hch : ∀ i, 0 < i → i < m.length → (i - 1) / 2 = k → lessE (atE m k) (atE m i) = true := fun i h2 h3 h4 => lessE_trans hup (fb h0 i h2 h3 h4)
      have hs : sinkL m k = m := by
        rw [sinkL]
        have hb := downE_bd m k
        split
        · rfl
        · rename_i h2
          rw [if_pos (hch _ (by omega) (by omega) (by omega))]
      rw [hs]
      refine rise_heap k m (by omega) hdm ⟨fun i h2 h3 h4 => ?_, fb⟩
      by_cases h5 : (i - 1) / 2 = k
      · rw [h5]; exact hch i h2 h3 h5
      · exact fa i h2 h3 h4 h5
    · have hH : HeapE (sinkL m k) := by
        refine sink_heap _ m k (Nat.le_refl _) hdm ⟨fun i h2 h3 h4 => ?_, fb⟩
        by_cases h5 : i = k
        · subst h5
          cases hc : lessE (atE m ((i - 1) / 2)) (atE m i) with
          | true => rfl
          | false => exact absurd ⟨h2, hc⟩ hx
        · exact fa i h2 h3 h5 h4
      rw [rise_id hH (by rw [sinkL_len]; omega)]
      exact hH
  · rw [if_neg h1]
    have hk2 : k = l.length - 1 := by omega
    intro i h2 h3
    rw [hlm] at h3
    have e : ∀ j, j < l.length - 1 → atE (cutL l k) j = atE l j := fun j hj => by
      unfold atE cutL
      simp only [List.getD_eq_getElem?_getD, List.getElem?_take, List.getElem?_set]
      rw [if_pos hj, if_neg (by omega)]
    rw [e _ (by omega), e _ h3]
    exact h i h2 (by omega)
theorem bestE_none {l : List EntM} {id : Int} : ∀ k, bestE l id k = none → ∀ i, i < k → (atE l i).id ≠ id := by
  intro k
  induction k with
  | zero => intro _ i hi; omega
  | succ k ih =>
    intro h i hi
    unfold bestE at h
    split at h
    · rename_i h0
      split at h
      · cases h
      · rename_i hne
        by_cases e : i = k
        · subst e; exact hne
        · exact ih h0 i (by omega)
    · split at h <;> cases h
theorem bestE_id {l : List EntM} {id : Int} : ∀ k f, bestE l id k = some f → (atE l f).id = id := by
  intro k
  induction k with
  | zero => intro f h; cases h
  | succ k ih =>
    intro f h
    unfold bestE at h
    split at h
    · split at h
      · rename_i he; injection h with h; subst h; exact he
      · cases h
    · rename_i f' hf
      split at h
      · rename_i he; injection h with h; subst h; exact he.1
      · injection h with h; subst h; exact ih _ hf
/-- ahead of all that come behind -/
def UpRow (l : List EntM) : Prop := l.Pairwise fun a b => lessE a b = true
theorem upRow_of {l : List EntM} (hs : SortedE l) (hd : DistE l) : UpRow l := by
  unfold UpRow
  rw [List.pairwise_iff_getElem]
  intro i j hi hj hij
  have a := hs i j hij hj
  rw [atE_get hi, atE_get hj] at a
  have b := hd i j hi hj (by omega)
  rw [atE_get hi, atE_get hj] at b
  exact lessE_tot a (fun e => b e.symm)
/-- the first of a heap is the one that is ahead of all -/
theorem first_of {l T : List EntM} {y : EntM} (hh : HeapE l) (hd : DistE l) (hp : l.Perm (y :: T)) (hy : ∀ x ∈ T, lessE y x = true) : atE l 0 = y ∧ (removeL l 0).Perm T := by
  have hl : 0 < l.length := by rw [hp.length_eq]; simp
  have h1 := remove_perm hl
  have e : atE l 0 = y := by
    apply Classical.byContradiction
    intro hne
    have hy1 : y ∈ atE l 0 :: removeL l 0 := (h1.trans hp).mem_iff.2 List.mem_cons_self
    have hy2 : y ∈ removeL l 0 := (List.mem_cons.1 hy1).resolve_left (fun e => hne e.symm)
    have a := remove_first hl hh hd y hy2
    have h0 : atE l 0 ∈ y :: T := (h1.trans hp).mem_iff.1 List.mem_cons_self
    have h3 : atE l 0 ∈ T := (List.mem_cons.1 h0).resolve_left hne
    have b := hy _ h3
    rw [lessE_not a] at b
    cases b
  refine ⟨e, ?_⟩
  rw [e] at h1
  exact (h1.trans hp).cons_inv
/-- who is id goes: the others stay -/
theorem RsIn.drop {key : Nat → Int} {n : Nat} {l : List EntM} (h : RsIn key n l) {id : Int} (hid : ∃ x ∈ l, x.id = id) :
    (bestE l id l.length).isSome = true ∧ RsIn key n (dropL l id) ∧ (dropL l id).Perm (l.filter fun x => decide (x.id ≠ id)) ∧ (dropL l id).length + 1 = l.length ∧ bestE (dropL l id) id (dropL l id).length = none ∧ dropL (dropL l id) id = dropL l id := by
  have hb : ∃ f, bestE l id l.length = some f := by
    cases hc : bestE l id l.length with
    | some f => exact ⟨f, rfl⟩
    | none =>
      obtain ⟨x, hx, he⟩ := hid
      obtain ⟨i, hi, e⟩ := List.mem_iff_getElem.1 hx
      have := bestE_none _ hc i hi
      rw [atE_get hi, e] at this
      exact absurd he this
  obtain ⟨f, hf⟩ := hb
  have hfl := bestE_lt _ hf
  have hfi := bestE_id _ _ hf
  have hD : dropL l id = removeL l f := by unfold dropL; rw [hf]
  have hp := remove_perm_at hfl
  have hd2 : DistE (removeL l f) := (h.dist.perm hp).tail
  have hne : ∀ x ∈ removeL l f, x.id ≠ id := fun x hx e => by
    have hm : x ∈ l := hp.mem_iff.1 (List.mem_cons_of_mem _ hx)
    have t1 := (h.mem x hm).1
    have t2 := (h.mem (atE l f) (hp.mem_iff.1 List.mem_cons_self)).1
    have := (distE_iff _).1 (h.dist.perm hp)
    simp only [List.map_cons, List.nodup_cons] at this
    exact this.1 (List.mem_map.2 ⟨x, hx, by rw [t1, t2, e, hfi]⟩)
  have hnone : bestE (removeL l f) id (removeL l f).length = none := by
    cases hc : bestE (removeL l f) id (removeL l f).length with
    | none => rfl
    | some g =>
      have g1 := bestE_lt _ hc
      have g2 := bestE_id _ _ hc
      rw [atE_get g1] at g2
      exact absurd g2 (hne _ (List.getElem_mem g1))
  rw [hD]
  refine ⟨by rw [hf]; rfl, ⟨remove_heap_at hfl h.heap h.dist, hd2, fun x hx => h.mem x (hp.mem_iff.1 (List.mem_cons_of_mem _ hx))⟩, ?_, ?_, hnone, by unfold dropL; rw [hnone]⟩
  · have q := hp.filter fun x => decide (x.id ≠ id)
    rw [List.filter_cons_of_neg (fun h => (of_decide_eq_true h) hfi)] at q
    have e2 : (removeL l f).filter (fun x => decide (x.id ≠ id)) = removeL l f := List.filter_eq_self.2 (fun x hx => by simpa using hne x hx)
    rw [e2] at q
    exact q
  · have := hp.length_eq
    simp at this
    omega
/-- what is behind the one that went first -/
theorem RsIn.behind {key : Nat → Int} {n : Nat} {l : List EntM} (h : RsIn key n l) (hl : 0 < l.length) : ∃ x : Nat, (l.getD 0 default).id = (x : Int) ∧ x < n ∧ RsIn key n (removeL l 0) ∧
    ∀ y ∈ removeL l 0, ∃ k : Nat, y.id = (k : Int) ∧ k < n ∧ (key x < key k ∨ key x = key k ∧ x < k) := by
  obtain ⟨h1, x, hx, hxn, ha, _⟩ := h.take hl (last := -1) ⟨.inl rfl, fun h => absurd h (by omega)⟩
  refine ⟨x, hx, hxn, h1, fun y hy => ?_⟩
  obtain ⟨m1, m2, m3, m4⟩ := h1.mem y hy
  have b := ha.2 (by omega) y hy
  refine ⟨y.id.toNat, by omega, by omega, ?_⟩
  unfold lessE at b
  rw [Bool.or_eq_true, Bool.and_eq_true, decide_eq_true_iff, decide_eq_true_iff, decide_eq_true_iff] at b
  dsimp only at b
  rw [Int.toNat_natCast, m1, m4] at b
  omega
theorem NumsAt.turned {B : Nat} {w w' : World} {A : Option Addr} {n c : Nat} {zs : List Int} {F : List Nat} (h : NumsAt B w A n c zs) (ht : Turned F w w') (hF : ∀ k ∈ fp A, k ∉ F) : NumsAt B w' A n c zs := ⟨own_turned h.own ht hF, h.len, h.cap, h.nil⟩
theorem NumsAt.cell {B : Nat} {w : World} {A : Option Addr} {n c : Nat} {zs : List Int} (h : NumsAt B w A n c zs) {k : Nat} (hk : k < zs.length) : ∃ g off, A = some ⟨g, off, none⟩ ∧ w.cell? ⟨g, off + k, none⟩ = some (.int .i64 (zs.getD k 0)) := by
  obtain ⟨g, off, e, hc⟩ := (Lies.row (B := w.heap.size) (Lies.of_own h.own)).resolve_left (by intro e; simp [e] at hk)
  exact ⟨g, off, e, hc k hk⟩
theorem RkUp.over {B : Nat} {W w w' : World} {b : Nat} {R P : Int} {l : List EntM} {A : Option Addr} {c : Nat} (h : RkUp B W w b R P l A c) (hb : Below w.heap.size w w') : RkUp B W w' b R P l A c :=
  ⟨h.rk.turned (Turned.of_below hb []) (by simp) (by simp), h.up.over hb⟩
theorem RkUp.lts {B : Nat} {W w : World} {b : Nat} {R P : Int} {l : List EntM} {A : Option Addr} {c : Nat} (h : RkUp B W w b R P l A c) : ∀ k ∈ b :: fp A, k < w.heap.size := fun k hk => by
  rcases List.mem_cons.1 hk with rfl | hk
  · exact h.rk.blk.lt
  · exact (own_fp h.rk.own.own k hk).2
theorem NumsAt.lts {B : Nat} {w : World} {A : Option Addr} {n c : Nat} {zs : List Int} (h : NumsAt B w A n c zs) : ∀ k ∈ fp A, B ≤ k := fun k hk => (own_fp h.own k hk).1
end Go.Proofs.Ytpcbonljbfbdmaa
