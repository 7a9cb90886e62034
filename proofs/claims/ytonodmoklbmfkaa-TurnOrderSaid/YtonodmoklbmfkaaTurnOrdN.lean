/- TurnOrder: plain facts: tasks numbered, who was seen, what First tells of them. -/
import Derived.Test.YtonodmoklbmfkaaTurnNums
import Derived.Test.YtonodmoklbmfkaaTurn11
import Derived.Laws.MakeOwn
set_option linter.unusedSimpArgs false
set_option linter.unusedVariables false
namespace Go.Proofs.Ytonodmoklbmfkaa
open Go.ChangeShapes Go.WideShapes Go.ChangeAt Go.RowKit
theorem nat_mod40 {a : Int} (h : (Lit.int .u8 a).wf = true) : ∃ k : Nat, 0 ≤ k ∧ k < 40 ∧ a.tmod 40 = (k : Int) := by
  have b : 0 ≤ a ∧ a ≤ 255 := by simp [Lit.wf, IntKind.min, IntKind.max, IntKind.signed, IntKind.bits] at h; omega
  refine ⟨(a.tmod 40).toNat, by omega, ?_, ?_⟩ <;> rw [Int.tmod_eq_emod_of_nonneg (by omega)] <;> omega
theorem whos_mem {l : List WhoM} {k : Nat} (h : k < l.length) : l.getD k default ∈ l := by simp [List.getD, h]
theorem ahead_tr {a b c : WhoM} (h1 : aheadB a b = true) (h2 : aheadB b c = true) : aheadB a c = true := by
  rw [ahead_iff] at *
  omega
def numM (l : List WhoM) : List WhoM := l.mapIdx fun i x => ⟨i, x.prio, x.boost⟩
def numW (l : List WhoM) (k : Nat) : List WhoM := numM (l.take k) ++ l.drop k
theorem numM_len (l : List WhoM) : (numM l).length = l.length := by simp [numM]
theorem numW_zero (l : List WhoM) : numW l 0 = l := by simp [numW, numM]
theorem numW_len (l : List WhoM) (k : Nat) : (numW l k).length = l.length := by unfold numW; simp [numM_len]; omega
theorem numW_put {l : List WhoM} {k : Nat} (h : k < l.length) : (wtc (numW l k)).set (k * 3) (.int .i64 (k : Int)) = wtc (numW l (k + 1)) := by
  obtain ⟨y, hy⟩ : ∃ y, l.getD k default = y := ⟨_, rfl⟩
  have dk : l.drop k = y :: l.drop (k + 1) := by rw [← hy]; exact drop_more h
  have tk : numM (l.take (k + 1)) = numM (l.take k) ++ [⟨k, y.prio, y.boost⟩] := by
    rw [take_more h, hy]
    unfold numM
    rw [List.mapIdx_concat, List.length_take, Nat.min_eq_left (by omega)]
  have hl : (wtc (numM (l.take k))).length = k * 3 := by rw [wtc_len, numM_len, List.length_take, Nat.min_eq_left (by omega)]
  unfold numW
  rw [dk, tk, wtc_append, wtc_append, wtc_append, List.set_append_right _ _ (by omega), hl, Nat.sub_self, List.append_assoc]
  rfl
theorem firstV_at {l : List WhoM} {k : Int} {i : Nat} (hi : i < (firstV l k).length) : (firstV l k).getD i 0 = ((sortW l).getD i default).task := by
  unfold firstV at hi ⊢
  have h2 := hi
  rw [List.length_map, List.length_take] at h2
  simp only [List.getD_eq_getElem?_getD, List.getElem?_map, List.getElem?_take]
  rw [if_pos (by omega), List.getElem?_eq_getElem (by omega)]
  rfl
theorem firstV_len (l : List WhoM) (k : Int) : ((firstV l k).length : Int) = min (max k 0) l.length := by
  unfold firstV
  rw [List.length_map, List.length_take, sortW_len]; omega
def seenA (Z : List Int) (m j : Nat) : Array Value := ((List.range m).map fun i : Nat => Value.bool (decide ((i : Int) ∈ Z.take j))).toArray
theorem seenA_at {Z : List Int} {m j t : Nat} {b : Bool} (ht : t < m) (h : decide ((t : Int) ∈ Z.take j) = b) : (seenA Z m j)[t]? = some (.bool b) := by
  unfold seenA
  simp [ht, ← h]
theorem seenA_put {Z : List Int} {m j t : Nat} (ht : t < m) (hj : j < Z.length) (h : Z.getD j 0 = (t : Int)) : (seenA Z m j).setIfInBounds t (.bool true) = seenA Z m (j + 1) := by
  unfold seenA
  have e : Z.take (j + 1) = Z.take j ++ [(t : Int)] := by rw [List.take_succ_eq_append_getElem hj, ← h]; simp [List.getD, hj]
  rw [e, List.setIfInBounds_toArray]
  congr 1
  refine List.ext_getElem (by simp) (fun i h1 h2 => ?_)
  simp only [List.getElem_set, List.getElem_map, List.getElem_range]
  by_cases hi : t = i
  · subst hi; simp
  · rw [if_neg hi]
    have : ((i : Int) ∈ Z.take j ++ [(t : Int)]) ↔ (i : Int) ∈ Z.take j := by
      rw [List.mem_append, List.mem_singleton]
      constructor
      · rintro (h | h)
        · exact h
        · exact absurd (by omega) hi
      · exact .inl
    simp only [this]
theorem numM_task {l : List WhoM} {i : Nat} (hi : i < (numM l).length) : ((numM l).getD i default).task = (i : Int) := by
  have h2 := hi
  rw [numM_len] at h2
  unfold numM
  simp [List.getD, h2]
theorem ahead_none {a b : WhoM} (h1 : aheadB a b = false) (h2 : aheadB b a = false) : a.task = b.task := by
  rw [not_ahead] at *
  omega
theorem first_facts {N : List WhoM} {kk : Int} {m : Nat} (ht : ∀ i, i < N.length → (N.getD i default).task = (i : Int)) (hm : N.length = m) :
    (∀ j, j < (firstV N kk).length → ∃ t : Nat, t < m ∧ (firstV N kk).getD j 0 = (t : Int) ∧ N.getD t default = (sortW N).getD j default) ∧
    (∀ j, j < (firstV N kk).length → (firstV N kk).getD j 0 ∉ (firstV N kk).take j) ∧
    (∀ j, j + 1 < (firstV N kk).length → aheadB ((sortW N).getD j default) ((sortW N).getD (j + 1) default) = true) ∧
    (∀ i, i < m → (i : Int) ∉ firstV N kk → 0 < (firstV N kk).length → aheadB (N.getD i default) ((sortW N).getD ((firstV N kk).length - 1) default) = false) := by
  have hS : (sortW N).length = m := by rw [sortW_len, hm]
  have hz : (firstV N kk).length ≤ m := by unfold firstV; rw [List.length_map, List.length_take]; omega
  have hN : N.map WhoM.task = (List.range m).map (fun i : Nat => (i : Int)) := by
    refine List.ext_getElem (by simp [hm]) (fun i h1 h2 => ?_)
    rw [List.length_map] at h1
    have := ht i h1
    simp only [List.getElem_map, List.getElem_range]
    rw [← this]; simp [List.getD, h1]
  have nd : ((sortW N).map WhoM.task).Nodup := by
    rw [((sortW_perm N).map WhoM.task).nodup_iff, hN]
    exact List.pairwise_map.2 (List.nodup_range.imp (fun h he => h (by omega)))
  have nz : (firstV N kk).Nodup := by
    unfold firstV
    rw [List.map_take]
    exact nd.sublist (List.take_sublist _ _)
  have at_ : ∀ j, j < m → ∃ t : Nat, t < m ∧ ((sortW N).getD j default).task = (t : Int) ∧ N.getD t default = (sortW N).getD j default := fun j hj => by
    have hj' : j < (sortW N).length := by omega
    have e : (sortW N).getD j default = (sortW N)[j] := by simp [List.getD, hj']
    have hmem : (sortW N)[j] ∈ N := (sortW_perm N).mem_iff.1 (List.getElem_mem hj')
    obtain ⟨t, htl, htv⟩ := List.mem_iff_getElem.1 hmem
    have e2 : N.getD t default = (sortW N)[j] := by rw [← htv]; simp [List.getD, htl]
    exact ⟨t, by omega, by rw [e, ← e2]; exact ht t htl, by rw [e2, e]⟩
  have ne : ∀ i j, i < m → j < m → i ≠ j → ((sortW N).getD i default).task ≠ ((sortW N).getD j default).task := fun i j hi hj hij he => by
    have hi' : i < ((sortW N).map WhoM.task).length := by rw [List.length_map]; omega
    have hj' : j < ((sortW N).map WhoM.task).length := by rw [List.length_map]; omega
    refine hij ((List.getElem_inj (h₀ := hi') (h₁ := hj') nd).1 ?_)
    have hi2 : i < (sortW N).length := by omega
    have hj2 : j < (sortW N).length := by omega
    simpa [List.getD, hi2, hj2] using he
  refine ⟨fun j hj => ?_, fun j hj hmem => ?_, fun j hj => ?_, fun i hi hni h0 => ?_⟩
  · obtain ⟨t, h1, h2, h3⟩ := at_ j (by omega)
    exact ⟨t, h1, by rw [firstV_at hj, h2], h3⟩
  · have e : firstV N kk = (firstV N kk).take j ++ (firstV N kk).getD j 0 :: (firstV N kk).drop (j + 1) := by
      have := List.take_append_drop j (firstV N kk)
      rw [List.drop_eq_getElem_cons hj] at this
      rw [show (firstV N kk).getD j 0 = (firstV N kk)[j] by simp [List.getD, hj]]
      exact this.symm
    rw [e] at nz
    exact (List.nodup_append.1 nz).2.2 _ hmem _ (List.mem_cons_self ..) rfl
  · cases h : aheadB ((sortW N).getD j default) ((sortW N).getD (j + 1) default) with
    | true => rfl
    | false => exact absurd (ahead_none h (sort_next N j (by omega))) (ne j (j + 1) (by omega) (by omega) (by omega))
  · have hmem : N.getD i default ∈ sortW N := (sortW_perm N).mem_iff.2 (by rw [show N.getD i default = N[i]'(by omega) by simp [List.getD, show i < N.length by omega]]; exact List.getElem_mem _)
    obtain ⟨q, hq, hqv⟩ := List.mem_iff_getElem.1 hmem
    have hq2 : (sortW N).getD q default = N.getD i default := by rw [← hqv]; simp [List.getD, hq]
    have hql : (firstV N kk).length ≤ q := by
      refine Nat.le_of_not_lt (fun h => hni ?_)
      have := firstV_at h
      rw [hq2, ht i (by omega)] at this
      rw [← this]
      rw [show (firstV N kk).getD q 0 = (firstV N kk)[q] by simp [List.getD, h]]
      exact List.getElem_mem _
    have hp := List.pairwise_iff_getElem.1 (sort_srt N) ((firstV N kk).length - 1) q (by omega) hq (by omega)
    rw [← hq2]
    rw [show (sortW N).getD q default = (sortW N)[q] by simp [List.getD, hq], show (sortW N).getD ((firstV N kk).length - 1) default = (sortW N)[(firstV N kk).length - 1]'(by omega) by simp [List.getD, show (firstV N kk).length - 1 < (sortW N).length by omega]]
    exact hp
theorem seenA_zero (Z : List Int) (m : Nat) : seenA Z m 0 = Array.replicate m (Value.bool false) := by
  unfold seenA
  rw [← List.toArray_replicate]
  congr 1
  refine List.ext_getElem (by simp) (fun i h1 h2 => ?_)
  simp
theorem made_rep (z : Value) (n : Nat) : madeCells #[z] n = (List.replicate n z).toArray := by
  refine Array.ext (by simp [madeCells]) (fun j h1 h2 => ?_)
  simp [madeCells, Nat.mod_one]
theorem infoBool : (Try.prog.info? 4).map (fun i => (i.zero, i.size, i.bytes)) = some (some (.bool false), 1, 1) := by kernel_rfl
theorem make_bools (N : Nat) (hN : N ≤ 20000) (W : World) : (Instr.makeSlice 31 (.int .i64 (N : Int)) (.int .i64 (N : Int))).run Try.prog W = .ok (.slice (some ⟨W.heap.size, 0, none⟩) N N) (W.alloc (.cells (Array.replicate N (Value.bool false)) 4)) := by
  obtain ⟨i0, hi0, hy0, hy1, hy2⟩ := info_parts infoBool
  have h := run_make (P := Try.prog) (w := W) _ _ i0 _ Try.underlying31 hi0 hy0 .i64 .i64 N N (by omega) (by omega) (by rw [hy2]; omega) (by omega)
  rw [Int.toNat_natCast, hy1, Nat.mul_one] at h
  rw [h, ← List.toArray_replicate, ← made_rep]
  rfl
end Go.Proofs.Ytonodmoklbmfkaa
