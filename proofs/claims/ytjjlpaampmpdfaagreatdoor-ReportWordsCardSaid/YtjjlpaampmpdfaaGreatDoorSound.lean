/- What a set that may be is; sums over parts. Plain numbers. -/
import Derived.Test.YtjjlpaampmpdfaaGreatDoorTask5
namespace Go.Proofs.YtjjlpaampmpdfaaGreatDoor
open Go.ChangeShapes Go.WideShapes Go.ChangeAt Go.RowKit
set_option linter.unusedVariables false

theorem firstT_neg {l : List Bool} (h : firstT l = -1) : ∀ j, j < l.length → l.getD j false = false := by
  intro j hj
  unfold firstT at h
  split at h
  · omega
  · rename_i hm
    cases hb : l.getD j false with
    | false => rfl
    | true =>
      rw [List.getD_eq_getElem?_getD, List.getElem?_eq_getElem hj] at hb
      simp at hb
      exact absurd (hb ▸ List.getElem_mem hj) hm
theorem firstT_pos {l : List Bool} (h : firstT l ≠ -1) : ∃ k, k < l.length ∧ firstT l = k ∧ l.getD k false = true := by
  unfold firstT at h ⊢
  split at h
  · rename_i hm
    have h2 : l.findIdx id < l.length := List.findIdx_lt_length.2 ⟨true, hm, rfl⟩
    refine ⟨l.findIdx id, h2, by rw [if_pos hm], ?_⟩
    rw [List.getD_eq_getElem?_getD, List.getElem?_eq_getElem h2]
    have h3 : id l[l.findIdx id] = true := List.findIdx_getElem (w := h2)
    simpa using h3
  · exact absurd rfl h
theorem okS_iff (s : SetR) : okS s = true ↔ frameV s = 0 ∧ ∀ k, k < s.tasks.length → taskE s k = 0 := by
  unfold okS chkE
  constructor
  · intro h
    by_cases hf : frameV s = 0
    · refine ⟨hf, ?_⟩
      rw [if_neg (by simp [hf])] at h
      by_cases hb : badAt s = -1
      · intro k hk
        have := firstT_neg hb k (by simpa using hk)
        simpa [List.getD, hk] using this
      · rw [if_neg hb] at h
        obtain ⟨k, hk, e, g⟩ := firstT_pos hb
        simp at hk
        simp [List.getD, hk] at g
        have e2 : (badAt s).toNat = k := by unfold badAt; rw [e]; simp
        rw [e2] at h
        exact absurd (by simpa using h) g
    · rw [if_pos hf] at h
      exact absurd (by simpa using h) hf
  · rintro ⟨hf, h⟩
    rw [if_neg (by simp [hf]), if_pos (bad_none h)]
    rfl
theorem taskE_ok {s : SetR} {k : Nat} (h : taskE s k = 0) : formB (s.tasks.getD k default) = true ∧ inB (s.tasks.getD k default).cl 0 ((s.cores.length : Int) - 1) = true ∧ takenB (s.tasks.take k) (s.tasks.getD k default) = false ∧ partsB (s.tasks.getD k default).parts s.homes.length = true := by
  unfold taskE at h
  by_cases h1 : formB (s.tasks.getD k default) = false
  · rw [if_pos h1] at h; omega
  rw [if_neg h1] at h
  by_cases h2 : inB (s.tasks.getD k default).cl 0 ((s.cores.length : Int) - 1) = false
  · rw [if_pos h2] at h; omega
  rw [if_neg h2] at h
  by_cases h3 : takenB (s.tasks.take k) (s.tasks.getD k default) = true
  · rw [if_pos h3] at h; omega
  rw [if_neg h3] at h
  by_cases h4 : partsB (s.tasks.getD k default).parts s.homes.length = false
  · rw [if_pos h4] at h; omega
  exact ⟨by simpa using h1, by simpa using h2, by simpa using h3, by simpa using h4⟩
theorem allB_at {zs : List Int} {lo hi : Int} (h : allB zs lo hi = true) : ∀ z ∈ zs, lo ≤ z ∧ z ≤ hi := by
  intro z hz
  exact inB_true.1 (List.all_eq_true.1 h z hz)
/-- a part that may be, among so many resources -/
def PartGood (p : PartM) (res : Int) : Prop := (p.kind = 1 ∨ p.kind = 2 ∨ p.kind = 3) ∧ 1 ≤ p.len ∧ p.len ≤ 60 ∧ (p.kind = 3 → 0 ≤ p.res ∧ p.res < res)
theorem partB_good {p : PartM} {res : Int} (h : partB p res = true) : PartGood p res := by
  unfold partB at h
  unfold PartGood
  by_cases h3 : p.kind = 3
  · rw [if_pos h3, Bool.and_eq_true] at h
    have h1 := inB_true.1 h.1
    have h2 := inB_true.1 h.2
    exact ⟨.inr (.inr h3), h1.1, h1.2, fun _ => by omega⟩
  · rw [if_neg h3] at h
    by_cases h12 : p.kind = 1 ∨ p.kind = 2
    · rw [if_pos h12, Bool.and_eq_true] at h
      have h1 := inB_true.1 h.1
      exact ⟨by omega, h1.1, h1.2, fun e => absurd e h3⟩
    · rw [if_neg h12] at h; cases h
/-- the parts of a task that may be -/
structure PartsGood (ps : List PartM) (res : Int) : Prop where
  len : 1 ≤ ps.length ∧ ps.length ≤ 6
  good : ∀ p ∈ ps, PartGood p res
theorem partsB_good {ps : List PartM} {res : Int} (h : partsB ps res = true) : PartsGood ps res := by
  unfold partsB at h
  rw [Bool.and_eq_true] at h
  have h1 := inB_true.1 h.1
  exact ⟨by omega, fun p hp => partB_good (List.all_eq_true.1 h.2 p hp)⟩
/-- a set that may be -/
structure Good (s : SetR) : Prop where
  proto : 1 ≤ s.proto ∧ s.proto ≤ 3
  ncores : 1 ≤ s.cores.length ∧ s.cores.length ≤ 3
  cores : ∀ n ∈ s.cores, 1 ≤ n ∧ n ≤ 3
  nhomes : s.homes.length ≤ 4
  homes : ∀ n ∈ s.homes, 0 ≤ n ∧ n ≤ (s.cores.length : Int) - 1
  ntasks : 1 ≤ s.tasks.length ∧ s.tasks.length ≤ 6
  parts : ∀ t ∈ s.tasks, PartsGood t.parts s.homes.length
  place : ∀ t ∈ s.tasks, 0 ≤ t.cl ∧ t.cl ≤ (s.cores.length : Int) - 1
  form : ∀ t ∈ s.tasks, formB t = true
  apart : ∀ k, k < s.tasks.length → takenB (s.tasks.take k) (s.tasks.getD k default) = false
theorem mem_getD {α : Type} [Inhabited α] {l : List α} {x : α} (h : x ∈ l) : ∃ k, k < l.length ∧ l.getD k default = x := by
  obtain ⟨k, hk, e⟩ := List.mem_iff_getElem.1 h
  exact ⟨k, hk, by simp [List.getD, hk, e]⟩
theorem getD_mem {α : Type} [Inhabited α] {l : List α} {k : Nat} (h : k < l.length) : l.getD k default ∈ l := by
  simp [List.getD, h]
theorem Good.of {s : SetR} (h : okS s = true) : Good s := by
  obtain ⟨hf, ht⟩ := (okS_iff s).1 h
  obtain ⟨f1, f2, f3, f4, f5, f6, f7⟩ := frameV_ok hf
  have g2 := inB_true.1 f2
  refine ⟨inB_true.1 f1, by omega, allB_at f3, f4, allB_at f5, ⟨f6, f7⟩, fun t hm => ?_, fun t hm => ?_, fun t hm => ?_, fun k hk => ?_⟩
  · obtain ⟨k, hk, rfl⟩ := mem_getD hm
    exact partsB_good (taskE_ok (ht k hk)).2.2.2
  · obtain ⟨k, hk, rfl⟩ := mem_getD hm
    exact inB_true.1 (taskE_ok (ht k hk)).2.1
  · obtain ⟨k, hk, rfl⟩ := mem_getD hm
    exact (taskE_ok (ht k hk)).1
  · exact (taskE_ok (ht k hk)).2.2.1

/-- the Lens of the parts of a kind -/
def sumK (k : Int) : List PartM → Int
  | [] => 0
  | p :: ps => (if p.kind = k then p.len else 0) + sumK k ps
theorem sumK_append (k : Int) (a b : List PartM) : sumK k (a ++ b) = sumK k a + sumK k b := by
  induction a with
  | nil => simp [sumK]
  | cons p a ih => simp only [List.cons_append, sumK, ih]; omega
theorem take_snocD {α : Type} [Inhabited α] (l : List α) (k : Nat) (h : k < l.length) : l.take (k + 1) = l.take k ++ [l.getD k default] := by
  rw [List.take_succ_eq_append_getElem h]; simp [List.getD, h]
theorem sumK_snoc (k : Int) (ps : List PartM) (n : Nat) (h : n < ps.length) : sumK k (ps.take (n + 1)) = sumK k (ps.take n) + if (ps.getD n default).kind = k then (ps.getD n default).len else 0 := by
  rw [take_snocD ps n h, sumK_append]; simp [sumK]
/-- Lens within their bounds -/
def LenOk (ps : List PartM) : Prop := ∀ p ∈ ps, 1 ≤ p.len ∧ p.len ≤ 60
theorem PartsGood.lens {ps : List PartM} {res : Int} (h : PartsGood ps res) : LenOk ps := fun p hp => ⟨(h.good p hp).2.1, (h.good p hp).2.2.1⟩
theorem LenOk.take {ps : List PartM} (h : LenOk ps) (n : Nat) : LenOk (ps.take n) := fun p hp => h p (List.mem_of_mem_take hp)
theorem sumK_bd (k : Int) {ps : List PartM} (h : LenOk ps) : 0 ≤ sumK k ps ∧ sumK k ps ≤ 60 * (ps.length : Int) := by
  induction ps with
  | nil => simp [sumK]
  | cons p ps ih =>
    have h1 := ih (fun q hq => h q (by simp [hq]))
    have h2 := h p (by simp)
    simp only [sumK, List.length_cons]
    split <;> omega
/-- the greatest Len of a Lock; 0: none -/
def maxL : List PartM → Int
  | [] => 0
  | p :: ps => max (if p.kind = 3 then p.len else 0) (maxL ps)
theorem maxL_nn (ps : List PartM) : 0 ≤ maxL ps := by
  induction ps with
  | nil => simp [maxL]
  | cons p a ih => simp only [maxL]; omega
theorem maxL_append (a b : List PartM) : maxL (a ++ b) = max (maxL a) (maxL b) := by
  induction a with
  | nil => have := maxL_nn b; simp [maxL]; omega
  | cons p a ih => simp only [List.cons_append, maxL, ih]; omega
theorem maxL_snoc (ps : List PartM) (n : Nat) (h : n < ps.length) : maxL (ps.take (n + 1)) = max (maxL (ps.take n)) (if (ps.getD n default).kind = 3 then (ps.getD n default).len else 0) := by
  rw [take_snocD ps n h, maxL_append]
  have := maxL_nn (ps.take n)
  simp only [maxL]; split <;> omega
theorem maxL_bd {ps : List PartM} (h : LenOk ps) : maxL ps ≤ 60 := by
  induction ps with
  | nil => simp [maxL]
  | cons p ps ih =>
    have h1 := ih (fun q hq => h q (by simp [hq]))
    have h2 := h p (by simp)
    simp only [maxL]
    split <;> omega
theorem maxL_le_sum {ps : List PartM} (h : LenOk ps) : maxL ps ≤ sumK 3 ps := by
  induction ps with
  | nil => simp [maxL, sumK]
  | cons p ps ih =>
    have h1 := ih (fun q hq => h q (by simp [hq]))
    have h2 := h p (by simp)
    have h3 := sumK_bd 3 (ps := ps) (fun q hq => h q (by simp [hq]))
    have h4 := maxL_nn ps
    simp only [maxL, sumK]
    split <;> omega
theorem sum_le_maxL {ps : List PartM} (h : LenOk ps) (h0 : maxL ps = 0) : sumK 3 ps = 0 := by
  induction ps with
  | nil => simp [sumK]
  | cons p ps ih =>
    have h2 := h p (by simp)
    have h4 := maxL_nn ps
    simp only [maxL] at h0
    have h1 := ih (fun q hq => h q (by simp [hq])) (by omega)
    simp only [sumK]
    split
    · rename_i e; rw [if_pos e] at h0; omega
    · omega
end Go.Proofs.YtjjlpaampmpdfaaGreatDoor
