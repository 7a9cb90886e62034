/- What makes a set one that may be: task by task. Plain numbers. -/
import Derived.Test.YtmchjmgifipfoaaOkMk
namespace Go.Proofs.Ytmchjmgifipfoaa
open Go.ChangeShapes Go.WideShapes Go.ChangeAt Go.RowKit
set_option linter.unusedVariables false
theorem partB_lock {len r R : Int} (h1 : 1 ≤ len ∧ len ≤ 60) (h2 : 0 ≤ r ∧ r < R) : partB ⟨3, len, r⟩ R = true := by
  have e1 : inB len 1 60 = true := inB_true.2 h1
  have e2 : inB r 0 (R - 1) = true := inB_true.2 (by omega)
  simp [partB, e1, e2]
theorem partB_run {k len R : Int} (hk : k = 1 ∨ k = 2) (h1 : 1 ≤ len ∧ len ≤ 60) : partB ⟨k, len, 0⟩ R = true := by
  have e1 : inB len 1 60 = true := inB_true.2 h1
  have e2 : inB 0 0 0 = true := by decide
  have hn : ¬ k = 3 := by omega
  simp [partB, e1, e2, hn, hk]
theorem partsB_mk {ps : List PartM} {R : Int} (hl : 1 ≤ ps.length ∧ ps.length ≤ 6) (h : ∀ p ∈ ps, partB p R = true) : partsB ps R = true := by
  have e1 : inB ps.length 1 6 = true := inB_true.2 (by omega)
  unfold partsB
  rw [e1, Bool.true_and]
  exact List.all_eq_true.2 h
theorem formB_mk {t : TaskR} (h0 : nameB t.name = true) (h1 : 1 ≤ t.per ∧ t.per ≤ 3000) (h2 : 1 ≤ t.dl ∧ t.dl ≤ t.per) (h3 : 1 ≤ t.prio ∧ t.prio ≤ 1000) : formB t = true := by
  have e1 : inB t.per 1 3000 = true := inB_true.2 h1
  have e2 : inB t.dl 1 t.per = true := inB_true.2 h2
  have e3 : inB t.prio 1 1000 = true := inB_true.2 h3
  simp [formB, h0, e1, e2, e3]
theorem taken_no {ts : List TaskR} {k : Nat} {t : TaskR} (hk : k ≤ ts.length) (h : ∀ i, i < k → ((ts.getD i default).name.toList == t.name.toList) = false ∧ ((ts.getD i default).prio == t.prio) = false) : takenB (ts.take k) t = false := by
  unfold takenB
  rw [List.any_eq_false]
  intro o ho
  obtain ⟨i, hi, e⟩ := mem_getD ho
  rw [List.length_take] at hi
  have e2 : (ts.take k).getD i default = ts.getD i default := by simp [List.getD, show i < k by omega]
  rw [e2] at e
  obtain ⟨a, b⟩ := h i (by omega)
  rw [e] at a b
  simp [likeB, a, b]
theorem okS_all {s : SetR} (h1 : 1 ≤ s.proto ∧ s.proto ≤ 3) (h2 : 1 ≤ s.cores.length ∧ s.cores.length ≤ 3) (h3 : ∀ n ∈ s.cores, 1 ≤ n ∧ n ≤ 3) (h4 : s.homes.length ≤ 4) (h5 : ∀ n ∈ s.homes, 0 ≤ n ∧ n < s.cores.length) (h6 : 1 ≤ s.tasks.length ∧ s.tasks.length ≤ 6)
    (ht : ∀ k, k < s.tasks.length → formB (s.tasks.getD k default) = true ∧ (0 ≤ (s.tasks.getD k default).cl ∧ (s.tasks.getD k default).cl < s.cores.length) ∧ partsB (s.tasks.getD k default).parts s.homes.length = true)
    (hd : ∀ i k, i < k → k < s.tasks.length → ((s.tasks.getD i default).name.toList == (s.tasks.getD k default).name.toList) = false ∧ ((s.tasks.getD i default).prio == (s.tasks.getD k default).prio) = false) : okS s = true := by
  have all : ∀ (l : List Int) (lo hi : Int), (∀ n ∈ l, lo ≤ n ∧ n ≤ hi) → allB l lo hi = true := fun l lo hi h => List.all_eq_true.2 (fun n hn => inB_true.2 (h n hn))
  refine okS_mk (inB_true.2 h1) (inB_true.2 (by omega)) (all _ _ _ h3) h4 (all _ _ _ (fun n hn => by have := h5 n hn; omega)) h6.1 h6.2 (fun k hk => ?_)
  obtain ⟨a, b, c⟩ := ht k hk
  exact ⟨a, inB_true.2 (by omega), taken_no (by omega) (fun i hi => hd i k hi hk), c⟩
theorem nameC : nameB ⟨#[99]⟩ = true := by decide +kernel
theorem namesAC : ((⟨#[97]⟩ : ByteArray).toList == (⟨#[99]⟩ : ByteArray).toList) = false := by decide +kernel
theorem namesBC : ((⟨#[98]⟩ : ByteArray).toList == (⟨#[99]⟩ : ByteArray).toList) = false := by decide +kernel
/-- bytes: what is left of one -/
theorem mod_u8 {a : Int} (k : Int) (h : (Lit.int .u8 a).wf = true) (hk : 0 < k) : ∃ x, 0 ≤ x ∧ x < k ∧ a.tmod k = x := by
  have h0 : 0 ≤ a := by simp [Lit.wf, IntKind.min, IntKind.max, IntKind.signed, IntKind.bits] at h; omega
  exact ⟨a.tmod k, Int.tmod_nonneg k h0, Int.tmod_lt_of_pos a hk, rfl⟩
theorem nat_u8 {a : Int} (h : (Lit.int .u8 a).wf = true) : ∃ n : Nat, a = n := by
  have h0 : 0 ≤ a := by simp [Lit.wf, IntKind.min, IntKind.max, IntKind.signed, IntKind.bits] at h; omega
  exact ⟨a.toNat, by omega⟩
theorem u8_le {a : Int} {n : Nat} (h : (Lit.int .u8 a).wf = true) (e : a = n) : n ≤ 255 := by
  simp [Lit.wf, IntKind.min, IntKind.max, IntKind.signed, IntKind.bits] at h; omega
end Go.Proofs.Ytmchjmgifipfoaa
