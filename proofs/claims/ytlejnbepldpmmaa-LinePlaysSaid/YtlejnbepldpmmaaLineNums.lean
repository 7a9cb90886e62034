/- Rows of numbers for layer 3's laws: 0, 1 .. k - 1. Imports nothing of the dump's functions but what a line is. -/
import Derived.Test.YtlejnbepldpmmaaKnown3
import Derived.Test.YtlejnbepldpmmaaRefInts
namespace Go.Proofs.Ytlejnbepldpmmaa
open Go.ChangeShapes Go.WideShapes Go.ChangeAt Go.RowKit
/-- 0, 1 .. k - 1 -/
def upTo (k : Nat) : List Int := (List.range k).map fun (i : Nat) => (i : Int)
theorem upTo_len (k : Nat) : (upTo k).length = k := by simp [upTo]
theorem upTo_succ (k : Nat) : upTo (k + 1) = upTo k ++ [(k : Int)] := by simp [upTo, List.range_succ]
theorem upTo_mem (k : Nat) (x : Int) : x ∈ upTo k ↔ 0 ≤ x ∧ x < k := by
  simp only [upTo, List.mem_map, List.mem_range]
  constructor
  · rintro ⟨i, hi, rfl⟩; omega
  · intro h; exact ⟨x.toNat, by omega, by omega⟩
theorem upTo_nodup (k : Nat) : (upTo k).Nodup := by
  unfold upTo
  exact List.pairwise_map.2 ((List.nodup_range (n := k)).imp fun h e => h (by omega))
theorem plK_upTo (k : Nat) (x : Int) : plK (upTo k) x = decide (0 ≤ x ∧ x < k) := by
  unfold plK; simp [upTo_mem]
theorem nodup_erase {zs : List Int} {x : Int} (h : zs.Nodup) (hk : plK zs x = true) : plK (zs.eraseIdx (plN zs x)) x = false := by
  have hm : x ∈ zs := by simpa [plK] using hk
  unfold plK plN
  rw [if_pos hm, ← List.erase_eq_eraseIdx_of_idxOf (by rfl)]
  simp [h.mem_erase_iff]
theorem take_drop_cons (zs : List Int) (k j : Nat) (hk : k ≤ zs.length) (hj : j < k) : (zs.take k).drop j = zs.getD j 0 :: (zs.take k).drop (j + 1) := by
  rw [List.drop_eq_getElem_cons (by simp; omega)]
  simp [List.getD, show j < zs.length by omega]
theorem u8_bd {zs : List Int} (hz : ∀ n ∈ zs, (Lit.int .u8 n).wf = true) (k : Nat) (hk : k < zs.length) : 0 ≤ zs.getD k 0 ∧ zs.getD k 0 ≤ 255 := by
  have h := hz (zs.getD k 0) (by simp [List.getD, hk])
  generalize zs.getD k 0 = x at h
  simp [Lit.wf, IntKind.min, IntKind.max, IntKind.signed, IntKind.bits] at h
  omega
theorem LnB.since {W w w' : World} {b : Nat} {R : Int} {zs : List Int} {cs : Array Value} {A : Option Addr} {c : Nat} (hb : Below W.heap.size W w) (h : LnB w.heap.size w w' b R zs cs A c) : LnB W.heap.size W w' b R zs cs A c :=
  ⟨h.ln, hb.trans (h.below.mono hb.size), Nat.le_trans hb.size h.hb, fun k hk => Nat.le_trans hb.size (h.hA k hk), Nat.le_refl _⟩
/-- what comes first; how often; where it stands when the first x is gone -/
def frs (ys : List Int) (x : Int) (k : Nat) : Int := if x ∈ ys.take k then (ys.idxOf x : Nat) else -1
def cntN (ys : List Int) (x : Int) (k : Nat) : Nat := (ys.take k).count x
def pos (F : Int) (k : Nat) : Nat := if F < 0 ∨ (k : Int) ≤ F then k else k - 1
theorem frs_bd (ys : List Int) (x : Int) (k : Nat) (hk : k ≤ ys.length) : -1 ≤ frs ys x k ∧ frs ys x k < k := by
  unfold frs
  split
  · rename_i h
    have h1 : (ys.take k).idxOf x < (ys.take k).length := List.idxOf_lt_length_of_mem h
    have h2 : ys.idxOf x = (ys.take k).idxOf x := by
      conv => lhs; rw [← List.take_append_drop k ys, List.idxOf_append, if_pos h]
    simp at h1; omega
  · omega
theorem frs_hit {ys : List Int} {x : Int} {k : Nat} (hk : k < ys.length) (he : ys.getD k 0 = x) (hf : frs ys x k < 0) : frs ys x (k + 1) = k := by
  have hn : x ∉ ys.take k := by
    intro h; unfold frs at hf; rw [if_pos h] at hf; omega
  obtain ⟨h1, h2⟩ := idx_at hk hn he
  unfold frs
  rw [take_snoc ys k hk, he, if_pos (by simp), h2]
theorem frs_keep {ys : List Int} {x : Int} {k : Nat} (hk : k < ys.length) (he : ys.getD k 0 ≠ x ∨ 0 ≤ frs ys x k) : frs ys x (k + 1) = frs ys x k := by
  unfold frs at *
  rw [take_snoc ys k hk]
  by_cases h : x ∈ ys.take k
  · rw [if_pos h, if_pos (by simp [h])]
  · rw [if_neg h]
    rw [if_neg h] at he
    have : ys.getD k 0 ≠ x := by rcases he with he | he; exact he; omega
    rw [if_neg (by simp only [List.mem_append, List.mem_singleton, not_or]; exact ⟨h, fun e => this e.symm⟩)]
theorem cnt_hit {ys : List Int} {x : Int} {k : Nat} (hk : k < ys.length) (he : ys.getD k 0 = x) : cntN ys x (k + 1) = cntN ys x k + 1 := by
  unfold cntN; rw [take_snoc ys k hk, he, List.count_append]; simp
theorem cnt_miss {ys : List Int} {x : Int} {k : Nat} (hk : k < ys.length) (he : ys.getD k 0 ≠ x) : cntN ys x (k + 1) = cntN ys x k := by
  unfold cntN; rw [take_snoc ys k hk, List.count_append]; generalize ys.getD k 0 = y at he; simp [he]
theorem cnt_le (ys : List Int) (x : Int) (k : Nat) : cntN ys x k ≤ k := by
  unfold cntN; exact Nat.le_trans List.count_le_length (by simp; omega)
theorem cnt_all (ys : List Int) (x : Int) : plK ys x = decide (0 < cntN ys x ys.length) := by
  unfold cntN plK; rw [List.take_length]; simp [List.count_pos_iff]
theorem cnt_erase {ys : List Int} {x : Int} (h : plK ys x = true) : plK (ys.eraseIdx (plN ys x)) x = decide (1 < cntN ys x ys.length) := by
  have hm : x ∈ ys := by simpa [plK] using h
  unfold plN cntN plK
  rw [if_pos hm, ← List.erase_eq_eraseIdx_of_idxOf (by rfl), List.take_length]
  apply decide_eq_decide.2
  rw [← List.count_pos_iff, List.count_erase_self]
  omega
theorem frs_all_yes {ys : List Int} {x : Int} (h : plK ys x = true) : frs ys x ys.length = plN ys x := by
  have hm : x ∈ ys := by simpa [plK] using h
  unfold frs plN; rw [List.take_length, if_pos hm, if_pos hm]
theorem frs_all_no {ys : List Int} {x : Int} (h : plK ys x = false) : frs ys x ys.length = -1 := by
  have hm : x ∉ ys := by simpa [plK] using h
  unfold frs; rw [List.take_length, if_neg hm]
/-- zs is ys without the one at F (F < 0: all of it) -/
def Less1 (ys zs : List Int) (F : Int) : Prop := (∀ k, k < ys.length → (k : Int) ≠ F → pos F k < zs.length ∧ zs.getD (pos F k) 0 = ys.getD k 0) ∧ pos F ys.length = zs.length
theorem less_none (ys : List Int) {F : Int} (hF : F < 0) : Less1 ys ys F :=
  ⟨fun k hk _ => by unfold pos; rw [if_pos (.inl hF)]; exact ⟨hk, rfl⟩, by unfold pos; rw [if_pos (.inl hF)]⟩
theorem less_one {ys : List Int} {f : Nat} (hf : f < ys.length) : Less1 ys (ys.eraseIdx f) f := by
  have hl := List.length_eraseIdx_of_lt hf
  refine ⟨fun k hk hne => ?_, ?_⟩
  · unfold pos
    by_cases h : k < f
    · rw [if_pos (by omega)]
      exact ⟨by omega, by simp [List.getD, List.getElem?_eraseIdx, h]⟩
    · rw [if_neg (by omega)]
      refine ⟨by omega, ?_⟩
      simp [List.getD, List.getElem?_eraseIdx, show ¬ k - 1 < f by omega, show k - 1 + 1 = k by omega]
  · unfold pos; rw [if_neg (by omega)]; omega
theorem pos_zero (F : Int) : pos F 0 = 0 := by unfold pos; split <;> rfl
theorem pos_at {F : Int} {k : Nat} (h : (k : Int) = F) : pos F (k + 1) = pos F k := by unfold pos; rw [if_neg (by omega), if_pos (by omega)]; omega
theorem pos_off {F : Int} {k : Nat} (h : (k : Int) ≠ F) : pos F (k + 1) = pos F k + 1 := by
  unfold pos
  by_cases h1 : F < 0 ∨ (k : Int) ≤ F
  · rw [if_pos h1, if_pos (by omega)]
  · rw [if_neg h1, if_neg (by omega)]; omega
/-- a cell that was there reads as it did -/
theorem LnB.old {W w : World} {b : Nat} {R : Int} {zs : List Int} {cs : Array Value} {A : Option Addr} {c : Nat} {p : Addr} {v : Value} (h : LnB W.heap.size W w b R zs cs A c) (hc : W.cell? p = some v) : w.cell? p = some v :=
  (h.below.cell (cell_lt hc)).trans hc
end Go.Proofs.Ytlejnbepldpmmaa
