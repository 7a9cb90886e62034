/- Rows of numbers for layer 3's laws: 0, 1 .. k - 1. Imports nothing of the dump's functions but what a line is. -/
import Derived.Test.YtjbjkegjcpplaaaKnown3
namespace Go.Proofs.Ytjbjkegjcpplaaa
open Go.ChangeShapes Go.WideShapes Go.ChangeAt Go.RowKit
/-- 0, 1 .. k - 1 -/
def upTo (k : Nat) : List Int := (List.range k).map fun (i : Nat) => (i : Int)
theorem upTo_len (k : Nat) : (upTo k).length = k := by simp [upTo]
theorem upTo_succ (k : Nat) : upTo (k + 1) = upTo k ++ [(k : Int)] := by simp [upTo, List.range_succ]
theorem upTo_mem (k : Nat) (x : Int) : x ∈ upTo k ↔ 0 ≤ x ∧ x < k := by
  simp only [upTo, List.mem_map, List.mem_range]
  constructor
  · rintro ⟨i, hi, rfl⟩; omega
  · intro h; exact ⟨x.toNat, by omega, by omega⟩
theorem upTo_nodup (k : Nat) : (upTo k).Nodup := by
  unfold upTo
  exact List.pairwise_map.2 ((List.nodup_range (n := k)).imp fun h e => h (by omega))
theorem plK_upTo (k : Nat) (x : Int) : plK (upTo k) x = decide (0 ≤ x ∧ x < k) := by
  unfold plK; simp [upTo_mem]
theorem nodup_erase {zs : List Int} {x : Int} (h : zs.Nodup) (hk : plK zs x = true) : plK (zs.eraseIdx (plN zs x)) x = false := by
  have hm : x ∈ zs := by simpa [plK] using hk
  unfold plK plN
  rw [if_pos hm, ← List.erase_eq_eraseIdx_of_idxOf (by rfl)]
  simp [h.mem_erase_iff]
end Go.Proofs.Ytjbjkegjcpplaaa
