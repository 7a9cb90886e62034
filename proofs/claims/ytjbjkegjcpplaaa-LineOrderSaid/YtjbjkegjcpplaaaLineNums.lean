/- Rows of numbers for layer 3's laws: 0, 1 .. k - 1. Imports nothing of the dump's functions but what a line is. -/
import Derived.Test.YtjbjkegjcpplaaaKnown3
namespace Go.Proofs.Ytjbjkegjcpplaaa
open Go.ChangeShapes Go.WideShapes Go.ChangeAt Go.RowKit
/-- 0, 1 .. k - 1 -/
def upTo (k : Nat) : List Int := (List.range k).map fun (i : Nat) => (i : Int)
theorem upTo_len (k : Nat) : (upTo k).length = k := by simp [upTo]
theorem upTo_succ (k : Nat) : upTo (k + 1) = upTo k ++ [(k : Int)] := by simp [upTo, List.range_succ]
theorem upTo_mem (k : Nat) (x : Int) : x ∈ upTo k ↔ 0 ≤ x ∧ x < k := by
  simp only [upTo, List.mem_map, List.mem_range]
  constructor
  · rintro ⟨i, hi, rfl⟩; omega
  · intro h; exact ⟨x.toNat, by omega, by omega⟩
theorem upTo_nodup (k : Nat) : (upTo k).Nodup := by
  unfold upTo
  exact List.pairwise_map.2 ((List.nodup_range (n := k)).imp fun h e => h (by omega))
theorem plK_upTo (k : Nat) (x : Int) : plK (upTo k) x = decide (0 ≤ x ∧ x < k) := by
  unfold plK; simp [upTo_mem]
theorem nodup_erase {zs : List Int} {x : Int} (h : zs.Nodup) (hk : plK zs x = true) : plK (zs.eraseIdx (plN zs x)) x = false := by
  have hm : x ∈ zs := by simpa [plK] using hk
  unfold plK plN
  rw [if_pos hm, ← List.erase_eq_eraseIdx_of_idxOf (by rfl)]
  simp [h.mem_erase_iff]
theorem take_drop_cons (zs : List Int) (k j : Nat) (hk : k ≤ zs.length) (hj : j < k) : (zs.take k).drop j = zs.getD j 0 :: (zs.take k).drop (j + 1) := by
  rw [List.drop_eq_getElem_cons (by simp; omega)]
  simp [List.getD, show j < zs.length by omega]
theorem u8_bd {zs : List Int} (hz : ∀ n ∈ zs, (Lit.int .u8 n).wf = true) (k : Nat) (hk : k < zs.length) : 0 ≤ zs.getD k 0 ∧ zs.getD k 0 ≤ 255 := by
  have h := hz (zs.getD k 0) (by simp [List.getD, hk])
  generalize zs.getD k 0 = x at h
  simp [Lit.wf, IntKind.min, IntKind.max, IntKind.signed, IntKind.bits] at h
  omega
theorem LnB.since {W w w' : World} {b : Nat} {R : Int} {zs : List Int} {cs : Array Value} {A : Option Addr} {c : Nat} (hb : Below W.heap.size W w) (h : LnB w.heap.size w w' b R zs cs A c) : LnB W.heap.size W w' b R zs cs A c :=
  ⟨h.ln, hb.trans (h.below.mono hb.size), Nat.le_trans hb.size h.hb, fun k hk => Nat.le_trans hb.size (h.hA k hk), Nat.le_refl _⟩
/-- a cell that was there reads as it did -/
theorem LnB.old {W w : World} {b : Nat} {R : Int} {zs : List Int} {cs : Array Value} {A : Option Addr} {c : Nat} {p : Addr} {v : Value} (h : LnB W.heap.size W w b R zs cs A c) (hc : W.cell? p = some v) : w.cell? p = some v :=
  (h.below.cell (cell_lt hc)).trans hc
end Go.Proofs.Ytjbjkegjcpplaaa
