/- Numbers for layer 6's laws: 0 .. k - 1; a, a + 1 .. a + n - 1. -/
import Derived.Test.YtilnkbmbbfdboaaKnown6
namespace Go.Proofs.Ytilnkbmbbfdboaa
open Go.ChangeShapes Go.WideShapes Go.ChangeAt Go.RowKit
/-- a, a + 1 .. a + n - 1 -/
def seg (a n : Nat) : List Int := (List.range' a n).map fun (i : Nat) => (i : Int)
theorem seg_len (a n : Nat) : (seg a n).length = n := by simp [seg]
theorem seg_snoc (a n : Nat) : seg a (n + 1) = seg a n ++ [((a + n : Nat) : Int)] := by simp [seg, List.range'_concat]
theorem seg_cons (a n : Nat) : seg a (n + 1) = (a : Int) :: seg (a + 1) n := by simp [seg, List.range'_succ]
theorem seg_mem (a n : Nat) (x : Int) : x ∈ seg a n ↔ (a : Int) ≤ x ∧ x < a + n := by
  simp only [seg, List.mem_map, List.mem_range'_1]
  constructor
  · rintro ⟨i, hi, rfl⟩; omega
  · intro h; exact ⟨x.toNat, by omega, by omega⟩
theorem plK_seg (a n : Nat) (x : Int) : plK (seg a n) x = decide ((a : Int) ≤ x ∧ x < a + n) := by
  unfold plK; simp [seg_mem]
theorem filter_ne_nodup {l : List Int} {x : Int} (h : l.Nodup) (hm : x ∈ l) : (besides l x).length + 1 = l.length := by
  induction l with
  | nil => simp at hm
  | cons y l ih =>
    have hn := List.nodup_cons.1 h
    unfold besides
    by_cases e : y = x
    · subst e
      have : l.filter (fun z => !(z == y)) = l := List.filter_eq_self.2 fun z hz => by
        have : z ≠ y := fun e => hn.1 (e ▸ hz)
        simpa using this
      simp [this]
    · have hm2 : x ∈ l := by
        rcases List.mem_cons.1 hm with h1 | h1
        · exact absurd h1.symm e
        · exact h1
      have := ih hn.2 hm2
      unfold besides at this
      simp [e]; omega
theorem seg_nodup (a n : Nat) : (seg a n).Nodup := by
  unfold seg
  exact List.pairwise_map.2 ((List.nodup_range' (s := a) (n := n)).imp fun h e => h (by omega))
theorem besides_seg (m : Nat) (j : Int) (h0 : 0 ≤ j) (h1 : j < m) : (besides (seg 0 m) j).length + 1 = m := by
  rw [filter_ne_nodup (seg_nodup 0 m) ((seg_mem 0 m j).2 (by omega)), seg_len]
theorem Up.since {W w w' : World} {F : List Nat} (hb : Below W.heap.size W w) (h : Up w.heap.size w w' F) : Up W.heap.size W w' F :=
  ⟨hb.trans (h.below.mono hb.size), fun k hk => Nat.le_trans hb.size (h.blocks k hk), Nat.le_refl _⟩
theorem Up.old {W w : World} {F : List Nat} {p : Addr} {v : Value} (h : Up W.heap.size W w F) (hc : W.cell? p = some v) : w.cell? p = some v :=
  (h.below.cell (cell_lt hc)).trans hc
end Go.Proofs.Ytilnkbmbbfdboaa
