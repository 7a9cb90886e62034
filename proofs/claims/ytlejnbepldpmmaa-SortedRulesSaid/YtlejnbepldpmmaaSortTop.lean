/- sorted: Put, Top, Sum. -/
import Derived.Test.YtlejnbepldpmmaaSortIs
import Derived.Test.YtlejnbepldpmmaaSumTop
import Derived.Sort.OwnSortedInts
import Derived.Lib.OwnBridge
namespace Go.Proofs.Ytlejnbepldpmmaa
set_option maxRecDepth 100000
open Go.ChangeShapes Go.WideShapes Go.ChangeAt Go.RowKit
set_option linter.unusedVariables false

theorem sput_any {w : World} {A : Option Addr} {n c : Nat} {ps : List (Int × Int)} {x1 x2 : Int} (h : RdI w A n c ps) (hl : n ≤ 900) (hx : I64 x1 ∧ I64 x2) :
    Calls Try.prog 53 #[.slice A n c, .agg #[.int .i64 x1, .int .i64 x2]] w (SortPost w (n + 1) (ins (isort ps) (x1, x2))) := by
  have hl1 := hidp h.len
  have h0 := h.over ((Below.refl _ _).alloc (Nat.le_refl _) (.cells #[.int .i64 x1, .int .i64 x2] 25))
  by_cases hs : Srt ps
  · have Hs := hidp (isB_yes hs)
    have Hi := hidp (isort_id hs)
    go_enter Try.func53, Try.ntmps53
    go_wp2_with fail
    refine (is_any h0 (by omega)).mono ?_
    rintro e w1 ⟨rfl, hb1⟩
    rw [Hs.out]
    have h1 := h0.over hb1
    have hs1 := hb1.size
    simp at hs1
    have k0 : w1.cell? ⟨w.heap.size, 0, none⟩ = some (.int .i64 x1) := (hb1.cell (by simp)).trans (by simp)
    have k1 : w1.cell? ⟨w.heap.size, 1, none⟩ = some (.int .i64 x2) := (hb1.cell (by simp)).trans (by simp)
    have h2 := h1.over ((Below.refl _ _).alloc (Nat.le_refl _) (.cells (pcs [(x1, x2)]).toArray 25))
    have h3 : RdI (w1.alloc (.cells (pcs [(x1, x2)]).toArray 25)) (some ⟨w1.heap.size, 0, none⟩) 1 1 [(x1, x2)] := ⟨by simpa using Lies.newCells w1 (pcs [(x1, x2)]) 25, rfl, ⟨Nat.le_refl _, by unfold maxLen; omega⟩, (fun e => by cases e), (by intro p hp; simp at hp; subst hp; exact hx)⟩
    go_wp2_with fail
    refine (merge_any h2 h3 (by omega)).mono ?_
    rintro e w3 ⟨D3, k3, rfl, o3, hb3⟩
    go_wp2_with fail
    go_ret
    rw [mrg_one] at o3
    rw [Hi.out]
    refine ⟨D3, k3, rfl, o3.low (by simp; omega), ?_⟩
    exact (((Below.refl w.heap.size w).alloc (Nat.le_refl _) _).trans (hb1.mono (by simp))).trans (((Below.refl w.heap.size w1).alloc (by omega) _).trans (hb3.mono (by simp; omega)))
  · have Hs := hidp (isB_no hs)
    go_enter Try.func53, Try.ntmps53
    go_wp2_with fail
    refine (is_any h0 (by omega)).mono ?_
    rintro e w1 ⟨rfl, hb1⟩
    rw [Hs.out]
    have h1 := h0.over hb1
    have hs1 := hb1.size
    simp at hs1
    go_wp2_with fail
    refine (sort_any h1 (by omega)).mono ?_
    rintro e w2 ⟨D2, k2, rfl, o2, hb2⟩
    have hs2 := hb2.size
    have h2 := (RdI.of_own o2).over ((Below.refl _ _).alloc (Nat.le_refl _) (.cells (pcs [(x1, x2)]).toArray 25))
    have k0 : w2.cell? ⟨w.heap.size, 0, none⟩ = some (.int .i64 x1) := (hb2.cell (by simp; omega)).trans ((hb1.cell (by simp)).trans (by simp))
    have k1 : w2.cell? ⟨w.heap.size, 1, none⟩ = some (.int .i64 x2) := (hb2.cell (by simp; omega)).trans ((hb1.cell (by simp)).trans (by simp))
    have h3 : RdI (w2.alloc (.cells (pcs [(x1, x2)]).toArray 25)) (some ⟨w2.heap.size, 0, none⟩) 1 1 [(x1, x2)] := ⟨by simpa using Lies.newCells w2 (pcs [(x1, x2)]) 25, rfl, ⟨Nat.le_refl _, by unfold maxLen; omega⟩, (fun e => by cases e), (by intro p hp; simp at hp; subst hp; exact hx)⟩
    go_wp2_with fail
    refine (merge_any h2 h3 (by omega)).mono ?_
    rintro e w3 ⟨D3, k3, rfl, o3, hb3⟩
    go_wp2_with fail
    go_ret
    rw [mrg_one] at o3
    refine ⟨D3, k3, rfl, o3.low (by simp; omega), ?_⟩
    exact ((((Below.refl w.heap.size w).alloc (Nat.le_refl _) _).trans (hb1.mono (by simp))).trans (hb2.mono (by omega))).trans (((Below.refl w.heap.size w2).alloc (by omega) _).trans (hb3.mono (by simp; omega)))
end Go.Proofs.Ytlejnbepldpmmaa
