/- swingbridgelaw2's known answers are as known. -/
import Derived.Test.YtlejnbepldpmmaaSortTop
import Derived.Test.YtlejnbepldpmmaaSortRef
namespace Go.Proofs.Ytlejnbepldpmmaa
set_option maxRecDepth 100000
open Go.ChangeShapes Go.WideShapes Go.ChangeAt Go.RowKit
set_option linter.unusedVariables false

/-- a literal row of items -/
theorem RdI.lit (w : World) (ps : List (Int × Int)) (hl : ps.length ≤ 1000) (hf : ∀ p ∈ ps, I64 p.1 ∧ I64 p.2) (b : Nat) (hb : b = w.heap.size) (cs : Array Value) (hc : cs = (pcs ps).toArray) :
    RdI (w.alloc (.cells cs 25)) (some ⟨b, 0, none⟩) ps.length ps.length ps := by
  subst hb; subst hc
  exact ⟨by simpa using Lies.newCells w (pcs ps) 25, rfl, ⟨Nat.le_refl _, by unfold maxLen; omega⟩, (fun e => by cases e), hf⟩
theorem Row.lit3 (w : World) (b : Nat) (x y z : Int) (T : TypeId) (hb : b = w.heap.size) : Row (w.alloc (.cells #[.int .i64 x, .int .i64 y, .int .i64 z] T)) .i64 (some ⟨b, 0, none⟩) [x, y, z] := by
  subst hb
  refine .inr ⟨_, 0, rfl, fun j hj => ?_⟩
  match j, hj with
  | 0, _ => simp
  | 1, _ => simp
  | 2, _ => simp

theorem perm_unique : ∀ (a b : List Int), a.Perm b → a.Pairwise (fun x y => y ≤ x) → b.Pairwise (fun x y => y ≤ x) → a = b
  | [], b, h, _, _ => (List.Perm.nil_eq h)
  | x :: a, [], h, _, _ => absurd h.length_eq (by simp)
  | x :: a, y :: b, h, ha, hb => by
    have h1 := List.pairwise_cons.1 ha
    have h2 := List.pairwise_cons.1 hb
    have e : x = y := by
      have m1 : x ∈ y :: b := h.mem_iff.1 (by simp)
      have m2 : y ∈ x :: a := h.mem_iff.2 (by simp)
      rcases List.mem_cons.1 m1 with e | m1
      · exact e
      · rcases List.mem_cons.1 m2 with e | m2
        · exact e.symm
        · have := h2.1 x m1; have := h1.1 y m2; omega
    subst e
    rw [perm_unique a b (List.Perm.cons_inv h) h1.2 h2.2]
theorem desc_eq {a zs : List Int} (h : a.Perm zs) (hs : a.Pairwise (fun x y => y ≤ x)) : desc zs = a := perm_unique _ _ ((desc_perm zs).trans h.symm) (desc_srt zs) hs
theorem tops394 : tops [3, 9, 4] 2 = [9, 4] := by
  unfold tops
  rw [desc_eq (a := [9, 4, 3]) (by decide) (by decide)]
  decide

theorem sum94 : sumW [9, 4] = 13 := by
  unfold sumW
  simp only [List.foldl]
  rw [IntWalk.wrap64_in (0 + 9) (by omega), IntWalk.wrap64_in (0 + 9 + 4) (by omega)]
  omega
theorem known2_any (w : World) : Calls Try.prog 10 #[] w fun e w' => e = .returned (.bool true) ∧ Below w.heap.size w w' := by
  obtain ⟨W3, hW3⟩ : ∃ W3, W3 = ((w.alloc (.cells #[.int .i64 5, .int .i64 1] 25)).alloc (.cells #[.int .i64 2, .int .i64 2] 25)).alloc (.cells #[.int .i64 5, .int .i64 3] 25) := ⟨_, rfl⟩
  have Hs : Hid (W3.heap.size = w.heap.size + 1 + 1 + 1) := hidp (by rw [hW3]; simp)
  have b1 := (Below.refl w.heap.size w).alloc (Nat.le_refl _) (.cells #[.int .i64 5, .int .i64 1] 25)
  have b2 := b1.alloc b1.size (.cells #[.int .i64 2, .int .i64 2] 25)
  have b3 := b2.alloc b2.size (.cells #[.int .i64 5, .int .i64 3] 25)
  rw [← hW3] at b3
  have HB := hidp b3
  clear b1 b2 b3
  have k1 : Bk W3 w.heap.size 25 #[.int .i64 5, .int .i64 1] := by rw [hW3]; exact ((Bk.new w _ _).alloc _).alloc _
  have k2 : Bk W3 (w.heap.size + 1) 25 #[.int .i64 2, .int .i64 2] := by
    have := (Bk.new (w.alloc (.cells #[.int .i64 5, .int .i64 1] 25)) 25 #[.int .i64 2, .int .i64 2]).alloc (.cells #[.int .i64 5, .int .i64 3] 25)
    rw [hW3]; simpa using this
  have k3 : Bk W3 (w.heap.size + 1 + 1) 25 #[.int .i64 5, .int .i64 3] := by
    have := (Bk.new ((w.alloc (.cells #[.int .i64 5, .int .i64 1] 25)).alloc (.cells #[.int .i64 2, .int .i64 2] 25)) 25 #[.int .i64 5, .int .i64 3])
    rw [hW3]; simpa using this
  have HC : Hid (W3.cell? ⟨w.heap.size, 0, none⟩ = some (.int .i64 5) ∧ W3.cell? ⟨w.heap.size, 1, none⟩ = some (.int .i64 1) ∧ W3.cell? ⟨w.heap.size + 1, 0, none⟩ = some (.int .i64 2) ∧ W3.cell? ⟨w.heap.size + 1, 1, none⟩ = some (.int .i64 2) ∧ W3.cell? ⟨w.heap.size + 1 + 1, 0, none⟩ = some (.int .i64 5) ∧ W3.cell? ⟨w.heap.size + 1 + 1, 1, none⟩ = some (.int .i64 3)) := hidp ⟨k1.cell 0, k1.cell 1, k2.cell 0, k2.cell 1, k3.cell 0, k3.cell 1⟩
  clear k1 k2 k3
  have HK : Hid (∀ wc, Below W3.heap.size W3 wc → wc.cell? ⟨w.heap.size, 0, none⟩ = some (.int .i64 5) ∧ wc.cell? ⟨w.heap.size, 1, none⟩ = some (.int .i64 1) ∧ wc.cell? ⟨w.heap.size + 1, 0, none⟩ = some (.int .i64 2) ∧ wc.cell? ⟨w.heap.size + 1, 1, none⟩ = some (.int .i64 2) ∧ wc.cell? ⟨w.heap.size + 1 + 1, 0, none⟩ = some (.int .i64 5) ∧ wc.cell? ⟨w.heap.size + 1 + 1, 1, none⟩ = some (.int .i64 3)) := hidp fun wc hb => by
    obtain ⟨a, b, c, d, e, f⟩ := HC.out
    exact ⟨(hb.cell (cell_lt a)).trans a, (hb.cell (cell_lt b)).trans b, (hb.cell (cell_lt c)).trans c, (hb.cell (cell_lt d)).trans d, (hb.cell (cell_lt e)).trans e, (hb.cell (cell_lt f)).trans f⟩
  have HW3 := hidp hW3
  clear hW3
  go_enter Try.func10, Try.ntmps10
  go_wp2_with fail
  rw [← HW3.out, ← Hs.out]
  refine (sort_any (ps := [(5, 1), (2, 2), (5, 3)]) (RdI.lit _ [(5, 1), (2, 2), (5, 3)] (by decide) (by decide) _ rfl _ rfl) (by decide)).mono ?_
  rintro e w1 ⟨D1, k1, rfl, o1, hb1⟩
  have B1 : Below W3.heap.size W3 w1 := ((Below.refl _ _).alloc (Nat.le_refl _) _).trans (hb1.mono (by simp))
  rw [show isort [(5, 1), (2, 2), (5, 3)] = [(2, 2), (5, 1), (5, 3)] by decide] at o1
  have r1 := RdI.of_own o1
  clear o1 hb1
  go_wp2_with fail
  refine (top_any (zs := [3, 9, 4]) (k := 2) (Row.lit3 _ _ 3 9 4 _ rfl) rfl (by decide) (by simp) (by decide) (by decide)).mono ?_
  rintro e w2 ⟨D2, k2, rfl, hr2, hb2⟩
  rw [tops394] at hr2
  have r2 := (r1.over ((Below.refl _ _).alloc (Nat.le_refl _) (.cells #[.int .i64 3, .int .i64 9, .int .i64 4] 3))).over hb2
  have B2 : Below W3.heap.size W3 w2 := (B1.alloc B1.size _).trans (hb2.mono (by have := B1.size; simp; omega))
  clear r1 hb2 B1
  obtain ⟨q0, q1, q2, q3, q4, q5⟩ := HK.out _ B2
  go_wp2_with fail
  refine (same_any (r2.over ((Below.refl _ _).alloc (Nat.le_refl _) _)) (RdI.lit _ [(2, 2), (5, 1), (5, 3)] (by decide) (by decide) _ rfl _ rfl) (by decide)).mono ?_
  rintro e w3 ⟨rfl, hb3⟩
  have r3 := (r2.over ((Below.refl _ _).alloc (Nat.le_refl _) (.cells #[.int .i64 2, .int .i64 2, .int .i64 5, .int .i64 1, .int .i64 5, .int .i64 3] 25))).over hb3
  have t3 := (hr2.below ((Below.refl _ _).alloc (Nat.le_refl _) (.cells #[.int .i64 2, .int .i64 2, .int .i64 5, .int .i64 1, .int .i64 5, .int .i64 3] 25))).below hb3
  have B3 : Below W3.heap.size W3 w3 := (B2.alloc B2.size _).trans (hb3.mono (by have := B2.size; simp; omega))
  clear r2 hr2 hb3 B2 q0 q1 q2 q3 q4 q5
  go_wp2_with fail
  refine (is_any r3 (by decide)).mono ?_
  rintro e w4 ⟨rfl, hb4⟩
  rw [isB_yes (by unfold Srt; decide)]
  have r4 := r3.over hb4
  have t4 := t3.below hb4
  have B4 : Below W3.heap.size W3 w4 := B3.trans (hb4.mono B3.size)
  clear r3 t3 hb4 B3
  obtain ⟨q0, q1, q2, q3, q4, q5⟩ := HK.out _ B4
  go_wp2_with fail
  refine (is_any (RdI.lit _ [(5, 1), (2, 2)] (by decide) (by decide) _ rfl _ rfl) (by decide)).mono ?_
  rintro e w5 ⟨rfl, hb5⟩
  rw [isB_no (by unfold Srt; decide)]
  have r5 := (r4.over ((Below.refl _ _).alloc (Nat.le_refl _) (.cells #[.int .i64 5, .int .i64 1, .int .i64 2, .int .i64 2] 25))).over hb5
  have t5 := (t4.below ((Below.refl _ _).alloc (Nat.le_refl _) (.cells #[.int .i64 5, .int .i64 1, .int .i64 2, .int .i64 2] 25))).below hb5
  have B5 : Below W3.heap.size W3 w5 := (B4.alloc B4.size _).trans (hb5.mono (by have := B4.size; simp; omega))
  clear r4 t4 hb5 B4 q0 q1 q2 q3 q4 q5
  obtain ⟨q0, q1, q2, q3, q4, q5⟩ := HK.out _ B5
  go_wp2_with fail
  refine (sput_any (x1 := 2) (x2 := 2) r5 (by decide) (by decide)).mono ?_
  rintro e w6 ⟨D6, k6, rfl, o6, hb6⟩
  have t6 := t5.below hb6
  have B6 : Below W3.heap.size W3 w6 := B5.trans (hb6.mono B5.size)
  clear r5 t5 hb6 B5 o6 q0 q1 q2 q3 q4 q5
  obtain ⟨g, off, hD2, hc⟩ := t6.resolve_left (by simp)
  subst hD2
  have u0 := hc 0 (by simp)
  have u1 := hc 1 (by simp)
  simp only [Nat.add_zero, List.getD_cons_zero, List.getD_cons_succ] at u0 u1
  clear hc t6
  go_wp2_with fail
  refine (ssum_any (zs := [3, 9, 4]) (k := 2) (Row.lit3 _ _ 3 9 4 _ rfl) rfl (by decide) (by simp) (by decide) (by decide) (by decide)).mono ?_
  rintro e w7 ⟨rfl, hb7⟩
  rw [tops394, sum94]
  have B7 : Below W3.heap.size W3 w7 := (B6.alloc B6.size _).trans (hb7.mono (by have := B6.size; simp; omega))
  go_wp2_with fail
  go_ret
  exact ⟨rfl, HB.out.trans (B7.mono (by rw [Hs.out]; omega))⟩
end Go.Proofs.Ytlejnbepldpmmaa
