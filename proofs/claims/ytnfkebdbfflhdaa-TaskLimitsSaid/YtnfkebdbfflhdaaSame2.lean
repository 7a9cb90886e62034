/- slices.Equal of parts. -/
import Derived.Test.YtnfkebdbfflhdaaSame1
namespace Go.Proofs.Ytnfkebdbfflhdaa
open Go.ChangeShapes Go.WideShapes Go.ChangeAt Go.RowKit
set_option linter.unusedVariables false
deriving instance DecidableEq for PartM
theorem ext_getP {α : Type} [Inhabited α] {xs ys : List α} {n : Nat} (h1 : xs.length = n) (h2 : ys.length = n) (h : ∀ j, j < n → xs.getD j default = ys.getD j default) : xs = ys := by
  apply List.ext_getElem (by omega)
  intro i a b
  have := h i (by omega)
  simpa [List.getD, a, b] using this
theorem ne_getP {α : Type} [Inhabited α] {xs ys : List α} {k : Nat} (h : xs.getD k default ≠ ys.getD k default) : xs ≠ ys := fun e => h (by rw [e])

set_option maxHeartbeats 2000000 in
theorem eqP_any (xs ys : List PartM) (A A' : Option Addr) (c c' : Nat) (w : World) (sx : SlOk A xs.length c) (sy : SlOk A' ys.length c') (hx : PartsAt w A xs) (hy : PartsAt w A' ys) : Calls Try.prog 39 #[.slice A xs.length c, .slice A' ys.length c'] w fun e w' => e = .returned (.bool (decide (xs = ys))) ∧ Qt w w' := by
  have l1 : xs.length ≤ maxLen := Nat.le_trans sx.2.1 sx.2.2
  have l2 : ys.length ≤ maxLen := Nat.le_trans sy.2.1 sy.2.2
  unfold maxLen at l1 l2
  have H1 := hidp hx
  have H2 := hidp hy
  clear hx hy sx sy
  obtain ⟨n, hn⟩ : ∃ n, xs.length = n := ⟨_, rfl⟩
  obtain ⟨m, hm⟩ : ∃ m, ys.length = m := ⟨_, rfl⟩
  rw [hn] at l1
  rw [hm] at l2
  rw [hn, hm]
  obtain ⟨b, hb⟩ : ∃ b, decide (xs = ys) = b := ⟨_, rfl⟩
  rw [hb]
  have Hb := hidp hb
  have Hn := hidp hn
  have Hm := hidp hm
  clear hb hn hm
  by_cases e : n = m
  · subst e
    go_enter Try.func39, Try.ntmps39
    go_wp2
    go_loopg [13] n (fun g i wr => ∃ k : Nat, k + g = n ∧ i = .int .i64 k ∧ Hid (∀ j, j < k → xs.getD j default = ys.getD j default) ∧ Qt w wr)
    case atStart => exact ⟨0, by omega, rfl, hidp (by omega), Qt.refl w⟩
    case round =>
      obtain ⟨k, hk, rfl, Ho, hq⟩ := hrel
      by_cases hlt : k < n
      · obtain ⟨g, off, hA, hc⟩ := H1.out.resolve_left (by intro e; have := Hn.out; rw [e] at this; simp at this; omega)
        obtain ⟨g', off', hA', hc'⟩ := H2.out.resolve_left (by intro e; have := Hm.out; rw [e] at this; simp at this; omega)
        subst hA
        subst hA'
        obtain ⟨x, HX⟩ : ∃ x, Hid (xs.getD k default = x) := ⟨_, rfl⟩
        obtain ⟨y, HY⟩ : ∃ y, Hid (ys.getD k default = y) := ⟨_, rfl⟩
        obtain ⟨c1, c2, c3⟩ := (HX.out ▸ hc k (by rw [Hn.out]; exact hlt)).keep (Keeps.of_qt hq)
        obtain ⟨d1, d2, d3⟩ := (HY.out ▸ hc' k (by rw [Hm.out]; exact hlt)).keep (Keeps.of_qt hq)
        clear hc hc'
        obtain ⟨x1, x2, x3⟩ := x
        obtain ⟨y1, y2, y3⟩ := y
        dsimp only at c1 c2 c3 d1 d2 d3
        by_cases n1 : x1 = y1
        · subst n1
          by_cases n2 : x2 = y2
          · subst n2
            by_cases n3 : x3 = y3
            · subst n3
              have Hs : Hid (∀ j, j < k + 1 → xs.getD j default = ys.getD j default) := hidp (fun j hj => by
                by_cases e : j = k
                · subst e; rw [HX.out, HY.out]
                · exact Ho.out j (by omega))
              go_wp2
              go_quiet (fail)
              go_wp2
              go_roundg (gk - 1)
              case measure => omega
              case rel => exact ⟨k + 1, by omega, by go_num, Hs, hq.add _⟩
            · have Hs : Hid (b = false) := hidp (by rw [← Hb.out]; exact decide_eq_false (ne_getP (k := k) (by rw [HX.out, HY.out]; intro h; injection h with h1 h2 h3; exact n3 ‹_›)))
              have t1 : (x3 != y3) = true := by simpa using n3
              have t2 : (x3 == y3) = false := by simpa using n3
              go_wp2
              go_quiet (fail)
              go_wp2
              go_ret
              exact ⟨ret_bool Hs.out.symm, hq.add _⟩
          · have Hs : Hid (b = false) := hidp (by rw [← Hb.out]; exact decide_eq_false (ne_getP (k := k) (by rw [HX.out, HY.out]; intro h; injection h with h1 h2 h3; exact n2 ‹_›)))
            have t1 : (x2 != y2) = true := by simpa using n2
            have t2 : (x2 == y2) = false := by simpa using n2
            go_wp2
            go_quiet (fail)
            go_wp2
            go_ret
            exact ⟨ret_bool Hs.out.symm, hq.add _⟩
        · have Hs : Hid (b = false) := hidp (by rw [← Hb.out]; exact decide_eq_false (ne_getP (k := k) (by rw [HX.out, HY.out]; intro h; injection h with h1 h2 h3; exact n1 ‹_›)))
          have t1 : (x1 != y1) = true := by simpa using n1
          have t2 : (x1 == y1) = false := by simpa using n1
          go_wp2
          go_quiet (fail)
          go_wp2
          go_ret
          exact ⟨ret_bool Hs.out.symm, hq.add _⟩
      · have Hs : Hid (b = true) := hidp (by rw [← Hb.out]; exact decide_eq_true (ext_getP Hn.out Hm.out (fun j hj => Ho.out j (by omega))))
        go_wp2
        go_ret
        exact ⟨ret_bool Hs.out.symm, hq⟩
  · have Hs : Hid (b = false) := hidp (by rw [← Hb.out]; exact decide_eq_false (fun h => e (by rw [← Hn.out, ← Hm.out, h])))
    have t1 : ((n : Int) != (m : Int)) = true := by simp; omega
    clear e
    go_enter Try.func39, Try.ntmps39
    go_wp2
    go_ret
    exact ⟨ret_bool Hs.out.symm, Qt.refl w⟩
end Go.Proofs.Ytnfkebdbfflhdaa
