/- slices.Equal of integers and of parts, ref7's sameInts. -/
import Derived.Test.YtlmliefkhidpnaaGreatDoorTask5
namespace Go.Proofs.YtlmliefkhidpnaaGreatDoor
open Go.ChangeShapes Go.WideShapes Go.ChangeAt Go.RowKit
set_option linter.unusedVariables false
theorem ext_getD {xs ys : List Int} {n : Nat} (h1 : xs.length = n) (h2 : ys.length = n) (h : ∀ j, j < n → xs.getD j 0 = ys.getD j 0) : xs = ys := by
  apply List.ext_getElem (by omega)
  intro i a b
  have := h i (by omega)
  simpa [List.getD, a, b] using this
theorem ne_getD {xs ys : List Int} {k : Nat} (h : xs.getD k 0 ≠ ys.getD k 0) : xs ≠ ys := fun e => h (by rw [e])

set_option maxHeartbeats 1000000 in
theorem rsameI_any (xs ys : List Int) (A A' : Option Addr) (c c' : Nat) (w : World) (hx : IntsOk w A c xs) (hy : IntsOk w A' c' ys) : Calls Tryz.prog 30 #[.slice A xs.length c, .slice A' ys.length c'] w fun e w' => e = .returned (.bool (decide (xs = ys))) ∧ Qt w w' := by
  have l1 : xs.length ≤ maxLen := Nat.le_trans hx.sl.2.1 hx.sl.2.2
  have l2 : ys.length ≤ maxLen := Nat.le_trans hy.sl.2.1 hy.sl.2.2
  unfold maxLen at l1 l2
  have H1 := hidp hx.at_
  have H2 := hidp hy.at_
  clear hx hy
  obtain ⟨n, hn⟩ : ∃ n, xs.length = n := ⟨_, rfl⟩
  obtain ⟨m, hm⟩ : ∃ m, ys.length = m := ⟨_, rfl⟩
  rw [hn] at l1
  rw [hm] at l2
  rw [hn, hm]
  obtain ⟨b, hb⟩ : ∃ b, decide (xs = ys) = b := ⟨_, rfl⟩
  rw [hb]
  have Hb := hidp hb
  have Hn := hidp hn
  have Hm := hidp hm
  clear hb hn hm
  by_cases e : n = m
  · subst e
    go_enter Tryz.func30, Tryz.ntmps30
    go_wp2
    go_loopg [5] n (fun g i wr => ∃ k : Nat, k + g = n ∧ i = .int .i64 k ∧ Hid (∀ j, j < k → xs.getD j 0 = ys.getD j 0) ∧ Qt w wr)
    case atStart => exact ⟨0, by omega, rfl, hidp (by omega), Qt.refl w⟩
    case round =>
      obtain ⟨k, hk, rfl, Ho, hq⟩ := hrel
      by_cases hlt : k < n
      · obtain ⟨g, off, hA, hc⟩ := H1.out.resolve_left (by intro e; have := Hn.out; rw [e] at this; simp at this; omega)
        obtain ⟨g', off', hA', hc'⟩ := H2.out.resolve_left (by intro e; have := Hm.out; rw [e] at this; simp at this; omega)
        subst hA
        subst hA'
        obtain ⟨x, HX⟩ : ∃ x, Hid (xs.getD k 0 = x) := ⟨_, rfl⟩
        obtain ⟨y, HY⟩ : ∃ y, Hid (ys.getD k 0 = y) := ⟨_, rfl⟩
        have c1 := hq.cell (HX.out ▸ hc k (by rw [Hn.out]; exact hlt))
        have c2 := hq.cell (HY.out ▸ hc' k (by rw [Hm.out]; exact hlt))
        clear hc hc'
        by_cases hxy : x = y
        · have Hs : Hid (∀ j, j < k + 1 → xs.getD j 0 = ys.getD j 0) := hidp (fun j hj => by
            by_cases e : j = k
            · subst e; rw [HX.out, HY.out]; exact hxy
            · exact Ho.out j (by omega))
          have t1 : (x != y) = false := by simp [hxy]
          clear hxy
          go_wp2
          go_quiet (fail)
          go_wp2
          go_roundg (gk - 1)
          case measure => omega
          case rel => exact ⟨k + 1, by omega, by go_num, Hs, hq.add _⟩
        · have Hs : Hid (b = false) := hidp (by rw [← Hb.out]; exact decide_eq_false (ne_getD (k := k) (by rw [HX.out, HY.out]; exact hxy)))
          have t1 : (x != y) = true := by simp [hxy]
          clear hxy
          go_wp2
          go_quiet (fail)
          go_wp2
          go_ret
          exact ⟨ret_bool Hs.out.symm, hq.add _⟩
      · have Hs : Hid (b = true) := hidp (by rw [← Hb.out]; exact decide_eq_true (ext_getD Hn.out Hm.out (fun j hj => Ho.out j (by omega))))
        go_wp2
        go_ret
        exact ⟨ret_bool Hs.out.symm, hq⟩
  · have Hs : Hid (b = false) := hidp (by rw [← Hb.out]; exact decide_eq_false (fun h => e (by rw [← Hn.out, ← Hm.out, h])))
    have t1 : ((n : Int) != (m : Int)) = true := by simp; omega
    clear e
    go_enter Tryz.func30, Tryz.ntmps30
    go_wp2
    go_ret
    exact ⟨ret_bool Hs.out.symm, Qt.refl w⟩

end Go.Proofs.YtlmliefkhidpnaaGreatDoor
