/- slices.EqualFunc of tasks with task.SameTask. -/
import Derived.Test.YtnfkebdbfflhdaaSame3
import Derived.Test.YtnfkebdbfflhdaaSound
namespace Go.Proofs.Ytnfkebdbfflhdaa
open Go.ChangeShapes Go.WideShapes Go.ChangeAt Go.RowKit
set_option linter.unusedVariables false
def sameTs (xs ys : List TaskR) : Bool := decide (xs.length = ys.length) && (List.range xs.length).all fun k => sameT (xs.getD k default) (ys.getD k default)
theorem sameTs_true {xs ys : List TaskR} (h : xs.length = ys.length) (hk : ∀ k, k < xs.length → sameT (xs.getD k default) (ys.getD k default) = true) : sameTs xs ys = true := by
  unfold sameTs
  rw [decide_eq_true h, Bool.true_and, List.all_eq_true]
  intro k hm
  exact hk k (List.mem_range.1 hm)
theorem sameTs_at {xs ys : List TaskR} {k : Nat} (hk : k < xs.length) (h : sameT (xs.getD k default) (ys.getD k default) = false) : sameTs xs ys = false := by
  rw [← Bool.not_eq_true]
  intro e
  unfold sameTs at e
  rw [Bool.and_eq_true, List.all_eq_true] at e
  rw [e.2 k (List.mem_range.2 hk)] at h
  cases h
theorem sameTs_len {xs ys : List TaskR} (h : xs.length ≠ ys.length) : sameTs xs ys = false := by
  unfold sameTs
  rw [decide_eq_false h, Bool.false_and]

set_option maxHeartbeats 4000000 in
theorem eqF_any (xs ys : List TaskR) (A A' : Option Addr) (c c' : Nat) (w : World) (hx : TasksOk w A c xs) (hy : TasksOk w A' c' ys) : Calls Try.prog 38 #[.slice A xs.length c, .slice A' ys.length c', .func (Fn.func 27) #[] #[]] w fun e w' => e = .returned (.bool (sameTs xs ys)) ∧ Below w.heap.size w w' := by
  have l1 : xs.length ≤ maxLen := Nat.le_trans hx.sl.2.1 hx.sl.2.2
  have l2 : ys.length ≤ maxLen := Nat.le_trans hy.sl.2.1 hy.sl.2.2
  unfold maxLen at l1 l2
  have H1 := hidp hx
  have H2 := hidp hy
  clear hx hy
  obtain ⟨n, hn⟩ : ∃ n, xs.length = n := ⟨_, rfl⟩
  obtain ⟨m, hm⟩ : ∃ m, ys.length = m := ⟨_, rfl⟩
  rw [hn] at l1
  rw [hm] at l2
  rw [hn, hm]
  obtain ⟨b, hb⟩ : ∃ b, sameTs xs ys = b := ⟨_, rfl⟩
  rw [hb]
  have Hb := hidp hb
  have Hn := hidp hn
  have Hm := hidp hm
  clear hb hn hm
  by_cases e : n = m
  · subst e
    go_enter Try.func38, Try.ntmps38
    go_wp2
    go_loopg [17] n (fun g i wr => ∃ k : Nat, k + g = n ∧ i = .int .i64 k ∧ Hid (∀ j, j < k → sameT (xs.getD j default) (ys.getD j default) = true) ∧ Below w.heap.size w wr)
    case atStart => exact ⟨0, by omega, rfl, hidp (by omega), Below.refl _ _⟩
    case round =>
      obtain ⟨k, hk, rfl, Ho, hw⟩ := hrel
      by_cases hlt : k < n
      · obtain ⟨g, off, hA, hc⟩ := H1.out.at_.resolve_left (by intro e; have := Hn.out; rw [e] at this; simp at this; omega)
        obtain ⟨g', off', hA', hc'⟩ := H2.out.at_.resolve_left (by intro e; have := Hm.out; rw [e] at this; simp at this; omega)
        subst hA
        subst hA'
        obtain ⟨t, HX⟩ : ∃ t, Hid (xs.getD k default = t) := ⟨_, rfl⟩
        obtain ⟨u, HY⟩ : ∃ u, Hid (ys.getD k default = u) := ⟨_, rfl⟩
        have T1 := (H1.out.ok t (HX.out ▸ getD_mem (by rw [Hn.out]; exact hlt))).keep (Keeps.of_below hw)
        have T2 := (H2.out.ok u (HY.out ▸ getD_mem (by rw [Hm.out]; exact hlt))).keep (Keeps.of_below hw)
        obtain ⟨c0, c1, c2, c3, c4, c5⟩ := (HX.out ▸ hc k (by rw [Hn.out]; exact hlt)).keep (Keeps.of_below hw)
        obtain ⟨d0, d1, d2, d3, d4, d5⟩ := ((HY.out ▸ hc' k (by rw [Hm.out]; exact hlt)).keep (Keeps.of_below hw)).keep (Keeps.alloc wr (.cells #[.string t.name, .int .i64 t.per, .int .i64 t.dl, .int .i64 t.prio, .int .i64 t.cl, .slice t.pa t.parts.length t.pc] 37))
        clear hc hc'
        have hw1 := hw.alloc hw.size (.cells #[.string t.name, .int .i64 t.per, .int .i64 t.dl, .int .i64 t.prio, .int .i64 t.cl, .slice t.pa t.parts.length t.pc] 37)
        have hw2 := hw1.alloc hw1.size (.cells #[.string u.name, .int .i64 u.per, .int .i64 u.dl, .int .i64 u.prio, .int .i64 u.cl, .slice u.pa u.parts.length u.pc] 37)
        have X := hidp ((T1.keep (Keeps.alloc wr (.cells #[.string t.name, .int .i64 t.per, .int .i64 t.dl, .int .i64 t.prio, .int .i64 t.cl, .slice t.pa t.parts.length t.pc] 37))).keep (Keeps.alloc (wr.alloc (.cells #[.string t.name, .int .i64 t.per, .int .i64 t.dl, .int .i64 t.prio, .int .i64 t.cl, .slice t.pa t.parts.length t.pc] 37)) (.cells #[.string u.name, .int .i64 u.per, .int .i64 u.dl, .int .i64 u.prio, .int .i64 u.cl, .slice u.pa u.parts.length u.pc] 37)))
        have Y := hidp ((T2.keep (Keeps.alloc wr (.cells #[.string t.name, .int .i64 t.per, .int .i64 t.dl, .int .i64 t.prio, .int .i64 t.cl, .slice t.pa t.parts.length t.pc] 37))).keep (Keeps.alloc (wr.alloc (.cells #[.string t.name, .int .i64 t.per, .int .i64 t.dl, .int .i64 t.prio, .int .i64 t.cl, .slice t.pa t.parts.length t.pc] 37)) (.cells #[.string u.name, .int .i64 u.per, .int .i64 u.dl, .int .i64 u.prio, .int .i64 u.cl, .slice u.pa u.parts.length u.pc] 37)))
        clear T1 T2
        cases hs : sameT t u
        · have Hs : Hid (b = false) := hidp (by rw [← Hb.out]; exact sameTs_at (k := k) (by rw [Hn.out]; exact hlt) (by rw [HX.out, HY.out]; exact hs))
          go_wp2_with (first | (go_at_call 27; (with_reducible refine (sameTask_any t u _ X.out Y.out).mono ?_); rintro e w2 ⟨rfl, hb2⟩))
          go_ret
          exact ⟨ret_bool Hs.out.symm, hw2.trans (hb2.mono hw2.size)⟩
        · have Hs : Hid (∀ j, j < k + 1 → sameT (xs.getD j default) (ys.getD j default) = true) := hidp (fun j hj => by
            by_cases e : j = k
            · subst e; rw [HX.out, HY.out]; exact hs
            · exact Ho.out j (by omega))
          go_wp2_with (first | (go_at_call 27; (with_reducible refine (sameTask_any t u _ X.out Y.out).mono ?_); rintro e w2 ⟨rfl, hb2⟩))
          go_roundg (gk - 1)
          case measure => omega
          case rel => exact ⟨k + 1, by omega, by go_num, Hs, hw2.trans (hb2.mono hw2.size)⟩
      · have Hs : Hid (b = true) := hidp (by rw [← Hb.out]; exact sameTs_true (by rw [Hn.out, Hm.out]) (fun j hj => Ho.out j (by rw [Hn.out] at hj; omega)))
        go_wp2
        go_ret
        exact ⟨ret_bool Hs.out.symm, hw⟩
  · have Hs : Hid (b = false) := hidp (by rw [← Hb.out]; exact sameTs_len (fun h => e (by rw [← Hn.out, ← Hm.out, h])))
    have t1 : ((n : Int) != (m : Int)) = true := by simp; omega
    clear e
    go_enter Try.func38, Try.ntmps38
    go_wp2
    go_ret
    exact ⟨ret_bool Hs.out.symm, Below.refl _ _⟩
end Go.Proofs.Ytnfkebdbfflhdaa
