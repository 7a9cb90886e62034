/- ref7's SameTask. -/
import Derived.Test.YtnfkebdbfflhdaaSame3
import Derived.Test.YtnfkebdbfflhdaaRef7a
namespace Go.Proofs.Ytnfkebdbfflhdaa
open Go.ChangeShapes Go.WideShapes Go.ChangeAt Go.RowKit
set_option linter.unusedVariables false
set_option linter.unusedSimpArgs false
/-- a task's box, its parts' length apart -/
def TBox (w : World) (b : Nat) (nm : ByteArray) (per dl prio cl : Int) (pa : Option Addr) (n pc : Nat) : Prop :=
  w.cell? ⟨b, 0, none⟩ = some (.string nm) ∧ w.cell? ⟨b, 1, none⟩ = some (.int .i64 per) ∧ w.cell? ⟨b, 2, none⟩ = some (.int .i64 dl) ∧ w.cell? ⟨b, 3, none⟩ = some (.int .i64 prio) ∧ w.cell? ⟨b, 4, none⟩ = some (.int .i64 cl) ∧ w.cell? ⟨b, 5, none⟩ = some (.slice pa n pc)
theorem TBox.keep {w w' : World} {b : Nat} {nm : ByteArray} {per dl prio cl : Int} {pa : Option Addr} {n pc : Nat} (h : TBox w b nm per dl prio cl pa n pc) (k : Keeps w w') : TBox w' b nm per dl prio cl pa n pc := ⟨k _ _ h.1, k _ _ h.2.1, k _ _ h.2.2.1, k _ _ h.2.2.2.1, k _ _ h.2.2.2.2.1, k _ _ h.2.2.2.2.2⟩
theorem TBox.new (w : World) (nm : ByteArray) (per dl prio cl : Int) (pa : Option Addr) (n pc : Nat) (T : TypeId) : TBox (w.alloc (.cells #[.string nm, .int .i64 per, .int .i64 dl, .int .i64 prio, .int .i64 cl, .slice pa n pc] T)) w.heap.size nm per dl prio cl pa n pc := by
  refine ⟨?_, ?_, ?_, ?_, ?_, ?_⟩ <;> simp

set_option maxHeartbeats 4000000 in
theorem rsameTask_any (t u : TaskR) (w : World) (ht : TaskOk w t) (hu : TaskOk w u) : Calls Try.prog 22 #[.agg #[.string t.name, .int .i64 t.per, .int .i64 t.dl, .int .i64 t.prio, .int .i64 t.cl, .slice t.pa t.parts.length t.pc], .agg #[.string u.name, .int .i64 u.per, .int .i64 u.dl, .int .i64 u.prio, .int .i64 u.cl, .slice u.pa u.parts.length u.pc]] w fun e w' => e = .returned (.bool (sameT t u)) ∧ Below w.heap.size w w' := by
  obtain ⟨nm, per, dl, prio, cl, pa, pc, parts⟩ := t
  obtain ⟨nm2, per2, dl2, prio2, cl2, pa2, pc2, parts2⟩ := u
  have l1 : parts.length ≤ maxLen := Nat.le_trans ht.sl.2.1 ht.sl.2.2
  have l2 : parts2.length ≤ maxLen := Nat.le_trans hu.sl.2.1 hu.sl.2.2
  unfold maxLen at l1 l2
  dsimp only
  obtain ⟨n, hn⟩ : ∃ n, parts.length = n := ⟨_, rfl⟩
  obtain ⟨m, hm⟩ : ∃ m, parts2.length = m := ⟨_, rfl⟩
  rw [hn] at l1
  rw [hm] at l2
  rw [hn, hm]
  have Hn := hidp hn
  have Hm := hidp hm
  clear hn hm
  have hb1 := (Below.refl w.heap.size w).alloc (Nat.le_refl _) (.cells #[.string nm, .int .i64 per, .int .i64 dl, .int .i64 prio, .int .i64 cl, .slice pa n pc] 37)
  have hb := hb1.alloc hb1.size (.cells #[.string nm2, .int .i64 per2, .int .i64 dl2, .int .i64 prio2, .int .i64 cl2, .slice pa2 m pc2] 37)
  have P1 := hidp ht.at_
  have P2 := hidp hu.at_
  dsimp only at P1 P2
  have tb1 := (TBox.new w nm per dl prio cl pa n pc 37).keep (Keeps.alloc (w.alloc (.cells #[.string nm, .int .i64 per, .int .i64 dl, .int .i64 prio, .int .i64 cl, .slice pa n pc] 37)) (.cells #[.string nm2, .int .i64 per2, .int .i64 dl2, .int .i64 prio2, .int .i64 cl2, .slice pa2 m pc2] 37))
  have tb2 := TBox.new (w.alloc (.cells #[.string nm, .int .i64 per, .int .i64 dl, .int .i64 prio, .int .i64 cl, .slice pa n pc] 37)) nm2 per2 dl2 prio2 cl2 pa2 m pc2 37
  rw [show (w.alloc (.cells #[.string nm, .int .i64 per, .int .i64 dl, .int .i64 prio, .int .i64 cl, .slice pa n pc] 37)).heap.size = w.heap.size + 1 by simp] at tb2
  obtain ⟨f0, f1, f2, f3, f4, f5⟩ := id tb1
  obtain ⟨q0, q1, q2, q3, q4, q5⟩ := id tb2
  obtain ⟨b, hB⟩ : ∃ b, sameT ⟨nm, per, dl, prio, cl, pa, pc, parts⟩ ⟨nm2, per2, dl2, prio2, cl2, pa2, pc2, parts2⟩ = b := ⟨_, rfl⟩
  rw [hB]
  unfold sameT at hB
  dsimp only at hB
  clear hb1 ht hu
  cases h0 : (nm.toList == nm2.toList)
  · have Hs : Hid (b = false) := hidp (by rw [← hB]; simp only [h0, Bool.true_and, Bool.false_and])
    clear hB
    have t1 : (nm.toList != nm2.toList) = true := by unfold bne; rw [h0]; rfl
    go_enter Try.func22, Try.ntmps22
    go_wp2_with fail
    go_ret
    exact ⟨ret_bool Hs.out.symm, hb⟩
  · have g0 : (nm.toList != nm2.toList) = false := by unfold bne; rw [h0]; rfl
    cases h1 : (per == per2)
    · have Hs : Hid (b = false) := hidp (by rw [← hB]; simp only [h0, h1, Bool.true_and, Bool.false_and])
      clear hB
      have t1 : (per != per2) = true := by unfold bne; rw [h1]; rfl
      go_enter Try.func22, Try.ntmps22
      go_wp2_with fail
      go_ret
      exact ⟨ret_bool Hs.out.symm, hb⟩
    · have g1 : (per != per2) = false := by unfold bne; rw [h1]; rfl
      cases h2 : (dl == dl2)
      · have Hs : Hid (b = false) := hidp (by rw [← hB]; simp only [h0, h1, h2, Bool.true_and, Bool.false_and])
        clear hB
        have t1 : (dl != dl2) = true := by unfold bne; rw [h2]; rfl
        go_enter Try.func22, Try.ntmps22
        go_wp2_with fail
        go_ret
        exact ⟨ret_bool Hs.out.symm, hb⟩
      · have g2 : (dl != dl2) = false := by unfold bne; rw [h2]; rfl
        cases h3 : (prio == prio2)
        · have Hs : Hid (b = false) := hidp (by rw [← hB]; simp only [h0, h1, h2, h3, Bool.true_and, Bool.false_and])
          clear hB
          have t1 : (prio != prio2) = true := by unfold bne; rw [h3]; rfl
          go_enter Try.func22, Try.ntmps22
          go_wp2_with fail
          go_ret
          exact ⟨ret_bool Hs.out.symm, hb⟩
        · have g3 : (prio != prio2) = false := by unfold bne; rw [h3]; rfl
          cases h4 : (cl == cl2)
          · have Hs : Hid (b = false) := hidp (by rw [← hB]; simp only [h0, h1, h2, h3, h4, Bool.true_and, Bool.false_and])
            clear hB
            have t1 : (cl != cl2) = true := by unfold bne; rw [h4]; rfl
            go_enter Try.func22, Try.ntmps22
            go_wp2_with fail
            go_ret
            exact ⟨ret_bool Hs.out.symm, hb⟩
          · have g4 : (cl != cl2) = false := by unfold bne; rw [h4]; rfl
            have HB := hidp (show decide (parts = parts2) = b from by rw [← hB]; simp only [h0, h1, h2, h3, h4, Bool.true_and])
            clear hB
            by_cases e : n = m
            · subst e
              go_enter Try.func22, Try.ntmps22
              go_wp2_with fail
              go_loopg [5] n (fun g i wr => ∃ k : Nat, k + g = n ∧ i = .int .i64 k ∧ Hid (∀ j, j < k → parts.getD j default = parts2.getD j default) ∧ Below w.heap.size w wr ∧ TBox wr w.heap.size nm per dl prio cl pa n pc ∧ TBox wr (w.heap.size + 1) nm2 per2 dl2 prio2 cl2 pa2 n pc2)
              case atStart => exact ⟨0, by omega, rfl, hidp (by omega), hb, tb1, tb2⟩
              case round =>
                obtain ⟨k, hk, rfl, Ho, hw, ta1, ta2⟩ := hrel
                clear f0 f1 f2 f3 f4 f5 q0 q1 q2 q3 q4 q5 hb tb1 tb2
                obtain ⟨f0, f1, f2, f3, f4, f5⟩ := id ta1
                obtain ⟨q0, q1, q2, q3, q4, q5⟩ := id ta2
                by_cases hlt : k < n
                · obtain ⟨g, off, hA, hc⟩ := P1.out.resolve_left (by intro e; have := Hn.out; rw [e] at this; simp at this; omega)
                  obtain ⟨g', off', hA', hc'⟩ := P2.out.resolve_left (by intro e; have := Hm.out; rw [e] at this; simp at this; omega)
                  subst hA
                  subst hA'
                  obtain ⟨x, HX⟩ : ∃ x, Hid (parts.getD k default = x) := ⟨_, rfl⟩
                  obtain ⟨y, HY⟩ : ∃ y, Hid (parts2.getD k default = y) := ⟨_, rfl⟩
                  obtain ⟨c1, c2, c3⟩ := (HX.out ▸ hc k (by rw [Hn.out]; exact hlt)).keep (Keeps.of_below hw)
                  obtain ⟨d1, d2, d3⟩ := (HY.out ▸ hc' k (by rw [Hm.out]; exact hlt)).keep (Keeps.of_below hw)
                  clear hc hc'
                  obtain ⟨x1, x2, x3⟩ := x
                  obtain ⟨y1, y2, y3⟩ := y
                  dsimp only at c1 c2 c3 d1 d2 d3
                  by_cases n1 : x1 = y1
                  · subst n1
                    by_cases n2 : x2 = y2
                    · subst n2
                      by_cases n3 : x3 = y3
                      · subst n3
                        have Hs : Hid (∀ j, j < k + 1 → parts.getD j default = parts2.getD j default) := hidp (fun j hj => by
                          by_cases e : j = k
                          · subst e; rw [HX.out, HY.out]
                          · exact Ho.out j (by omega))
                        go_wp2
                        go_quiet (fail)
                        go_wp2
                        go_roundg (gk - 1)
                        case measure => omega
                        case rel => exact ⟨k + 1, by omega, by go_num, Hs, below_drewN hw _, ta1.keep (Keeps.drewN _ _), ta2.keep (Keeps.drewN _ _)⟩
                      · have Hs : Hid (b = false) := hidp (by rw [← HB.out]; exact decide_eq_false (ne_getP (k := k) (by rw [HX.out, HY.out]; intro h; injection h with h1 h2 h3; exact n3 ‹_›)))
                        have t1 : (x3 != y3) = true := by simpa using n3
                        have t2 : (x3 == y3) = false := by simpa using n3
                        go_wp2
                        go_quiet (fail)
                        go_wp2
                        go_ret
                        exact ⟨ret_bool Hs.out.symm, below_drewN hw _⟩
                    · have Hs : Hid (b = false) := hidp (by rw [← HB.out]; exact decide_eq_false (ne_getP (k := k) (by rw [HX.out, HY.out]; intro h; injection h with h1 h2 h3; exact n2 ‹_›)))
                      have t1 : (x2 != y2) = true := by simpa using n2
                      have t2 : (x2 == y2) = false := by simpa using n2
                      go_wp2
                      go_quiet (fail)
                      go_wp2
                      go_ret
                      exact ⟨ret_bool Hs.out.symm, below_drewN hw _⟩
                  · have Hs : Hid (b = false) := hidp (by rw [← HB.out]; exact decide_eq_false (ne_getP (k := k) (by rw [HX.out, HY.out]; intro h; injection h with h1 h2 h3; exact n1 ‹_›)))
                    have t1 : (x1 != y1) = true := by simpa using n1
                    have t2 : (x1 == y1) = false := by simpa using n1
                    go_wp2
                    go_quiet (fail)
                    go_wp2
                    go_ret
                    exact ⟨ret_bool Hs.out.symm, below_drewN hw _⟩
                · have Hs : Hid (b = true) := hidp (by rw [← HB.out]; exact decide_eq_true (ext_getP Hn.out Hm.out (fun j hj => Ho.out j (by omega))))
                  go_wp2
                  go_ret
                  exact ⟨ret_bool Hs.out.symm, hw⟩
            · have Hs : Hid (b = false) := hidp (by rw [← HB.out]; exact decide_eq_false (fun h => e (by rw [← Hn.out, ← Hm.out, h])))
              have t1 : ((n : Int) != (m : Int)) = true := by simp; omega
              clear e
              go_enter Try.func22, Try.ntmps22
              go_wp2_with fail
              go_ret
              exact ⟨ret_bool Hs.out.symm, hb⟩
end Go.Proofs.Ytnfkebdbfflhdaa
