/- turn: the reference's Ahead. -/
import Derived.Test.YtonodmoklbmfkaaTurn1
import Derived.Test.YtonodmoklbmfkaaTurnNums
namespace Go.Proofs.Ytonodmoklbmfkaa
open Go.ChangeShapes Go.WideShapes Go.ChangeAt Go.RowKit
set_option linter.unusedVariables false
set_option linter.unusedSimpArgs false
theorem rah_val (a b : WhoM) : (if decide (0 < a.boost) ≠ decide (0 < b.boost) then decide (0 < a.boost) else if 0 < a.boost ∧ a.boost ≠ b.boost then decide (a.boost < b.boost) else if ¬ 0 < a.boost ∧ a.prio ≠ b.prio then decide (a.prio < b.prio) else decide (a.task < b.task)) = aheadB a b := by
  rw [Bool.eq_iff_iff, ahead_iff]
  unfold key1 key2
  by_cases p : 0 < a.boost <;> by_cases q : 0 < b.boost <;> simp [p, q]
  · by_cases r : a.boost = b.boost <;> simp [r] <;> omega
  · by_cases r : a.prio = b.prio <;> simp [r] <;> omega
set_option maxHeartbeats 2000000 in
theorem rahead_any (a b : WhoM) (w : World) (ha : a.wf) (hb0 : b.wf) : Calls Try.prog 7 #[.agg #[.int .i64 a.task, .int .i64 a.prio, .int .i64 a.boost], .agg #[.int .i64 b.task, .int .i64 b.prio, .int .i64 b.boost]] w fun e w' => e = .returned (.bool (aheadB a b)) ∧ Below w.heap.size w w' := by
  have B0 := W3 ((Bk.new w 23 #[.int .i64 a.task, .int .i64 a.prio, .int .i64 a.boost]).alloc (.cells #[.int .i64 b.task, .int .i64 b.prio, .int .i64 b.boost] 23))
  have B1 := W3 (Bk.at3 (w := w.alloc (.cells #[.int .i64 a.task, .int .i64 a.prio, .int .i64 a.boost] 23)) (g := w.heap.size + 1) (t := 23) (cs := #[.int .i64 b.task, .int .i64 b.prio, .int .i64 b.boost]) (by simp))
  have hb := ((Below.refl w.heap.size w).alloc (Nat.le_refl _) (.cells #[.int .i64 a.task, .int .i64 a.prio, .int .i64 a.boost] 23)).alloc (by simp) (.cells #[.int .i64 b.task, .int .i64 b.prio, .int .i64 b.boost] 23)
  have HV := hidp (rah_val a b)
  obtain ⟨V, HVV⟩ : ∃ V, Hid (aheadB a b = V) := ⟨_, hidp rfl⟩
  rw [HVV.out] at HV ⊢
  obtain ⟨at0, ap, ab⟩ := a
  obtain ⟨bt, bp, bb⟩ := b
  dsimp only at B0 B1 hb HV ⊢
  clear HVV
  obtain ⟨x0, x1, x2⟩ := B0
  obtain ⟨y0, y1, y2⟩ := B1
  have fin : ∀ (u : World) (n : Nat) (v : Bool), v = V → Below w.heap.size w u → Ending.returned (.bool v) = Ending.returned (.bool V) ∧ Below w.heap.size w (u.drewN n) := fun u n v h h2 => ⟨ret_bool h, below_drewN h2 _⟩
  have Fin := hidp fin
  clear fin ha hb0
  by_cases p : 0 < ab
  · by_cases q : 0 < bb
    · by_cases r : ab = bb
      · have p1 : decide (0 < ab) = true := by simpa using p
        have q1 : decide (0 < bb) = true := by simpa using q
        have r1 : (ab != bb) = false := by simp [r]
        have Hr := hidp r
        have Hz : Hid (decide (at0 < bt) = V) := hidp (by rw [← HV.out]; simp [p, q, r])
        clear p q r
        go_enter Try.func7, Try.ntmps7
        go_wp2
        go_quiet (fail)
        go_wp2
        all_goals (try go_quiet (fail))
        all_goals (try go_wp2)
        all_goals (go_ret; exact Fin.out _ _ _ Hz.out hb)
      · have p1 : decide (0 < ab) = true := by simpa using p
        have q1 : decide (0 < bb) = true := by simpa using q
        have r1 : (ab != bb) = true := by simpa using r
        have Hz : Hid (decide (ab < bb) = V) := hidp (by rw [← HV.out]; simp [p, q, r])
        clear p q r
        go_enter Try.func7, Try.ntmps7
        go_wp2
        go_quiet (fail)
        go_wp2
        all_goals (try go_quiet (fail))
        all_goals (try go_wp2)
        all_goals (go_ret; exact Fin.out _ _ _ Hz.out hb)
    · have p1 : decide (0 < ab) = true := by simpa using p
      have q1 : decide (0 < bb) = false := by simpa using q
      have Hz : Hid (true = V) := hidp (by rw [← HV.out]; simp [p, q])
      clear p q
      go_enter Try.func7, Try.ntmps7
      go_wp2
      go_quiet (fail)
      go_wp2
      all_goals (try go_quiet (fail))
      all_goals (try go_wp2)
      all_goals (go_ret; exact Fin.out _ _ _ Hz.out hb)
  · by_cases q : 0 < bb
    · have p1 : decide (0 < ab) = false := by simpa using p
      have q1 : decide (0 < bb) = true := by simpa using q
      have Hz : Hid (false = V) := hidp (by rw [← HV.out]; simp [p, q])
      clear p q
      go_enter Try.func7, Try.ntmps7
      go_wp2
      go_quiet (fail)
      go_wp2
      all_goals (try go_quiet (fail))
      all_goals (try go_wp2)
      all_goals (go_ret; exact Fin.out _ _ _ Hz.out hb)
    · by_cases r : ap = bp
      · have p1 : decide (0 < ab) = false := by simpa using p
        have q1 : decide (0 < bb) = false := by simpa using q
        have r2 : (ap != bp) = false := by simp [r]
        have Hr := hidp r
        have Hz : Hid (decide (at0 < bt) = V) := hidp (by rw [← HV.out]; simp [p, q, r])
        clear p q r
        go_enter Try.func7, Try.ntmps7
        go_wp2
        go_quiet (fail)
        go_wp2
        all_goals (try go_quiet (fail))
        all_goals (try go_wp2)
        all_goals (go_ret; exact Fin.out _ _ _ Hz.out hb)
      · have p1 : decide (0 < ab) = false := by simpa using p
        have q1 : decide (0 < bb) = false := by simpa using q
        have r2 : (ap != bp) = true := by simpa using r
        have Hz : Hid (decide (ap < bp) = V) := hidp (by rw [← HV.out]; simp [p, q, r])
        clear p q r
        go_enter Try.func7, Try.ntmps7
        go_wp2
        go_quiet (fail)
        go_wp2
        all_goals (try go_quiet (fail))
        all_goals (try go_wp2)
        all_goals (go_ret; exact Fin.out _ _ _ Hz.out hb)
end Go.Proofs.Ytonodmoklbmfkaa
