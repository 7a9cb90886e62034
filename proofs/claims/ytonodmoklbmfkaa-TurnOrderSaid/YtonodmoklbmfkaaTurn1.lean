/- turn: Ahead, order. -/
import Derived.Test.YtonodmoklbmfkaaWhoM
import Derived.RegionTactic
import Derived.ChangeAlike
import Derived.Deep.QuietTactic
import Derived.BigQuiet
namespace Go.Proofs.Ytonodmoklbmfkaa
open Go.ChangeShapes Go.WideShapes Go.ChangeAt Go.RowKit
set_option linter.unusedVariables false
set_option linter.unusedSimpArgs false

theorem W3 {w : World} {g : Nat} {t : TypeId} {c0 c1 c2 : Value} (h : Bk w g t #[c0, c1, c2]) : w.cell? ⟨g, 0, none⟩ = some c0 ∧ w.cell? ⟨g, 1, none⟩ = some c1 ∧ w.cell? ⟨g, 2, none⟩ = some c2 := ⟨h.cell 0, h.cell 1, h.cell 2⟩
theorem Bk.at3 {w : World} {g : Nat} {t : TypeId} {cs : Array Value} (h : w.heap.size = g) : Bk (w.alloc (.cells cs t)) g t cs := by subst h; exact Bk.new w t cs
theorem Keeps2 {w w' : World} (h : Below w.heap.size w w') : ∀ p v, w.cell? p = some v → w'.cell? p = some v := fun p v hv => by rw [h.cell (cell_lt hv)]; exact hv
set_option maxHeartbeats 2000000 in
theorem ahead_any (a b : WhoM) (w : World) (ha : a.wf) (hb0 : b.wf) : Calls Try.prog 6 #[.agg #[.int .i64 a.task, .int .i64 a.prio, .int .i64 a.boost], .agg #[.int .i64 b.task, .int .i64 b.prio, .int .i64 b.boost]] w fun e w' => e = .returned (.bool (aheadB a b)) ∧ Below w.heap.size w w' := by
  have B0 := W3 ((Bk.new w 23 #[.int .i64 a.task, .int .i64 a.prio, .int .i64 a.boost]).alloc (.cells #[.int .i64 b.task, .int .i64 b.prio, .int .i64 b.boost] 23))
  have B1 := W3 (Bk.at3 (w := w.alloc (.cells #[.int .i64 a.task, .int .i64 a.prio, .int .i64 a.boost] 23)) (g := w.heap.size + 1) (t := 23) (cs := #[.int .i64 b.task, .int .i64 b.prio, .int .i64 b.boost]) (by simp))
  have hb := ((Below.refl w.heap.size w).alloc (Nat.le_refl _) (.cells #[.int .i64 a.task, .int .i64 a.prio, .int .i64 a.boost] 23)).alloc (by simp) (.cells #[.int .i64 b.task, .int .i64 b.prio, .int .i64 b.boost] 23)
  obtain ⟨V, HV⟩ : ∃ V, Hid (aheadB a b = V) := ⟨_, hidp rfl⟩
  have HD : Hid (aheadB a b = V) := HV
  obtain ⟨at0, ap, ab⟩ := a
  obtain ⟨bt, bp, bb⟩ := b
  obtain ⟨⟨a1, a2⟩, ⟨a3, a4⟩, ⟨a5, a6⟩⟩ := ha
  obtain ⟨⟨b1, b2⟩, ⟨b3, b4⟩, ⟨b5, b6⟩⟩ := hb0
  dsimp only at B0 B1 hb a1 a2 a3 a4 a5 a6 b1 b2 b3 b4 b5 b6 HD HV ⊢
  rw [HV.out]
  clear HV
  obtain ⟨x0, x1, x2⟩ := B0
  obtain ⟨y0, y1, y2⟩ := B1
  obtain ⟨xa, hxa⟩ : ∃ xa, (if ab < 0 then 0 else ab) = xa := ⟨_, rfl⟩
  obtain ⟨xb, hxb⟩ : ∃ xb, (if bb < 0 then 0 else bb) = xb := ⟨_, rfl⟩
  have Hxa : Hid (max ab 0 = xa) := hidp (by rw [← hxa]; split <;> omega)
  have Hxb : Hid (max bb 0 = xb) := hidp (by rw [← hxb]; split <;> omega)
  have xa0 : 0 ≤ xa := by rw [← Hxa.out]; omega
  have xb0 : 0 ≤ xb := by rw [← Hxb.out]; omega
  have hV : (if decide (0 < xa) ≠ decide (0 < xb) then decide (0 < xa) else if xa ≠ xb then decide (xa < xb) else if xa = 0 ∧ ap ≠ bp then decide (ap < bp) else decide (at0 < bt)) = V := by
    have := HD.out
    unfold aheadB at this
    dsimp only at this
    rw [Hxa.out, Hxb.out] at this
    exact this
  have HV := hidp hV
  clear hV
  have fin : ∀ (u : World) (n : Nat) (v : Bool), v = V → Below w.heap.size w u → Ending.returned (.bool v) = Ending.returned (.bool V) ∧ Below w.heap.size w (u.drewN n) := fun u n v h h2 => ⟨ret_bool h, below_drewN h2 _⟩
  have Fin := hidp fin
  clear fin
  by_cases p : 0 < xa
  · have p1 : decide (0 < xa) = true := by simpa using p
    have p2 : (xa == 0) = false := by rw [beq_eq_false_iff_ne]; omega
    by_cases q : 0 < xb
    · have q1 : decide (0 < xb) = true := by simpa using q
      by_cases r : xa = xb
      · have Hz : Hid (decide (at0 < bt) = V) := hidp (by rw [← HV.out, if_neg (by simp [p, q]), if_neg (by simp [r]), if_neg (by omega)])
        have r1 : (xa != xb) = false := by simp [r]
        have Hr := hidp r
        clear r p q
        go_enter Try.func6, Try.ntmps6
        go_wp2
        go_quiet (fail)
        go_wp2
        all_goals (go_ret; exact Fin.out _ _ _ (by rw [← Hz.out]) hb)
      · have Hz : Hid (decide (xa < xb) = V) := hidp (by rw [← HV.out, if_neg (by simp [p, q]), if_pos r])
        have r1 : (xa != xb) = true := by simpa using r
        clear p q
        go_enter Try.func6, Try.ntmps6
        go_wp2
        go_quiet (fail)
        go_wp2
        all_goals (go_ret; exact Fin.out _ _ _ (by rw [← Hz.out]) hb)
    · have q1 : decide (0 < xb) = false := by simpa using q
      have Hz : Hid (true = V) := hidp (by rw [← HV.out, if_pos (by simp [p, q]), p1])
      clear p q
      go_enter Try.func6, Try.ntmps6
      go_wp2
      go_quiet (fail)
      go_wp2
      all_goals (go_ret; exact Fin.out _ _ _ Hz.out hb)
  · have p1 : decide (0 < xa) = false := by simpa using p
    by_cases q : 0 < xb
    · have q1 : decide (0 < xb) = true := by simpa using q
      have Hz : Hid (false = V) := hidp (by rw [← HV.out, if_pos (by simp [p, q]), p1])
      clear p q
      go_enter Try.func6, Try.ntmps6
      go_wp2
      go_quiet (fail)
      go_wp2
      all_goals (go_ret; exact Fin.out _ _ _ Hz.out hb)
    · have q1 : decide (0 < xb) = false := by simpa using q
      have e1 : xa = 0 := by omega
      have e2 : xb = 0 := by omega
      have r1 : (xa != xb) = false := by rw [e1, e2]; rfl
      have p2 : (xa == 0) = true := by rw [e1]; rfl
      by_cases r : ap = bp
      · have Hz : Hid (decide (at0 < bt) = V) := hidp (by rw [← HV.out, if_neg (by simp [p, q]), if_neg (by omega), if_neg (by simp [r])])
        have r2 : (ap != bp) = false := by simp [r]
        have Hr := hidp r
        clear r p q e1 e2
        go_enter Try.func6, Try.ntmps6
        go_wp2
        go_quiet (fail)
        go_wp2
        all_goals (go_ret; exact Fin.out _ _ _ (by rw [← Hz.out]) hb)
      · have Hz : Hid (decide (ap < bp) = V) := hidp (by rw [← HV.out, if_neg (by simp [p, q]), if_neg (by omega), if_pos ⟨e1, r⟩])
        have r2 : (ap != bp) = true := by simpa using r
        clear p q e1 e2
        go_enter Try.func6, Try.ntmps6
        go_wp2
        go_quiet (fail)
        go_wp2
        all_goals (go_ret; exact Fin.out _ _ _ (by rw [← Hz.out]) hb)
theorem order_any (a b : WhoM) (w : World) (ha : a.wf) (hb0 : b.wf) : Calls Try.prog 13 #[.agg #[.int .i64 a.task, .int .i64 a.prio, .int .i64 a.boost], .agg #[.int .i64 b.task, .int .i64 b.prio, .int .i64 b.boost]] w fun e w' => e = .returned (.int .i64 (orderV a b)) ∧ Below w.heap.size w w' := by
  have B0 := W3 ((Bk.new w 23 #[.int .i64 a.task, .int .i64 a.prio, .int .i64 a.boost]).alloc (.cells #[.int .i64 b.task, .int .i64 b.prio, .int .i64 b.boost] 23))
  have B1 := W3 (Bk.at3 (w := w.alloc (.cells #[.int .i64 a.task, .int .i64 a.prio, .int .i64 a.boost] 23)) (g := w.heap.size + 1) (t := 23) (cs := #[.int .i64 b.task, .int .i64 b.prio, .int .i64 b.boost]) (by simp))
  have hb := ((Below.refl w.heap.size w).alloc (Nat.le_refl _) (.cells #[.int .i64 a.task, .int .i64 a.prio, .int .i64 a.boost] 23)).alloc (by simp) (.cells #[.int .i64 b.task, .int .i64 b.prio, .int .i64 b.boost] 23)
  obtain ⟨p, Hp⟩ : ∃ V, Hid (aheadB a b = V) := ⟨_, hidp rfl⟩
  obtain ⟨q, Hq⟩ : ∃ V, Hid (aheadB b a = V) := ⟨_, hidp rfl⟩
  obtain ⟨x0, x1, x2⟩ := id B0
  obtain ⟨y0, y1, y2⟩ := id B1
  go_enter Try.func13, Try.ntmps13
  go_wp2_with fail
  refine (ahead_any a b _ ha hb0).mono ?_
  rintro e w2 ⟨rfl, hb2⟩
  rw [Hp.out]
  have k2 := Keeps2 hb2
  have x := And.intro (k2 _ _ B0.1) (And.intro (k2 _ _ B0.2.1) (k2 _ _ B0.2.2))
  have y := And.intro (k2 _ _ B1.1) (And.intro (k2 _ _ B1.2.1) (k2 _ _ B1.2.2))
  replace hb := hb.trans (hb2.mono hb.size)
  clear hb2 k2 x0 x1 x2 y0 y1 y2 B0 B1
  obtain ⟨x0, x1, x2⟩ := x
  obtain ⟨y0, y1, y2⟩ := y
  cases p with
  | true =>
    go_wp2_with fail
    go_ret
    exact ⟨ret_int (by unfold orderV; rw [Hp.out]; rfl), hb⟩
  | false =>
    go_wp2_with fail
    refine (ahead_any b a _ hb0 ha).mono ?_
    rintro e w3 ⟨rfl, hb2⟩
    rw [Hq.out]
    replace hb := hb.trans (hb2.mono hb.size)
    clear hb2 x0 x1 x2 y0 y1 y2
    cases q with
    | true =>
      go_wp2_with fail
      go_ret
      exact ⟨ret_int (by unfold orderV; rw [Hp.out, Hq.out]; rfl), hb⟩
    | false =>
      go_wp2_with fail
      go_ret
      exact ⟨ret_int (by unfold orderV; rw [Hp.out, Hq.out]; rfl), hb⟩
end Go.Proofs.Ytonodmoklbmfkaa
