/- swingbridgelaw26.fewTrace is true of few waits alone. -/
import Derived.Test.YtmchjmgifipfoaaTraceB
import Derived.BigQuiet
namespace Go.Proofs.Ytmchjmgifipfoaa
open Go.ChangeShapes Go.WideShapes Go.ChangeAt Go.RowKit
set_option linter.unusedVariables false
set_option linter.unusedSimpArgs false
def FewT26 (w : World) (t : TraceR) (e : Ending) (w' : World) : Prop := (∃ b : Bool, e = .returned (.bool b) ∧ (b = true → t.waits.length ≤ 30 ∧ t.slots.length ≤ 60)) ∧ Below w.heap.size w w'
set_option maxHeartbeats 2000000 in
set_option maxRecDepth 100000 in
theorem fewT26_any (t : TraceR) (w : World) (ht : TraceOk w t) : Calls Try.prog 18 #[.agg #[.int .i64 t.ticks, .slice t.sa t.slots.length t.sc, .slice t.ja t.jobs.length t.jc, .slice t.wa t.waits.length t.wc]] w (FewT26 w t) := by
  have hb := (Below.refl w.heap.size w).alloc (Nat.le_refl _) (.cells #[.int .i64 t.ticks, .slice t.sa t.slots.length t.sc, .slice t.ja t.jobs.length t.jc, .slice t.wa t.waits.length t.wc] 38)
  have tb := TraceBox.new w t 38
  have HX := hidp ht.slots
  have lw : t.waits.length ≤ maxLen := Nat.le_trans ht.wsl.2.1 ht.wsl.2.2
  have lj : t.jobs.length ≤ maxLen := Nat.le_trans ht.jsl.2.1 ht.jsl.2.2
  have lx : t.slots.length ≤ maxLen := Nat.le_trans ht.ssl.2.1 ht.ssl.2.2
  unfold maxLen at lw lj lx
  clear ht
  obtain ⟨tk, sa, sc', slots, ja, jc, jobs, wa, wc, ws⟩ := t
  dsimp only at hb tb HX lw lj lx ⊢
  have F : ∀ w', Below w.heap.size w w' → FewT26 w ⟨tk, sa, sc', slots, ja, jc, jobs, wa, wc, ws⟩ (.returned (.bool false)) w' := fun w' h => ⟨⟨false, rfl, fun e => by cases e⟩, h⟩
  have HF := hidp F
  clear F
  have HTb := hidp tb
  obtain ⟨t0, t1, t2, t3⟩ := tb
  dsimp only at t0 t1 t2 t3
  go_enter Try.func18, Try.ntmps18
  go_wp2_with fail
  clear t0 t1 t2 t3
  go_loopg [3] slots.length (fun gg i wr => ∃ k : Nat, k + gg = slots.length ∧ i = .int .i64 k ∧ Below w.heap.size w wr ∧ TraceBox wr w.heap.size ⟨tk, sa, sc', slots, ja, jc, jobs, wa, wc, ws⟩)
  case atStart => exact ⟨0, by omega, rfl, hb, HTb.out⟩
  case round =>
    obtain ⟨k, hk, rfl, hbr, tbr⟩ := hrel
    clear HTb hb
    obtain ⟨t0, t1, t2, t3⟩ := id tbr
    dsimp only at t0 t1 t2 t3
    by_cases hlt : k < slots.length
    · obtain ⟨g, off, hA, hd⟩ := HX.out.resolve_left (by intro e; rw [e] at hlt; simp at hlt)
      obtain ⟨y, HY⟩ : ∃ y, Hid (slots.getD k default = y) := ⟨_, rfl⟩
      obtain ⟨d0, d1, d2, d3⟩ := (HY.out ▸ hd k hlt).keep (Keeps.of_below hbr)
      have kI : (k : Int) < (slots.length : Int) := by omega
      have dk : decide (slots.length ≤ k) = false := by simp; omega
      clear hd
      subst hA
      obtain ⟨yt, yc, yk, yh⟩ := y
      dsimp only at d0 d1 d2 d3
      by_cases h0 : yt < 0
      · have f0 : decide (yt < 0) = true := by simpa using h0
        go_wp2_with fail
        try go_quiet (fail)
        try go_wp2_with fail
        go_ret
        exact HF.out _ (by first | exact hbr | exact below_drewN hbr _)
      · have f0 : decide (yt < 0) = false := by simpa using h0
        by_cases h1 : 5000 < yt
        · have f1 : decide (5000 < yt) = true := by simpa using h1
          go_wp2_with fail
          try go_quiet (fail)
          try go_wp2_with fail
          go_ret
          exact HF.out _ (by first | exact hbr | exact below_drewN hbr _)
        · have f1 : decide (5000 < yt) = false := by simpa using h1
          go_wp2_with fail
          try go_quiet (fail)
          try go_wp2_with fail
          go_roundg (gk - 1)
          case measure => omega
          case rel => exact ⟨k + 1, by omega, by go_num, by first | exact hbr | exact below_drewN hbr _, by first | exact tbr | exact tbr.keep (Keeps.drewN _ _)⟩
    · have kI : ¬ (k : Int) < (slots.length : Int) := by omega
      by_cases h60 : slots.length ≤ 60
      · have e60 : decide ((slots.length : Int) ≤ 60) = true := by simp; omega
        by_cases h30 : jobs.length ≤ 30
        · have e30 : decide ((jobs.length : Int) ≤ 30) = true := by simp; omega
          by_cases h31 : ws.length ≤ 30
          · have e31 : decide ((ws.length : Int) ≤ 30) = true := by simp; omega
            have HF2 : Hid (∀ w', Below w.heap.size w w' → FewT26 w ⟨tk, sa, sc', slots, ja, jc, jobs, wa, wc, ws⟩ (.returned (.bool true)) w') := hidp (fun w' h => ⟨⟨true, rfl, fun _ => ⟨h31, h60⟩⟩, h⟩)
            go_wp2_with fail
            go_ret
            exact HF2.out _ hbr
          · have e31 : decide ((ws.length : Int) ≤ 30) = false := by simp; omega
            go_wp2_with fail
            go_ret
            exact HF.out _ hbr
        · have e30 : decide ((jobs.length : Int) ≤ 30) = false := by simp; omega
          go_wp2_with fail
          go_ret
          exact HF.out _ hbr
      · have e60 : decide ((slots.length : Int) ≤ 60) = false := by simp; omega
        go_wp2_with fail
        go_ret
        exact HF.out _ hbr
end Go.Proofs.Ytmchjmgifipfoaa
