/- swingbridgelaw25.fewTrace is true of few slots alone. -/
import Derived.Test.YtmchjmgifipfoaaTraceB
import Derived.BigQuiet
namespace Go.Proofs.Ytmchjmgifipfoaa
open Go.ChangeShapes Go.WideShapes Go.ChangeAt Go.RowKit
set_option linter.unusedVariables false
set_option linter.unusedSimpArgs false
def FewT25 (w : World) (t : TraceR) (e : Ending) (w' : World) : Prop := (∃ b : Bool, e = .returned (.bool b) ∧ (b = true → t.slots.length ≤ 60)) ∧ Below w.heap.size w w'
set_option maxHeartbeats 2000000 in
set_option maxRecDepth 100000 in
theorem fewT25_any (t : TraceR) (w : World) (ht : TraceOk w t) : Calls Try.prog 25 #[.agg #[.int .i64 t.ticks, .slice t.sa t.slots.length t.sc, .slice t.ja t.jobs.length t.jc, .slice t.wa t.waits.length t.wc]] w (FewT25 w t) := by
  have hb := (Below.refl w.heap.size w).alloc (Nat.le_refl _) (.cells #[.int .i64 t.ticks, .slice t.sa t.slots.length t.sc, .slice t.ja t.jobs.length t.jc, .slice t.wa t.waits.length t.wc] 38)
  have tb := TraceBox.new w t 38
  clear ht
  obtain ⟨tk, sa, sc', slots, ja, jc, jobs, wa, wc, ws⟩ := t
  dsimp only at hb tb ⊢
  have F : ∀ w', Below w.heap.size w w' → FewT25 w ⟨tk, sa, sc', slots, ja, jc, jobs, wa, wc, ws⟩ (.returned (.bool false)) w' := fun w' h => ⟨⟨false, rfl, fun e => by cases e⟩, h⟩
  have HF := hidp F
  clear F
  obtain ⟨t0, t1, t2, t3⟩ := tb
  dsimp only at t0 t1 t2 t3
  go_enter Try.func25, Try.ntmps25
  by_cases h60 : slots.length ≤ 60
  · have e60 : decide ((slots.length : Int) ≤ 60) = true := by simp; omega
    by_cases h30 : jobs.length ≤ 30
    · have e30 : decide ((jobs.length : Int) ≤ 30) = true := by simp; omega
      by_cases h31 : ws.length ≤ 30
      · have e31 : decide ((ws.length : Int) ≤ 30) = true := by simp; omega
        have HF2 : Hid (∀ w', Below w.heap.size w w' → FewT25 w ⟨tk, sa, sc', slots, ja, jc, jobs, wa, wc, ws⟩ (.returned (.bool true)) w') := hidp (fun w' h => ⟨⟨true, rfl, fun _ => h60⟩, h⟩)
        go_wp2_with fail
        go_ret
        exact HF2.out _ hb
      · have e31 : decide ((ws.length : Int) ≤ 30) = false := by simp; omega
        go_wp2_with fail
        go_ret
        exact HF.out _ hb
    · have e30 : decide ((jobs.length : Int) ≤ 30) = false := by simp; omega
      go_wp2_with fail
      go_ret
      exact HF.out _ hb
  · have e60 : decide ((slots.length : Int) ≤ 60) = false := by simp; omega
    go_wp2_with fail
    go_ret
    exact HF.out _ hb
end Go.Proofs.Ytmchjmgifipfoaa
