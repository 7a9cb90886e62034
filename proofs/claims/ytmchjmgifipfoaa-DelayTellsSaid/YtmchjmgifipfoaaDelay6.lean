/- delay: Wait, Response; what is known of two waits, two slots. -/
import Derived.Test.YtmchjmgifipfoaaDelay5
import Derived.Test.YtmchjmgifipfoaaDelay2
import Derived.Test.YtmchjmgifipfoaaOkMk
namespace Go.Proofs.Ytmchjmgifipfoaa
open Go.ChangeShapes Go.WideShapes Go.ChangeAt Go.RowKit
set_option linter.unusedVariables false
set_option linter.unusedSimpArgs false

theorem dwait_any (x : WaitM) (z : Int) (w : World) (hz : IntKind.i64.wrap (x.fin - x.ask) = z) : Calls Try.prog 19 #[.agg #[.int .i64 x.task, .int .i64 x.part, .int .i64 x.ask, .int .i64 x.got, .int .i64 x.fin]] w fun e w' => e = .returned (.int .i64 z) ∧ Below w.heap.size w w' := by
  have hb := (Below.refl w.heap.size w).alloc (Nat.le_refl _) (.cells #[.int .i64 x.task, .int .i64 x.part, .int .i64 x.ask, .int .i64 x.got, .int .i64 x.fin] 35)
  go_enter Try.func19, Try.ntmps19
  go_wp2_with fail
  go_ret
  exact ⟨rfl, hb⟩
theorem dresp_any (x : DoneM) (z : Int) (w : World) (hz : IntKind.i64.wrap (x.fin - x.rel) = z) : Calls Try.prog 20 #[.agg #[.int .i64 x.task, .int .i64 x.rel, .int .i64 x.fin]] w fun e w' => e = .returned (.int .i64 z) ∧ Below w.heap.size w w' := by
  have hb := (Below.refl w.heap.size w).alloc (Nat.le_refl _) (.cells #[.int .i64 x.task, .int .i64 x.rel, .int .i64 x.fin] 32)
  go_enter Try.func20, Try.ntmps20
  go_wp2_with fail
  go_ret
  exact ⟨rfl, hb⟩

def kS (proto : Int) (ca : Option Addr) (cc : Nat) (ha : Option Addr) (hc : Nat) (ta : Option Addr) (tc : Nat) (a1 : Option Addr) (c1 : Nat) (a2 : Option Addr) (c2 : Nat) : SetR := ⟨proto, ca, cc, [1], ha, hc, [0], ta, tc, [⟨⟨#[97]⟩, 100, 100, 1, 0, a1, c1, [⟨1, 1, 0⟩, ⟨3, 2, 0⟩]⟩, ⟨⟨#[98]⟩, 200, 200, 2, 0, a2, c2, [⟨1, 1, 0⟩, ⟨3, 2, 0⟩]⟩]⟩
def kT (sa wa : Option Addr) : TraceR := ⟨9, sa, 2, [⟨3, 0, 1, false⟩, ⟨4, 0, 1, false⟩], none, 0, [], wa, 2, [⟨1, 1, 1, 2, 5⟩, ⟨0, 1, 3, 5, 8⟩]⟩
theorem k_pass (proto : Int) (ca : Option Addr) (cc : Nat) (ha : Option Addr) (hc : Nat) (ta : Option Addr) (tc : Nat) (a1 : Option Addr) (c1 : Nat) (a2 : Option Addr) (c2 : Nat) : resL (kS proto ca cc ha hc ta tc a1 c1 a2 c2) ⟨0, 1, 3, 5, 8⟩ = true ∧ passN (kS proto ca cc ha hc ta tc a1 c1 a2 c2) ⟨0, 1, 3, 5, 8⟩ [⟨1, 1, 1, 2, 5⟩, ⟨0, 1, 3, 5, 8⟩] = 1 := ⟨rfl, rfl⟩
theorem k_inv (proto : Int) (ca : Option Addr) (cc : Nat) (ha : Option Addr) (hc : Nat) (ta : Option Addr) (tc : Nat) (a1 : Option Addr) (c1 : Nat) (a2 : Option Addr) (c2 : Nat) (sa wa : Option Addr) : (invG (momL (kS proto ca cc ha hc ta tc a1 c1 a2 c2) (kT sa wa) ⟨0, 2, 8⟩)).2 = 2 := rfl
/-- what is known -/
theorem k26_vals {S : SetR} (hS : S.proto = 1 ∧ S.cores = [1] ∧ S.homes = [0] ∧ ∃ (a1 a2 : Option Addr) (c1 c2 : Nat), S.tasks = [⟨⟨#[97]⟩, 100, 100, 1, 0, a1, c1, [⟨1, 1, 0⟩, ⟨3, 2, 0⟩]⟩, ⟨⟨#[98]⟩, 200, 200, 2, 0, a2, c2, [⟨1, 1, 0⟩, ⟨3, 2, 0⟩]⟩]) (sa wa : Option Addr) :
    passV S (kT sa wa) ⟨0, 1, 3, 5, 8⟩ = 1 ∧ invV S (kT sa wa) ⟨0, 2, 8⟩ = 2 := by
  obtain ⟨p1, p2, p3, a1, a2, c1, c2, p4⟩ := hS
  have hok := okTwo p1 p2 p3 p4 (by decide) (by decide) (by decide) (by decide) (by decide)
  obtain ⟨proto, ca, cc, cores, ha, hc, homes, ta, tc, tasks⟩ := S
  dsimp only at p1 p2 p3 p4
  subst p2 p3 p4
  refine ⟨?_, ?_⟩
  · unfold passV
    rw [if_pos ⟨hok, (k_pass proto ca cc ha hc ta tc a1 c1 a2 c2).1⟩]
    exact congrArg Int.ofNat (k_pass proto ca cc ha hc ta tc a1 c1 a2 c2).2
  · unfold invV
    rw [if_pos ⟨hok, by decide, by simp⟩]
    exact congrArg Int.ofNat (k_inv proto ca cc ha hc ta tc a1 c1 a2 c2 sa wa)
theorem k_trace {w : World} {a b : Addr} (h1 : SlotsAt w (some a) [⟨3, 0, 1, false⟩, ⟨4, 0, 1, false⟩]) (h2 : WaitsAt w (some b) [⟨1, 1, 1, 2, 5⟩, ⟨0, 1, 3, 5, 8⟩]) : TraceOk w (kT (some a) (some b)) :=
  ⟨by show I64 9; decide, ⟨(fun e => by cases e), by show 2 ≤ 2; decide, by show 2 ≤ maxLen; decide⟩, h1, (fun x hx => by
    have hx : x ∈ [(⟨3, 0, 1, false⟩ : SlotM), ⟨4, 0, 1, false⟩] := hx
    simp at hx
    rcases hx with rfl | rfl <;> exact ⟨by decide, by decide, by decide⟩), ⟨fun _ => ⟨rfl, rfl⟩, by show 0 ≤ 0; decide, by show 0 ≤ maxLen; decide⟩, .inl rfl, (fun x hx => by cases hx), ⟨(fun e => by cases e), by show 2 ≤ 2; decide, by show 2 ≤ maxLen; decide⟩, h2, (fun x hx => by
    have hx : x ∈ [(⟨1, 1, 1, 2, 5⟩ : WaitM), ⟨0, 1, 3, 5, 8⟩] := hx
    simp at hx
    rcases hx with rfl | rfl <;> exact ⟨by decide, by decide, by decide, by decide, by decide⟩)⟩
end Go.Proofs.Ytmchjmgifipfoaa
