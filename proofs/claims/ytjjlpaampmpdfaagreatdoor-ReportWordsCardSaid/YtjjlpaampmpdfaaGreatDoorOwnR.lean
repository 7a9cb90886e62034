/- Rows of rivals of the call's own (three numbers each, as parts have). -/
import Derived.Test.YtjjlpaampmpdfaaGreatDoorOwnP
namespace Go.Proofs.YtjjlpaampmpdfaaGreatDoor
open Go.ChangeShapes Go.WideShapes Go.ChangeAt Go.RowKit
set_option linter.unusedVariables false
theorem infoRiv : (Tryz.prog.info? 127).map (fun i => (i.zero, i.size, i.bytes)) = some (some (.agg #[.int .i64 0, .int .i64 0, .int .i64 0]), 3, 24) := by kernel_rfl
structure OwnR (B : Nat) (w : World) (A : Option Addr) (n c : Nat) (ps : List PartM) : Prop where
  own : w.ownsRow B 127 3 (.slice A n c) n (ptc ps)
  len : n = ps.length
  cap : n ≤ c ∧ c ≤ maxLen
  nil : A = none → n = 0 ∧ c = 0
theorem OwnR.none (B : Nat) (w : World) : OwnR B w none 0 0 [] := ⟨World.ownsRow_nil _ _ _ _, rfl, by decide, fun _ => ⟨rfl, rfl⟩⟩
theorem OwnR.parts {B : Nat} {w : World} {A : Option Addr} {n c : Nat} {ps : List PartM} (h : OwnR B w A n c ps) : PartsAt w A ps := by
  obtain ⟨h1, rfl, _, _⟩ := h
  exact parts_lie (Lies.of_own h1)
theorem OwnR.app {B : Nat} {w w1 w2 : World} {A A' : Option Addr} {n c c' : Nat} {rs ps : List PartM} {m : Nat} (h : OwnR B w A n c rs) (ha : App B 127 3 w1 A A' (n + m) c' (ptc rs ++ ptc ps) w2) (hm : m = ps.length) : OwnR B w2 A' (n + m) c' (rs ++ ps) :=
  ⟨by rw [ptc_append]; exact ha.own, by rw [List.length_append, h.len, hm], ha.cap, ha.nil⟩
theorem OwnR.turned {B : Nat} {F : List Nat} {w w' : World} {A : Option Addr} {n c : Nat} {ps : List PartM} (h : OwnR B w A n c ps) (ht : Turned F w w') (hF : ∀ k ∈ fp A, k ∉ F) : OwnR B w' A n c ps := ⟨own_turned h.own ht hF, h.len, h.cap, h.nil⟩
end Go.Proofs.YtjjlpaampmpdfaaGreatDoor
