/- Rows of slots of the call's own. -/
import Derived.Test.YtmchjmgifipfoaaOwnT
import Derived.Test.YtmchjmgifipfoaaTraceM
namespace Go.Proofs.Ytmchjmgifipfoaa
open Go.ChangeShapes Go.WideShapes Go.ChangeAt Go.RowKit
set_option linter.unusedVariables false
theorem infoSlot : (Try.prog.info? 29).map (fun i => (i.zero, i.size, i.bytes)) = some (some (.agg #[.int .i64 0, .int .i64 0, .int .i64 0, .bool false]), 4, 32) := by kernel_rfl
def stc (ps : List SlotM) : List Value := ps.flatMap fun x => [.int .i64 x.time, .int .i64 x.cl, .int .i64 x.task, .bool x.held]
theorem stc_len (ps : List SlotM) : (stc ps).length = ps.length * 4 := by
  induction ps with
  | nil => rfl
  | cons a l ih => unfold stc at ih ⊢; rw [List.flatMap_cons, List.length_append, ih]; simp; omega
theorem stc_append (a b : List SlotM) : stc (a ++ b) = stc a ++ stc b := by simp [stc]
theorem stc_one (ps : List SlotM) : ∀ u ∈ stc ps, u.oneCell' = true := fun u hu => by
  obtain ⟨p, _, hp⟩ := List.mem_flatMap.1 hu
  simp at hp
  rcases hp with rfl | rfl | rfl | rfl <;> rfl
theorem stc_drop (ps : List SlotM) (k : Nat) : (stc ps).drop (k * 4) = stc (ps.drop k) := by
  induction k generalizing ps with
  | zero => simp
  | succ k ih =>
    cases ps with
    | nil => simp [stc]
    | cons p ps =>
      rw [show (k + 1) * 4 = k * 4 + 1 + 1 + 1 + 1 by omega]
      simp only [stc, List.flatMap_cons, List.cons_append, List.nil_append, List.drop_succ_cons]
      exact ih ps
theorem stc_at (ps : List SlotM) (k : Nat) (hk : k < ps.length) : (stc ps)[k * 4]? = some (.int .i64 (ps.getD k default).time) ∧ (stc ps)[k * 4 + 1]? = some (.int .i64 (ps.getD k default).cl) ∧ (stc ps)[k * 4 + 2]? = some (.int .i64 (ps.getD k default).task) ∧ (stc ps)[k * 4 + 3]? = some (.bool (ps.getD k default).held) := by
  have h := stc_drop ps k
  rw [List.drop_eq_getElem_cons hk] at h
  have h0 := congrArg (fun l => l[0]?) h
  have h1 := congrArg (fun l => l[1]?) h
  have h2 := congrArg (fun l => l[2]?) h
  have h3 := congrArg (fun l => l[3]?) h
  simp only [List.getElem?_drop, Nat.add_zero] at h0 h1 h2 h3
  have hg : ps.getD k default = ps[k] := by simp [List.getD, hk]
  rw [hg, h0, h1, h2, h3]
  exact ⟨rfl, rfl, rfl, rfl⟩
theorem slots_lie {B : Nat} {w : World} {A : Option Addr} {ps : List SlotM} (h : Lies B w A (stc ps)) : SlotsAt w A ps := by
  rcases h with h | ⟨b, off, rfl, _, hc⟩
  · left
    have := congrArg List.length h
    rw [stc_len] at this
    exact List.eq_nil_of_length_eq_zero (by simp at this; omega)
  · refine .inr ⟨b, off, rfl, fun i hi => ?_⟩
    obtain ⟨a0, a1, a2, a3⟩ := stc_at ps i hi
    exact ⟨hc _ _ a0, by have := hc _ _ a1; rwa [← Nat.add_assoc] at this, by have := hc _ _ a2; rwa [← Nat.add_assoc] at this, by have := hc _ _ a3; rwa [← Nat.add_assoc] at this⟩
structure OwnS (B : Nat) (w : World) (A : Option Addr) (n c : Nat) (ps : List SlotM) : Prop where
  own : w.ownsRow B 29 4 (.slice A n c) n (stc ps)
  len : n = ps.length
  cap : n ≤ c ∧ c ≤ maxLen
  nil : A = none → n = 0 ∧ c = 0
theorem OwnS.none (B : Nat) (w : World) : OwnS B w none 0 0 [] := ⟨World.ownsRow_nil _ _ _ _, rfl, by decide, fun _ => ⟨rfl, rfl⟩⟩
theorem OwnS.slots {B : Nat} {w : World} {A : Option Addr} {n c : Nat} {ps : List SlotM} (h : OwnS B w A n c ps) : SlotsAt w A ps := by
  obtain ⟨h1, rfl, _, _⟩ := h
  exact slots_lie (Lies.of_own h1)
theorem OwnS.app {B : Nat} {w w1 w2 : World} {A A' : Option Addr} {n c c' : Nat} {rs ps : List SlotM} {m : Nat} (h : OwnS B w A n c rs) (ha : App B 29 4 w1 A A' (n + m) c' (stc rs ++ stc ps) w2) (hm : m = ps.length) : OwnS B w2 A' (n + m) c' (rs ++ ps) :=
  ⟨by rw [stc_append]; exact ha.own, by rw [List.length_append, h.len, hm], ha.cap, ha.nil⟩
theorem OwnS.turned {B : Nat} {F : List Nat} {w w' : World} {A : Option Addr} {n c : Nat} {ps : List SlotM} (h : OwnS B w A n c ps) (ht : Turned F w w') (hF : ∀ k ∈ fp A, k ∉ F) : OwnS B w' A n c ps := ⟨own_turned h.own ht hF, h.len, h.cap, h.nil⟩
theorem OwnS.sl {B : Nat} {w : World} {A : Option Addr} {n c : Nat} {ps : List SlotM} (h : OwnS B w A n c ps) : SlOk A ps.length c := ⟨fun e => by have := h.nil e; rw [h.len] at this; exact this, by rw [← h.len]; exact h.cap⟩
end Go.Proofs.Ytmchjmgifipfoaa
