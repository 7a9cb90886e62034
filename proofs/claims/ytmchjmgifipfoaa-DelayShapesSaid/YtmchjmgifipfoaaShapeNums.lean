/- DelayShapes: the set, the waits, and what comes of them. Plain numbers. -/
import Derived.Test.YtmchjmgifipfoaaDelay6
import Derived.Test.YtmchjmgifipfoaaOkMk
import Derived.Test.YtmchjmgifipfoaaOk3
namespace Go.Proofs.Ytmchjmgifipfoaa
open Go.ChangeShapes Go.WideShapes Go.ChangeAt Go.RowKit
set_option linter.unusedVariables false

def dS (ca : Option Addr) (cc : Nat) (ha : Option Addr) (ta : Option Addr) (tc : Nat) (a1 : Option Addr) (c1 : Nat) (a2 : Option Addr) (c2 : Nat) : SetR := ⟨1, ca, cc, [1], ha, 2, [0, 0], ta, tc, [⟨⟨#[97]⟩, 100, 100, 1, 0, a1, c1, [⟨1, 1, 0⟩, ⟨3, 9, 0⟩]⟩, ⟨⟨#[98]⟩, 200, 200, 2, 0, a2, c2, [⟨1, 1, 0⟩, ⟨3, 9, 0⟩, ⟨3, 9, 1⟩]⟩]⟩
section
variable (ca : Option Addr) (cc : Nat) (ha : Option Addr) (ta : Option Addr) (tc : Nat) (a1 : Option Addr) (c1 : Nat) (a2 : Option Addr) (c2 : Nat)
theorem ds_ok : okS (dS ca cc ha ta tc a1 c1 a2 c2) = true := by
  refine okS_mk (by show inB 1 1 3 = true; decide) (by show inB 1 1 3 = true; decide) (by show allB [1] 1 3 = true; decide) (by show 2 ≤ 4; decide) (by show allB [0, 0] 0 (((1 : Nat) : Int) - 1) = true; decide) (by show 1 ≤ 2; decide) (by show 2 ≤ 6; decide) (fun k hk => ?_)
  have hk : k < 2 := hk
  match k, hk with
  | 0, _ =>
    refine ⟨?_, (by show inB 0 0 0 = true; decide), (by simp [takenB]), (by show partsB [⟨1, 1, 0⟩, ⟨3, 9, 0⟩] 2 = true; decide)⟩
    show formB ⟨⟨#[97]⟩, 100, 100, 1, 0, a1, c1, [⟨1, 1, 0⟩, ⟨3, 9, 0⟩]⟩ = true
    simp only [formB, nameA]
    decide
  | 1, _ =>
    refine ⟨?_, (by show inB 0 0 0 = true; decide), ?_, (by show partsB [⟨1, 1, 0⟩, ⟨3, 9, 0⟩, ⟨3, 9, 1⟩] 2 = true; decide)⟩
    · show formB ⟨⟨#[98]⟩, 200, 200, 2, 0, a2, c2, [⟨1, 1, 0⟩, ⟨3, 9, 0⟩, ⟨3, 9, 1⟩]⟩ = true
      simp only [formB, nameBb]
      decide
    · show takenB [⟨⟨#[97]⟩, 100, 100, 1, 0, a1, c1, [⟨1, 1, 0⟩, ⟨3, 9, 0⟩]⟩] ⟨⟨#[98]⟩, 200, 200, 2, 0, a2, c2, [⟨1, 1, 0⟩, ⟨3, 9, 0⟩, ⟨3, 9, 1⟩]⟩ = false
      simp [takenB, likeB]
theorem ds_pass (x g f z h : Int) : passN (dS ca cc ha ta tc a1 c1 a2 c2) ⟨0, 1, x, g, f⟩ [⟨1, 1, 0, z, h⟩, ⟨0, 1, x, g, f⟩] = if (x ≤ z ∧ z < g) ∨ (z < x ∧ x < h) then 1 else 0 := by
  have h1 := passB_yes (s := dS ca cc ha ta tc a1 c1 a2 c2) (w := ⟨0, 1, x, g, f⟩) (x := ⟨1, 1, 0, z, h⟩) rfl rfl (by simp)
  have h2 := passB_no3 (s := dS ca cc ha ta tc a1 c1 a2 c2) (w := ⟨0, 1, x, g, f⟩) (x := ⟨0, 1, x, g, f⟩) rfl
  unfold passN
  rw [List.filter_cons, h1, List.filter_cons, h2]
  by_cases hp : (x ≤ z ∧ z < g) ∨ (z < x ∧ x < h)
  · rw [if_pos hp, if_pos (by simpa using hp)]; rfl
  · rw [if_neg hp, if_neg (by simpa using hp)]; rfl
theorem ds_res (x g f z h : Int) : passN (dS ca cc ha ta tc a1 c1 a2 c2) ⟨0, 1, x, g, f⟩ [⟨1, 2, 0, z, h⟩, ⟨0, 1, x, g, f⟩] = 0 := by
  have h1 := passB_no2 (s := dS ca cc ha ta tc a1 c1 a2 c2) (w := ⟨0, 1, x, g, f⟩) (x := ⟨1, 2, 0, z, h⟩) (by show (1 : Int) ≠ 0; decide)
  have h2 := passB_no3 (s := dS ca cc ha ta tc a1 c1 a2 c2) (w := ⟨0, 1, x, g, f⟩) (x := ⟨0, 1, x, g, f⟩) rfl
  unfold passN
  rw [List.filter_cons, h1, List.filter_cons, h2]
  rfl
theorem ds_same (x g f z h : Int) : passN (dS ca cc ha ta tc a1 c1 a2 c2) ⟨0, 1, x, g, f⟩ [⟨0, 1, 0, z, h⟩, ⟨0, 1, x, g, f⟩] = 0 := by
  have h1 := passB_no3 (s := dS ca cc ha ta tc a1 c1 a2 c2) (w := ⟨0, 1, x, g, f⟩) (x := ⟨0, 1, 0, z, h⟩) rfl
  have h2 := passB_no3 (s := dS ca cc ha ta tc a1 c1 a2 c2) (w := ⟨0, 1, x, g, f⟩) (x := ⟨0, 1, x, g, f⟩) rfl
  unfold passN
  rw [List.filter_cons, h1, List.filter_cons, h2]
  rfl
def dT (wa : Option Addr) (y w : WaitM) : TraceR := ⟨200, none, 0, [], none, 0, [], wa, 2, [y, w]⟩
theorem ds_v {y : WaitM} {x g f : Int} {n : Nat} (wa : Option Addr) (h : passN (dS ca cc ha ta tc a1 c1 a2 c2) ⟨0, 1, x, g, f⟩ [y, ⟨0, 1, x, g, f⟩] = n) : passV (dS ca cc ha ta tc a1 c1 a2 c2) (dT wa y ⟨0, 1, x, g, f⟩) ⟨0, 1, x, g, f⟩ = n := by
  unfold passV
  rw [if_pos ⟨ds_ok ca cc ha ta tc a1 c1 a2 c2, rfl⟩]
  exact congrArg Int.ofNat h
end
theorem dt_ok {w : World} {a : Addr} {y z : WaitM} (h : WaitsAt w (some a) [y, z]) (hy : y.wf) (hz : z.wf) : TraceOk w (dT (some a) y z) :=
  ⟨by show I64 200; decide, ⟨fun _ => ⟨rfl, rfl⟩, by show 0 ≤ 0; decide, by show 0 ≤ maxLen; decide⟩, .inl rfl, (fun x hx => by cases hx), ⟨fun _ => ⟨rfl, rfl⟩, by show 0 ≤ 0; decide, by show 0 ≤ maxLen; decide⟩, .inl rfl, (fun x hx => by cases hx), ⟨(fun e => by cases e), by show 2 ≤ 2; decide, by show 2 ≤ maxLen; decide⟩, h, (fun x hx => by
    have hx : x ∈ [y, z] := hx
    simp at hx
    rcases hx with rfl | rfl
    · exact hy
    · exact hz)⟩
theorem fp_ints {w : World} {a : Option Addr} {c : Nat} {z : Int} {zs : List Int} (h : IntsOk w a c (z :: zs)) : ∀ k ∈ fp a, k < w.heap.size := by
  obtain ⟨b, off, e, hc⟩ := h.at_.resolve_left (by simp)
  subst e
  intro k hk
  simp [fp] at hk
  subst hk
  exact cell_lt (hc 0 (by simp))
theorem fp_parts {w : World} {a : Option Addr} {p : PartM} {ps : List PartM} (h : PartsAt w a (p :: ps)) : ∀ k ∈ fp a, k < w.heap.size := by
  obtain ⟨b, off, e, hc⟩ := h.resolve_left (by simp)
  subst e
  intro k hk
  simp [fp] at hk
  subst hk
  exact cell_lt (hc 0 (by simp)).1
end Go.Proofs.Ytmchjmgifipfoaa
