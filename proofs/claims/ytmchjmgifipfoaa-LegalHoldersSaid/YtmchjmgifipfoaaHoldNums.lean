/- LegalHolders: the set, the waits, and what comes of them. Plain numbers. -/
import Derived.Test.YtmchjmgifipfoaaLegal7
import Derived.Test.YtmchjmgifipfoaaOkMk
namespace Go.Proofs.Ytmchjmgifipfoaa
open Go.ChangeShapes Go.WideShapes Go.ChangeAt Go.RowKit
set_option linter.unusedVariables false
def hS (ca : Option Addr) (cc : Nat) (ha : Option Addr) (ta : Option Addr) (tc : Nat) (a1 : Option Addr) (c1 : Nat) (a2 : Option Addr) (c2 : Nat) : SetR := ⟨1, ca, cc, [1], ha, 2, [0, 0], ta, tc, [⟨⟨#[97]⟩, 100, 100, 1, 0, a1, c1, [⟨1, 1, 0⟩, ⟨3, 9, 0⟩]⟩, ⟨⟨#[98]⟩, 200, 200, 2, 0, a2, c2, [⟨1, 1, 0⟩, ⟨3, 9, 0⟩]⟩]⟩
section
variable (ca : Option Addr) (cc : Nat) (ha : Option Addr) (ta : Option Addr) (tc : Nat) (a1 : Option Addr) (c1 : Nat) (a2 : Option Addr) (c2 : Nat)
theorem hs_ok : okS (hS ca cc ha ta tc a1 c1 a2 c2) = true := by
  refine okS_mk (by show inB 1 1 3 = true; decide) (by show inB 1 1 3 = true; decide) (by show allB [1] 1 3 = true; decide) (by show 2 ≤ 4; decide) (by show allB [0, 0] 0 (((1 : Nat) : Int) - 1) = true; decide) (by show 1 ≤ 2; decide) (by show 2 ≤ 6; decide) (fun k hk => ?_)
  have hk : k < 2 := hk
  match k, hk with
  | 0, _ =>
    refine ⟨?_, (by show inB 0 0 0 = true; decide), (by simp [takenB]), (by show partsB [⟨1, 1, 0⟩, ⟨3, 9, 0⟩] 2 = true; decide)⟩
    show formB ⟨⟨#[97]⟩, 100, 100, 1, 0, a1, c1, [⟨1, 1, 0⟩, ⟨3, 9, 0⟩]⟩ = true
    simp only [formB, nameA]
    decide
  | 1, _ =>
    refine ⟨?_, (by show inB 0 0 0 = true; decide), ?_, (by show partsB [⟨1, 1, 0⟩, ⟨3, 9, 0⟩] 2 = true; decide)⟩
    · show formB ⟨⟨#[98]⟩, 200, 200, 2, 0, a2, c2, [⟨1, 1, 0⟩, ⟨3, 9, 0⟩]⟩ = true
      simp only [formB, nameBb]
      decide
    · show takenB [⟨⟨#[97]⟩, 100, 100, 1, 0, a1, c1, [⟨1, 1, 0⟩, ⟨3, 9, 0⟩]⟩] ⟨⟨#[98]⟩, 200, 200, 2, 0, a2, c2, [⟨1, 1, 0⟩, ⟨3, 9, 0⟩]⟩ = false
      simp [takenB, likeB]
def hT (wa : Option Addr) (g f : Int) : TraceR := ⟨100, none, 0, [], none, 0, [], wa, 2, [⟨1, 1, g, g, f⟩, ⟨0, 0, 0, g, f⟩]⟩
theorem hh_yes {g f t r : Int} (wa : Option Addr) (h1 : g ≤ t) (h2 : t < f) (h3 : r = 0) : holdI (hS ca cc ha ta tc a1 c1 a2 c2) (hT wa g f) t r = 1 ∧ holdK (hS ca cc ha ta tc a1 c1 a2 c2) (hT wa g f) t r = true := by
  have h : holdF (hS ca cc ha ta tc a1 c1 a2 c2) (hT wa g f) t r = some ⟨1, 1, g, g, f⟩ := by
    unfold holdF
    rw [if_pos (hs_ok ca cc ha ta tc a1 c1 a2 c2)]
    show [_, _].find? _ = _
    rw [List.find?_cons, holds_yes (s := hS ca cc ha ta tc a1 c1 a2 c2) (x := ⟨1, 1, g, g, f⟩) rfl (h3 ▸ rfl) h1 h2]
  unfold holdI holdK
  rw [h]
  exact ⟨rfl, rfl⟩
theorem hh_no {g f t r : Int} (wa : Option Addr) (h : ¬ (g ≤ t ∧ t < f ∧ r = 0)) : holdI (hS ca cc ha ta tc a1 c1 a2 c2) (hT wa g f) t r = 0 ∧ holdK (hS ca cc ha ta tc a1 c1 a2 c2) (hT wa g f) t r = false := by
  have h : holdF (hS ca cc ha ta tc a1 c1 a2 c2) (hT wa g f) t r = none := by
    unfold holdF
    rw [if_pos (hs_ok ca cc ha ta tc a1 c1 a2 c2)]
    show [_, _].find? _ = _
    have e1 : holdsB (hS ca cc ha ta tc a1 c1 a2 c2) t r ⟨1, 1, g, g, f⟩ = false := by
      by_cases h1 : g ≤ t
      · by_cases h2 : t < f
        · refine holds_no2 (fun e => h ⟨h1, h2, ?_⟩)
          rw [← e]; rfl
        · exact holds_no4 h2
      · exact holds_no3 h1
    have e2 : holdsB (hS ca cc ha ta tc a1 c1 a2 c2) t r ⟨0, 0, 0, g, f⟩ = false := holds_no1 rfl
    rw [List.find?_cons, e1, List.find?_cons, e2]
    rfl
  unfold holdI holdK
  rw [h]
  exact ⟨rfl, rfl⟩
end
theorem ht_ok {w : World} {a : Addr} {g f : Int} (h : WaitsAt w (some a) [⟨1, 1, g, g, f⟩, ⟨0, 0, 0, g, f⟩]) (hg : I64 g) (hf : I64 f) : TraceOk w (hT (some a) g f) :=
  ⟨by show I64 100; decide, ⟨fun _ => ⟨rfl, rfl⟩, by show 0 ≤ 0; decide, by show 0 ≤ maxLen; decide⟩, .inl rfl, (fun x hx => by cases hx), ⟨fun _ => ⟨rfl, rfl⟩, by show 0 ≤ 0; decide, by show 0 ≤ maxLen; decide⟩, .inl rfl, (fun x hx => by cases hx), ⟨(fun e => by cases e), by show 2 ≤ 2; decide, by show 2 ≤ maxLen; decide⟩, h, (fun x hx => by
    have hx : x ∈ [_, _] := hx
    simp at hx
    rcases hx with rfl | rfl
    · exact ⟨by show I64 1; decide, by show I64 1; decide, hg, hg, hf⟩
    · exact ⟨by show I64 0; decide, by show I64 0; decide, by show I64 0; decide, hg, hf⟩)⟩
end Go.Proofs.Ytmchjmgifipfoaa
