/- What is known of legal's small traces. Plain numbers. -/
import Derived.Test.YtmchjmgifipfoaaLegNums
import Derived.Test.YtmchjmgifipfoaaOkMk
import Derived.Test.YtmchjmgifipfoaaLegal7
import Derived.Test.YtmchjmgifipfoaaLegal8
namespace Go.Proofs.Ytmchjmgifipfoaa
open Go.ChangeShapes Go.WideShapes Go.ChangeAt Go.RowKit
set_option linter.unusedVariables false
def k25S (ca : Option Addr) (cc : Nat) (ha : Option Addr) (hc : Nat) (ta : Option Addr) (tc : Nat) (a : Option Addr) (c : Nat) : SetR := ⟨1, ca, cc, [1], ha, hc, [0], ta, tc, [⟨⟨#[97]⟩, 100, 100, 1, 0, a, c, [⟨3, 2, 0⟩]⟩]⟩
def k25T (tk : Int) (sa ja wa : Option Addr) : TraceR := ⟨tk, sa, 2, [⟨1, 0, 0, true⟩, ⟨2, 0, 0, true⟩], ja, 1, [⟨0, 1, 3⟩], wa, 1, [⟨0, 0, 1, 1, 3⟩]⟩
def noT : TraceR := ⟨0, none, 0, [], none, 0, [], none, 0, []⟩
def noS : SetR := ⟨0, none, 0, [], none, 0, [], none, 0, []⟩
section
variable (ca : Option Addr) (cc : Nat) (ha : Option Addr) (hc : Nat) (ta : Option Addr) (tc : Nat) (a : Option Addr) (c : Nat) (sa ja wa : Option Addr)
theorem k25_ok : okS (k25S ca cc ha hc ta tc a c) = true := by
  refine okS_mk (by show inB 1 1 3 = true; decide) (by show inB 1 1 3 = true; decide) (by show allB [1] 1 3 = true; decide) (by show 1 ≤ 4; decide) (by show allB [0] 0 (((1 : Nat) : Int) - 1) = true; decide) (by show 1 ≤ 1; decide) (by show 1 ≤ 6; decide) (fun k hk => ?_)
  have hk : k < 1 := hk
  match k, hk with
  | 0, _ =>
    refine ⟨?_, (by show inB 0 0 0 = true; decide), (by simp [takenB]), (by show partsB [⟨3, 2, 0⟩] 1 = true; decide)⟩
    show formB ⟨⟨#[97]⟩, 100, 100, 1, 0, a, c, [⟨3, 2, 0⟩]⟩ = true
    simp only [formB, nameA]
    decide
theorem k25_1 : checkB (k25S ca cc ha hc ta tc a c) (k25T 5 sa ja wa) = true := by
  unfold checkB
  rw [k25_ok]
  have h1 : slotsB (k25S ca cc ha hc ta tc a c) (k25T 5 sa ja wa) = true := rfl
  have h2 : jobsB (k25S ca cc ha hc ta tc a c) (k25T 5 sa ja wa) = true := rfl
  have h3 : waitsB (k25S ca cc ha hc ta tc a c) (k25T 5 sa ja wa) = true := rfl
  rw [h1, h2, h3]
  rfl
theorem k25_2 : checkB (k25S ca cc ha hc ta tc a c) (k25T 2 sa ja wa) = false := by
  unfold checkB
  have h1 : slotsB (k25S ca cc ha hc ta tc a c) (k25T 2 sa ja wa) = false := rfl
  rw [h1]
  simp
theorem k25_3 : checkB (k25S ca cc ha hc ta tc a c) noT = true := by
  unfold checkB
  rw [k25_ok]
  rfl
theorem k25_4 : checkB noS noT = false := rfl
theorem k25_5 : holdI (k25S ca cc ha hc ta tc a c) (k25T 5 sa ja wa) 2 0 = 0 ∧ holdK (k25S ca cc ha hc ta tc a c) (k25T 5 sa ja wa) 2 0 = true := by
  have h : holdF (k25S ca cc ha hc ta tc a c) (k25T 5 sa ja wa) 2 0 = some ⟨0, 0, 1, 1, 3⟩ := by
    unfold holdF
    rw [if_pos (k25_ok ca cc ha hc ta tc a c)]
    rfl
  unfold holdI holdK
  rw [h]
  exact ⟨rfl, rfl⟩
theorem k25_6 : holdI (k25S ca cc ha hc ta tc a c) (k25T 5 sa ja wa) 3 0 = 0 ∧ holdK (k25S ca cc ha hc ta tc a c) (k25T 5 sa ja wa) 3 0 = false := by
  have h : holdF (k25S ca cc ha hc ta tc a c) (k25T 5 sa ja wa) 3 0 = none := by
    unfold holdF
    rw [if_pos (k25_ok ca cc ha hc ta tc a c)]
    rfl
  unfold holdI holdK
  rw [h]
  exact ⟨rfl, rfl⟩
theorem k25_7 : busyL 2 0 (k25T 5 sa ja wa).slots = [0] := rfl
end
theorem noS_ok (w : World) : SetOk w noS := ⟨by show I64 0; decide, ⟨⟨fun _ => ⟨rfl, rfl⟩, by show 0 ≤ 0; decide, by show 0 ≤ maxLen; decide⟩, .inl rfl, (fun x hx => by cases hx)⟩, ⟨⟨fun _ => ⟨rfl, rfl⟩, by show 0 ≤ 0; decide, by show 0 ≤ maxLen; decide⟩, .inl rfl, (fun x hx => by cases hx)⟩, ⟨⟨fun _ => ⟨rfl, rfl⟩, by show 0 ≤ 0; decide, by show 0 ≤ maxLen; decide⟩, .inl rfl, (fun x hx => by cases hx)⟩⟩
theorem noT_ok (w : World) : TraceOk w noT := ⟨by show I64 0; decide, ⟨fun _ => ⟨rfl, rfl⟩, by show 0 ≤ 0; decide, by show 0 ≤ maxLen; decide⟩, .inl rfl, (fun x hx => by cases hx), ⟨fun _ => ⟨rfl, rfl⟩, by show 0 ≤ 0; decide, by show 0 ≤ maxLen; decide⟩, .inl rfl, (fun x hx => by cases hx), ⟨fun _ => ⟨rfl, rfl⟩, by show 0 ≤ 0; decide, by show 0 ≤ maxLen; decide⟩, .inl rfl, (fun x hx => by cases hx)⟩
theorem k25T_ok {w : World} {tk : Int} {sa ja wa : Addr} (hk : I64 tk) (hs : SlotsAt w (some sa) [⟨1, 0, 0, true⟩, ⟨2, 0, 0, true⟩]) (hj : DonesAt w (some ja) [⟨0, 1, 3⟩]) (hw : WaitsAt w (some wa) [⟨0, 0, 1, 1, 3⟩]) : TraceOk w (k25T tk (some sa) (some ja) (some wa)) :=
  ⟨hk, ⟨(fun e => by cases e), by show 2 ≤ 2; decide, by show 2 ≤ maxLen; decide⟩, hs, (fun x hx => by
    have hx : x ∈ [_, _] := hx
    simp at hx
    rcases hx with rfl | rfl <;> exact ⟨by decide, by decide, by decide⟩), ⟨(fun e => by cases e), by show 1 ≤ 1; decide, by show 1 ≤ maxLen; decide⟩, hj, (fun x hx => by
    have hx : x ∈ [_] := hx
    simp at hx
    subst hx; exact ⟨by decide, by decide, by decide⟩), ⟨(fun e => by cases e), by show 1 ≤ 1; decide, by show 1 ≤ maxLen; decide⟩, hw, (fun x hx => by
    have hx : x ∈ [_] := hx
    simp at hx
    subst hx; exact ⟨by decide, by decide, by decide, by decide, by decide⟩)⟩
end Go.Proofs.Ytmchjmgifipfoaa
