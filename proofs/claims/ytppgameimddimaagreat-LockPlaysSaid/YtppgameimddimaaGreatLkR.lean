/- lock: there, Holds, Boost, Holder, Waiting. -/
import Derived.Test.YtppgameimddimaaGreatLkM
namespace Go.Proofs.YtppgameimddimaaGreat
open Go.ChangeShapes Go.WideShapes Go.ChangeAt Go.RowKit Go.Conc
set_option linter.unusedVariables false
set_option linter.unusedSimpArgs false
def thereB (m : LkM) (t : Int) : Bool := decide (0 ≤ t ∧ t < (m.ask.length : Int))
def holdsB (m : LkM) (t : Int) : Bool := thereB m t && (m.ask.getD t.toNat default).holds
def boostV (m : LkM) (t : Int) : Int := if holdsB m t = true then (if m.proto = 2 then 1 else (m.ask.getD t.toNat default).place) else 0
section
variable {w : World} {b o : Nat} {T : TypeId} {cs : Array Value} {m : LkM}
theorem Lk.ac (h : Lk w b o T cs m) : w.cell? ⟨b, o + 1, none⟩ = some (.slice m.Aa m.ask.length m.ca) := (h.blk.cell _).trans h.c1
theorem lthere_any (h : Lk w b o T cs m) (t : Int) : Calls Tryz.prog 32 #[.pointer (some ⟨b, o, none⟩), .int .i64 t] w fun e w' => e = .returned (.bool (thereB m t)) ∧ w = w' := by
  have c1 := h.ac
  by_cases h0 : 0 ≤ t
  · have h0' : decide (0 ≤ t) = true := decide_eq_true h0
    by_cases h1 : t < (m.ask.length : Int)
    · have H : Hid (thereB m t = true) := hidp (by unfold thereB; simp [h0, h1])
      have h1' : decide (t < (m.ask.length : Int)) = true := decide_eq_true h1
      rw [H.out]
      clear h
      go_enter Tryz.func32, Tryz.ntmps32
      go_wp2
      go_ret
      exact ⟨rfl, rfl⟩
    · have H : Hid (thereB m t = false) := hidp (by unfold thereB; simp [h1])
      have h1' : decide (t < (m.ask.length : Int)) = false := decide_eq_false h1
      rw [H.out]
      clear h
      go_enter Tryz.func32, Tryz.ntmps32
      go_wp2
      go_ret
      exact ⟨rfl, rfl⟩
  · have H : Hid (thereB m t = false) := hidp (by unfold thereB; simp [h0])
    have h0' : decide (0 ≤ t) = false := decide_eq_false h0
    rw [H.out]
    clear h
    go_enter Tryz.func32, Tryz.ntmps32
    go_wp2
    go_ret
    exact ⟨rfl, rfl⟩
theorem lholds_any (h : Lk w b o T cs m) (t : Int) : Calls Tryz.prog 21 #[.pointer (some ⟨b, o, none⟩), .int .i64 t] w fun e w' => e = .returned (.bool (holdsB m t)) ∧ w = w' := by
  have c1 := h.ac
  have ct := lthere_any h t
  by_cases hz : thereB m t = true
  · rw [hz] at ct
    have hz2 : 0 ≤ t ∧ t < (m.ask.length : Int) := by simpa [thereB] using hz
    obtain ⟨n, rfl⟩ : ∃ n : Nat, t = (n : Int) := ⟨t.toNat, by omega⟩
    have hn : n < m.ask.length := by omega
    obtain ⟨g, hg, _, _⟩ := h.askers.at_ (by omega)
    have hk := h.askers
    rw [hg] at hk c1
    have cc := (hk.cells hn).2.2.2.1
    obtain ⟨v, HV⟩ : ∃ v, Hid ((m.ask.getD n default).holds = v) := ⟨_, hidp rfl⟩
    rw [HV.out] at cc
    have H : Hid (holdsB m (n : Int) = v) := hidp (by unfold holdsB; rw [hz]; simpa using HV.out)
    rw [H.out]
    have hd : decide (m.ask.length ≤ n) = false := decide_eq_false (by omega)
    have HN := hidp hn
    clear h hk hz hz2
    go_enter Tryz.func21, Tryz.ntmps21
    go_wp2_with fail
    refine ct.mono ?_
    rintro e w2 ⟨rfl, rfl⟩
    go_wp2_with fail
    go_ret
    exact ⟨rfl, rfl⟩
  · have hz' : thereB m t = false := by simpa using hz
    have H : Hid (holdsB m t = false) := hidp (by unfold holdsB; rw [hz']; rfl)
    rw [hz'] at ct
    rw [H.out]
    clear h hz hz'
    go_enter Tryz.func21, Tryz.ntmps21
    go_wp2_with fail
    refine ct.mono ?_
    rintro e w2 ⟨rfl, rfl⟩
    go_wp2_with fail
    go_ret
    exact ⟨rfl, rfl⟩
theorem lboost_any (h : Lk w b o T cs m) (t : Int) : Calls Tryz.prog 26 #[.pointer (some ⟨b, o, none⟩), .int .i64 t] w fun e w' => e = .returned (.int .i64 (boostV m t)) ∧ w = w' := by
  have c1 := h.ac
  have c0 := (h.blk.cell _).trans h.c0
  have ct := lholds_any h t
  by_cases hz : holdsB m t = true
  · rw [hz] at ct
    have hz1 : thereB m t = true := by unfold holdsB at hz; exact (Bool.and_eq_true _ _ ▸ hz).1
    have hz2 : 0 ≤ t ∧ t < (m.ask.length : Int) := by simpa [thereB] using hz1
    by_cases hp : m.proto = 2
    · have H : Hid (boostV m t = 1) := hidp (by unfold boostV; rw [if_pos hz, if_pos hp])
      rw [H.out]
      rw [hp] at c0
      clear h hz hz1 hz2 hp
      go_enter Tryz.func26, Tryz.ntmps26
      go_wp2_with fail
      refine ct.mono ?_
      rintro e w2 ⟨rfl, rfl⟩
      go_wp2_with fail
      go_ret
      exact ⟨rfl, rfl⟩
    · obtain ⟨n, rfl⟩ : ∃ n : Nat, t = (n : Int) := ⟨t.toNat, by omega⟩
      have hn : n < m.ask.length := by omega
      obtain ⟨g, hg, _, _⟩ := h.askers.at_ (by omega)
      have hk := h.askers
      rw [hg] at hk c1
      have cc := (hk.cells hn).2.2.2.2.2
      obtain ⟨v, HV⟩ : ∃ v, Hid ((m.ask.getD n default).place = v) := ⟨_, hidp rfl⟩
      rw [HV.out] at cc
      have H : Hid (boostV m (n : Int) = v) := hidp (by unfold boostV; rw [if_pos hz, if_neg hp]; simpa using HV.out)
      rw [H.out]
      have hd : decide (m.ask.length ≤ n) = false := decide_eq_false (by omega)
      have hpb : (m.proto == 2) = false := by simpa using hp
      clear h hk hz hz1 hz2 hp
      go_enter Tryz.func26, Tryz.ntmps26
      go_wp2_with fail
      refine ct.mono ?_
      rintro e w2 ⟨rfl, rfl⟩
      go_wp2_with fail
      go_ret
      exact ⟨rfl, rfl⟩
  · have hz' : holdsB m t = false := by simpa using hz
    have H : Hid (boostV m t = 0) := hidp (by unfold boostV; rw [if_neg hz])
    rw [hz'] at ct
    rw [H.out]
    clear h hz hz'
    go_enter Tryz.func26, Tryz.ntmps26
    go_wp2_with fail
    refine ct.mono ?_
    rintro e w2 ⟨rfl, rfl⟩
    go_wp2_with fail
    go_ret
    exact ⟨rfl, rfl⟩
end
end Go.Proofs.YtppgameimddimaaGreat
