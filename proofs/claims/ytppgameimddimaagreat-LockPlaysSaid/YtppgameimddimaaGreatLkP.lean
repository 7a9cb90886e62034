/- lock: place. -/
import Derived.Test.YtppgameimddimaaGreatLkT
namespace Go.Proofs.YtppgameimddimaaGreat
open Go.ChangeShapes Go.WideShapes Go.ChangeAt Go.RowKit Go.Conc
set_option linter.unusedVariables false
set_option linter.unusedSimpArgs false
/-- a task of which so many places were given gets the next one -/
def placeM (m : LkM) (n : Nat) (A : Option Addr) (c : Nat) : LkM := (({ m with places := m.places + 1 } : LkM).putA n { m.ask.getD n default with place := m.places + 1 }).putR (m.P + 1) (riseL (m.l ++ [⟨m.places + 1, m.P, n⟩]) m.l.length) A c
section
variable {w : World} {b o : Nat} {T : TypeId} {cs : Array Value} {m : LkM}
theorem Lk.fz (h : Lk w b o T cs m) (k : Nat) : w.frozen? ⟨b, k, none⟩ = false := h.blk.frozen k
set_option maxHeartbeats 4000000 in
set_option maxRecDepth 100000 in
theorem lplace_any (h : Lk w b o T cs m) {n : Nat} (hn : n < m.ask.length) (hl : (m.l.length : Int) < m.R) (hR : m.R ≤ 64) (hP : 0 ≤ m.P ∧ m.P < 1000000) (hp : 0 ≤ m.places ∧ m.places < 1000000) :
    Calls Tryz.prog 33 #[.pointer (some ⟨b, o, none⟩), .int .i64 n] w fun e w' => e = .returned (.tuple #[]) ∧ ∃ A c, LkTo w b o T cs m w' (placeM m n A c) := by
  obtain ⟨g, hg, _, hgs⟩ := h.askers.at_ (by omega)
  obtain ⟨cs1, h1, f1⟩ := h.toP (m.places + 1)
  have h1' := h1.over (Below.refl _ _).drew
  have hwf := h.wf (m.ask.getD n default) (by simp [List.getD, hn])
  have hpw : I64 (m.places + 1) := by unfold I64; omega
  have T2 := h1'.toA (g := g) (i := n) (f := 5) hg hn (by decide) (v := .int .i64 (m.places + 1)) (x := { m.ask.getD n default with place := m.places + 1 }) rfl ⟨hwf.1, hwf.2.1, hwf.2.2.1, hpw⟩
  obtain ⟨cs2, h2, f2⟩ := T2
  have h2' := h2.over (Below.refl _ _).drew
  have c7 := (h.blk.cell _).trans h.c7
  have fz := h.fz (o + 7)
  have d1 : ((w.setCell ⟨b, o + 7, none⟩ (.int .i64 (m.places + 1))).drew).cell? ⟨b, o + 1, none⟩ = some (.slice (some ⟨g, 0, none⟩) m.ask.length m.ca) := hg ▸ (h1'.blk.cell _).trans h1'.c1
  have d7 : ((w.setCell ⟨b, o + 7, none⟩ (.int .i64 (m.places + 1))).drew).cell? ⟨b, o + 7, none⟩ = some (.int .i64 (m.places + 1)) := (h1'.blk.cell _).trans h1'.c7
  have d1n : (w.setCell ⟨b, o + 7, none⟩ (.int .i64 (m.places + 1))).cell? ⟨b, o + 1, none⟩ = some (.slice (some ⟨g, 0, none⟩) m.ask.length m.ca) := d1
  have d7n : (w.setCell ⟨b, o + 7, none⟩ (.int .i64 (m.places + 1))).cell? ⟨b, o + 7, none⟩ = some (.int .i64 (m.places + 1)) := d7
  have hd : decide (m.ask.length ≤ n) = false := decide_eq_false (by omega)
  have e5 : ((w.setCell ⟨b, o + 7, none⟩ (.int .i64 (m.places + 1))).drew).frozen? ⟨g, n * 6 + 5, none⟩ = false := by
    have hk := h1'.askers
    rw [hg] at hk
    exact ownE_frozen hk.own _
  have hk5 : ∃ v, ((w.setCell ⟨b, o + 7, none⟩ (.int .i64 (m.places + 1))).drew).cell? ⟨g, n * 6 + 5, none⟩ = some v := by
    have hk := h1'.askers
    rw [hg] at hk
    exact ⟨_, (hk.cells hn).2.2.2.2.2⟩
  obtain ⟨v5, x5⟩ := hk5
  have H := hidp h
  have H2 := hidp h2'
  have F1 := hidp f1
  have F2 := hidp f2
  have HL := hidp hl
  have HR := hidp hR
  have HP := hidp hP
  have hp0 := hp.1
  have hp1 := hp.2
  have Hg := hidp hg
  have wp1 : IntKind.i64.wrap (m.places + 1) = m.places + 1 := IntWalk.i64_in _ (by omega)
  clear h h1 h1' h2 h2' f1 f2 hwf hpw hl hR hP hp hg hgs
  go_enter Tryz.func33, Tryz.ntmps33
  go_wp2_with fail
  obtain ⟨W1, hW⟩ : ∃ v, w.setCell ⟨b, o + 7, none⟩ (.int .i64 (m.places + 1)) = v := ⟨_, rfl⟩
  rw [hW] at d1 d7 d1n d7n x5 e5 H2 F1 F2 ⊢
  clear hW
  go_still_tail 11, (by kernel_rfl)
  change wpList _ _ _ _ _ W1.drew
  have d7' : (W1.drew.setCell ⟨g, n * 6 + 5, none⟩ (.int .i64 (m.places + 1))).drew.cell? ⟨b, o + 7, none⟩ = some (.int .i64 (m.places + 1)) := (H2.out.blk.cell _).trans H2.out.c7
  have RP := rput_any (k := m.places + 1) (i := (n : Int)) H2.out.row HL.out HR.out HP.out
  go_wp2_with fail
  go_region_held3 (fun w' => w'.cell? ⟨b, o + 7, none⟩ = some (.int .i64 (m.places + 1))) (first | exact d7' | exact hs)
    ((go_at_call 34; refine RP.mono ?_; rintro e u ⟨rfl, A', c', hr, ht, hf⟩; have hL := hidp (H2.out.toR hr ht hf); have hs : u.cell? ⟨b, o + 7, none⟩ = some (.int .i64 (m.places + 1)) := by obtain ⟨c9, l9, _⟩ := hL.out; exact (l9.blk.cell _).trans l9.c7))
  go_wp2_with fail
  refine ⟨rfl, _, results_none rfl _ _ _, ?_⟩
  obtain ⟨cs3, l3, f3⟩ := hL.out
  exact ⟨rfl, A', c', cs3, l3, (F1.out.trans (FrL.below (Below.refl _ _).drew)).trans ((F2.out.trans (FrL.below (Below.refl _ _).drew)).trans f3)⟩
end
end Go.Proofs.YtppgameimddimaaGreat
