/- lock: Leave (printed by tools/lock/leave.py). -/
import Derived.Test.YtppgameimddimaaGreatLkA
namespace Go.Proofs.YtppgameimddimaaGreat
open Go.ChangeShapes Go.WideShapes Go.ChangeAt Go.RowKit Go.Conc
set_option linter.unusedVariables false
set_option linter.unusedSimpArgs false
section
variable {w : World} {b o : Nat} {T : TypeId} {cs : Array Value} {m : LkM}
theorem lleave_none (h : Lk w b o T cs m) {t : Int} (ht : thereB m t = false ∨ (m.ask.getD t.toNat default).asked = false) : Calls Tryz.prog 17 #[.pointer (some ⟨b, o, none⟩), .int .i64 t] w fun e w' => e = .returned (.int .i64 13) ∧ w = w' := by
  have ct := lthere_any h t
  by_cases hz : thereB m t = true
  · have ha := ht.resolve_left (by rw [hz]; decide)
    have hz2 : 0 ≤ t ∧ t < (m.ask.length : Int) := by simpa [thereB] using hz
    obtain ⟨n, rfl⟩ : ∃ n : Nat, t = (n : Int) := ⟨t.toNat, by omega⟩
    have hn : n < m.ask.length := by omega
    have c1 := h.ac
    obtain ⟨g, hg, _, hgs⟩ := h.askers.at_ (by omega)
    have hk := h.askers
    rw [hg] at hk c1
    have cc := (hk.cells hn).2.2.1
    rw [show (m.ask.getD n default).asked = false by simpa using ha] at cc
    rw [hz] at ct
    have hd : decide (m.ask.length ≤ n) = false := decide_eq_false (by omega)
    clear h hk ha hz hz2 ht hg hgs
    go_enter Tryz.func17, Tryz.ntmps17
    go_wp2_with fail
    refine ct.mono ?_
    rintro e w2 ⟨rfl, rfl⟩
    go_wp2_with fail
    go_ret
    exact ⟨rfl, rfl⟩
  · have hz' : thereB m t = false := by simpa using hz
    rw [hz'] at ct
    clear h hz hz' ht
    go_enter Tryz.func17, Tryz.ntmps17
    go_wp2_with fail
    refine ct.mono ?_
    rintro e w2 ⟨rfl, rfl⟩
    go_wp2_with fail
    go_ret
    exact ⟨rfl, rfl⟩
/-- an asker is written anew -/
def put6a (w : World) (g i : Nat) (x : AskM) : World := (((((w.setCell ⟨g, i * 6, none⟩ (.int .i64 x.prio)).setCell ⟨g, i * 6 + 1, none⟩ (.int .i64 x.cluster)).setCell ⟨g, i * 6 + 2, none⟩ (.bool x.asked)).setCell ⟨g, i * 6 + 3, none⟩ (.bool x.holds)).setCell ⟨g, i * 6 + 4, none⟩ (.int .i64 x.res)).setCell ⟨g, i * 6 + 5, none⟩ (.int .i64 x.place)
theorem putA_at (m : LkM) {n : Nat} (hn : n < m.ask.length) (x : AskM) : (m.putA n x).ask.getD n default = x := by
  show (m.ask.set n x).getD n default = x
  simp [List.getD, hn]
theorem putA_len (m : LkM) (n : Nat) (x : AskM) : (m.putA n x).ask.length = m.ask.length := by
  show (m.ask.set n x).length = _
  rw [List.length_set]
theorem Lk.put6 (h : Lk w b o T cs m) {g n : Nat} (hg : m.Aa = some ⟨g, 0, none⟩) (hn : n < m.ask.length) {x : AskM} (hx : x.wf) : LkTo w b o T cs m (put6a w g n x) (m.putA n x) := by
  have hwf := h.wf (m.ask.getD n default) (by simp [List.getD, hn])
  obtain ⟨p, c, ak, ho, re, pl⟩ := x
  obtain ⟨hx1, hx2, hx3, hx4⟩ := hx
  obtain ⟨wf1, wf2, wf3, wf4⟩ := hwf
  dsimp only at hx1 hx2 hx3 hx4
  generalize hA : m.ask.getD n default = A at wf1 wf2 wf3 wf4
  obtain ⟨p0, c0, ak0, ho0, re0, pl0⟩ := A
  dsimp only at wf1 wf2 wf3 wf4
  obtain ⟨h1, t1⟩ := h.putA (f := 0) hg hn (by decide) (v := .int .i64 p) (x := ⟨p, c0, ak0, ho0, re0, pl0⟩) (by rw [hA]; rfl) ⟨hx1, wf2, wf3, wf4⟩
  obtain ⟨h2, t2⟩ := h1.putA (i := n) (f := 1) hg (by rw [putA_len]; exact hn) (by decide) (v := .int .i64 c) (x := ⟨p, c, ak0, ho0, re0, pl0⟩) (by rw [putA_at _ hn]; rfl) ⟨hx1, hx2, wf3, wf4⟩
  rw [putA_putA] at h2
  obtain ⟨h3, t3⟩ := h2.putA (i := n) (f := 2) hg (by rw [putA_len]; exact hn) (by decide) (v := .bool ak) (x := ⟨p, c, ak, ho0, re0, pl0⟩) (by rw [putA_at _ hn]; rfl) ⟨hx1, hx2, wf3, wf4⟩
  rw [putA_putA] at h3
  obtain ⟨h4, t4⟩ := h3.putA (i := n) (f := 3) hg (by rw [putA_len]; exact hn) (by decide) (v := .bool ho) (x := ⟨p, c, ak, ho, re0, pl0⟩) (by rw [putA_at _ hn]; rfl) ⟨hx1, hx2, wf3, wf4⟩
  rw [putA_putA] at h4
  obtain ⟨h5, t5⟩ := h4.putA (i := n) (f := 4) hg (by rw [putA_len]; exact hn) (by decide) (v := .int .i64 re) (x := ⟨p, c, ak, ho, re, pl0⟩) (by rw [putA_at _ hn]; rfl) ⟨hx1, hx2, hx3, wf4⟩
  rw [putA_putA] at h5
  obtain ⟨h6, t6⟩ := h5.putA (i := n) (f := 5) hg (by rw [putA_len]; exact hn) (by decide) (v := .int .i64 pl) (x := ⟨p, c, ak, ho, re, pl⟩) (by rw [putA_at _ hn]; rfl) ⟨hx1, hx2, hx3, hx4⟩
  rw [putA_putA] at h6
  have tt : Turned [g] w (put6a w g n ⟨p, c, ak, ho, re, pl⟩) := (t1.trans (t2.trans (t3.trans (t4.trans (t5.trans t6 (fun i hi => .inl hi)) (fun i hi => .inl hi)) (fun i hi => .inl hi)) (fun i hi => .inl hi)) (fun i hi => .inl hi))
  exact ⟨cs, h6, rfl, fun _ _ => rfl, tt.mono (fun k hk => .inl (by simp at hk; subst hk; exact List.mem_cons_of_mem _ (mem_fpm.2 (.inl (by rw [hg]; simp [fp]))))), fun k hk => .inl hk⟩
/-- the locks when a task has gone: of its key (free: it held), the row, its door, what it asked for -/
def goneM (m : LkM) (n k : Nat) (F : List Nat) : LkM := ((m.putR m.P (dropL m.l n) m.Ar m.cr).putD k (leaveD (m.ds.getD k default) n) F).putA n ⟨(m.ask.getD n default).prio, (m.ask.getD n default).cluster, false, false, 0, 0⟩
theorem Lk.dcells {v : World} {cs : Array Value} {m : LkM} (h : Lk v b o T cs m) {k : Nat} (hk : k < m.ds.length) : ∃ gd, m.Ad = some ⟨gd, 0, none⟩ ∧ m.lab gd = 4 ∧ v.cell? ⟨gd, k * 3, none⟩ = some (.int .i64 (m.ds.getD k default).cores) ∧ v.cell? ⟨gd, k * 3 + 1, none⟩ = some (.pointer (some ⟨(m.ds.getD k default).gb, 0, none⟩)) ∧ v.cell? ⟨gd, k * 3 + 2, none⟩ = some (.pointer (some ⟨(m.ds.getD k default).lb, 0, none⟩)) := by
  obtain ⟨gd, hgd, _, _⟩ := ownE_at h.doors (by omega)
  refine ⟨gd, hgd, h.ld gd (by rw [hgd]; simp [fp]), ?_⟩
  have hu := h.doors
  rw [hgd] at hu
  rcases Lies.of_own hu with h1 | ⟨b', off, e, _, hcc⟩
  · have := congrArg List.length h1
    rw [drc_len] at this
    simp at this; omega
  · injection e with e
    injection e with e1 e2
    subst e1; subst e2
    have hat := drc_at m.ds k hk
    have q0 := hcc _ _ (hat 0 _ rfl)
    have q1 := hcc _ _ (hat 1 _ rfl)
    have q2 := hcc _ _ (hat 2 _ rfl)
    exact ⟨by simpa using q0, by simpa using q1, by simpa using q2⟩
set_option maxHeartbeats 2000000 in
set_option maxRecDepth 100000 in
theorem lleave_waits (h : Lk w b o T cs m) {n k : Nat} (hn : n < m.ask.length) (ha : (m.ask.getD n default).asked = true) (hh : (m.ask.getD n default).holds = false) (hc : (m.ask.getD n default).cluster = (k : Int)) (hk0 : k < m.ds.length) (hl : m.l.length ≤ 64) (hni : I64 (n : Int)) :
    Calls Tryz.prog 17 #[.pointer (some ⟨b, o, none⟩), .int .i64 n] w fun e w' => e = .returned (.int .i64 0) ∧ ∃ F, LkTo w b o T cs m w' (goneM m n k F) := by
  have ct := lthere_any h n
  rw [there_nat hn] at ct
  have c1 := h.ac
  obtain ⟨g, hg, _, hgs⟩ := h.askers.at_ (by omega)
  have hk := h.askers
  rw [hg] at hk c1
  have cc := (hk.cells hn).2.2.1
  have ch := (hk.cells hn).2.2.2.1
  rw [ha] at cc
  rw [hh] at ch
  have hd : decide (m.ask.length ≤ n) = false := decide_eq_false (by omega)
  obtain ⟨gd, hgd, _⟩ := h.dcells hk0
  have Hgd := hidp hgd
  have Hg := hidp hg
  have Hn := hidp hn
  have Hk := hidp hk0
  have Hc := hidp hc
  have Hl64 := hidp hl
  have Hni := hidp hni
  have hdk : decide (m.ds.length ≤ k) = false := decide_eq_false (by omega)
  obtain ⟨d, HD⟩ : ∃ d, Hid (m.ds.getD k default = d) := ⟨_, hidp rfl⟩
  have HL := hidp h
  have HDb : Hid ((m.putR m.P (dropL m.l n) m.Ar m.cr).ds.getD k default = d) := HD
  have FV : Hid (FrL w b o 8 T cs (fpm m) w cs (fpm m)) := hidp (FrL.refl _ _ _ _ _ _ _)
  clear h hk ha hh hg hgs hc hl hni hgd
  go_enter Tryz.func17, Tryz.ntmps17
  go_wp2_with fail
  refine ct.mono ?_
  rintro e w2 ⟨rfl, rfl⟩
  -- from here on: the row, the door, the asker
  go_wp2_with fail
  refine (drop_any (id := (n : Int)) HL.out.row Hl64.out).mono ?_
  rintro e v2 ⟨rfl, hr2, ht2⟩
  obtain ⟨cs2, L2, F2⟩ := HL.out.toR hr2 ht2 (fun k hk => .inl hk)
  have L2d := hidp (L2.over (Below.refl _ _).drew)
  have HF2 := hidp (F2.trans (FrL.below (Below.refl _ _).drew))
  clear L2 F2 hr2 ht2
  have d3 : v2.drew.cell? ⟨b, o + 3, none⟩ = some (.slice (some ⟨gd, 0, none⟩) m.ds.length m.cd) := by
    have := (L2d.out.blk.cell _).trans L2d.out.c3
    rw [← Hgd.out]; exact this
  have d1 : v2.drew.cell? ⟨g, n * 6 + 1, none⟩ = some (.int .i64 k) := by
    have hk2 := L2d.out.askers
    have hk3 : OwnK 0 v2.drew (some ⟨g, 0, none⟩) m.ask.length m.ca m.ask := Hg.out ▸ hk2
    have := (hk3.cells Hn.out).2.1
    rw [Hc.out] at this; exact this
  obtain ⟨gd2, hgd2, hlab, e0, e1, e2⟩ := L2d.out.dcells (k := k) Hk.out
  have egd : gd2 = gd := by
    have h1 : m.Ad = some ⟨gd2, 0, none⟩ := hgd2
    rw [Hgd.out] at h1
    injection h1 with h1; injection h1 with h1; exact h1.symm
  subst egd
  have DA := dleave_any (id := (n : Int)) (L2d.out.drs k Hk.out) Hni.out
  have DA : Calls Tryz.prog 43 #[DrM.val d, .int .i64 n] v2.drew (DrPost v2.drew (m.Fd k) (leaveD d n) (.returned (.tuple #[]))) := HD.out ▸ DA
  unfold DrM.val at DA
  have e0 : v2.drew.cell? ⟨gd2, k * 3, none⟩ = some (.int .i64 d.cores) := HD.out ▸ e0
  have e1 : v2.drew.cell? ⟨gd2, k * 3 + 1, none⟩ = some (.pointer (some ⟨d.gb, 0, none⟩)) := HD.out ▸ e1
  have e2 : v2.drew.cell? ⟨gd2, k * 3 + 2, none⟩ = some (.pointer (some ⟨d.lb, 0, none⟩)) := HD.out ▸ e2
  have NB : Hid (b ∉ m.Fd k) := hidp (fun hm => by
    have h1 := L2d.out.lf k Hk.out b hm
    rw [L2d.out.lb] at h1
    omega)
  have NG : Hid (g ∉ m.Fd k) := hidp (fun hm => by
    have h1 := L2d.out.lf k Hk.out g hm
    rw [L2d.out.la g (by show g ∈ fp m.Aa; rw [Hg.out]; simp [fp])] at h1
    omega)
  have ND : Hid (gd2 ∉ m.Fd k) := hidp (fun hm => by
    have h1 := L2d.out.lf k Hk.out gd2 hm
    rw [hlab] at h1
    omega)
  clear hlab hgd2
  go_wp2_with fail
  go_region_held3 (fun w' => w'.cell? ⟨b, o + 3, none⟩ = some (.slice (some ⟨gd2, 0, none⟩) m.ds.length m.cd) ∧ w'.cell? ⟨g, n * 6 + 1, none⟩ = some (.int .i64 k) ∧ w'.cell? ⟨gd2, k * 3, none⟩ = some (.int .i64 d.cores) ∧ w'.cell? ⟨gd2, k * 3 + 1, none⟩ = some (.pointer (some ⟨d.gb, 0, none⟩)) ∧ w'.cell? ⟨gd2, k * 3 + 2, none⟩ = some (.pointer (some ⟨d.lb, 0, none⟩))) (first | exact ⟨d3, d1, e0, e1, e2⟩ | exact hs)
    ((go_at_call 43; refine DA.mono ?_; rintro e u ⟨rfl, F', hd9, ht, hf⟩; have hL := hidp (L2d.out.toD (i := k) Hk.out hd9 (by show (m.ds.getD k default).blk = _; rw [HD.out]; rfl) ht hf); have hs : u.cell? ⟨b, o + 3, none⟩ = some (.slice (some ⟨gd2, 0, none⟩) m.ds.length m.cd) ∧ u.cell? ⟨g, n * 6 + 1, none⟩ = some (.int .i64 k) ∧ u.cell? ⟨gd2, k * 3, none⟩ = some (.int .i64 d.cores) ∧ u.cell? ⟨gd2, k * 3 + 1, none⟩ = some (.pointer (some ⟨d.gb, 0, none⟩)) ∧ u.cell? ⟨gd2, k * 3 + 2, none⟩ = some (.pointer (some ⟨d.lb, 0, none⟩)) := ⟨ht.cell d3 NB.out, ht.cell d1 NG.out, ht.cell e0 ND.out, ht.cell e1 ND.out, ht.cell e2 ND.out⟩; clear ht hf hd9))
  clear hs d3 d1 e0 e1 e2 NB NG ND DA
  obtain ⟨cs3, L3, F3⟩ := hL.out
  have hwf := L3.wf (m.ask.getD n default) (by show m.ask.getD n default ∈ m.ask; simp [List.getD, Hn.out])
  have hk3 : OwnK 0 u (some ⟨g, 0, none⟩) m.ask.length m.ca m.ask := Hg.out ▸ L3.askers
  obtain ⟨x0, x1, x2, x3, x4, x5⟩ := hk3.cells Hn.out
  have fz : ∀ j, u.frozen? ⟨g, j, none⟩ = false := fun j => ownE_frozen hk3.own j
  have f0 := fz (n * 6)
  have f1 := fz (n * 6 + 1)
  have f2 := fz (n * 6 + 2)
  have f3 := fz (n * 6 + 3)
  have f4 := fz (n * 6 + 4)
  have f5 := fz (n * 6 + 5)
  have HF3 := hidp F3
  obtain ⟨a, HAa⟩ : ∃ a, Hid (m.ask.getD n default = a) := ⟨_, hidp rfl⟩
  rw [HAa.out] at x0 x1 x2 x3 x4 x5 hwf
  have z0 : u.drew.cell? ⟨g, n * 6, none⟩ = some (.int .i64 a.prio) := x0
  have z1 : u.drew.cell? ⟨g, n * 6 + 1, none⟩ = some (.int .i64 a.cluster) := x1
  have z2 : u.drew.cell? ⟨g, n * 6 + 2, none⟩ = some (.bool a.asked) := x2
  have z3 : u.drew.cell? ⟨g, n * 6 + 3, none⟩ = some (.bool a.holds) := x3
  have z4 : u.drew.cell? ⟨g, n * 6 + 4, none⟩ = some (.int .i64 a.res) := x4
  have z5 : u.drew.cell? ⟨g, n * 6 + 5, none⟩ = some (.int .i64 a.place) := x5
  have y0 : u.drew.frozen? ⟨g, n * 6, none⟩ = false := f0
  have y1 : u.drew.frozen? ⟨g, n * 6 + 1, none⟩ = false := f1
  have y2 : u.drew.frozen? ⟨g, n * 6 + 2, none⟩ = false := f2
  have y3 : u.drew.frozen? ⟨g, n * 6 + 3, none⟩ = false := f3
  have y4 : u.drew.frozen? ⟨g, n * 6 + 4, none⟩ = false := f4
  have y5 : u.drew.frozen? ⟨g, n * 6 + 5, none⟩ = false := f5
  have L4 := hidp (L3.put6 (n := n) (x := ⟨a.prio, a.cluster, false, false, 0, 0⟩) Hg.out Hn.out ⟨hwf.1, hwf.2.1, (by show I64 0; unfold I64; omega), (by show I64 0; unfold I64; omega)⟩)
  clear L3 F3 hk3 fz hwf
  go_wp2_with fail
  go_still_tail 11, (by kernel_rfl)
  change wpList _ _ _ _ _ u.drew
  go_wp2_with fail
  go_ret
  obtain ⟨cs4, l4, g4⟩ := L4.out
  have eg : goneM m n k F' = ((m.putR m.P (dropL m.l n) m.Ar m.cr).putD k (leaveD d n) F').putA n ⟨a.prio, a.cluster, false, false, 0, 0⟩ := by
    unfold goneM
    rw [show m.ds.getD k default = d from HD.out, show m.ask.getD n default = a from HAa.out]
  unfold put6a at l4 g4
  dsimp only at l4 g4
  have l5 := l4.over (Below.refl _ _).drew
  have G := FV.out.trans (HF2.out.trans (HF3.out.trans (g4.trans (FrL.below (Below.refl _ _).drew))))
  refine ⟨rfl, F', ?_⟩
  rw [eg]
  exact ⟨cs4, l5, G⟩
end
end Go.Proofs.YtppgameimddimaaGreat
