/- lock: Ask. -/
import Derived.Test.YtppgameimddimaaGreatLkP
namespace Go.Proofs.YtppgameimddimaaGreat
open Go.ChangeShapes Go.WideShapes Go.ChangeAt Go.RowKit Go.Conc
set_option linter.unusedVariables false
set_option linter.unusedSimpArgs false
/-- a task has asked for res -/
def askM (m : LkM) (n : Nat) (res : Int) : LkM := m.putA n { m.ask.getD n default with asked := true, res := res }
section
variable {w : World} {b o : Nat} {T : TypeId} {cs : Array Value} {m : LkM}
theorem lask_task (h : Lk w b o T cs m) {t res : Int} (ht : thereB m t = false) : Calls Tryz.prog 12 #[.pointer (some ⟨b, o, none⟩), .int .i64 t, .int .i64 res] w fun e w' => e = .returned (.int .i64 14) ∧ w = w' := by
  have ct := lthere_any h t
  rw [ht] at ct
  clear h ht
  go_enter Tryz.func12, Tryz.ntmps12
  go_wp2_with fail
  refine ct.mono ?_
  rintro e w2 ⟨rfl, rfl⟩
  go_wp2_with fail
  go_ret
  exact ⟨rfl, rfl⟩
theorem lask_place (h : Lk w b o T cs m) {t res : Int} (ht : thereB m t = true) (hr : res < 0 ∨ (m.ks.length : Int) ≤ res) : Calls Tryz.prog 12 #[.pointer (some ⟨b, o, none⟩), .int .i64 t, .int .i64 res] w fun e w' => e = .returned (.int .i64 16) ∧ w = w' := by
  have ct := lthere_any h t
  rw [ht] at ct
  have c2 := (h.blk.cell _).trans h.c2
  by_cases h0 : res < 0
  · have h0' : decide (res < 0) = true := decide_eq_true h0
    clear h ht hr
    go_enter Tryz.func12, Tryz.ntmps12
    go_wp2_with fail
    refine ct.mono ?_
    rintro e w2 ⟨rfl, rfl⟩
    go_wp2_with fail
    go_ret
    exact ⟨rfl, rfl⟩
  · have h1 : (m.ks.length : Int) ≤ res := by omega
    have h0' : decide (res < 0) = false := decide_eq_false h0
    have h1' : decide ((m.ks.length : Int) ≤ res) = true := decide_eq_true h1
    clear h ht hr
    go_enter Tryz.func12, Tryz.ntmps12
    go_wp2_with fail
    refine ct.mono ?_
    rintro e w2 ⟨rfl, rfl⟩
    go_wp2_with fail
    go_ret
    exact ⟨rfl, rfl⟩
theorem there_nat {n : Nat} (h : n < m.ask.length) : thereB m (n : Int) = true := by unfold thereB; simp; omega
theorem lask_twice (h : Lk w b o T cs m) {n : Nat} {res : Int} (hn : n < m.ask.length) (hr : 0 ≤ res ∧ res < (m.ks.length : Int)) (ha : (m.ask.getD n default).asked = true) : Calls Tryz.prog 12 #[.pointer (some ⟨b, o, none⟩), .int .i64 n, .int .i64 res] w fun e w' => e = .returned (.int .i64 17) ∧ w = w' := by
  have ct := lthere_any h n
  rw [there_nat hn] at ct
  have c2 := (h.blk.cell _).trans h.c2
  have c1 := h.ac
  obtain ⟨g, hg, _, hgs⟩ := h.askers.at_ (by omega)
  have hk := h.askers
  rw [hg] at hk c1
  have cc := (hk.cells hn).2.2.1
  rw [ha] at cc
  have h0' : decide (res < 0) = false := decide_eq_false (by omega)
  have h1' : decide ((m.ks.length : Int) ≤ res) = false := decide_eq_false (by omega)
  have hd : decide (m.ask.length ≤ n) = false := decide_eq_false (by omega)
  clear h hk ha hr hg hgs
  go_enter Tryz.func12, Tryz.ntmps12
  go_wp2_with fail
  refine ct.mono ?_
  rintro e w2 ⟨rfl, rfl⟩
  go_wp2_with fail
  go_ret
  exact ⟨rfl, rfl⟩
/-- what stands ahead of the switch by protocol -/
structure Asked (w : World) (b o : Nat) (T : TypeId) (cs : Array Value) (m : LkM) (n : Nat) (res : Int) (g : Nat) : Prop where
  lk : Lk ((w.setCell ⟨g, n * 6 + 2, none⟩ (.bool true)).setCell ⟨g, n * 6 + 4, none⟩ (.int .i64 res)) b o T cs (askM m n res)
  fr : FrL w b o 8 T cs (fpm m) ((w.setCell ⟨g, n * 6 + 2, none⟩ (.bool true)).setCell ⟨g, n * 6 + 4, none⟩ (.int .i64 res)) cs (fpm (askM m n res))
theorem putA_putA (m : LkM) (n : Nat) (x y : AskM) : (m.putA n x).putA n y = m.putA n y := by unfold LkM.putA; simp
theorem asked_of (h : Lk w b o T cs m) {n g : Nat} {res : Int} (hg : m.Aa = some ⟨g, 0, none⟩) (hn : n < m.ask.length) (hr : I64 res) : Asked w b o T cs m n res g := by
  have hwf := h.wf (m.ask.getD n default) (by simp [List.getD, hn])
  obtain ⟨h1, t1⟩ := h.putA (f := 2) hg hn (by decide) (v := .bool true) (x := { m.ask.getD n default with asked := true }) rfl hwf
  have e : (m.putA n { m.ask.getD n default with asked := true }).ask.getD n default = { m.ask.getD n default with asked := true } := by
    show (m.ask.set n _).getD n default = _
    simp [List.getD, hn]
  obtain ⟨h2, t2⟩ := h1.putA (f := 4) (x := { m.ask.getD n default with asked := true, res := res }) hg (by show n < (m.ask.set n _).length; rw [List.length_set]; exact hn) (by decide) (v := .int .i64 res) (by rw [e]; rfl) ⟨hwf.1, hwf.2.1, hr, hwf.2.2.2⟩
  rw [putA_putA] at h2
  exact ⟨h2, rfl, fun _ _ => rfl, (t1.trans t2 (fun i hi => .inl hi)).mono (fun k hk => .inl (by simp at hk; subst hk; exact List.mem_cons_of_mem _ (mem_fpm.2 (.inl (by rw [hg]; simp [fp]))))), fun k hk => .inl hk⟩
theorem askM_at {n : Nat} {res : Int} (hn : n < m.ask.length) : (askM m n res).ask.getD n default = { m.ask.getD n default with asked := true, res := res } := by
  show (m.ask.set n _).getD n default = _
  simp [List.getD, hn]
theorem askM_len (n : Nat) (res : Int) : (askM m n res).ask.length = m.ask.length := by
  show (m.ask.set n _).length = _
  rw [List.length_set]
set_option maxHeartbeats 4000000 in
set_option maxRecDepth 100000 in
theorem lask_fair (h : Lk w b o T cs m) {n : Nat} {res : Int} (hn : n < m.ask.length) (hr : 0 ≤ res ∧ res < (m.ks.length : Int)) (hri : I64 res) (ha : (m.ask.getD n default).asked = false) (hp : m.proto = 1)
    (hl : (m.l.length : Int) < m.R) (hR : m.R ≤ 64) (hP : 0 ≤ m.P ∧ m.P < 1000000) (hpl : 0 ≤ m.places ∧ m.places < 1000000) :
    Calls Tryz.prog 12 #[.pointer (some ⟨b, o, none⟩), .int .i64 n, .int .i64 res] w fun e w' => e = .returned (.int .i64 0) ∧ ∃ A c, LkTo w b o T cs m w' (placeM (askM m n res) n A c) := by
  have ct := lthere_any h n
  rw [there_nat hn] at ct
  have c2 := (h.blk.cell _).trans h.c2
  have c1 := h.ac
  obtain ⟨g, hg, _, hgs⟩ := h.askers.at_ (by omega)
  have hk := h.askers
  have HA := hidp (asked_of h hg hn hri)
  rw [hg] at hk c1
  have cc := (hk.cells hn).2.2.1
  have cr := (hk.cells hn).2.2.2.2.1
  have f2 : w.frozen? ⟨g, n * 6 + 2, none⟩ = false := ownE_frozen hk.own _
  have f4 : (w.setCell ⟨g, n * 6 + 2, none⟩ (.bool true)).frozen? ⟨g, n * 6 + 4, none⟩ = false := by
    have := ownE_frozen hk.own (n * 6 + 4)
    simpa using this
  rw [ha] at cc
  have h0' : decide (res < 0) = false := decide_eq_false (by omega)
  have h1' : decide ((m.ks.length : Int) ≤ res) = false := decide_eq_false (by omega)
  have hd : decide (m.ask.length ≤ n) = false := decide_eq_false (by omega)
  have c0' := (HA.out.lk.blk.cell o).trans HA.out.lk.c0
  rw [show (askM m n res).proto = 1 from hp] at c0'
  have CP := lplace_any HA.out.lk (n := n) (by rw [askM_len]; exact hn) hl hR hP hpl
  clear h hk ha hr hg hgs hp hl hR hP hpl hri
  go_enter Tryz.func12, Tryz.ntmps12
  go_wp2_with fail
  refine ct.mono ?_
  rintro e w2 ⟨rfl, rfl⟩
  go_wp2_with fail
  refine CP.mono ?_
  rintro e w3 ⟨rfl, A, c, cs3, l3, f3⟩
  go_wp2_with fail
  go_ret
  exact ⟨rfl, A, c, cs3, l3, HA.out.fr.trans f3⟩
set_option maxHeartbeats 4000000 in
set_option maxRecDepth 100000 in
theorem lask_agent (h : Lk w b o T cs m) {n : Nat} {res : Int} (hn : n < m.ask.length) (hr : 0 ≤ res ∧ res < (m.ks.length : Int)) (hri : I64 res) (ha : (m.ask.getD n default).asked = false) (hp : m.proto = 2)
    (hl : (m.l.length : Int) < m.R) (hR : m.R ≤ 64) (hP : 0 ≤ m.P ∧ m.P < 1000000) :
    Calls Tryz.prog 12 #[.pointer (some ⟨b, o, none⟩), .int .i64 n, .int .i64 res] w fun e w' => e = .returned (.int .i64 0) ∧ ∃ A c, LkTo w b o T cs m w' ((askM m n res).putR (m.P + 1) (riseL (m.l ++ [⟨(m.ask.getD n default).prio, m.P, n⟩]) m.l.length) A c) := by
  have ct := lthere_any h n
  rw [there_nat hn] at ct
  have c2 := (h.blk.cell _).trans h.c2
  have c1 := h.ac
  obtain ⟨g, hg, _, hgs⟩ := h.askers.at_ (by omega)
  have hk := h.askers
  have HA := hidp (asked_of h hg hn hri)
  rw [hg] at hk c1
  have cc := (hk.cells hn).2.2.1
  have cr := (hk.cells hn).2.2.2.2.1
  have f2 : w.frozen? ⟨g, n * 6 + 2, none⟩ = false := ownE_frozen hk.own _
  have f4 : (w.setCell ⟨g, n * 6 + 2, none⟩ (.bool true)).frozen? ⟨g, n * 6 + 4, none⟩ = false := by
    have := ownE_frozen hk.own (n * 6 + 4)
    simpa using this
  rw [ha] at cc
  have h0' : decide (res < 0) = false := decide_eq_false (by omega)
  have h1' : decide ((m.ks.length : Int) ≤ res) = false := decide_eq_false (by omega)
  have hd : decide (m.ask.length ≤ n) = false := decide_eq_false (by omega)
  have c0' := (HA.out.lk.blk.cell o).trans HA.out.lk.c0
  rw [show (askM m n res).proto = 2 from hp] at c0'
  have HL := hidp (HA.out.lk.over (Below.refl _ _).drew)
  obtain ⟨pr, HPr⟩ : ∃ pr, Hid ((m.ask.getD n default).prio = pr) := ⟨_, hidp rfl⟩
  have RP := rput_any (k := (m.ask.getD n default).prio) (i := (n : Int)) HL.out.row hl hR hP
  have hk2 := HL.out.askers
  rw [show (askM m n res).Aa = some ⟨g, 0, none⟩ from hg] at hk2
  have d0 := (hk2.cells (i := n) (by rw [askM_len]; exact hn)).1
  rw [askM_at hn] at d0
  dsimp only at d0
  have Hn := hidp hn
  have Hg := hidp hg
  rw [HPr.out] at d0 RP ⊢
  clear h hk hk2 ha hr hg hgs hp hl hR hP hri
  go_enter Tryz.func12, Tryz.ntmps12
  go_wp2_with fail
  refine ct.mono ?_
  rintro e w2 ⟨rfl, rfl⟩
  go_wp2_with fail
  go_region_held3 (fun w' => w'.cell? ⟨g, n * 6, none⟩ = some (.int .i64 pr)) (first | exact d0 | exact hs)
    ((go_at_call 34; refine RP.mono ?_; rintro e u ⟨rfl, A', c', hr, ht, hf⟩; have hL := hidp (HL.out.toR hr ht hf); have hs : u.cell? ⟨g, n * 6, none⟩ = some (.int .i64 pr) := by { obtain ⟨c9, l9, _⟩ := hL.out; have hk3 := l9.askers; have hk4 : OwnK 0 u (some ⟨g, 0, none⟩) (askM m n res).ask.length m.ca (askM m n res).ask := Hg.out ▸ hk3; have := (hk4.cells (i := n) (by rw [askM_len]; exact Hn.out)).1; rw [askM_at Hn.out] at this; rw [← HPr.out]; exact this }))
  go_wp2_with fail
  go_ret
  obtain ⟨cs3, l3, f3⟩ := hL.out
  exact ⟨rfl, A', c', cs3, l3, (HA.out.fr.trans (FrL.below (Below.refl _ _).drew)).trans f3⟩
set_option maxHeartbeats 4000000 in
set_option maxRecDepth 100000 in
theorem lask_token (h : Lk w b o T cs m) {n k : Nat} {res : Int} (hn : n < m.ask.length) (hr : 0 ≤ res ∧ res < (m.ks.length : Int)) (hri : I64 res) (ha : (m.ask.getD n default).asked = false) (hp : m.proto = 3)
    (hc : (m.ask.getD n default).cluster = (k : Int)) (hk0 : k < m.ds.length) (hl : (m.ds.getD k default).outs.length < 6) (hni : I64 (n : Int)) :
    Calls Tryz.prog 12 #[.pointer (some ⟨b, o, none⟩), .int .i64 n, .int .i64 res] w fun e w' => e = .returned (.int .i64 0) ∧ ∃ F, LkTo w b o T cs m w' ((askM m n res).putD k { m.ds.getD k default with outs := (m.ds.getD k default).outs ++ [(n : Int)] } F) := by
  have ct := lthere_any h n
  rw [there_nat hn] at ct
  have c2 := (h.blk.cell _).trans h.c2
  have c1 := h.ac
  obtain ⟨g, hg, _, hgs⟩ := h.askers.at_ (by omega)
  have hk := h.askers
  have HA := hidp (asked_of h hg hn hri)
  rw [hg] at hk c1
  have cc := (hk.cells hn).2.2.1
  have cr := (hk.cells hn).2.2.2.2.1
  have f2 : w.frozen? ⟨g, n * 6 + 2, none⟩ = false := ownE_frozen hk.own _
  have f4 : (w.setCell ⟨g, n * 6 + 2, none⟩ (.bool true)).frozen? ⟨g, n * 6 + 4, none⟩ = false := by
    have := ownE_frozen hk.own (n * 6 + 4)
    simpa using this
  rw [ha] at cc
  have h0' : decide (res < 0) = false := decide_eq_false (by omega)
  have h1' : decide ((m.ks.length : Int) ≤ res) = false := decide_eq_false (by omega)
  have hd : decide (m.ask.length ≤ n) = false := decide_eq_false (by omega)
  have c0' := (HA.out.lk.blk.cell o).trans HA.out.lk.c0
  rw [show (askM m n res).proto = 3 from hp] at c0'
  have HL := hidp (HA.out.lk.over (Below.refl _ _).drew)
  have hk2 := HL.out.askers
  rw [show (askM m n res).Aa = some ⟨g, 0, none⟩ from hg] at hk2
  have d1 := (hk2.cells (i := n) (by rw [askM_len]; exact hn)).2.1
  rw [askM_at hn] at d1
  dsimp only at d1
  rw [hc] at d1
  have d3 := (HL.out.blk.cell _).trans HL.out.c3
  obtain ⟨gd, hgd, _, _⟩ := ownE_at HL.out.doors (by show 0 < m.ds.length; omega)
  have hdr : (askM m n res).Ad = some ⟨gd, 0, none⟩ := hgd
  have DC : ∀ (u : World), u.ownsRow 0 76 3 (.slice (some ⟨gd, 0, none⟩) m.ds.length m.cd) m.ds.length (drc m.ds) → u.cell? ⟨gd, k * 3, none⟩ = some (.int .i64 (m.ds.getD k default).cores) ∧ u.cell? ⟨gd, k * 3 + 1, none⟩ = some (.pointer (some ⟨(m.ds.getD k default).gb, 0, none⟩)) ∧ u.cell? ⟨gd, k * 3 + 2, none⟩ = some (.pointer (some ⟨(m.ds.getD k default).lb, 0, none⟩)) := fun u hu => by
    rcases Lies.of_own hu with h1 | ⟨b', off, e, _, hcc⟩
    · have := congrArg List.length h1
      rw [drc_len] at this
      simp at this; omega
    · injection e with e
      injection e with e1 e2
      subst e1; subst e2
      have hat := drc_at m.ds k hk0
      have q0 := hcc _ _ (hat 0 _ rfl)
      have q1 := hcc _ _ (hat 1 _ rfl)
      have q2 := hcc _ _ (hat 2 _ rfl)
      exact ⟨by simpa using q0, by simpa using q1, by simpa using q2⟩
  have DCH := hidp DC
  have hdo := HL.out.doors
  rw [hdr] at d3
  have hdo2 := hidp hdo
  have hdo3 : (((w.setCell ⟨g, n * 6 + 2, none⟩ (.bool true)).setCell ⟨g, n * 6 + 4, none⟩ (.int .i64 res)).drew).ownsRow 0 76 3 (.slice (some ⟨gd, 0, none⟩) m.ds.length m.cd) m.ds.length (drc m.ds) := hdr ▸ hdo
  obtain ⟨e0, e1, e2⟩ := DC _ hdo3
  have DA := dask_any (id := (n : Int)) (HL.out.drs k hk0) hl hni
  have hdk : decide (m.ds.length ≤ k) = false := decide_eq_false (by omega)
  have Hn := hidp hn
  have Hg := hidp hg
  have Hc := hidp hc
  have Hk0 := hidp hk0
  have Hdr := hidp hdr
  have NB : Hid (b ∉ m.Fd k) := hidp (fun hm => by
    have h1 := HL.out.lf k hk0 b hm
    rw [HL.out.lb] at h1
    omega)
  have NG : Hid (g ∉ m.Fd k) := hidp (fun hm => by
    have h1 := HL.out.lf k hk0 g hm
    rw [HL.out.la g (by show g ∈ fp m.Aa; rw [hg]; simp [fp])] at h1
    omega)
  have ND : Hid (gd ∉ m.Fd k) := hidp (fun hm => by
    have h1 := HL.out.lf k hk0 gd hm
    rw [HL.out.ld gd (by rw [hdr]; simp [fp])] at h1
    omega)
  obtain ⟨d, HD⟩ : ∃ d, Hid (m.ds.getD k default = d) := ⟨_, hidp rfl⟩
  have DA : Calls Tryz.prog 35 #[DrM.val d, .int .i64 n] (((w.setCell ⟨g, n * 6 + 2, none⟩ (.bool true)).setCell ⟨g, n * 6 + 4, none⟩ (.int .i64 res)).drew) (DrPost (((w.setCell ⟨g, n * 6 + 2, none⟩ (.bool true)).setCell ⟨g, n * 6 + 4, none⟩ (.int .i64 res)).drew) (m.Fd k) { d with outs := d.outs ++ [(n : Int)] } (.returned (.tuple #[]))) := HD.out ▸ DA
  unfold DrM.val at DA
  rw [HD.out] at e0 e1 e2 ⊢
  have d3 : (((w.setCell ⟨g, n * 6 + 2, none⟩ (.bool true)).setCell ⟨g, n * 6 + 4, none⟩ (.int .i64 res)).drew).cell? ⟨b, o + 3, none⟩ = some (.slice (some ⟨gd, 0, none⟩) m.ds.length m.cd) := d3
  clear h hk hk2 ha hr hg hgs hp hl hri hc hgd hdr DC hdo hdo3
  go_enter Tryz.func12, Tryz.ntmps12
  go_wp2_with fail
  refine ct.mono ?_
  rintro e w2 ⟨rfl, rfl⟩
  go_wp2_with fail
  go_region_held3 (fun w' => w'.cell? ⟨b, o + 3, none⟩ = some (.slice (some ⟨gd, 0, none⟩) m.ds.length m.cd) ∧ w'.cell? ⟨g, n * 6 + 1, none⟩ = some (.int .i64 k) ∧ w'.cell? ⟨gd, k * 3, none⟩ = some (.int .i64 d.cores) ∧ w'.cell? ⟨gd, k * 3 + 1, none⟩ = some (.pointer (some ⟨d.gb, 0, none⟩)) ∧ w'.cell? ⟨gd, k * 3 + 2, none⟩ = some (.pointer (some ⟨d.lb, 0, none⟩))) (first | exact ⟨d3, d1, e0, e1, e2⟩ | exact hs)
    ((go_at_call 35; refine DA.mono ?_; rintro e u ⟨rfl, F', hd9, ht, hf⟩; have hL := hidp (HL.out.toD (i := k) Hk0.out hd9 (by rw [show (askM m n res).ds.getD k default = d from HD.out]; rfl) ht hf); have hs : u.cell? ⟨b, o + 3, none⟩ = some (.slice (some ⟨gd, 0, none⟩) m.ds.length m.cd) ∧ u.cell? ⟨g, n * 6 + 1, none⟩ = some (.int .i64 k) ∧ u.cell? ⟨gd, k * 3, none⟩ = some (.int .i64 d.cores) ∧ u.cell? ⟨gd, k * 3 + 1, none⟩ = some (.pointer (some ⟨d.gb, 0, none⟩)) ∧ u.cell? ⟨gd, k * 3 + 2, none⟩ = some (.pointer (some ⟨d.lb, 0, none⟩)) := ⟨ht.cell d3 NB.out, ht.cell d1 NG.out, ht.cell e0 ND.out, ht.cell e1 ND.out, ht.cell e2 ND.out⟩))
  go_wp2_with fail
  go_ret
  obtain ⟨cs3, l3, f3⟩ := hL.out
  exact ⟨rfl, F', cs3, l3, (HA.out.fr.trans (FrL.below (Below.refl _ _).drew)).trans f3⟩
end
end Go.Proofs.YtppgameimddimaaGreat
