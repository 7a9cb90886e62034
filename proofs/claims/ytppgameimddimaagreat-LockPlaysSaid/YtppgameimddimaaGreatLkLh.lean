/- lock: Leave (printed by tools/lock/leave.py). -/
import Derived.Test.YtppgameimddimaaGreatLkL
namespace Go.Proofs.YtppgameimddimaaGreat
open Go.ChangeShapes Go.WideShapes Go.ChangeAt Go.RowKit Go.Conc
set_option linter.unusedVariables false
set_option linter.unusedSimpArgs false
section
variable {w : World} {b o : Nat} {T : TypeId} {cs : Array Value} {m : LkM}
set_option maxHeartbeats 2000000 in
set_option maxRecDepth 100000 in
theorem lleave_holds (h : Lk w b o T cs m) {n k r : Nat} (hn : n < m.ask.length) (ha : (m.ask.getD n default).asked = true) (hh : (m.ask.getD n default).holds = true) (hc : (m.ask.getD n default).cluster = (k : Int)) (hk0 : k < m.ds.length) (hl : m.l.length ≤ 64) (hni : I64 (n : Int))
    (hr : (m.ask.getD n default).res = (r : Int)) (hrl : r < m.ks.length) (hfr : m.fr (m.ks.getD r 0) = false) :
    Calls Tryz.prog 17 #[.pointer (some ⟨b, o, none⟩), .int .i64 n] w fun e w' => e = .returned (.int .i64 0) ∧ ∃ F, LkTo w b o T cs m w' (goneM (m.putK (m.ks.getD r 0) true) n k F) := by
  have ct := lthere_any h n
  rw [there_nat hn] at ct
  have c1 := h.ac
  obtain ⟨g, hg, _, hgs⟩ := h.askers.at_ (by omega)
  have hk := h.askers
  rw [hg] at hk c1
  have cc := (hk.cells hn).2.2.1
  have ch := (hk.cells hn).2.2.2.1
  rw [ha] at cc
  rw [hh] at ch
  have hd : decide (m.ask.length ≤ n) = false := decide_eq_false (by omega)
  obtain ⟨gd, hgd, _⟩ := h.dcells hk0
  have Hgd := hidp hgd
  have Hg := hidp hg
  have Hn := hidp hn
  have Hk := hidp hk0
  have Hc := hidp hc
  have Hl64 := hidp hl
  have Hni := hidp hni
  have hdk : decide (m.ds.length ≤ k) = false := decide_eq_false (by omega)
  obtain ⟨d, HD⟩ : ∃ d, Hid (m.ds.getD k default = d) := ⟨_, hidp rfl⟩
  have cr := (hk.cells hn).2.2.2.2.1
  rw [hr] at cr
  obtain ⟨gk, hgk, _, _⟩ := ownE_at h.keys (by omega)
  have hkk := h.keys
  rw [hgk] at hkk
  obtain ⟨q, HQ⟩ : ∃ q, Hid (m.ks.getD r 0 = q) := ⟨_, hidp rfl⟩
  have ckey : w.cell? ⟨gk, r, none⟩ = some (.chan (some q)) := by
    rcases Lies.of_own hkk with h1 | ⟨b', off, e, _, hcc⟩
    · have h2 : m.ks = [] := by simpa [keyV] using h1
      rw [h2] at hrl
      simp at hrl
    · injection e with e
      injection e with e1 e2
      subst e1; subst e2
      have := hcc r (.chan (some q)) (by rw [← HQ.out]; simp [keyV, List.getD, hrl])
      simpa using this
  have hqm : q ∈ m.ks := by rw [← HQ.out]; simp [List.getD, hrl]
  rw [HQ.out] at hfr ⊢
  obtain ⟨s, rc, hch⟩ := h.chans q hqm
  rw [hfr] at hch
  have c2 : w.cell? ⟨b, o + 2, none⟩ = some (.slice (some ⟨gk, 0, none⟩) m.ks.length m.ck) := by
    have := (h.blk.cell _).trans h.c2
    rw [hgk] at this; exact this
  obtain ⟨cs1, L1, F1⟩ := (h.over (Below.refl _ _).drew).toK (s := s + 1) (r := rc) (v := true) hqm
  have HL1 := hidp L1
  have HF1 := hidp ((FrL.below (b := b) (o := o) (n := 8) (T := T) (cs := cs) (F := fpm m) (Below.refl w.heap.size w).drew).trans F1)
  have hdr : decide (m.ks.length ≤ r) = false := decide_eq_false (by omega)
  have HDb : Hid (((m.putK q true).putR m.P (dropL m.l n) m.Ar m.cr).ds.getD k default = d) := HD
  have Hch := hidp hch
  have x2 : w.drew.cell? ⟨b, o + 2, none⟩ = some (.slice (some ⟨gk, 0, none⟩) m.ks.length m.ck) := c2
  have xr : w.drew.cell? ⟨g, n * 6 + 4, none⟩ = some (.int .i64 r) := cr
  have xk : w.drew.cell? ⟨gk, r, none⟩ = some (.chan (some q)) := ckey
  clear h hk hkk ha hh hg hgs hc hl hni hgd hr hfr hgk hqm L1 F1 hch
  go_enter Tryz.func17, Tryz.ntmps17
  go_wp2_with fail
  refine ct.mono ?_
  rintro e w2 ⟨rfl, rfl⟩
  go_upto_region 5 with fail
  refine wp_region_last_drew 11 (S := fun w' => w'.cell? ⟨b, o + 2, none⟩ = some (.slice (some ⟨gk, 0, none⟩) m.ks.length m.ck) ∧ w'.cell? ⟨g, n * 6 + 4, none⟩ = some (.int .i64 r) ∧ w'.cell? ⟨gk, r, none⟩ = some (.chan (some q))) (by kernel_rfl) (by kernel_rfl) ?_ (fun hHeld => ?_)
  · exact ⟨x2, xr, xk⟩
  refine wpAnyH_take (i := 0) (v := ?_) rfl (by kernel_rfl) (by kernel_rfl) (by kernel_rfl) (fun _ _ _ h => h) (Or.inl ⟨by rfl, ?_⟩) (by assumption) ?_
  rotate_left 1
  · ((intro w hSw; (try dsimp only at hSw); go_simp); (try with_reducible rfl))
  simp only [Act.put, List.setIfInBounds_toArray, List.set_cons_zero, List.set_cons_succ, List.getElem_toArray, List.getElem_cons_zero, List.getElem_cons_succ]
  refine wpAnyH_take (i := 1) (v := ?_) rfl (by kernel_rfl) (by kernel_rfl) (by kernel_rfl) (fun _ _ _ h => h) (Or.inl ⟨by rfl, ?_⟩) (by assumption) ?_
  rotate_left 1
  · ((intro w hSw; (try dsimp only at hSw); go_simp); (try with_reducible rfl))
  simp only [Act.put, List.setIfInBounds_toArray, List.set_cons_zero, List.set_cons_succ, List.getElem_toArray, List.getElem_cons_zero, List.getElem_cons_succ]
  refine wpAnyH_take (i := 2) (v := ?_) rfl (by kernel_rfl) (by kernel_rfl) (by kernel_rfl) (fun _ _ _ h => h) (Or.inl ⟨by rfl, ?_⟩) (by assumption) ?_
  rotate_left 1
  · ((intro w hSw; (try dsimp only at hSw); go_simp); (try with_reducible rfl))
  simp only [Act.put, List.setIfInBounds_toArray, List.set_cons_zero, List.set_cons_succ, List.getElem_toArray, List.getElem_cons_zero, List.getElem_cons_succ]
  refine wpAnyH_take (i := 3) (v := ?_) rfl (by kernel_rfl) (by kernel_rfl) (by kernel_rfl) (fun _ _ _ h => h) (Or.inl ⟨by rfl, ?_⟩) (by assumption) ?_
  rotate_left 1
  · ((intro w hSw; (try dsimp only at hSw); go_simp); (try with_reducible rfl))
  simp only [Act.put, List.setIfInBounds_toArray, List.set_cons_zero, List.set_cons_succ, List.getElem_toArray, List.getElem_cons_zero, List.getElem_cons_succ]
  refine wpAnyH_take (i := 4) (v := ?_) rfl (by kernel_rfl) (by kernel_rfl) (by kernel_rfl) (fun _ _ _ h => h) (Or.inl ⟨by rfl, ?_⟩) (by assumption) ?_
  rotate_left 1
  · ((intro w hSw; (try dsimp only at hSw); go_simp); (try with_reducible rfl))
  simp only [Act.put, List.setIfInBounds_toArray, List.set_cons_zero, List.set_cons_succ, List.getElem_toArray, List.getElem_cons_zero, List.getElem_cons_succ]
  refine wpAnyH_take (i := 5) (v := ?_) rfl (by kernel_rfl) (by kernel_rfl) (by kernel_rfl) (fun _ _ _ h => h) (Or.inl ⟨by rfl, ?_⟩) (by assumption) ?_
  rotate_left 1
  · ((intro w hSw; (try dsimp only at hSw); go_simp); (try with_reducible rfl))
  simp only [Act.put, List.setIfInBounds_toArray, List.set_cons_zero, List.set_cons_succ, List.getElem_toArray, List.getElem_cons_zero, List.getElem_cons_succ]
  refine wpAnyH_take (i := 6) (v := ?_) rfl (by kernel_rfl) (by kernel_rfl) (by kernel_rfl) (fun _ _ _ h => h) (Or.inl ⟨by rfl, ?_⟩) (by assumption) ?_
  rotate_left 1
  · ((intro w hSw; (try dsimp only at hSw); go_simp); (try with_reducible rfl))
  simp only [Act.put, List.setIfInBounds_toArray, List.set_cons_zero, List.set_cons_succ, List.getElem_toArray, List.getElem_cons_zero, List.getElem_cons_succ]
  refine wpAnyH_take (i := 7) (v := ?_) rfl (by kernel_rfl) (by kernel_rfl) (by kernel_rfl) (fun _ _ _ h => h) (Or.inl ⟨by rfl, ?_⟩) (by assumption) ?_
  rotate_left 1
  · ((intro w hSw; (try dsimp only at hSw); go_simp); (try with_reducible rfl))
  simp only [Act.put, List.setIfInBounds_toArray, List.set_cons_zero, List.set_cons_succ, List.getElem_toArray, List.getElem_cons_zero, List.getElem_cons_succ]
  refine wpAnyH_take (i := 8) (v := ?_) rfl (by kernel_rfl) (by kernel_rfl) (by kernel_rfl) (fun _ _ _ h => h) (Or.inl ⟨by rfl, ?_⟩) (by assumption) ?_
  rotate_left 1
  · ((intro w hSw; (try dsimp only at hSw); go_simp); (try with_reducible rfl))
  simp only [Act.put, List.setIfInBounds_toArray, List.set_cons_zero, List.set_cons_succ, List.getElem_toArray, List.getElem_cons_zero, List.getElem_cons_succ]
  refine wpAnyH_take (i := 9) (v := ?_) rfl (by kernel_rfl) (by kernel_rfl) (by kernel_rfl) (fun _ _ _ h => h) (Or.inl ⟨by rfl, ?_⟩) (by assumption) ?_
  rotate_left 1
  · ((intro w hSw; (try dsimp only at hSw); go_simp); (try with_reducible rfl))
  simp only [Act.put, List.setIfInBounds_toArray, List.set_cons_zero, List.set_cons_succ, List.getElem_toArray, List.getElem_cons_zero, List.getElem_cons_succ]
  refine wpAnyH_take (i := 10) (v := ?_) rfl (by kernel_rfl) (by kernel_rfl) (by kernel_rfl) (fun _ _ _ h => h) (Or.inl ⟨by rfl, ?_⟩) (by assumption) ?_
  rotate_left 1
  · ((intro w hSw; (try dsimp only at hSw); go_simp); (try with_reducible rfl))
  simp only [Act.put, List.setIfInBounds_toArray, List.set_cons_zero, List.set_cons_succ, List.getElem_toArray, List.getElem_cons_zero, List.getElem_cons_succ]
  refine last_done (by kernel_rfl) ?_ _
  refine wpS_send (w1 := w.drew) (c := q) (v := .agg #[]) (z' := .tuple #[]) (cap := 1) (buf := #[]) (s := s) (r := rc) (tm := false) rfl rfl (by simp [go_sem, execOp, scase, Act.eval]) Hch.out (by decide) ?_
  refine wpS_done ?_
  obtain ⟨v0, hv0⟩ : ∃ v, w.drew.setChan q 1 (#[].push (.agg #[])) false (s + 1) rc false = v := ⟨_, rfl⟩
  have HL : Hid (Lk v0 b o T cs1 (m.putK q true)) := hv0 ▸ HL1
  have FV : Hid (FrL w b o 8 T cs (fpm m) v0 cs1 (fpm (m.putK q true))) := hv0 ▸ HF1
  rw [hv0]
  clear hv0 HL1 HF1 x2 xr xk c1 cc ch cr ckey c2 hHeld Hch
  -- from here on: the row, the door, the asker
  go_wp2_with fail
  refine (drop_any (id := (n : Int)) HL.out.row Hl64.out).mono ?_
  rintro e v2 ⟨rfl, hr2, ht2⟩
  obtain ⟨cs2, L2, F2⟩ := HL.out.toR hr2 ht2 (fun k hk => .inl hk)
  have L2d := hidp (L2.over (Below.refl _ _).drew)
  have HF2 := hidp (F2.trans (FrL.below (Below.refl _ _).drew))
  clear L2 F2 hr2 ht2
  have d3 : v2.drew.cell? ⟨b, o + 3, none⟩ = some (.slice (some ⟨gd, 0, none⟩) m.ds.length m.cd) := by
    have := (L2d.out.blk.cell _).trans L2d.out.c3
    rw [← Hgd.out]; exact this
  have d1 : v2.drew.cell? ⟨g, n * 6 + 1, none⟩ = some (.int .i64 k) := by
    have hk2 := L2d.out.askers
    have hk3 : OwnK 0 v2.drew (some ⟨g, 0, none⟩) m.ask.length m.ca m.ask := Hg.out ▸ hk2
    have := (hk3.cells Hn.out).2.1
    rw [Hc.out] at this; exact this
  obtain ⟨gd2, hgd2, hlab, e0, e1, e2⟩ := L2d.out.dcells (k := k) Hk.out
  have egd : gd2 = gd := by
    have h1 : m.Ad = some ⟨gd2, 0, none⟩ := hgd2
    rw [Hgd.out] at h1
    injection h1 with h1; injection h1 with h1; exact h1.symm
  subst egd
  have DA := dleave_any (id := (n : Int)) (L2d.out.drs k Hk.out) Hni.out
  have DA : Calls Tryz.prog 43 #[DrM.val d, .int .i64 n] v2.drew (DrPost v2.drew (m.Fd k) (leaveD d n) (.returned (.tuple #[]))) := HD.out ▸ DA
  unfold DrM.val at DA
  have e0 : v2.drew.cell? ⟨gd2, k * 3, none⟩ = some (.int .i64 d.cores) := HD.out ▸ e0
  have e1 : v2.drew.cell? ⟨gd2, k * 3 + 1, none⟩ = some (.pointer (some ⟨d.gb, 0, none⟩)) := HD.out ▸ e1
  have e2 : v2.drew.cell? ⟨gd2, k * 3 + 2, none⟩ = some (.pointer (some ⟨d.lb, 0, none⟩)) := HD.out ▸ e2
  have NB : Hid (b ∉ m.Fd k) := hidp (fun hm => by
    have h1 := L2d.out.lf k Hk.out b hm
    rw [L2d.out.lb] at h1
    omega)
  have NG : Hid (g ∉ m.Fd k) := hidp (fun hm => by
    have h1 := L2d.out.lf k Hk.out g hm
    rw [L2d.out.la g (by show g ∈ fp m.Aa; rw [Hg.out]; simp [fp])] at h1
    omega)
  have ND : Hid (gd2 ∉ m.Fd k) := hidp (fun hm => by
    have h1 := L2d.out.lf k Hk.out gd2 hm
    rw [hlab] at h1
    omega)
  clear hlab hgd2
  go_wp2_with fail
  go_region_held3 (fun w' => w'.cell? ⟨b, o + 3, none⟩ = some (.slice (some ⟨gd2, 0, none⟩) m.ds.length m.cd) ∧ w'.cell? ⟨g, n * 6 + 1, none⟩ = some (.int .i64 k) ∧ w'.cell? ⟨gd2, k * 3, none⟩ = some (.int .i64 d.cores) ∧ w'.cell? ⟨gd2, k * 3 + 1, none⟩ = some (.pointer (some ⟨d.gb, 0, none⟩)) ∧ w'.cell? ⟨gd2, k * 3 + 2, none⟩ = some (.pointer (some ⟨d.lb, 0, none⟩))) (first | exact ⟨d3, d1, e0, e1, e2⟩ | exact hs)
    ((go_at_call 43; refine DA.mono ?_; rintro e u ⟨rfl, F', hd9, ht, hf⟩; have hL := hidp (L2d.out.toD (i := k) Hk.out hd9 (by show (m.ds.getD k default).blk = _; rw [HD.out]; rfl) ht hf); have hs : u.cell? ⟨b, o + 3, none⟩ = some (.slice (some ⟨gd2, 0, none⟩) m.ds.length m.cd) ∧ u.cell? ⟨g, n * 6 + 1, none⟩ = some (.int .i64 k) ∧ u.cell? ⟨gd2, k * 3, none⟩ = some (.int .i64 d.cores) ∧ u.cell? ⟨gd2, k * 3 + 1, none⟩ = some (.pointer (some ⟨d.gb, 0, none⟩)) ∧ u.cell? ⟨gd2, k * 3 + 2, none⟩ = some (.pointer (some ⟨d.lb, 0, none⟩)) := ⟨ht.cell d3 NB.out, ht.cell d1 NG.out, ht.cell e0 ND.out, ht.cell e1 ND.out, ht.cell e2 ND.out⟩; clear ht hf hd9))
  clear hs d3 d1 e0 e1 e2 NB NG ND DA
  obtain ⟨cs3, L3, F3⟩ := hL.out
  have hwf := L3.wf (m.ask.getD n default) (by show m.ask.getD n default ∈ m.ask; simp [List.getD, Hn.out])
  have hk3 : OwnK 0 u (some ⟨g, 0, none⟩) m.ask.length m.ca m.ask := Hg.out ▸ L3.askers
  obtain ⟨x0, x1, x2, x3, x4, x5⟩ := hk3.cells Hn.out
  have fz : ∀ j, u.frozen? ⟨g, j, none⟩ = false := fun j => ownE_frozen hk3.own j
  have f0 := fz (n * 6)
  have f1 := fz (n * 6 + 1)
  have f2 := fz (n * 6 + 2)
  have f3 := fz (n * 6 + 3)
  have f4 := fz (n * 6 + 4)
  have f5 := fz (n * 6 + 5)
  have HF3 := hidp F3
  obtain ⟨a, HAa⟩ : ∃ a, Hid (m.ask.getD n default = a) := ⟨_, hidp rfl⟩
  rw [HAa.out] at x0 x1 x2 x3 x4 x5 hwf
  have z0 : u.drew.cell? ⟨g, n * 6, none⟩ = some (.int .i64 a.prio) := x0
  have z1 : u.drew.cell? ⟨g, n * 6 + 1, none⟩ = some (.int .i64 a.cluster) := x1
  have z2 : u.drew.cell? ⟨g, n * 6 + 2, none⟩ = some (.bool a.asked) := x2
  have z3 : u.drew.cell? ⟨g, n * 6 + 3, none⟩ = some (.bool a.holds) := x3
  have z4 : u.drew.cell? ⟨g, n * 6 + 4, none⟩ = some (.int .i64 a.res) := x4
  have z5 : u.drew.cell? ⟨g, n * 6 + 5, none⟩ = some (.int .i64 a.place) := x5
  have y0 : u.drew.frozen? ⟨g, n * 6, none⟩ = false := f0
  have y1 : u.drew.frozen? ⟨g, n * 6 + 1, none⟩ = false := f1
  have y2 : u.drew.frozen? ⟨g, n * 6 + 2, none⟩ = false := f2
  have y3 : u.drew.frozen? ⟨g, n * 6 + 3, none⟩ = false := f3
  have y4 : u.drew.frozen? ⟨g, n * 6 + 4, none⟩ = false := f4
  have y5 : u.drew.frozen? ⟨g, n * 6 + 5, none⟩ = false := f5
  have L4 := hidp (L3.put6 (n := n) (x := ⟨a.prio, a.cluster, false, false, 0, 0⟩) Hg.out Hn.out ⟨hwf.1, hwf.2.1, (by show I64 0; unfold I64; omega), (by show I64 0; unfold I64; omega)⟩)
  clear L3 F3 hk3 fz hwf
  go_wp2_with fail
  go_still_tail 11, (by kernel_rfl)
  change wpList _ _ _ _ _ u.drew
  go_wp2_with fail
  go_ret
  obtain ⟨cs4, l4, g4⟩ := L4.out
  have eg : goneM (m.putK q true) n k F' = (((m.putK q true).putR (m.putK q true).P (dropL (m.putK q true).l n) (m.putK q true).Ar (m.putK q true).cr).putD k (leaveD d n) F').putA n ⟨a.prio, a.cluster, false, false, 0, 0⟩ := by
    unfold goneM
    rw [show (m.putK q true).ds.getD k default = d from HD.out, show (m.putK q true).ask.getD n default = a from HAa.out]
  unfold put6a at l4 g4
  dsimp only at l4 g4
  have l5 := l4.over (Below.refl _ _).drew
  have G := FV.out.trans (HF2.out.trans (HF3.out.trans (g4.trans (FrL.below (Below.refl _ _).drew))))
  refine ⟨rfl, F', ?_⟩
  rw [eg]
  exact ⟨cs4, l5, G⟩
end
end Go.Proofs.YtppgameimddimaaGreat
