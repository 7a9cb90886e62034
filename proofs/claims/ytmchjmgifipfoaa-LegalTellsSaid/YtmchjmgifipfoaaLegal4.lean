/- legal: jobs. Printed by tools/legal/jobs.py. -/
import Derived.Test.YtmchjmgifipfoaaLegal2
import Derived.Test.YtmchjmgifipfoaaOwnT
import Derived.Test.YtmchjmgifipfoaaTraceB
import Derived.Deep.CutBlock
namespace Go.Proofs.Ytmchjmgifipfoaa
open Go.ChangeShapes Go.WideShapes Go.ChangeAt Go.RowKit
set_option linter.unusedVariables false
set_option linter.unusedSimpArgs false

def dnC (ds : List DoneM) : List Value := ds.flatMap fun d => [.int .i64 d.task, .int .i64 d.rel, .int .i64 d.fin]
theorem dnC_cons (m : DoneM) (ms : List DoneM) : dnC (m :: ms) = .int .i64 m.task :: .int .i64 m.rel :: .int .i64 m.fin :: dnC ms := rfl
theorem dnC_get {ms : List DoneM} {i : Nat} (hi : i < ms.length) : (dnC ms)[i * 3]? = some (.int .i64 (ms.getD i default).task) ∧ (dnC ms)[i * 3 + 1]? = some (.int .i64 (ms.getD i default).rel) ∧ (dnC ms)[i * 3 + 2]? = some (.int .i64 (ms.getD i default).fin) := by
  induction ms generalizing i with
  | nil => simp at hi
  | cons a l ih =>
    cases i with
    | zero => rw [dnC_cons]; exact ⟨rfl, rfl, rfl⟩
    | succ i =>
      have h := ih (i := i) (by simp at hi; omega)
      have e : (i + 1) * 3 = i * 3 + 1 + 1 + 1 := by omega
      rw [dnC_cons, e]
      have e1 : i * 3 + 1 + 1 + 1 + 1 = (i * 3 + 1) + 1 + 1 + 1 := by omega
      have e2 : i * 3 + 1 + 1 + 1 + 2 = (i * 3 + 2) + 1 + 1 + 1 := by omega
      rw [e1, e2]
      simp only [List.getElem?_cons_succ, List.getD_cons_succ]
      exact h
theorem dnC_set {ms : List DoneM} {i : Nat} (hi : i < ms.length) (d : DoneM) : (((dnC ms).set (i * 3) (.int .i64 d.task)).set (i * 3 + 1) (.int .i64 d.rel)).set (i * 3 + 2) (.int .i64 d.fin) = dnC (ms.set i d) := by
  induction ms generalizing i with
  | nil => simp at hi
  | cons a l ih =>
    cases i with
    | zero => rw [dnC_cons]; rfl
    | succ i =>
      have h := ih (i := i) (by simp at hi; omega)
      have e : (i + 1) * 3 = i * 3 + 1 + 1 + 1 := by omega
      have e1 : i * 3 + 1 + 1 + 1 + 1 = (i * 3 + 1) + 1 + 1 + 1 := by omega
      have e2 : i * 3 + 1 + 1 + 1 + 2 = (i * 3 + 2) + 1 + 1 + 1 := by omega
      rw [dnC_cons, e, e1, e2]
      simp only [List.set_cons_succ, dnC_cons]
      rw [h]
def DBk (w : World) (g : Nat) (T : TypeId) (ds : List DoneM) : Prop := Bk w g T (dnC ds).toArray
theorem DBk.c {w : World} {g : Nat} {T : TypeId} {ds : List DoneM} (h : DBk w g T ds) {i : Nat} (hi : i < ds.length) : w.cell? ⟨g, i * 3, none⟩ = some (.int .i64 (ds.getD i default).task) ∧ w.cell? ⟨g, i * 3 + 1, none⟩ = some (.int .i64 (ds.getD i default).rel) ∧ w.cell? ⟨g, i * 3 + 2, none⟩ = some (.int .i64 (ds.getD i default).fin) := by
  have := dnC_get hi
  refine ⟨(Bk.cell h _).trans ?_, (Bk.cell h _).trans ?_, (Bk.cell h _).trans ?_⟩ <;> rw [List.getElem?_toArray]
  · exact this.1
  · exact this.2.1
  · exact this.2.2
def putD (w : World) (g i : Nat) (d : DoneM) : World := ((w.setCell ⟨g, i * 3, none⟩ (.int .i64 d.task)).setCell ⟨g, i * 3 + 1, none⟩ (.int .i64 d.rel)).setCell ⟨g, i * 3 + 2, none⟩ (.int .i64 d.fin)
theorem DBk.put {w : World} {g : Nat} {T : TypeId} {ds : List DoneM} (h : DBk w g T ds) {i : Nat} (hi : i < ds.length) (d : DoneM) : DBk (putD w g i d) g T (ds.set i d) := by
  have h3 := ((Bk.put h (i * 3) (.int .i64 d.task)).put (i * 3 + 1) (.int .i64 d.rel)).put (i * 3 + 2) (.int .i64 d.fin)
  simp only [List.setIfInBounds_toArray] at h3
  rw [dnC_set hi d] at h3
  exact h3
theorem putD_turned (w : World) (g i : Nat) (d : DoneM) : Turned [g] w (putD w g i d) :=
  (((Turned.refl [g] w).setCell (p := ⟨g, i * 3, none⟩) (.inl (by simp)) _).setCell (p := ⟨g, i * 3 + 1, none⟩) (.inl (by simp)) _).setCell (p := ⟨g, i * 3 + 2, none⟩) (.inl (by simp)) _
theorem jbNext_bad {s : SetR} {tk : Int} {st : List DoneM} {y : DoneM} (h : jbBad s tk y = true) : jbNext s tk st y = none := by unfold jbNext; rw [h]; rfl
theorem jbNext_near {s : SetR} {tk : Int} {st : List DoneM} {y : DoneM} (h : jbNear s st y = true) : jbNext s tk st y = none := by unfold jbNext; rw [h, Bool.or_true]; rfl
theorem jbNext_ok {s : SetR} {tk : Int} {st : List DoneM} {y : DoneM} (h : jbBad s tk y = false) (g : jbNear s st y = false) : jbNext s tk st y = some (st.set y.task.toNat y) := by unfold jbNext; rw [h, g]; rfl
/-- the last jobs are within the trace's ticks -/
def JbIn (st : List DoneM) : Prop := st.length = 6 ∧ ∀ a ∈ st, 0 ≤ a.rel ∧ a.rel ≤ 20000 ∧ 0 ≤ a.fin ∧ a.fin ≤ 20000
theorem JbIn.set {st : List DoneM} (h : JbIn st) (i : Nat) {d : DoneM} (hd : 0 ≤ d.rel ∧ d.rel ≤ 20000 ∧ 0 ≤ d.fin ∧ d.fin ≤ 20000) : JbIn (st.set i d) := ⟨by simp; exact h.1, fun a ha => by
  rcases List.mem_or_eq_of_mem_set ha with ha | rfl
  · exact h.2 a ha
  · exact hd⟩
theorem jb0_in : JbIn jb0 := ⟨rfl, fun a ha => by unfold jb0 at ha; rw [(List.mem_replicate.1 ha).2]; decide⟩
structure JbR (w wr : World) (s : SetR) (t : TraceR) (st : List DoneM) : Prop where
  bl : DBk wr (w.heap.size + 1 + 1) 79 st
  b : Below w.heap.size w wr
  sc : SetCells wr w.heap.size s
  tb : TraceBox wr (w.heap.size + 1) t

set_option maxHeartbeats 8000000 in
set_option maxRecDepth 100000 in
theorem ljobs_any (s : SetR) (t : TraceR) (w : World) (hs : SetOk w s) (ht : TraceOk w t) (hg : Good s) (htk : 0 ≤ t.ticks ∧ t.ticks ≤ 20000) : Calls Try.prog 34 #[.agg #[.int .i64 s.proto, .slice s.ca s.cores.length s.cc, .slice s.ha s.homes.length s.hc, .slice s.ta s.tasks.length s.tc], .agg #[.int .i64 t.ticks, .slice t.sa t.slots.length t.sc, .slice t.ja t.jobs.length t.jc, .slice t.wa t.waits.length t.wc]] w fun e w' => e = .returned (.bool (jobsB s t)) ∧ Below w.heap.size w w' := by
  have hb := ((Below.refl w.heap.size w).alloc (Nat.le_refl _) (.cells #[.int .i64 s.proto, .slice s.ca s.cores.length s.cc, .slice s.ha s.homes.length s.hc, .slice s.ta s.tasks.length s.tc] 26)).alloc (by simp) (.cells #[.int .i64 t.ticks, .slice t.sa t.slots.length t.sc, .slice t.ja t.jobs.length t.jc, .slice t.wa t.waits.length t.wc] 38)
  have sc := (SetCells.new w s 26).keep (Keeps.alloc _ (.cells #[.int .i64 t.ticks, .slice t.sa t.slots.length t.sc, .slice t.ja t.jobs.length t.jc, .slice t.wa t.waits.length t.wc] 38))
  have tb := TraceBox.new (w.alloc (.cells #[.int .i64 s.proto, .slice s.ca s.cores.length s.cc, .slice s.ha s.homes.length s.hc, .slice s.ta s.tasks.length s.tc] 26)) t 38
  have z1 : (w.alloc (.cells #[.int .i64 s.proto, .slice s.ca s.cores.length s.cc, .slice s.ha s.homes.length s.hc, .slice s.ta s.tasks.length s.tc] 26)).heap.size = w.heap.size + 1 := by simp
  have z2 : ((w.alloc (.cells #[.int .i64 s.proto, .slice s.ca s.cores.length s.cc, .slice s.ha s.homes.length s.hc, .slice s.ta s.tasks.length s.tc] 26)).alloc (.cells #[.int .i64 t.ticks, .slice t.sa t.slots.length t.sc, .slice t.ja t.jobs.length t.jc, .slice t.wa t.waits.length t.wc] 38)).heap.size = w.heap.size + 1 + 1 := by simp
  rw [z1] at tb
  have HS := hidp hs
  have HX := hidp ht.jobs
  have lx : t.jobs.length ≤ maxLen := Nat.le_trans ht.jsl.2.1 ht.jsl.2.2
  unfold maxLen at lx
  have lt6 : s.tasks.length ≤ 6 := hg.ntasks.2
  have HG := hidp hg
  obtain ⟨V, HV⟩ : ∃ V, Hid (jobsB s t = V) := ⟨_, hidp rfl⟩
  rw [HV.out]
  have Htk := hidp htk
  have HXw := hidp ht.jwf
  have HST : Hid (∀ (k : Nat) (st : List DoneM) (y : DoneM), k < t.jobs.length → foldO (jbNext s t.ticks) (t.jobs.take k) jb0 = some st → t.jobs.getD k default = y → jbNext s t.ticks st y = none → V = false) := hidp (fun k st y hk h hy hn => by rw [← HV.out]; exact jobs_stop hk h hy hn)
  have HEN : Hid (∀ (k : Nat) (st : List DoneM), ¬ k < t.jobs.length → foldO (jbNext s t.ticks) (t.jobs.take k) jb0 = some st → V = true) := hidp (fun k st hk h => by rw [← HV.out]; exact jobs_end hk h)
  have HGO : Hid (∀ (k : Nat) (st st' : List DoneM) (y : DoneM), k < t.jobs.length → foldO (jbNext s t.ticks) (t.jobs.take k) jb0 = some st → t.jobs.getD k default = y → jbNext s t.ticks st y = some st' → foldO (jbNext s t.ticks) (t.jobs.take (k + 1)) jb0 = some st') := hidp (fun k st st' y hk h hy hn => jobs_go hk h hy hn)
  have HSR : Hid (JbR w (((w.alloc (.cells #[.int .i64 s.proto, .slice s.ca s.cores.length s.cc, .slice s.ha s.homes.length s.hc, .slice s.ta s.tasks.length s.tc] 26)).alloc (.cells #[.int .i64 t.ticks, .slice t.sa t.slots.length t.sc, .slice t.ja t.jobs.length t.jc, .slice t.wa t.waits.length t.wc] 38)).alloc (.cells #[.int .i64 0, .int .i64 0, .int .i64 0, .int .i64 0, .int .i64 0, .int .i64 0, .int .i64 0, .int .i64 0, .int .i64 0, .int .i64 0, .int .i64 0, .int .i64 0, .int .i64 0, .int .i64 0, .int .i64 0, .int .i64 0, .int .i64 0, .int .i64 0] 79)) s t jb0) := hidp
    ⟨Bk.at_ z2 rfl, hb.alloc hb.size _, sc.keep (Keeps.alloc _ _), tb.keep (Keeps.alloc _ _)⟩
  clear z1 z2 hs ht hg htk HV
  obtain ⟨tk, sa, sc', slots, ja, jc, jobs, wa, wc, ws⟩ := t
  dsimp only at hb sc tb lx HX HXw Htk HST HEN HGO HSR ⊢
  have wsl : IntKind.i64.wrap ((s.tasks.length : Int) - 1) = (s.tasks.length : Int) - 1 := IntWalk.i64_in _ (by omega)
  have Hwsl := hidp wsl
  clear wsl
  obtain ⟨c0, c1, c2, c3⟩ := id sc
  obtain ⟨t0, t1, t2, t3⟩ := id tb
  dsimp only at t0 t1 t2 t3
  go_enter Try.func34, Try.ntmps34
  go_wp2_with fail
  go_step3
  go_wp2_with fail
  go_step3
  go_wp2_with fail
  clear c0 c1 c2 c3 t0 t1 t2 t3
  go_loopg [6, 13] jobs.length (fun gg ok i wr => ∃ (k : Nat) (st : List DoneM), k + gg = jobs.length ∧ ok = .bool true ∧ i = .int .i64 k ∧ Hid (foldO (jbNext s tk) (jobs.take k) jb0 = some st) ∧ Hid (JbIn st) ∧ Hid (JbR w wr s ⟨tk, sa, sc', slots, ja, jc, jobs, wa, wc, ws⟩ st))
  case atStart => exact ⟨0, jb0, by omega, rfl, rfl, hidp rfl, hidp jb0_in, HSR⟩
  case round =>
    obtain ⟨k, st, hk, rfl, rfl, Hf, HI, HR⟩ := hrel
    obtain ⟨bl, hbr, scr, tbr⟩ := HR.out
    clear HSR HR
    by_cases hlt : k < jobs.length
    · obtain ⟨g, off, hA, hd⟩ := HX.out.resolve_left (by intro e; rw [e] at hlt; simp at hlt)
      obtain ⟨y, HY⟩ : ∃ y, Hid (jobs.getD k default = y) := ⟨_, rfl⟩
      have hyw := HXw.out y (HY.out ▸ getD_mem hlt)
      obtain ⟨d0, d1, d2⟩ := (HY.out ▸ hd k hlt).keep (Keeps.of_below hbr)
      have bl1 := Bk.alloc bl (.cells #[.int .i64 y.task, .int .i64 y.rel, .int .i64 y.fin] 32)
      have hb1 := hbr.alloc hbr.size (.cells #[.int .i64 y.task, .int .i64 y.rel, .int .i64 y.fin] 32)
      have sc1 := scr.keep (Keeps.alloc wr (.cells #[.int .i64 y.task, .int .i64 y.rel, .int .i64 y.fin] 32))
      have tb1 := tbr.keep (Keeps.alloc wr (.cells #[.int .i64 y.task, .int .i64 y.rel, .int .i64 y.fin] 32))
      have yb1 := DoneBox.new wr y 32
      have hLt := Bk.lt bl
      obtain ⟨Y, HYb⟩ : ∃ Y, Hid (wr.heap.size = Y) := ⟨_, rfl⟩
      have yb1 := HYb.out ▸ yb1
      have YL : w.heap.size + 1 + 1 < Y := by rw [← HYb.out]; exact hLt
      have HST1 := hidp (HST.out k _ y hlt Hf.out HY.out)
      have HGO1 := hidp (fun st' => HGO.out k _ st' y hlt Hf.out HY.out)
      clear hd bl hbr scr tbr hLt
      subst hA
      obtain ⟨c0, c1, c2, c3⟩ := id sc1
      obtain ⟨t0, t1, t2, t3⟩ := id tb1
      dsimp only at t0 t1 t2 t3
      obtain ⟨y0, y1, y2⟩ := id yb1
      have hYs := HYb.out
      cases hP : inB y.task 0 ((s.tasks.length : Int) - 1) with
      | false =>
        have HP := hidp hP
        have hV := HST1.out (jbNext_bad (by unfold jbBad; rw [hP]; rfl))
        have HVf := hidp hV
        clear hV hP
        go_wp2_with (go_at_call 32; (with_reducible refine (lwithin_is HP.out _).mono ?_); rintro e w' ⟨rfl, rfl⟩)
        try rw [Exit.noGoto_ret]
        go_ret
        exact ⟨ret_bool HVf.out.symm, hb1⟩
      | true =>
        have HP := hidp hP
        obtain ⟨P, HPt⟩ : ∃ P, Hid (timedB tk y.rel y.fin = P) := ⟨_, hidp rfl⟩
        have p3 := inB_true.1 hP
        clear hP
        go_wp2_with (go_at_call 32; (with_reducible refine (lwithin_is HP.out _).mono ?_); rintro e w' ⟨rfl, rfl⟩)
        refine (ltimed_any ⟨tk, sa, sc', slots, some ⟨g, off, none⟩, jc, jobs, wa, wc, ws⟩ y.rel y.fin _).mono ?_
        rintro e v ⟨rfl, hb2⟩
        dsimp only
        rw [HPt.out]
        clear hYs d0 d1 d2 c0 c1 c2 c3 t0 t1 t2 t3 y0 y1 y2
        have blv := Bk.turned bl1 (Turned.of_below hb2 []) (by simp)
        have hbv := hb1.trans (hb2.mono hb1.size)
        have scv := sc1.keep (Keeps.of_below hb2)
        have tbv := tb1.keep (Keeps.of_below hb2)
        have ybv := yb1.keep (Keeps.of_below hb2)
        clear hb2 hb1 bl1 sc1 tb1 yb1
        cases P with
        | false =>
          have hV := HST1.out (jbNext_bad (by unfold jbBad; rw [HPt.out]; simp))
          have HVf := hidp hV
          clear hV
          go_wp2_with fail
          try rw [Exit.noGoto_ret]
          go_ret
          exact ⟨ret_bool HVf.out.symm, hbv⟩
        | true =>
          have hT := timedB_true.1 HPt.out
          have htk2 := Htk.out
          obtain ⟨yk, yr, yf⟩ := y
          dsimp only at hT p3 HPt HP ybv HST1 HGO1 hyw
          obtain ⟨q, rfl⟩ : ∃ q : Nat, yk = q := ⟨yk.toNat, by omega⟩
          have hq : q < 6 := by omega
          have hqt : q < s.tasks.length := by omega
          clear p3
          obtain ⟨y0, y1, y2⟩ := id ybv
          dsimp only at y0 y1 y2
          obtain ⟨tg, toff, hTA, hTc⟩ := HS.out.tasks.at_.resolve_left (by intro e; rw [e] at hqt; simp at hqt)
          obtain ⟨r, HRt⟩ : ∃ r, Hid (s.tasks.getD q default = r) := ⟨_, rfl⟩
          have htc := (HRt.out ▸ hTc q hqt).keep (Keeps.of_below hbv)
          obtain ⟨nm2, per2, dl2, prio2, cl2, pa2, pc2, parts2⟩ := r
          obtain ⟨b0, b1, b2, b3, b4, b5⟩ := htc
          dsimp only at b1
          have dn : decide (s.tasks.length ≤ q) = false := by simp; omega
          have dq : decide (6 ≤ q) = false := by simp; omega
          obtain ⟨a, HA⟩ : ∃ a, Hid (st.getD q default = a) := ⟨_, rfl⟩
          have hin := HI.out.2 a (HA.out ▸ getD_mem (by rw [HI.out.1]; exact hq))
          obtain ⟨l0, l1, l2⟩ := HA.out ▸ DBk.c (show DBk v _ _ st from blv) (i := q) (by rw [HI.out.1]; exact hq)
          have HBd : Hid (jbBad s tk ⟨q, yr, yf⟩ = false) := hidp (by unfold jbBad; dsimp only; rw [HP.out, HPt.out]; rfl)
          obtain ⟨ak, ar, af⟩ := a
          dsimp only at l0 l1 l2 hin
          have HNr : Hid (jbNear s st ⟨q, yr, yf⟩ = (decide (0 < af) && (decide (yr < af) || decide (yr - ar < per2)))) := hidp (by unfold jbNear; simp only [Int.toNat_natCast, HA.out, HRt.out])
          have HTA := hidp hTA
          clear b0 b2 b3 b4 b5 hTc hTA
          go_upto_region 9 with fail
          have bl9 := Bk.alloc blv (.cells #[.int .i64 ak, .int .i64 ar, .int .i64 af] 32)
          have hb9 := hbv.alloc hbv.size (.cells #[.int .i64 ak, .int .i64 ar, .int .i64 af] 32)
          have sc9 := scv.keep (Keeps.alloc v (.cells #[.int .i64 ak, .int .i64 ar, .int .i64 af] 32))
          have tb9 := tbv.keep (Keeps.alloc v (.cells #[.int .i64 ak, .int .i64 ar, .int .i64 af] 32))
          have yb9 := ybv.keep (Keeps.alloc v (.cells #[.int .i64 ak, .int .i64 ar, .int .i64 af] 32))
          have ab9 := DoneBox.new v ⟨ak, ar, af⟩ 32
          have b19 := Keeps.alloc v (.cells #[.int .i64 ak, .int .i64 ar, .int .i64 af] 32) _ _ b1
          obtain ⟨v9, hv9⟩ : ∃ x, v.alloc (.cells #[.int .i64 ak, .int .i64 ar, .int .i64 af] 32) = x := ⟨_, rfl⟩
          dsimp only at ab9
          rw [hv9] at bl9 hb9 sc9 tb9 yb9 ab9 b19 ⊢
          obtain ⟨Z, hZ⟩ : ∃ x, v.heap.size = x := ⟨_, rfl⟩
          rw [hZ] at ab9 ⊢
          clear hv9 hZ blv hbv scv tbv ybv b1 l0 l1 l2 y0 y1 y2
          obtain ⟨y0, y1, y2⟩ := id yb9
          obtain ⟨a0, a1, a2⟩ := id ab9
          dsimp only at y0 y1 y2 a0 a1 a2
          have s3 := sc9.2.2.2
          rw [HTA.out] at s3
          by_cases e0 : 0 < af
          · have f0 : decide (0 < af) = true := by simpa using e0
            by_cases e1 : yr < af
            · have f1 : decide (yr < af) = true := by simpa using e1
              have hV := HST1.out (jbNext_near (by rw [HNr.out]; simp only [f0, f1, Bool.true_and, Bool.true_or, Bool.or_true]))
              have HVf := hidp hV
              clear hV e0 e1
              go_quiet (fail)
              go_wp2_with fail
              try rw [Exit.noGoto_ret]
              go_ret
              exact ⟨ret_bool HVf.out.symm, below_drewN hb9 _⟩
            · have f1 : decide (yr < af) = false := by simpa using e1
              by_cases e2 : yr - ar < per2
              · have f2 : decide (yr - ar < per2) = true := by simpa using e2
                have wr9 : IntKind.i64.wrap (yr - ar) = yr - ar := IntWalk.i64_in _ (by omega)
                have hV := HST1.out (jbNext_near (by rw [HNr.out]; simp only [f0, f1, f2, Bool.true_and, Bool.true_or, Bool.or_true]))
                have HVf := hidp hV
                clear hV e0 e1 e2
                go_quiet (fail)
                clear wr9
                go_wp2_with fail
                try rw [Exit.noGoto_ret]
                go_ret
                exact ⟨ret_bool HVf.out.symm, below_drewN hb9 _⟩
              · have f2 : decide (yr - ar < per2) = false := by simpa using e2
                have wr9 : IntKind.i64.wrap (yr - ar) = yr - ar := IntWalk.i64_in _ (by omega)
                have HNx := hidp (HGO1.out _ (jbNext_ok HBd.out (by rw [HNr.out]; simp only [f0, f1, f2, Bool.true_and, Bool.or_false])))
                clear e0 e1 e2
                go_quiet (fail)
                clear wr9
                have blq := Bk.drewN bl9 nq
                have hbq := below_drewN hb9 nq
                have scq := sc9.keep (Keeps.drewN _ nq)
                have tbq := tb9.keep (Keeps.drewN _ nq)
                have ybq := yb9.keep (Keeps.drewN _ nq)
                obtain ⟨x, hx⟩ : ∃ x, v9.drewN nq = x := ⟨_, rfl⟩
                rw [hx] at blq hbq scq tbq ybq ⊢
                clear hx y0 y1 y2 a0 a1 a2 s3 b19
                obtain ⟨y0, y1, y2⟩ := id ybq
                dsimp only at y0 y1 y2
                obtain ⟨l0, l1, l2⟩ := HA.out ▸ DBk.c (show DBk x _ _ st from blq) (i := q) (by rw [HI.out.1]; exact hq)
                dsimp only at l0 l1 l2
                have n0 := Bk.frozen blq (q * 3)
                have n1 := Bk.frozen blq (q * 3 + 1)
                have n2 := Bk.frozen blq (q * 3 + 2)
                have blN := DBk.put (show DBk x _ _ st from blq) (i := q) (by rw [HI.out.1]; exact hq) ⟨q, yr, yf⟩
                have tD := putD_turned x (w.heap.size + 1 + 1) q ⟨q, yr, yf⟩
                have HRN : Hid (JbR w (putD x (w.heap.size + 1 + 1) q ⟨q, yr, yf⟩) s ⟨tk, sa, sc', slots, some ⟨g, off, none⟩, jc, jobs, wa, wc, ws⟩ (st.set q ⟨q, yr, yf⟩)) := hidp ⟨blN, hbq.trans (tD.below hbq.size (by simp; omega)), scq.turned tD (by simp; omega), tbq.turned tD (by simp)⟩
                unfold putD at HRN
                clear blN tD blq hbq scq tbq ybq bl9 hb9 sc9 tb9 yb9 ab9
                go_wp2_with fail
                go_roundg (gk - 1)
                case measure => omega
                case rel => exact ⟨k + 1, st.set q ⟨q, yr, yf⟩, by omega, rfl, by go_num, hidp HNx.out, hidp (HI.out.set q (by dsimp only; omega)), HRN⟩
          · have f0 : decide (0 < af) = false := by simpa using e0
            have HNx := hidp (HGO1.out _ (jbNext_ok HBd.out (by rw [HNr.out]; simp only [f0, Bool.false_and])))
            clear e0
            go_quiet (fail)
            have blq := Bk.drewN bl9 nq
            have hbq := below_drewN hb9 nq
            have scq := sc9.keep (Keeps.drewN _ nq)
            have tbq := tb9.keep (Keeps.drewN _ nq)
            have ybq := yb9.keep (Keeps.drewN _ nq)
            obtain ⟨x, hx⟩ : ∃ x, v9.drewN nq = x := ⟨_, rfl⟩
            rw [hx] at blq hbq scq tbq ybq ⊢
            clear hx y0 y1 y2 a0 a1 a2 s3 b19
            obtain ⟨y0, y1, y2⟩ := id ybq
            dsimp only at y0 y1 y2
            obtain ⟨l0, l1, l2⟩ := HA.out ▸ DBk.c (show DBk x _ _ st from blq) (i := q) (by rw [HI.out.1]; exact hq)
            dsimp only at l0 l1 l2
            have n0 := Bk.frozen blq (q * 3)
            have n1 := Bk.frozen blq (q * 3 + 1)
            have n2 := Bk.frozen blq (q * 3 + 2)
            have blN := DBk.put (show DBk x _ _ st from blq) (i := q) (by rw [HI.out.1]; exact hq) ⟨q, yr, yf⟩
            have tD := putD_turned x (w.heap.size + 1 + 1) q ⟨q, yr, yf⟩
            have HRN : Hid (JbR w (putD x (w.heap.size + 1 + 1) q ⟨q, yr, yf⟩) s ⟨tk, sa, sc', slots, some ⟨g, off, none⟩, jc, jobs, wa, wc, ws⟩ (st.set q ⟨q, yr, yf⟩)) := hidp ⟨blN, hbq.trans (tD.below hbq.size (by simp; omega)), scq.turned tD (by simp; omega), tbq.turned tD (by simp)⟩
            unfold putD at HRN
            clear blN tD blq hbq scq tbq ybq bl9 hb9 sc9 tb9 yb9 ab9
            go_wp2_with fail
            go_roundg (gk - 1)
            case measure => omega
            case rel => exact ⟨k + 1, st.set q ⟨q, yr, yf⟩, by omega, rfl, by go_num, hidp HNx.out, hidp (HI.out.set q (by dsimp only; omega)), HRN⟩
    · have hV := HEN.out k st hlt Hf.out
      have HVf := hidp hV
      clear hV
      go_wp2_with fail
      try rw [Exit.noGoto_ret]
      go_ret
      exact ⟨ret_bool HVf.out.symm, hbr⟩
end Go.Proofs.Ytmchjmgifipfoaa
