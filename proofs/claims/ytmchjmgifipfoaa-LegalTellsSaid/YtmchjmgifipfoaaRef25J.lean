/- swingbridgeref25: jobs. -/
import Derived.Test.YtmchjmgifipfoaaLegSame2
import Derived.Test.YtmchjmgifipfoaaRef25R
import Derived.BigQuiet
import Derived.Deep.CutBlock
namespace Go.Proofs.Ytmchjmgifipfoaa
open Go.ChangeShapes Go.WideShapes Go.ChangeAt Go.RowKit
set_option linter.unusedVariables false
set_option linter.unusedSimpArgs false
theorem ahead_cons {q : Int} {y : DoneM} {l : List DoneM} : aheadJ q (y :: l) = if y.task = q then some y else aheadJ q l := by
  unfold aheadJ
  rw [List.find?_cons]
  by_cases h : y.task = q
  · rw [decide_eq_true h, if_pos h]
  · rw [decide_eq_false h, if_neg h]
theorem timed_bd {tk a b : Int} (h : timedB tk a b = true) (hk : tk ≤ 20000) : 0 ≤ a ∧ a < b ∧ b ≤ 20000 := by have := timedB_true.1 h; omega
/-- jobs ahead of one are within the trace's ticks -/
theorem job_in {s : SetR} {tk : Int} {xs : List DoneM} {j : Nat} (h : jobAt s tk xs j = true) : timedB tk (xs.getD j default).rel (xs.getD j default).fin = true := by
  unfold jobAt jbBad at h
  simp only [Bool.and_eq_true, Bool.not_eq_true', Bool.or_eq_false_iff] at h
  simpa using h.1.2

set_option maxHeartbeats 8000000 in
set_option maxRecDepth 100000 in
theorem rjobs_any (s : SetR) (t : TraceR) (w : World) (hs : SetOk w s) (ht : TraceOk w t) (htk : 0 ≤ t.ticks ∧ t.ticks ≤ 20000) : Calls Try.prog 44 #[.agg #[.int .i64 s.proto, .slice s.ca s.cores.length s.cc, .slice s.ha s.homes.length s.hc, .slice s.ta s.tasks.length s.tc], .agg #[.int .i64 t.ticks, .slice t.sa t.slots.length t.sc, .slice t.ja t.jobs.length t.jc, .slice t.wa t.waits.length t.wc]] w fun e w' => e = .returned (.bool (jobsQ s t)) ∧ Below w.heap.size w w' := by
  have hb := ((Below.refl w.heap.size w).alloc (Nat.le_refl _) (.cells #[.int .i64 s.proto, .slice s.ca s.cores.length s.cc, .slice s.ha s.homes.length s.hc, .slice s.ta s.tasks.length s.tc] 26)).alloc (by simp) (.cells #[.int .i64 t.ticks, .slice t.sa t.slots.length t.sc, .slice t.ja t.jobs.length t.jc, .slice t.wa t.waits.length t.wc] 38)
  have sc := (SetCells.new w s 26).keep (Keeps.alloc _ (.cells #[.int .i64 t.ticks, .slice t.sa t.slots.length t.sc, .slice t.ja t.jobs.length t.jc, .slice t.wa t.waits.length t.wc] 38))
  have tb := TraceBox.new (w.alloc (.cells #[.int .i64 s.proto, .slice s.ca s.cores.length s.cc, .slice s.ha s.homes.length s.hc, .slice s.ta s.tasks.length s.tc] 26)) t 38
  have z1 : (w.alloc (.cells #[.int .i64 s.proto, .slice s.ca s.cores.length s.cc, .slice s.ha s.homes.length s.hc, .slice s.ta s.tasks.length s.tc] 26)).heap.size = w.heap.size + 1 := by simp
  rw [z1] at tb
  have HR0 : Hid (RsR w ((w.alloc (.cells #[.int .i64 s.proto, .slice s.ca s.cores.length s.cc, .slice s.ha s.homes.length s.hc, .slice s.ta s.tasks.length s.tc] 26)).alloc (.cells #[.int .i64 t.ticks, .slice t.sa t.slots.length t.sc, .slice t.ja t.jobs.length t.jc, .slice t.wa t.waits.length t.wc] 38)) s t) := hidp ⟨hb, sc, tb⟩
  have HX := hidp ht.jobs
  have HTs := hidp hs.tasks
  have lx : t.jobs.length ≤ maxLen := Nat.le_trans ht.jsl.2.1 ht.jsl.2.2
  have l3 : s.tasks.length ≤ maxLen := Nat.le_trans hs.tasks.sl.2.1 hs.tasks.sl.2.2
  unfold maxLen at lx l3
  obtain ⟨V, HV⟩ : ∃ V, Hid (jobsQ s t = V) := ⟨_, hidp rfl⟩
  rw [HV.out]
  have Htk := hidp htk
  have HST : Hid (∀ k, k < t.jobs.length → jobAt s t.ticks t.jobs k = false → V = false) := hidp (fun k hk h => by
    rw [← HV.out]; unfold jobsQ; rw [List.all_eq_false]; exact ⟨k, List.mem_range.2 hk, by simp [h]⟩)
  have HEN : Hid ((∀ k, k < t.jobs.length → jobAt s t.ticks t.jobs k = true) → V = true) := hidp (fun h => by
    rw [← HV.out]; unfold jobsQ; rw [List.all_eq_true]; exact fun i hi => h i (List.mem_range.1 hi))
  clear z1 hs ht HV hb sc tb htk
  obtain ⟨tk, sa, sc', slots, ja, jc, jobs, wa, wc, ws⟩ := t
  dsimp only at lx HX HST HEN HR0 Htk ⊢
  go_enter Try.func44, Try.ntmps44
  go_wp2_with fail
  go_loopg [5] jobs.length (fun gg i wr => ∃ k : Nat, k + gg = jobs.length ∧ i = .int .i64 k ∧ Hid (∀ j, j < k → jobAt s tk jobs j = true) ∧ Hid (RsR w wr s ⟨tk, sa, sc', slots, ja, jc, jobs, wa, wc, ws⟩))
  case atStart => exact ⟨0, by omega, rfl, hidp (fun j hj => absurd hj (by omega)), HR0⟩
  case round =>
    obtain ⟨k, hk, rfl, Ha, HR⟩ := hrel
    clear HR0
    obtain ⟨t0, t1, t2, t3⟩ := HR.out.tb
    dsimp only at t0 t1 t2 t3
    by_cases hlt : k < jobs.length
    · obtain ⟨g, off, hA, hd⟩ := HX.out.resolve_left (by intro e; rw [e] at hlt; simp at hlt)
      obtain ⟨x, Hx⟩ : ∃ x, Hid (jobs.getD k default = x) := ⟨_, rfl⟩
      obtain ⟨d0, d1, d2⟩ := (Hx.out ▸ hd k hlt).keep (Keeps.of_below HR.out.b)
      have Hd0 := hidp hd
      have kI : (k : Int) < (jobs.length : Int) := by omega
      have HR1 := hidp (HR.out.alloc (.cells #[.int .i64 x.task, .int .i64 x.rel, .int .i64 x.fin] 32))
      have xb := DoneBox.new wr x 32
      obtain ⟨Y, hY⟩ : ∃ Y, wr.heap.size = Y := ⟨_, rfl⟩
      rw [hY] at xb
      have hst := HST.out k hlt
      have hgo : jobAt s tk jobs k = true → ∀ j, j < k + 1 → jobAt s tk jobs j = true := fun h j hj => by
        by_cases e : j = k
        · subst e; exact h
        · exact Ha.out j (by omega)
      have Hst := hidp hst
      have Hgo := hidp hgo
      have HAt : Hid (jobAt s tk jobs k = (!jbBad s tk x && match aheadJ x.task (jobs.take k).reverse with | none => true | some y => !nearJ s x y)) := hidp (by rw [← Hx.out]; rfl)
      clear hst hgo hd
      subst hA
      obtain ⟨xk, xr, xf⟩ := x
      dsimp only at d0 d1 d2 HR1 xb HAt
      go_upto_region 5 with fail
      obtain ⟨v, hv⟩ : ∃ v, wr.alloc (.cells #[.int .i64 xk, .int .i64 xr, .int .i64 xf] 32) = v := ⟨_, rfl⟩
      rw [hv] at HR1 xb ⊢
      try rw [hY]
      clear hv hY d0 d1 d2 t0 t1 t2 t3 kI HR
      obtain ⟨t0, t1, t2, t3⟩ := HR1.out.tb
      obtain ⟨c0, c1, c2, c3⟩ := HR1.out.sc
      obtain ⟨x0, x1, x2⟩ := id xb
      dsimp only at t0 t1 t2 t3 x0 x1 x2
      have HPn : Hid (¬ ((0 ≤ xk ∧ xk ≤ (s.tasks.length : Int) - 1) ∧ (0 ≤ xr ∧ xr < xf ∧ xf ≤ tk)) → jbBad s tk ⟨xk, xr, xf⟩ = true) := hidp (fun h => by
        cases hp : jbBad s tk ⟨xk, xr, xf⟩ with
        | true => rfl
        | false =>
          unfold jbBad at hp
          rw [Bool.or_eq_false_iff] at hp
          exact absurd ⟨inB_true.1 (show inB xk 0 ((s.tasks.length : Int) - 1) = true by simpa using hp.1), timedB_true.1 (show timedB tk xr xf = true by simpa using hp.2)⟩ h)
      by_cases a0 : 0 ≤ xk
      · have b0 : decide (xk < 0) = false := by simp; omega
        by_cases a1 : xk < (s.tasks.length : Int)
        · have b1 : decide ((s.tasks.length : Int) ≤ xk) = false := by simp; omega
          by_cases a2 : 0 ≤ xr
          · have b2 : decide (xr < 0) = false := by simp; omega
            by_cases a3 : xr < xf
            · have b3 : decide (xf ≤ xr) = false := by simp; omega
              by_cases a4 : xf ≤ tk
              · have b4 : decide (tk < xf) = false := by simp; omega
                have HB : Hid (jbBad s tk ⟨xk, xr, xf⟩ = false) := hidp (by unfold jbBad; dsimp only; rw [inB_true.2 (show 0 ≤ xk ∧ xk ≤ (s.tasks.length : Int) - 1 by omega), timedB_true.2 ⟨a2, a3, a4⟩]; rfl)
                obtain ⟨q, rfl⟩ : ∃ q : Nat, xk = q := ⟨xk.toNat, by omega⟩
                have hql : q < s.tasks.length := by omega
                have dq : decide (s.tasks.length ≤ q) = false := by simp; omega
                obtain ⟨tg, toff, hTA, hTc⟩ := HTs.out.at_.resolve_left (by intro e; rw [e] at hql; simp at hql)
                obtain ⟨r, Hr⟩ : ∃ r, Hid (s.tasks.getD q default = r) := ⟨_, rfl⟩
                have HTc := hidp (Hr.out ▸ hTc q hql)
                have HTA := hidp hTA
                clear hTA hTc HPn
                obtain ⟨nm, per, dl, prio, cl, pa, pc, parts⟩ := r
                have HA2 : Hid (jobAt s tk jobs k = match aheadJ (q : Int) (jobs.take k).reverse with | none => true | some y => !(decide (xr < y.fin) || decide (xr - y.rel < per))) := hidp (by rw [HAt.out, HB.out]; simp only [Bool.not_false, Bool.true_and, nearJ, Int.toNat_natCast, Hr.out])
                have Hxb := hidp xb
                clear xb HAt HB
                obtain ⟨kv, hkv⟩ : ∃ kv : Int, (k : Int) - 1 = kv := ⟨_, rfl⟩
                have wk1 : IntKind.i64.wrap ((k : Int) - 1) = kv := by rw [hkv]; exact IntWalk.i64_in _ (by omega)
                have Hkv := hidp hkv
                have tk2 := Htk.out
                have xf2 : xf ≤ 20000 := by omega
                clear tk2
                go_wp2_with fail
                clear hkv wk1 t0 t1 t2 t3 c0 c1 c2 c3 x0 x1 x2
                go_loopg [7] (k + 1) (fun gg b wr => ∃ (j : Nat) (jv : Int), gg = j + 1 ∧ j ≤ k ∧ b = .int .i64 jv ∧ Hid (jv = (j : Int) - 1) ∧ Hid (aheadJ (q : Int) (jobs.take k).reverse = aheadJ (q : Int) (jobs.take j).reverse) ∧ Hid (RsR w wr s ⟨tk, sa, sc', slots, some ⟨g, off, none⟩, jc, jobs, wa, wc, ws⟩) ∧ Hid (DoneBox wr Y ⟨q, xr, xf⟩))
                case atStart => exact ⟨k, kv, rfl, Nat.le_refl _, rfl, hidp (by rw [← Hkv.out]), hidp rfl, HR1, Hxb⟩
                case round =>
                  obtain ⟨j, jv, hgg, hjk, rfl, Hjv, Hsc, HQ, HB⟩ := hrel
                  clear HR1 Hxb
                  obtain ⟨t0, t1, t2, t3⟩ := HQ.out.tb
                  obtain ⟨x0, x1, x2⟩ := HB.out
                  dsimp only at t0 t1 t2 t3 x0 x1 x2
                  by_cases hj0 : j = 0
                  · have hjv : jv = -1 := by have := Hjv.out; omega
                    have f0 : decide (0 ≤ jv) = false := by simp; omega
                    have hA := Hgo.out (by rw [HA2.out, Hsc.out, hj0]; rfl)
                    have HA4 := hidp hA
                    clear hjv hj0 Hsc hA
                    go_wp2_with fail
                    go_roundg (jobs.length - k - 1)
                    case measure => omega
                    case rel => exact ⟨k + 1, by omega, by go_num, HA4, HQ⟩
                  · obtain ⟨m, hm⟩ : ∃ m : Nat, jv = m := ⟨(j - 1 : Nat), by have := Hjv.out; omega⟩
                    have hmj : m + 1 = j := by have := Hjv.out; omega
                    have hml : m < jobs.length := by omega
                    have dm : decide (jobs.length ≤ m) = false := by simp; omega
                    obtain ⟨y, Hy⟩ : ∃ y, Hid (jobs.getD m default = y) := ⟨_, rfl⟩
                    have hin := timed_bd (Hy.out ▸ job_in (Ha.out m (by omega))) Htk.out.2
                    obtain ⟨e0, e1, e2⟩ := (Hy.out ▸ Hd0.out m hml).keep (Keeps.of_below HQ.out.b)
                    have Hrv : Hid ((jobs.take j).reverse = y :: (jobs.take m).reverse) := hidp (by rw [← hmj, revD_snoc hml, Hy.out])
                    have HQ1 := hidp (HQ.out.alloc (.cells #[.int .i64 y.task, .int .i64 y.rel, .int .i64 y.fin] 32))
                    have HB1 := hidp (HB.out.keep (Keeps.alloc wr (.cells #[.int .i64 y.task, .int .i64 y.rel, .int .i64 y.fin] 32)))
                    have yb := DoneBox.new wr y 32
                    obtain ⟨Z, hZ⟩ : ∃ Z, wr.heap.size = Z := ⟨_, rfl⟩
                    rw [hZ] at yb
                    obtain ⟨yk, yr, yf⟩ := y
                    dsimp only at e0 e1 e2 hin HQ1 HB1 yb
                    subst hm
                    have Hmj := hidp hmj
                    clear hmj hj0
                    have mI : (m : Int) < (jobs.length : Int) := by omega
                    go_upto_region 11 with fail
                    obtain ⟨u, hu⟩ : ∃ v, wr.alloc (.cells #[.int .i64 yk, .int .i64 yr, .int .i64 yf] 32) = v := ⟨_, rfl⟩
                    rw [hu] at HQ1 HB1 yb ⊢
                    try rw [hZ]
                    clear hu hZ e0 e1 e2 t0 t1 t2 t3 x0 x1 x2 HQ HB
                    obtain ⟨x0, x1, x2⟩ := HB1.out
                    obtain ⟨y0, y1, y2⟩ := id yb
                    obtain ⟨c0, c1, c2, c3⟩ := HQ1.out.sc
                    dsimp only at x0 x1 x2 y0 y1 y2
                    by_cases hyk : yk = (q : Int)
                    · have f1 : (yk == (q : Int)) = true := by simpa using hyk
                      have HN : Hid (jobAt s tk jobs k = !(decide (xr < yf) || decide (xr - yr < per))) := hidp (by rw [HA2.out, Hsc.out, Hrv.out, ahead_cons, if_pos hyk])
                      clear hyk
                      rw [HTA.out] at c3
                      obtain ⟨g0, g1, g2, g3, g4, g5⟩ := HTc.out.keep (Keeps.of_below HQ1.out.b)
                      dsimp only at g1
                      clear g0 g2 g3 g4 g5
                      by_cases h1 : xr < yf
                      · have f2 : decide (xr < yf) = true := by simpa using h1
                        have hV := Hst.out (by rw [HN.out, f2]; rfl)
                        have HVf := hidp hV
                        clear hV
                        go_wp2_with fail
                        go_quiet (fail)
                        go_wp2_with fail
                        go_ret
                        exact ⟨ret_bool HVf.out.symm, below_drewN HQ1.out.b _⟩
                      · have f2 : decide (xr < yf) = false := by simpa using h1
                        have wr9 : IntKind.i64.wrap (xr - yr) = xr - yr := IntWalk.i64_in _ (by omega)
                        by_cases h2 : xr - yr < per
                        · have f3 : decide (xr - yr < per) = true := by simpa using h2
                          have hV := Hst.out (by rw [HN.out, f2, f3]; rfl)
                          have HVf := hidp hV
                          clear hV
                          go_wp2_with fail
                          go_quiet (fail)
                          clear wr9
                          go_wp2_with fail
                          go_ret
                          exact ⟨ret_bool HVf.out.symm, below_drewN HQ1.out.b _⟩
                        · have f3 : decide (xr - yr < per) = false := by simpa using h2
                          have hA := Hgo.out (by rw [HN.out, f2, f3]; rfl)
                          have HA4 := hidp hA
                          clear hA
                          go_wp2_with fail
                          go_quiet (fail)
                          clear wr9
                          go_wp2_with fail
                          go_roundg (jobs.length - k - 1)
                          case measure => omega
                          case rel => exact ⟨k + 1, by omega, by go_num, HA4, hidp (HQ1.out.drewN _)⟩
                    · have f1 : (yk == (q : Int)) = false := by simpa using hyk
                      have HN : Hid (aheadJ (q : Int) (jobs.take k).reverse = aheadJ (q : Int) (jobs.take m).reverse) := hidp (by rw [Hsc.out, Hrv.out, ahead_cons, if_neg hyk])
                      clear hyk Hsc
                      obtain ⟨mv, hmv⟩ : ∃ mv : Int, (m : Int) - 1 = mv := ⟨_, rfl⟩
                      have wm : IntKind.i64.wrap ((m : Int) - 1) = mv := by rw [hmv]; exact IntWalk.i64_in _ (by omega)
                      have Hmv := hidp hmv
                      go_wp2_with fail
                      clear wm hmv
                      go_roundg (gk - 1)
                      case measure => have := Hmj.out; omega
                      case rel => exact ⟨m, mv, by have := Hmj.out; omega, by have := Hmj.out; omega, rfl, hidp Hmv.out.symm, HN, HQ1, HB1⟩
              · have b4 : decide (tk < xf) = true := by simp; omega
                have hV := Hst.out (by rw [HAt.out, HPn.out (fun h => a4 (by omega))]; rfl)
                have HVf := hidp hV
                clear hV HPn
                go_wp2_with fail
                go_ret
                exact ⟨ret_bool HVf.out.symm, HR1.out.b⟩
            · have b3 : decide (xf ≤ xr) = true := by simp; omega
              have hV := Hst.out (by rw [HAt.out, HPn.out (fun h => a3 (by omega))]; rfl)
              have HVf := hidp hV
              clear hV HPn
              go_wp2_with fail
              go_ret
              exact ⟨ret_bool HVf.out.symm, HR1.out.b⟩
          · have b2 : decide (xr < 0) = true := by simp; omega
            have hV := Hst.out (by rw [HAt.out, HPn.out (fun h => a2 (by omega))]; rfl)
            have HVf := hidp hV
            clear hV HPn
            go_wp2_with fail
            go_ret
            exact ⟨ret_bool HVf.out.symm, HR1.out.b⟩
        · have b1 : decide ((s.tasks.length : Int) ≤ xk) = true := by simp; omega
          have hV := Hst.out (by rw [HAt.out, HPn.out (fun h => a1 (by omega))]; rfl)
          have HVf := hidp hV
          clear hV HPn
          go_wp2_with fail
          go_ret
          exact ⟨ret_bool HVf.out.symm, HR1.out.b⟩
      · have b0 : decide (xk < 0) = true := by simp; omega
        have hV := Hst.out (by rw [HAt.out, HPn.out (fun h => a0 (by omega))]; rfl)
        have HVf := hidp hV
        clear hV HPn
        go_wp2_with fail
        go_ret
        exact ⟨ret_bool HVf.out.symm, HR1.out.b⟩
    · have hV := HEN.out (fun j hj => Ha.out j (by omega))
      have HVf := hidp hV
      have kI : ¬ (k : Int) < (jobs.length : Int) := by omega
      clear hV
      go_wp2_with fail
      go_ret
      exact ⟨ret_bool HVf.out.symm, HR.out.b⟩
end Go.Proofs.Ytmchjmgifipfoaa
