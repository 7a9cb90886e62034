/- swingbridgeref25: waits. -/
import Derived.Test.YtmchjmgifipfoaaLegSame2
import Derived.Test.YtmchjmgifipfoaaRef25L
import Derived.Test.YtmchjmgifipfoaaRef25R
import Derived.BigQuiet
import Derived.Deep.CutBlock
namespace Go.Proofs.Ytmchjmgifipfoaa
open Go.ChangeShapes Go.WideShapes Go.ChangeAt Go.RowKit
set_option linter.unusedVariables false
set_option linter.unusedSimpArgs false
theorem wait_in {s : SetR} {tk : Int} {xs : List WaitM} {j : Nat} (h : waitAt s tk xs j = true) : resL s (xs.getD j default) = true := by
  unfold waitAt wtBad at h
  simp only [Bool.and_eq_true, Bool.not_eq_true', Bool.or_eq_false_iff] at h
  simpa using h.1.1.1
theorem lock_ok {s : SetR} {x : WaitM} (h : okS s = true) : lockK s x = resL s x := by unfold lockK; rw [h, Bool.true_and]
theorem lock_in {s : SetR} {x : WaitM} (h : lockK s x = true) : lockI s x = resI s x := by unfold lockI; rw [if_pos h]
theorem allW_snoc {f : WaitM → Bool} {xs : List WaitM} {k : Nat} (hk : k < xs.length) (h1 : (xs.take k).all f = true) (h2 : f (xs.getD k default) = true) : (xs.take (k + 1)).all f = true := by
  rw [take_snocD xs k hk, List.all_append, h1, Bool.true_and]
  show (f (xs.getD k default) && true) = true
  rw [h2]; rfl
theorem allW_bad {f : WaitM → Bool} {xs : List WaitM} {j k : Nat} (hj : j < k) (hk : k ≤ xs.length) (h2 : f (xs.getD j default) = false) : (xs.take k).all f = false := by
  rw [List.all_eq_false]
  refine ⟨xs.getD j default, ?_, by rw [h2]; decide⟩
  have e : (xs.take k).getD j default = xs.getD j default := by simp [List.getD_eq_getElem?_getD, List.getElem?_take, hj]
  rw [← e]
  exact getD_mem (by simp; omega)

set_option maxHeartbeats 8000000 in
set_option maxRecDepth 100000 in
theorem rwaits_any (s : SetR) (t : TraceR) (w : World) (hs : SetOk w s) (ht : TraceOk w t) (hok : okS s = true) : Calls Try.prog 45 #[.agg #[.int .i64 s.proto, .slice s.ca s.cores.length s.cc, .slice s.ha s.homes.length s.hc, .slice s.ta s.tasks.length s.tc], .agg #[.int .i64 t.ticks, .slice t.sa t.slots.length t.sc, .slice t.ja t.jobs.length t.jc, .slice t.wa t.waits.length t.wc]] w fun e w' => e = .returned (.bool (waitsQ s t)) ∧ Below w.heap.size w w' := by
  have hb := ((Below.refl w.heap.size w).alloc (Nat.le_refl _) (.cells #[.int .i64 s.proto, .slice s.ca s.cores.length s.cc, .slice s.ha s.homes.length s.hc, .slice s.ta s.tasks.length s.tc] 26)).alloc (by simp) (.cells #[.int .i64 t.ticks, .slice t.sa t.slots.length t.sc, .slice t.ja t.jobs.length t.jc, .slice t.wa t.waits.length t.wc] 38)
  have sc := (SetCells.new w s 26).keep (Keeps.alloc _ (.cells #[.int .i64 t.ticks, .slice t.sa t.slots.length t.sc, .slice t.ja t.jobs.length t.jc, .slice t.wa t.waits.length t.wc] 38))
  have tb := TraceBox.new (w.alloc (.cells #[.int .i64 s.proto, .slice s.ca s.cores.length s.cc, .slice s.ha s.homes.length s.hc, .slice s.ta s.tasks.length s.tc] 26)) t 38
  have z1 : (w.alloc (.cells #[.int .i64 s.proto, .slice s.ca s.cores.length s.cc, .slice s.ha s.homes.length s.hc, .slice s.ta s.tasks.length s.tc] 26)).heap.size = w.heap.size + 1 := by simp
  rw [z1] at tb
  have HR0 : Hid (RsR w ((w.alloc (.cells #[.int .i64 s.proto, .slice s.ca s.cores.length s.cc, .slice s.ha s.homes.length s.hc, .slice s.ta s.tasks.length s.tc] 26)).alloc (.cells #[.int .i64 t.ticks, .slice t.sa t.slots.length t.sc, .slice t.ja t.jobs.length t.jc, .slice t.wa t.waits.length t.wc] 38)) s t) := hidp ⟨hb, sc, tb⟩
  have HX := hidp ht.waits
  have HS := hidp hs
  have HOK := hidp hok
  have lx : t.waits.length ≤ maxLen := Nat.le_trans ht.wsl.2.1 ht.wsl.2.2
  unfold maxLen at lx
  obtain ⟨V, HV⟩ : ∃ V, Hid (waitsQ s t = V) := ⟨_, hidp rfl⟩
  rw [HV.out]
  have HST : Hid (∀ k, k < t.waits.length → waitAt s t.ticks t.waits k = false → V = false) := hidp (fun k hk h => by
    rw [← HV.out]; unfold waitsQ; rw [List.all_eq_false]; exact ⟨k, List.mem_range.2 hk, by simp [h]⟩)
  have HEN : Hid ((∀ k, k < t.waits.length → waitAt s t.ticks t.waits k = true) → V = true) := hidp (fun h => by
    rw [← HV.out]; unfold waitsQ; rw [List.all_eq_true]; exact fun i hi => h i (List.mem_range.1 hi))
  clear z1 hs ht HV hb sc tb hok
  obtain ⟨tk, sa, sc', slots, ja, jc, jobs, wa, wc, ws⟩ := t
  dsimp only at lx HX HST HEN HR0 ⊢
  go_enter Try.func45, Try.ntmps45
  go_wp2_with fail
  go_loopg [5] ws.length (fun gg i wr => ∃ k : Nat, k + gg = ws.length ∧ i = .int .i64 k ∧ Hid (∀ j, j < k → waitAt s tk ws j = true) ∧ Hid (RsR w wr s ⟨tk, sa, sc', slots, ja, jc, jobs, wa, wc, ws⟩))
  case atStart => exact ⟨0, by omega, rfl, hidp (fun j hj => absurd hj (by omega)), HR0⟩
  case round =>
    obtain ⟨k, hk, rfl, Ha, HR⟩ := hrel
    clear HR0
    obtain ⟨t0, t1, t2, t3⟩ := HR.out.tb
    dsimp only at t0 t1 t2 t3
    by_cases hlt : k < ws.length
    · obtain ⟨g, off, hA, hd⟩ := HX.out.resolve_left (by intro e; rw [e] at hlt; simp at hlt)
      obtain ⟨x, Hx⟩ : ∃ x, Hid (ws.getD k default = x) := ⟨_, rfl⟩
      obtain ⟨d0, d1, d2, d3, d4⟩ := (Hx.out ▸ hd k hlt).keep (Keeps.of_below HR.out.b)
      have Hd0 := hidp hd
      have kI : (k : Int) < (ws.length : Int) := by omega
      have HR1 := hidp (HR.out.alloc (.cells #[.int .i64 x.task, .int .i64 x.part, .int .i64 x.ask, .int .i64 x.got, .int .i64 x.fin] 35))
      have xb := WaitBox.new wr x 35
      obtain ⟨Y, hY⟩ : ∃ Y, wr.heap.size = Y := ⟨_, rfl⟩
      rw [hY] at xb
      have hst := HST.out k hlt
      have hgo : waitAt s tk ws k = true → ∀ j, j < k + 1 → waitAt s tk ws j = true := fun h j hj => by
        by_cases e : j = k
        · subst e; exact h
        · exact Ha.out j (by omega)
      have Hst := hidp hst
      have Hgo := hidp hgo
      have HAt : Hid (waitAt s tk ws k = (!wtBad s tk x && (ws.take k).all fun y => !clashW s x y)) := hidp (by rw [← Hx.out]; rfl)
      clear hst hgo hd
      subst hA
      obtain ⟨xk, xp, xa, xg, xf⟩ := x
      dsimp only at d0 d1 d2 d3 d4 HR1 xb HAt
      go_upto_region 5 with fail
      obtain ⟨v, hv⟩ : ∃ v, wr.alloc (.cells #[.int .i64 xk, .int .i64 xp, .int .i64 xa, .int .i64 xg, .int .i64 xf] 35) = v := ⟨_, rfl⟩
      rw [hv] at HR1 xb ⊢
      try rw [hY]
      clear hv hY d0 d1 d2 d3 d4 t0 t1 t2 t3 kI HR
      have H1 := hidp (HS.out.keep (Keeps.of_below HR1.out.b))
      obtain ⟨c0, c1, c2, c3⟩ := HR1.out.sc
      obtain ⟨x0, x1, x2, x3, x4⟩ := id xb
      dsimp only at x0 x1 x2 x3 x4
      go_wp2_with fail
      refine (rlock_any s ⟨xk, xp, xa, xg, xf⟩ _ H1.out).mono ?_
      rintro e u ⟨rfl, hb2⟩
      obtain ⟨RI, HRI⟩ : ∃ v, Hid (lockI s ⟨xk, xp, xa, xg, xf⟩ = v) := ⟨_, hidp rfl⟩
      obtain ⟨RL, HRL⟩ : ∃ v, Hid (lockK s ⟨xk, xp, xa, xg, xf⟩ = v) := ⟨_, hidp rfl⟩
      rw [HRI.out, HRL.out]
      replace HR1 := hidp (HR1.out.keep hb2)
      replace xb := xb.keep (Keeps.of_below hb2)
      clear hb2 c0 c1 c2 c3 x0 x1 x2 x3 x4 H1
      obtain ⟨t0, t1, t2, t3⟩ := HR1.out.tb
      obtain ⟨x0, x1, x2, x3, x4⟩ := id xb
      dsimp only at t0 t1 t2 t3 x0 x1 x2 x3 x4
      have HPn : Hid (¬ (RL = true ∧ (0 ≤ xa ∧ xa ≤ xg) ∧ (xg < xf ∧ xf ≤ tk)) → wtBad s tk ⟨xk, xp, xa, xg, xf⟩ = true) := hidp (fun h => by
        cases hp : wtBad s tk ⟨xk, xp, xa, xg, xf⟩ with
        | true => rfl
        | false =>
          unfold wtBad at hp
          rw [Bool.or_eq_false_iff, Bool.or_eq_false_iff] at hp
          have h1 := inB_true.1 (show inB xa 0 xg = true by simpa using hp.1.2)
          have h2 := timedB_true.1 (show timedB tk xg xf = true by simpa using hp.2)
          exact absurd ⟨by rw [← HRL.out, lock_ok HOK.out]; simpa using hp.1.1, h1, h2.2⟩ h)
      cases RL with
      | false =>
        have hV := Hst.out (by rw [HAt.out, HPn.out (fun h => by cases h.1)]; rfl)
        have HVf := hidp hV
        clear hV HPn
        go_wp2_with fail
        go_ret
        exact ⟨ret_bool HVf.out.symm, HR1.out.b⟩
      | true =>
        by_cases a0 : 0 ≤ xa
        · have b0 : decide (xa < 0) = false := by simp; omega
          by_cases a1 : xa ≤ xg
          · have b1 : decide (xg < xa) = false := by simp; omega
            by_cases a2 : xg < xf
            · have b2 : decide (xf ≤ xg) = false := by simp; omega
              by_cases a3 : xf ≤ tk
              · have b3 : decide (tk < xf) = false := by simp; omega
                have HB : Hid (wtBad s tk ⟨xk, xp, xa, xg, xf⟩ = false) := hidp (by unfold wtBad; dsimp only; rw [inB_true.2 (show 0 ≤ xa ∧ xa ≤ xg from ⟨a0, a1⟩), timedB_true.2 ⟨by omega, a2, a3⟩, ← lock_ok HOK.out, HRL.out]; rfl)
                have HA2 : Hid (waitAt s tk ws k = (ws.take k).all fun y => !clashW s ⟨xk, xp, xa, xg, xf⟩ y) := hidp (by rw [HAt.out, HB.out]; rfl)
                have HI2 : Hid (resI s ⟨xk, xp, xa, xg, xf⟩ = RI) := hidp (by rw [← HRI.out]; exact (lock_in HRL.out).symm)
                have Hxb := hidp xb
                clear xb HAt HB HPn
                go_wp2_with fail
                clear t0 t1 t2 t3 x0 x1 x2 x3 x4 b0 b1 b2 b3
                go_loopg [9] k (fun gg b wr => ∃ j : Nat, j + gg = k ∧ b = .int .i64 j ∧ Hid (((ws.take j).all fun y => !clashW s ⟨xk, xp, xa, xg, xf⟩ y) = true) ∧ Hid (RsR w wr s ⟨tk, sa, sc', slots, ja, jc, jobs, some ⟨g, off, none⟩, wc, ws⟩) ∧ Hid (WaitBox wr Y ⟨xk, xp, xa, xg, xf⟩))
                case atStart => exact ⟨0, by omega, rfl, hidp rfl, HR1, Hxb⟩
                case round =>
                  obtain ⟨j, hj, rfl, Hall, HQ, HB⟩ := hrel
                  clear HR1 Hxb
                  obtain ⟨t0, t1, t2, t3⟩ := HQ.out.tb
                  obtain ⟨x0, x1, x2, x3, x4⟩ := HB.out
                  dsimp only at t0 t1 t2 t3 x0 x1 x2 x3 x4
                  by_cases hjk : j < k
                  · have hml : j < ws.length := by omega
                    have dm : decide (ws.length ≤ j) = false := by simp; omega
                    have jI : (j : Int) < (k : Int) := by omega
                    have mI : (j : Int) < (ws.length : Int) := by omega
                    obtain ⟨y, Hy⟩ : ∃ y, Hid (ws.getD j default = y) := ⟨_, rfl⟩
                    have HKy : Hid (lockK s y = true) := hidp (by rw [lock_ok HOK.out]; exact Hy.out ▸ wait_in (Ha.out j hjk))
                    obtain ⟨e0, e1, e2, e3, e4⟩ := (Hy.out ▸ Hd0.out j hml).keep (Keeps.of_below HQ.out.b)
                    have HQ1 := hidp (HQ.out.alloc (.cells #[.int .i64 y.task, .int .i64 y.part, .int .i64 y.ask, .int .i64 y.got, .int .i64 y.fin] 35))
                    have HB1 := hidp (HB.out.keep (Keeps.alloc wr (.cells #[.int .i64 y.task, .int .i64 y.part, .int .i64 y.ask, .int .i64 y.got, .int .i64 y.fin] 35)))
                    have yb := WaitBox.new wr y 35
                    obtain ⟨Z, hZ⟩ : ∃ Z, wr.heap.size = Z := ⟨_, rfl⟩
                    rw [hZ] at yb
                    have hno : clashW s ⟨xk, xp, xa, xg, xf⟩ y = true → V = false := fun h => Hst.out (by rw [HA2.out]; exact allW_bad hjk (by omega) (by rw [Hy.out, h]; rfl))
                    have hyes : clashW s ⟨xk, xp, xa, xg, xf⟩ y = false → ((ws.take (j + 1)).all fun y => !clashW s ⟨xk, xp, xa, xg, xf⟩ y) = true := fun h => allW_snoc hml Hall.out (by rw [Hy.out, h]; rfl)
                    have Hno := hidp hno
                    have Hyes := hidp hyes
                    clear hno hyes
                    obtain ⟨yk, yp, ya, yg, yf⟩ := y
                    dsimp only at e0 e1 e2 e3 e4 HQ1 HB1 yb
                    go_upto_region 12 with fail
                    obtain ⟨v2, hv2⟩ : ∃ v, wr.alloc (.cells #[.int .i64 yk, .int .i64 yp, .int .i64 ya, .int .i64 yg, .int .i64 yf] 35) = v := ⟨_, rfl⟩
                    rw [hv2] at HQ1 HB1 yb ⊢
                    try rw [hZ]
                    clear hv2 hZ e0 e1 e2 e3 e4 t0 t1 t2 t3 x0 x1 x2 x3 x4 HQ HB jI
                    have H1 := hidp (HS.out.keep (Keeps.of_below HQ1.out.b))
                    obtain ⟨c0, c1, c2, c3⟩ := HQ1.out.sc
                    obtain ⟨y0, y1, y2, y3, y4⟩ := id yb
                    dsimp only at y0 y1 y2 y3 y4
                    go_wp2_with fail
                    refine (rlock_any s ⟨yk, yp, ya, yg, yf⟩ _ H1.out).mono ?_
                    rintro e u2 ⟨rfl, hb2⟩
                    obtain ⟨LI, HLI⟩ : ∃ v, Hid (lockI s ⟨yk, yp, ya, yg, yf⟩ = v) := ⟨_, hidp rfl⟩
                    rw [HLI.out, HKy.out]
                    have HL2 : Hid (resI s ⟨yk, yp, ya, yg, yf⟩ = LI) := hidp (by rw [← HLI.out]; exact (lock_in HKy.out).symm)
                    replace HQ1 := hidp (HQ1.out.keep hb2)
                    replace HB1 := hidp (HB1.out.keep (Keeps.of_below hb2))
                    replace yb := yb.keep (Keeps.of_below hb2)
                    clear hb2 c0 c1 c2 c3 y0 y1 y2 y3 y4 H1
                    obtain ⟨x0, x1, x2, x3, x4⟩ := HB1.out
                    obtain ⟨y0, y1, y2, y3, y4⟩ := id yb
                    dsimp only at x0 x1 x2 x3 x4 y0 y1 y2 y3 y4
                    have HCl : Hid (clashW s ⟨xk, xp, xa, xg, xf⟩ ⟨yk, yp, ya, yg, yf⟩ = (decide (LI = RI) && (decide (xg < yf) && decide (yg < xf)))) := hidp (by unfold clashW; rw [HL2.out, HI2.out])
                    by_cases hq : LI = RI
                    · have f1 : (LI == RI) = true := by simpa using hq
                      have f0 : decide (LI = RI) = true := by simpa using hq
                      clear hq
                      by_cases h1 : xg < yf
                      · have f2 : decide (xg < yf) = true := by simpa using h1
                        by_cases h2 : yg < xf
                        · have f3 : decide (yg < xf) = true := by simpa using h2
                          have hV := Hno.out (by rw [HCl.out]; simp only [f0, f2, f3]; rfl)
                          have HVf := hidp hV
                          clear hV
                          go_wp2_with fail
                          go_ret
                          exact ⟨ret_bool HVf.out.symm, HQ1.out.b⟩
                        · have f3 : decide (yg < xf) = false := by simpa using h2
                          have hN := Hyes.out (by rw [HCl.out]; simp only [f0, f2, f3]; rfl)
                          have HN := hidp hN
                          clear hN
                          go_wp2_with fail
                          go_roundg (gk - 1)
                          case measure => omega
                          case rel => exact ⟨j + 1, by omega, by go_num, HN, HQ1, HB1⟩
                      · have f2 : decide (xg < yf) = false := by simpa using h1
                        have hN := Hyes.out (by rw [HCl.out]; simp only [f0, f2]; rfl)
                        have HN := hidp hN
                        clear hN
                        go_wp2_with fail
                        go_roundg (gk - 1)
                        case measure => omega
                        case rel => exact ⟨j + 1, by omega, by go_num, HN, HQ1, HB1⟩
                    · have f1 : (LI == RI) = false := by simpa using hq
                      have f0 : decide (LI = RI) = false := by simpa using hq
                      clear hq
                      have hN := Hyes.out (by rw [HCl.out]; simp only [f0]; rfl)
                      have HN := hidp hN
                      clear hN
                      go_wp2_with fail
                      go_roundg (gk - 1)
                      case measure => omega
                      case rel => exact ⟨j + 1, by omega, by go_num, HN, HQ1, HB1⟩
                  · have hjk2 : j = k := by omega
                    have jI : ¬ (j : Int) < (k : Int) := by omega
                    have hA := Hgo.out (by rw [HA2.out, ← hjk2]; exact Hall.out)
                    have HA4 := hidp hA
                    clear hA hjk2
                    go_wp2_with fail
                    go_roundg (ws.length - k - 1)
                    case measure => omega
                    case rel => exact ⟨k + 1, by omega, by go_num, HA4, HQ⟩
              · have b3 : decide (tk < xf) = true := by simp; omega
                have hV := Hst.out (by rw [HAt.out, HPn.out (fun h => a3 h.2.2.2)]; rfl)
                have HVf := hidp hV
                clear hV HPn
                go_wp2_with fail
                go_ret
                exact ⟨ret_bool HVf.out.symm, HR1.out.b⟩
            · have b2 : decide (xf ≤ xg) = true := by simp; omega
              have hV := Hst.out (by rw [HAt.out, HPn.out (fun h => a2 h.2.2.1)]; rfl)
              have HVf := hidp hV
              clear hV HPn
              go_wp2_with fail
              go_ret
              exact ⟨ret_bool HVf.out.symm, HR1.out.b⟩
          · have b1 : decide (xg < xa) = true := by simp; omega
            have hV := Hst.out (by rw [HAt.out, HPn.out (fun h => a1 h.2.1.2)]; rfl)
            have HVf := hidp hV
            clear hV HPn
            go_wp2_with fail
            go_ret
            exact ⟨ret_bool HVf.out.symm, HR1.out.b⟩
        · have b0 : decide (xa < 0) = true := by simp; omega
          have hV := Hst.out (by rw [HAt.out, HPn.out (fun h => a0 h.2.1.1)]; rfl)
          have HVf := hidp hV
          clear hV HPn
          go_wp2_with fail
          go_ret
          exact ⟨ret_bool HVf.out.symm, HR1.out.b⟩
    · have hV := HEN.out (fun j hj => Ha.out j (by omega))
      have HVf := hidp hV
      have kI : ¬ (k : Int) < (ws.length : Int) := by omega
      clear hV
      go_wp2_with fail
      go_ret
      exact ⟨ret_bool HVf.out.symm, HR.out.b⟩
end Go.Proofs.Ytmchjmgifipfoaa
