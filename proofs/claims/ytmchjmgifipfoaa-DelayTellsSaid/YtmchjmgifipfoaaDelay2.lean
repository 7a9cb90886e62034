/- delay: Passed. -/
import Derived.Test.YtmchjmgifipfoaaDelay1
namespace Go.Proofs.Ytmchjmgifipfoaa
open Go.ChangeShapes Go.WideShapes Go.ChangeAt Go.RowKit
set_option linter.unusedVariables false
set_option linter.unusedSimpArgs false

def passV (s : SetR) (t : TraceR) (x : WaitM) : Int := if okS s = true ∧ resL s x = true then passN s x t.waits else 0
set_option maxHeartbeats 4000000 in
set_option maxRecDepth 100000 in
theorem dpass_any (s : SetR) (t : TraceR) (x : WaitM) (w : World) (hs : SetOk w s) (ht : TraceOk w t) : Calls Try.prog 16 #[.agg #[.int .i64 s.proto, .slice s.ca s.cores.length s.cc, .slice s.ha s.homes.length s.hc, .slice s.ta s.tasks.length s.tc], .agg #[.int .i64 t.ticks, .slice t.sa t.slots.length t.sc, .slice t.ja t.jobs.length t.jc, .slice t.wa t.waits.length t.wc], .agg #[.int .i64 x.task, .int .i64 x.part, .int .i64 x.ask, .int .i64 x.got, .int .i64 x.fin]] w fun e w' => e = .returned (.int .i64 (passV s t x)) ∧ Below w.heap.size w w' := by
  have hb := (((Below.refl w.heap.size w).alloc (Nat.le_refl _) (.cells #[.int .i64 s.proto, .slice s.ca s.cores.length s.cc, .slice s.ha s.homes.length s.hc, .slice s.ta s.tasks.length s.tc] 26)).alloc (by simp) (.cells #[.int .i64 t.ticks, .slice t.sa t.slots.length t.sc, .slice t.ja t.jobs.length t.jc, .slice t.wa t.waits.length t.wc] 38)).alloc (by simp; omega) (.cells #[.int .i64 x.task, .int .i64 x.part, .int .i64 x.ask, .int .i64 x.got, .int .i64 x.fin] 35)
  have sc := ((SetCells.new w s 26).keep (Keeps.alloc _ (.cells #[.int .i64 t.ticks, .slice t.sa t.slots.length t.sc, .slice t.ja t.jobs.length t.jc, .slice t.wa t.waits.length t.wc] 38))).keep (Keeps.alloc _ (.cells #[.int .i64 x.task, .int .i64 x.part, .int .i64 x.ask, .int .i64 x.got, .int .i64 x.fin] 35))
  have tb := (TraceBox.new (w.alloc (.cells #[.int .i64 s.proto, .slice s.ca s.cores.length s.cc, .slice s.ha s.homes.length s.hc, .slice s.ta s.tasks.length s.tc] 26)) t 38).keep (Keeps.alloc _ (.cells #[.int .i64 x.task, .int .i64 x.part, .int .i64 x.ask, .int .i64 x.got, .int .i64 x.fin] 35))
  have xb := WaitBox.new ((w.alloc (.cells #[.int .i64 s.proto, .slice s.ca s.cores.length s.cc, .slice s.ha s.homes.length s.hc, .slice s.ta s.tasks.length s.tc] 26)).alloc (.cells #[.int .i64 t.ticks, .slice t.sa t.slots.length t.sc, .slice t.ja t.jobs.length t.jc, .slice t.wa t.waits.length t.wc] 38)) x 35
  have z1 : (w.alloc (.cells #[.int .i64 s.proto, .slice s.ca s.cores.length s.cc, .slice s.ha s.homes.length s.hc, .slice s.ta s.tasks.length s.tc] 26)).heap.size = w.heap.size + 1 := by simp
  have z2 : ((w.alloc (.cells #[.int .i64 s.proto, .slice s.ca s.cores.length s.cc, .slice s.ha s.homes.length s.hc, .slice s.ta s.tasks.length s.tc] 26)).alloc (.cells #[.int .i64 t.ticks, .slice t.sa t.slots.length t.sc, .slice t.ja t.jobs.length t.jc, .slice t.wa t.waits.length t.wc] 38)).heap.size = w.heap.size + 1 + 1 := by simp
  rw [z1] at tb
  rw [z2] at xb
  clear z1 z2
  have H := hidp (hs.keep (Keeps.of_below hb))
  have HW := hidp (ht.waits.keep (Keeps.of_below hb))
  have lw : t.waits.length ≤ maxLen := Nat.le_trans ht.wsl.2.1 ht.wsl.2.2
  unfold maxLen at lw
  clear hs ht
  have HV0 : Hid (passV s t x = if okS s = true ∧ resL s x = true then (passN s x t.waits : Int) else 0) := hidp rfl
  obtain ⟨RI, HRI⟩ : ∃ v, Hid (resI s x = v) := ⟨_, hidp rfl⟩
  obtain ⟨RL, HRL⟩ : ∃ v, Hid (resL s x = v) := ⟨_, hidp rfl⟩
  obtain ⟨CA, HCA⟩ : ∃ v, Hid (chkAt s = v) := ⟨_, hidp rfl⟩
  obtain ⟨CE, HCE⟩ : ∃ v, Hid (chkE s = v) := ⟨_, hidp rfl⟩
  have HK : Hid (okS s = (CE == 0)) := hidp (by rw [← HCE.out]; rfl)
  have tb3 := hidp tb.c3
  clear tb
  obtain ⟨tk, sa, sc', slots, ja, jc, jobs, wa, wc, ws⟩ := t
  dsimp only at hb sc xb H HW lw HV0 tb3 ⊢
  obtain ⟨c0, c1, c2, c3⟩ := id sc
  obtain ⟨p0, p1, p2, p3, p4⟩ := id xb
  go_enter Try.func16, Try.ntmps16
  go_wp2_with fail
  go_step3
  go_wp2_with fail
  refine (dres_any s x _ H.out).mono ?_
  rintro e u1 ⟨rfl, hb2⟩
  rw [HRI.out, HRL.out]
  replace hb := hb.trans (hb2.mono hb.size)
  replace sc := sc.keep (Keeps.of_below hb2)
  replace xb := xb.keep (Keeps.of_below hb2)
  replace H := hidp (H.out.keep (Keeps.of_below hb2))
  replace HW := hidp (HW.out.keep (Keeps.of_below hb2))
  replace tb3 := hidp (Keeps.of_below hb2 _ _ tb3.out)
  clear hb2 c0 c1 c2 c3 p0 p1 p2 p3 p4
  obtain ⟨c0, c1, c2, c3⟩ := id sc
  go_wp2_with fail
  refine (check_any s _ H.out).mono ?_
  rintro e u2 ⟨rfl, hb2⟩
  rw [HCA.out, HCE.out]
  replace hb := hb.trans (hb2.mono hb.size)
  replace sc := sc.keep (Keeps.of_below hb2)
  replace xb := xb.keep (Keeps.of_below hb2)
  replace H := hidp (H.out.keep (Keeps.of_below hb2))
  replace HW := hidp (HW.out.keep (Keeps.of_below hb2))
  replace tb3 := hidp (Keeps.of_below hb2 _ _ tb3.out)
  clear hb2 c0 c1 c2 c3
  by_cases hce : CE = 0
  · have e1 : (CE != 0) = false := by simpa using hce
    cases RL with
    | false =>
      have HV : Hid (passV s ⟨tk, sa, sc', slots, ja, jc, jobs, wa, wc, ws⟩ x = 0) := hidp (by rw [HV0.out, if_neg]; intro h; rw [HRL.out] at h; exact absurd h.2 (by decide))
      clear hce
      go_wp2_with fail
      try rw [Exit.noGoto_ret]
      go_ret
      exact ⟨ret_int HV.out.symm, hb⟩
    | true =>
      have HV : Hid (passV s ⟨tk, sa, sc', slots, ja, jc, jobs, wa, wc, ws⟩ x = (passN s x ws : Int)) := hidp (by rw [HV0.out, if_pos]; exact ⟨by rw [HK.out]; simpa using hce, HRL.out⟩)
      clear hce
      have tb3 := tb3.out
      go_wp2
      go_step3
      go_wp2
      go_loopg [11, 38] ws.length (fun gg n i wr => ∃ (k c : Nat), k + gg = ws.length ∧ i = .int .i64 k ∧ n = .int .i64 c ∧ Hid (passN s x (ws.take k) = c) ∧ Below u2.heap.size u2 wr)
      case atStart => exact ⟨0, 0, by omega, rfl, rfl, hidp (by simp [passN]), Below.refl _ _⟩
      case round =>
        obtain ⟨k, c, hk, rfl, rfl, Hc, hbr⟩ := hrel
        by_cases hlt : k < ws.length
        · obtain ⟨g, off, hA, hd⟩ := HW.out.resolve_left (by intro e; rw [e] at hlt; simp at hlt)
          obtain ⟨y, HY⟩ : ∃ y, Hid (ws.getD k default = y) := ⟨_, rfl⟩
          obtain ⟨d0, d1, d2, d3, d4⟩ := (HY.out ▸ hd k hlt).keep (Keeps.of_below hbr)
          have Hs : Hid (passN s x (ws.take (k + 1)) = c + if passB s x y then 1 else 0) := hidp (by rw [passN_snoc s x ws hlt, Hc.out, HY.out])
          have cle : c ≤ k := by rw [← Hc.out]; have := passN_le s x (ws.take k); rw [List.length_take] at this; omega
          have H1 := hidp ((H.out.keep (Keeps.of_below hbr)).keep (Keeps.alloc wr (.cells #[.int .i64 y.task, .int .i64 y.part, .int .i64 y.ask, .int .i64 y.got, .int .i64 y.fin] 35)))
          have sc1 := (sc.keep (Keeps.of_below hbr)).keep (Keeps.alloc wr (.cells #[.int .i64 y.task, .int .i64 y.part, .int .i64 y.ask, .int .i64 y.got, .int .i64 y.fin] 35))
          have xb1 := (xb.keep (Keeps.of_below hbr)).keep (Keeps.alloc wr (.cells #[.int .i64 y.task, .int .i64 y.part, .int .i64 y.ask, .int .i64 y.got, .int .i64 y.fin] 35))
          have yb1 := WaitBox.new wr y 35
          have hbr1 := hbr.alloc hbr.size (.cells #[.int .i64 y.task, .int .i64 y.part, .int .i64 y.ask, .int .i64 y.got, .int .i64 y.fin] 35)
          clear hd
          subst hA
          obtain ⟨c0, c1, c2, c3⟩ := id sc1
          obtain ⟨p0, p1, p2, p3, p4⟩ := id yb1
          go_wp2_with fail
          refine (dres_any s y _ H1.out).mono ?_
          rintro e v ⟨rfl, hb2⟩
          obtain ⟨YI, HYI⟩ : ∃ v, Hid (resI s y = v) := ⟨_, hidp rfl⟩
          obtain ⟨YL, HYL⟩ : ∃ v, Hid (resL s y = v) := ⟨_, hidp rfl⟩
          rw [HYI.out, HYL.out]
          have hbv := hbr1.trans (hb2.mono hbr1.size)
          have xb2 := xb1.keep (Keeps.of_below hb2)
          have yb2 := yb1.keep (Keeps.of_below hb2)
          clear c0 c1 c2 c3 p0 p1 p2 p3 p4 d0 d1 d2 d3 d4 hb2 hbr hbr1 sc1 xb1 yb1 H1
          obtain ⟨x0, x1, x2, x3, x4⟩ := xb2
          obtain ⟨y0, y1, y2, y3, y4⟩ := yb2
          obtain ⟨xt, xp, xa, xg, xf⟩ := x
          obtain ⟨yt, yp, ya, yg, yf⟩ := y
          dsimp only at x0 x1 x2 x3 x4 y0 y1 y2 y3 y4
          cases YL with
          | false =>
            have hB : passB s ⟨xt, xp, xa, xg, xf⟩ ⟨yt, yp, ya, yg, yf⟩ = false := passB_no1 HYL.out
            have Hz := hidp Hs.out
            rw [hB] at Hz
            clear hB
            clear Hs
            go_wp2_with fail
            go_roundg (gk - 1)
            case measure => omega
            case rel => exact ⟨k + 1, c, by omega, by go_num, rfl, hidp (by rw [Hz.out]; simp), hbv⟩
          | true =>
            by_cases hr : YI = RI
            · have e2 : (YI != RI) = false := by simpa using hr
              by_cases hq : yt = xt
              · have e3 : (yt == xt) = true := by simpa using hq
                have hB : passB s ⟨xt, xp, xa, xg, xf⟩ ⟨yt, yp, ya, yg, yf⟩ = false := passB_no3 hq
                have Hz := hidp Hs.out
                rw [hB] at Hz
                clear hB
                clear hr hq
                clear Hs
                go_wp2_with fail
                go_roundg (gk - 1)
                case measure => omega
                case rel => exact ⟨k + 1, c, by omega, by go_num, rfl, hidp (by rw [Hz.out]; simp), hbv⟩
              · have e3 : (yt == xt) = false := by simpa using hq
                have HB := hidp (passB_yes (w := ⟨xt, xp, xa, xg, xf⟩) (x := ⟨yt, yp, ya, yg, yf⟩) HYL.out (by rw [HYI.out, HRI.out]; exact hr) hq)
                dsimp only at HB
                clear hr hq
                by_cases h1 : xa ≤ yg
                · by_cases h2 : yg < xg
                  · skip
                    have hB : passB s ⟨xt, xp, xa, xg, xf⟩ ⟨yt, yp, ya, yg, yf⟩ = true := by rw [HB.out]; simp; omega
                    have Hz := hidp Hs.out
                    rw [hB] at Hz
                    clear hB
                    have f1 : decide (xa ≤ yg) = true := by simpa using h1
                    have f2 : decide (yg < xg) = true := by simpa using h2
                    have f3 : decide (yg < xa) = false := by simp; omega
                    clear Hs
                    go_wp2_with fail
                    go_roundg (gk - 1)
                    case measure => omega
                    case rel => exact ⟨k + 1, c + 1, by omega, by go_num, by go_num, hidp (by rw [Hz.out]; simp), hbv⟩
                  · skip
                    have hB : passB s ⟨xt, xp, xa, xg, xf⟩ ⟨yt, yp, ya, yg, yf⟩ = false := by rw [HB.out]; simp; omega
                    have Hz := hidp Hs.out
                    rw [hB] at Hz
                    clear hB
                    have f1 : decide (xa ≤ yg) = true := by simpa using h1
                    have f2 : decide (yg < xg) = false := by simpa using h2
                    have f3 : decide (yg < xa) = false := by simp; omega
                    clear Hs
                    go_wp2_with fail
                    go_roundg (gk - 1)
                    case measure => omega
                    case rel => exact ⟨k + 1, c, by omega, by go_num, rfl, hidp (by rw [Hz.out]; simp), hbv⟩
                · have h3 : yg < xa := by omega
                  by_cases h4 : xa < yf
                  · skip
                    have hB : passB s ⟨xt, xp, xa, xg, xf⟩ ⟨yt, yp, ya, yg, yf⟩ = true := by rw [HB.out]; simp; omega
                    have Hz := hidp Hs.out
                    rw [hB] at Hz
                    clear hB
                    have f1 : decide (xa ≤ yg) = false := by simpa using h1
                    have f3 : decide (yg < xa) = true := by simpa using h3
                    have f4 : decide (xa < yf) = true := by simpa using h4
                    clear Hs
                    go_wp2_with fail
                    go_roundg (gk - 1)
                    case measure => omega
                    case rel => exact ⟨k + 1, c + 1, by omega, by go_num, by go_num, hidp (by rw [Hz.out]; simp), hbv⟩
                  · skip
                    have hB : passB s ⟨xt, xp, xa, xg, xf⟩ ⟨yt, yp, ya, yg, yf⟩ = false := by rw [HB.out]; simp; omega
                    have Hz := hidp Hs.out
                    rw [hB] at Hz
                    clear hB
                    have f1 : decide (xa ≤ yg) = false := by simpa using h1
                    have f3 : decide (yg < xa) = true := by simpa using h3
                    have f4 : decide (xa < yf) = false := by simpa using h4
                    clear Hs
                    go_wp2_with fail
                    go_roundg (gk - 1)
                    case measure => omega
                    case rel => exact ⟨k + 1, c, by omega, by go_num, rfl, hidp (by rw [Hz.out]; simp), hbv⟩
            · have e2 : (YI != RI) = true := by simpa using hr
              have hB : passB s ⟨xt, xp, xa, xg, xf⟩ ⟨yt, yp, ya, yg, yf⟩ = false := passB_no2 (by rw [HYI.out, HRI.out]; exact hr)
              have Hz := hidp Hs.out
              rw [hB] at Hz
              clear hB
              clear hr
              clear Hs
              go_wp2_with fail
              go_roundg (gk - 1)
              case measure => omega
              case rel => exact ⟨k + 1, c, by omega, by go_num, rfl, hidp (by rw [Hz.out]; simp), hbv⟩
        · have Hz := hidp Hc.out
          rw [List.take_of_length_le (by omega)] at Hz
          go_wp2_with fail
          try rw [Exit.noGoto_ret]
          go_ret
          exact ⟨ret_int (by rw [HV.out, Hz.out]), hb.trans (hbr.mono hb.size)⟩
  · have e1 : (CE != 0) = true := by simpa using hce
    have HV : Hid (passV s ⟨tk, sa, sc', slots, ja, jc, jobs, wa, wc, ws⟩ x = 0) := hidp (by rw [HV0.out, if_neg]; intro h; rw [HK.out] at h; exact hce (by simpa using h.1))
    clear hce
    go_wp2_with fail
    try rw [Exit.noGoto_ret]
    go_ret
    exact ⟨ret_int HV.out.symm, hb⟩
end Go.Proofs.Ytmchjmgifipfoaa
