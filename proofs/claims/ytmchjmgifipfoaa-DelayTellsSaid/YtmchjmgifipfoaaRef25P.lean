/- swingbridgeref25: Passed. -/
import Derived.Test.YtmchjmgifipfoaaRef25L
import Derived.Test.YtmchjmgifipfoaaDelay2
namespace Go.Proofs.Ytmchjmgifipfoaa
open Go.ChangeShapes Go.WideShapes Go.ChangeAt Go.RowKit
set_option linter.unusedVariables false
set_option linter.unusedSimpArgs false

theorem pass_same {s : SetR} {t : TraceR} {x : WaitM} : passV s t x = if lockK s x = true then (passN s x t.waits : Int) else 0 := by
  unfold passV lockK
  by_cases h : okS s = true ∧ resL s x = true
  · rw [if_pos h, if_pos (by rw [h.1, h.2]; rfl)]
  · rw [if_neg h, if_neg (fun g => h (by simpa using g))]
set_option maxHeartbeats 4000000 in
set_option maxRecDepth 100000 in
theorem rpassed_any (s : SetR) (t : TraceR) (x : WaitM) (w : World) (hs : SetOk w s) (ht : TraceOk w t) : Calls Try.prog 21 #[.agg #[.int .i64 s.proto, .slice s.ca s.cores.length s.cc, .slice s.ha s.homes.length s.hc, .slice s.ta s.tasks.length s.tc], .agg #[.int .i64 t.ticks, .slice t.sa t.slots.length t.sc, .slice t.ja t.jobs.length t.jc, .slice t.wa t.waits.length t.wc], .agg #[.int .i64 x.task, .int .i64 x.part, .int .i64 x.ask, .int .i64 x.got, .int .i64 x.fin]] w fun e w' => e = .returned (.int .i64 (passV s t x)) ∧ Below w.heap.size w w' := by
  have hb := (((Below.refl w.heap.size w).alloc (Nat.le_refl _) (.cells #[.int .i64 s.proto, .slice s.ca s.cores.length s.cc, .slice s.ha s.homes.length s.hc, .slice s.ta s.tasks.length s.tc] 26)).alloc (by simp) (.cells #[.int .i64 t.ticks, .slice t.sa t.slots.length t.sc, .slice t.ja t.jobs.length t.jc, .slice t.wa t.waits.length t.wc] 38)).alloc (by simp; omega) (.cells #[.int .i64 x.task, .int .i64 x.part, .int .i64 x.ask, .int .i64 x.got, .int .i64 x.fin] 35)
  have sc := ((SetCells.new w s 26).keep (Keeps.alloc _ (.cells #[.int .i64 t.ticks, .slice t.sa t.slots.length t.sc, .slice t.ja t.jobs.length t.jc, .slice t.wa t.waits.length t.wc] 38))).keep (Keeps.alloc _ (.cells #[.int .i64 x.task, .int .i64 x.part, .int .i64 x.ask, .int .i64 x.got, .int .i64 x.fin] 35))
  have tb := (TraceBox.new (w.alloc (.cells #[.int .i64 s.proto, .slice s.ca s.cores.length s.cc, .slice s.ha s.homes.length s.hc, .slice s.ta s.tasks.length s.tc] 26)) t 38).keep (Keeps.alloc _ (.cells #[.int .i64 x.task, .int .i64 x.part, .int .i64 x.ask, .int .i64 x.got, .int .i64 x.fin] 35))
  have xb := WaitBox.new ((w.alloc (.cells #[.int .i64 s.proto, .slice s.ca s.cores.length s.cc, .slice s.ha s.homes.length s.hc, .slice s.ta s.tasks.length s.tc] 26)).alloc (.cells #[.int .i64 t.ticks, .slice t.sa t.slots.length t.sc, .slice t.ja t.jobs.length t.jc, .slice t.wa t.waits.length t.wc] 38)) x 35
  have z1 : (w.alloc (.cells #[.int .i64 s.proto, .slice s.ca s.cores.length s.cc, .slice s.ha s.homes.length s.hc, .slice s.ta s.tasks.length s.tc] 26)).heap.size = w.heap.size + 1 := by simp
  have z2 : ((w.alloc (.cells #[.int .i64 s.proto, .slice s.ca s.cores.length s.cc, .slice s.ha s.homes.length s.hc, .slice s.ta s.tasks.length s.tc] 26)).alloc (.cells #[.int .i64 t.ticks, .slice t.sa t.slots.length t.sc, .slice t.ja t.jobs.length t.jc, .slice t.wa t.waits.length t.wc] 38)).heap.size = w.heap.size + 1 + 1 := by simp
  rw [z1] at tb
  rw [z2] at xb
  clear z1 z2
  have H := hidp (hs.keep (Keeps.of_below hb))
  have HW := hidp (ht.waits.keep (Keeps.of_below hb))
  have lw : t.waits.length ≤ maxLen := Nat.le_trans ht.wsl.2.1 ht.wsl.2.2
  unfold maxLen at lw
  clear hs ht
  have HV0 : Hid (passV s t x = if lockK s x = true then (passN s x t.waits : Int) else 0) := hidp pass_same
  obtain ⟨RI, HRI⟩ : ∃ v, Hid (lockI s x = v) := ⟨_, hidp rfl⟩
  obtain ⟨RL, HRL⟩ : ∃ v, Hid (lockK s x = v) := ⟨_, hidp rfl⟩
  have tb3 := hidp tb.c3
  clear tb
  obtain ⟨tk, sa, sc', slots, ja, jc, jobs, wa, wc, ws⟩ := t
  dsimp only at hb sc xb H HW lw HV0 tb3 ⊢
  obtain ⟨c0, c1, c2, c3⟩ := id sc
  obtain ⟨p0, p1, p2, p3, p4⟩ := id xb
  go_enter Try.func21, Try.ntmps21
  go_wp2_with fail
  refine (rlock_any s x _ H.out).mono ?_
  rintro e u2 ⟨rfl, hb2⟩
  rw [HRI.out, HRL.out]
  replace hb := hb.trans (hb2.mono hb.size)
  replace sc := sc.keep (Keeps.of_below hb2)
  replace xb := xb.keep (Keeps.of_below hb2)
  replace H := hidp (H.out.keep (Keeps.of_below hb2))
  replace HW := hidp (HW.out.keep (Keeps.of_below hb2))
  replace tb3 := hidp (Keeps.of_below hb2 _ _ tb3.out)
  clear hb2 c0 c1 c2 c3 p0 p1 p2 p3 p4
  cases RL with
  | false =>
    have HV : Hid (passV s ⟨tk, sa, sc', slots, ja, jc, jobs, wa, wc, ws⟩ x = 0) := hidp (by rw [HV0.out, if_neg]; rw [HRL.out]; decide)
    have tb3 := tb3.out
    go_wp2_with fail
    go_loopg [9, 10] 0 (fun gg n i wr => n = .int .i64 0 ∧ i = .int .i64 0 ∧ wr = u2)
    case atStart => exact ⟨rfl, rfl, rfl⟩
    case round =>
      obtain ⟨rfl, rfl, rfl⟩ := hrel
      by_cases hlt : 0 < ws.length
      · go_wp2_with fail
        go_ret
        exact ⟨ret_int HV.out.symm, hb⟩
      · have e0 : ws.length = 0 := by omega
        go_wp2_with fail
        go_ret
        exact ⟨ret_int HV.out.symm, hb⟩
  | true =>
    have HV : Hid (passV s ⟨tk, sa, sc', slots, ja, jc, jobs, wa, wc, ws⟩ x = (passN s x ws : Int)) := hidp (by rw [HV0.out, if_pos HRL.out])
    have Hok : Hid (okS s = true ∧ resI s x = RI) := hidp (by
      have h := HRL.out
      have h2 := HRI.out
      unfold lockI at h2
      rw [if_pos h] at h2
      unfold lockK at h
      simp at h
      exact ⟨h.1, h2⟩)
    have T3 := hidp tb3.out
    have tb3 := tb3.out
    go_wp2
    clear tb3
    go_loopg [9, 10] ws.length (fun gg n i wr => ∃ (k c : Nat), k + gg = ws.length ∧ i = .int .i64 k ∧ n = .int .i64 c ∧ Hid (passN s x (ws.take k) = c) ∧ Below u2.heap.size u2 wr)
    case atStart => exact ⟨0, 0, by omega, rfl, rfl, hidp (by simp [passN]), Below.refl _ _⟩
    case round =>
      obtain ⟨k, c, hk, rfl, rfl, Hc, hbr⟩ := hrel
      have tb3 := Keeps.of_below hbr _ _ T3.out
      by_cases hlt : k < ws.length
      · obtain ⟨g, off, hA, hd⟩ := HW.out.resolve_left (by intro e; rw [e] at hlt; simp at hlt)
        obtain ⟨y, HY⟩ : ∃ y, Hid (ws.getD k default = y) := ⟨_, rfl⟩
        obtain ⟨d0, d1, d2, d3, d4⟩ := (HY.out ▸ hd k hlt).keep (Keeps.of_below hbr)
        have Hs : Hid (passN s x (ws.take (k + 1)) = c + if passB s x y then 1 else 0) := hidp (by rw [passN_snoc s x ws hlt, Hc.out, HY.out])
        have cle : c ≤ k := by rw [← Hc.out]; have := passN_le s x (ws.take k); rw [List.length_take] at this; omega
        have H1 := hidp ((H.out.keep (Keeps.of_below hbr)).keep (Keeps.alloc wr (.cells #[.int .i64 y.task, .int .i64 y.part, .int .i64 y.ask, .int .i64 y.got, .int .i64 y.fin] 35)))
        have sc1 := (sc.keep (Keeps.of_below hbr)).keep (Keeps.alloc wr (.cells #[.int .i64 y.task, .int .i64 y.part, .int .i64 y.ask, .int .i64 y.got, .int .i64 y.fin] 35))
        have xb1 := (xb.keep (Keeps.of_below hbr)).keep (Keeps.alloc wr (.cells #[.int .i64 y.task, .int .i64 y.part, .int .i64 y.ask, .int .i64 y.got, .int .i64 y.fin] 35))
        have yb1 := WaitBox.new wr y 35
        have hbr1 := hbr.alloc hbr.size (.cells #[.int .i64 y.task, .int .i64 y.part, .int .i64 y.ask, .int .i64 y.got, .int .i64 y.fin] 35)
        have kI : (k : Int) < (ws.length : Int) := by omega
        clear hd
        subst hA
        obtain ⟨c0, c1, c2, c3⟩ := id sc1
        obtain ⟨p0, p1, p2, p3, p4⟩ := id yb1
        go_wp2_with fail
        refine (rlock_any s y _ H1.out).mono ?_
        rintro e v ⟨rfl, hb2⟩
        obtain ⟨YI, HYI⟩ : ∃ v, Hid (lockI s y = v) := ⟨_, hidp rfl⟩
        obtain ⟨YL, HYL⟩ : ∃ v, Hid (lockK s y = v) := ⟨_, hidp rfl⟩
        rw [HYI.out, HYL.out]
        have HyL : Hid (resL s y = YL ∧ (YL = true → resI s y = YI)) := hidp (by
          have h := HYL.out
          have h2 := HYI.out
          unfold lockI at h2
          have h3 := h
          unfold lockK at h
          rw [Hok.out.1, Bool.true_and] at h
          refine ⟨h, fun e => ?_⟩
          rw [h3, e, if_pos rfl] at h2
          exact h2)
        have hbv := hbr1.trans (hb2.mono hbr1.size)
        have xb2 := xb1.keep (Keeps.of_below hb2)
        have yb2 := yb1.keep (Keeps.of_below hb2)
        clear c0 c1 c2 c3 p0 p1 p2 p3 p4 d0 d1 d2 d3 d4 hb2 hbr hbr1 sc1 xb1 yb1 H1 kI tb3
        obtain ⟨x0, x1, x2, x3, x4⟩ := xb2
        obtain ⟨y0, y1, y2, y3, y4⟩ := yb2
        obtain ⟨xt, xp, xa, xg, xf⟩ := x
        obtain ⟨yt, yp, ya, yg, yf⟩ := y
        dsimp only at x0 x1 x2 x3 x4 y0 y1 y2 y3 y4
        cases YL with
        | false =>
          have hB : passB s ⟨xt, xp, xa, xg, xf⟩ ⟨yt, yp, ya, yg, yf⟩ = false := passB_no1 HyL.out.1
          have Hz := hidp Hs.out
          rw [hB] at Hz
          clear hB Hs
          go_wp2_with fail
          go_roundg (gk - 1)
          case measure => omega
          case rel => exact ⟨k + 1, c, by omega, by go_num, rfl, hidp (by rw [Hz.out]; simp), hbv⟩
        | true =>
          by_cases hr : YI = RI
          · have e2 : (YI == RI) = true := by simpa using hr
            by_cases hq : yt = xt
            · have e3 : (yt != xt) = false := by simpa using hq
              have hB : passB s ⟨xt, xp, xa, xg, xf⟩ ⟨yt, yp, ya, yg, yf⟩ = false := passB_no3 hq
              clear hr hq
              have Hz := hidp Hs.out
              rw [hB] at Hz
              clear hB Hs
              go_wp2_with fail
              go_roundg (gk - 1)
              case measure => omega
              case rel => exact ⟨k + 1, c, by omega, by go_num, rfl, hidp (by rw [Hz.out]; simp), hbv⟩
            · have e3 : (yt != xt) = true := by simpa using hq
              have HB := hidp (passB_yes (w := ⟨xt, xp, xa, xg, xf⟩) (x := ⟨yt, yp, ya, yg, yf⟩) HyL.out.1 (by rw [HyL.out.2 rfl, Hok.out.2]; exact hr) hq)
              dsimp only at HB
              clear hr hq
              by_cases h1 : xa ≤ yg
              · have f1 : decide (xa ≤ yg) = true := by simpa using h1
                have f3 : decide (yg < xa) = false := by simp; omega
                by_cases h2 : yg < xg
                · have f2 : decide (yg < xg) = true := by simpa using h2
                  have hB : passB s ⟨xt, xp, xa, xg, xf⟩ ⟨yt, yp, ya, yg, yf⟩ = true := by rw [HB.out]; simp; omega
                  have Hz := hidp Hs.out
                  rw [hB] at Hz
                  clear hB Hs
                  go_wp2_with fail
                  go_roundg (gk - 1)
                  case measure => omega
                  case rel => exact ⟨k + 1, c + 1, by omega, by go_num, by go_num, hidp (by rw [Hz.out]; simp), hbv⟩
                · have f2 : decide (yg < xg) = false := by simpa using h2
                  have hB : passB s ⟨xt, xp, xa, xg, xf⟩ ⟨yt, yp, ya, yg, yf⟩ = false := by rw [HB.out]; simp; omega
                  have Hz := hidp Hs.out
                  rw [hB] at Hz
                  clear hB Hs
                  go_wp2_with fail
                  go_roundg (gk - 1)
                  case measure => omega
                  case rel => exact ⟨k + 1, c, by omega, by go_num, rfl, hidp (by rw [Hz.out]; simp), hbv⟩
              · have f1 : decide (xa ≤ yg) = false := by simpa using h1
                have f3 : decide (yg < xa) = true := by simp; omega
                by_cases h4 : xa < yf
                · have f4 : decide (xa < yf) = true := by simpa using h4
                  have hB : passB s ⟨xt, xp, xa, xg, xf⟩ ⟨yt, yp, ya, yg, yf⟩ = true := by rw [HB.out]; simp; omega
                  have Hz := hidp Hs.out
                  rw [hB] at Hz
                  clear hB Hs
                  go_wp2_with fail
                  go_roundg (gk - 1)
                  case measure => omega
                  case rel => exact ⟨k + 1, c + 1, by omega, by go_num, by go_num, hidp (by rw [Hz.out]; simp), hbv⟩
                · have f4 : decide (xa < yf) = false := by simpa using h4
                  have hB : passB s ⟨xt, xp, xa, xg, xf⟩ ⟨yt, yp, ya, yg, yf⟩ = false := by rw [HB.out]; simp; omega
                  have Hz := hidp Hs.out
                  rw [hB] at Hz
                  clear hB Hs
                  go_wp2_with fail
                  go_roundg (gk - 1)
                  case measure => omega
                  case rel => exact ⟨k + 1, c, by omega, by go_num, rfl, hidp (by rw [Hz.out]; simp), hbv⟩
          · have e2 : (YI == RI) = false := by simpa using hr
            have hB : passB s ⟨xt, xp, xa, xg, xf⟩ ⟨yt, yp, ya, yg, yf⟩ = false := passB_no2 (by rw [HyL.out.2 rfl, Hok.out.2]; exact hr)
            clear hr
            have Hz := hidp Hs.out
            rw [hB] at Hz
            clear hB Hs
            go_wp2_with fail
            go_roundg (gk - 1)
            case measure => omega
            case rel => exact ⟨k + 1, c, by omega, by go_num, rfl, hidp (by rw [Hz.out]; simp), hbv⟩
      · have Hz := hidp Hc.out
        rw [List.take_of_length_le (by omega)] at Hz
        have kI : ¬ (k : Int) < (ws.length : Int) := by omega
        go_wp2_with fail
        go_ret
        exact ⟨ret_int (by rw [HV.out, Hz.out]), hb.trans (hbr.mono hb.size)⟩
end Go.Proofs.Ytmchjmgifipfoaa
