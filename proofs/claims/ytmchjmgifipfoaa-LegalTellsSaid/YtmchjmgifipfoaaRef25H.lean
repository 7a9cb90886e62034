/- swingbridgeref25: Holder. -/
import Derived.Test.YtmchjmgifipfoaaLegal7
import Derived.Test.YtmchjmgifipfoaaRef25L
import Derived.Test.YtmchjmgifipfoaaRef25W
namespace Go.Proofs.Ytmchjmgifipfoaa
open Go.ChangeShapes Go.WideShapes Go.ChangeAt Go.RowKit
set_option linter.unusedVariables false
set_option linter.unusedSimpArgs false
def holdsR (s : SetR) (time res : Int) (x : WaitM) : Bool := lockK s x && (decide (lockI s x = res) && (decide (x.got ≤ time) && decide (time < x.fin)))
theorem holdsR_ok {s : SetR} {time res : Int} {x : WaitM} (h : okS s = true) : holdsR s time res x = holdsB s time res x := by
  unfold holdsR holdsB
  cases hl : lockK s x with
  | false => rw [← lock_ok h, hl]; rfl
  | true => rw [← lock_ok h, hl, lock_in hl]
theorem holdsR_no {s : SetR} {time res : Int} {x : WaitM} (h : okS s = false) : holdsR s time res x = false := by unfold holdsR lockK; rw [h]; rfl
theorem find_same {p q : WaitM → Bool} {xs : List WaitM} (h : ∀ x, p x = q x) : xs.find? p = xs.find? q := by rw [show p = q from funext h]
theorem holdR_is (s : SetR) (t : TraceR) (time res : Int) : t.waits.find? (holdsR s time res) = holdF s t time res := by
  unfold holdF
  cases hk : okS s with
  | true => rw [if_pos rfl]; exact find_same fun x => holdsR_ok hk
  | false => rw [if_neg (by decide), find_same (q := fun _ => false) fun x => holdsR_no hk]; simp

set_option maxHeartbeats 4000000 in
set_option maxRecDepth 100000 in
theorem rholder_any (s : SetR) (t : TraceR) (time res : Int) (w : World) (hs : SetOk w s) (ht : TraceOk w t) : Calls Try.prog 26 #[.agg #[.int .i64 t.ticks, .slice t.sa t.slots.length t.sc, .slice t.ja t.jobs.length t.jc, .slice t.wa t.waits.length t.wc], .agg #[.int .i64 s.proto, .slice s.ca s.cores.length s.cc, .slice s.ha s.homes.length s.hc, .slice s.ta s.tasks.length s.tc], .int .i64 time, .int .i64 res] w fun e w' => e = .returned (.tuple #[.int .i64 (holdI s t time res), .bool (holdK s t time res)]) ∧ Below w.heap.size w w' := by
  have hb := ((Below.refl w.heap.size w).alloc (Nat.le_refl _) (.cells #[.int .i64 t.ticks, .slice t.sa t.slots.length t.sc, .slice t.ja t.jobs.length t.jc, .slice t.wa t.waits.length t.wc] 38)).alloc (by simp) (.cells #[.int .i64 s.proto, .slice s.ca s.cores.length s.cc, .slice s.ha s.homes.length s.hc, .slice s.ta s.tasks.length s.tc] 26)
  have tb := (TraceBox.new w t 38).keep (Keeps.alloc _ (.cells #[.int .i64 s.proto, .slice s.ca s.cores.length s.cc, .slice s.ha s.homes.length s.hc, .slice s.ta s.tasks.length s.tc] 26))
  have sc := SetCells.new (w.alloc (.cells #[.int .i64 t.ticks, .slice t.sa t.slots.length t.sc, .slice t.ja t.jobs.length t.jc, .slice t.wa t.waits.length t.wc] 38)) s 26
  have z1 : (w.alloc (.cells #[.int .i64 t.ticks, .slice t.sa t.slots.length t.sc, .slice t.ja t.jobs.length t.jc, .slice t.wa t.waits.length t.wc] 38)).heap.size = w.heap.size + 1 := by simp
  rw [z1] at sc
  have H := hidp hs
  have HW := hidp (ht.waits.keep (Keeps.of_below hb))
  have lw : t.waits.length ≤ maxLen := Nat.le_trans ht.wsl.2.1 ht.wsl.2.2
  unfold maxLen at lw
  obtain ⟨I, HI⟩ : ∃ I, Hid (holdI s t time res = I) := ⟨_, hidp rfl⟩
  obtain ⟨K, HKK⟩ : ∃ K, Hid (holdK s t time res = K) := ⟨_, hidp rfl⟩
  rw [HI.out, HKK.out]
  have HF : Hid (∀ o, t.waits.find? (holdsR s time res) = o → I = (match o with | some x => x.task | none => 0) ∧ K = o.isSome) := hidp (fun o h => by
    have e : holdF s t time res = o := by rw [← holdR_is]; exact h
    rw [← HI.out, ← HKK.out]; unfold holdI holdK; rw [e]; exact ⟨rfl, rfl⟩)
  clear z1 hs ht HI HKK
  obtain ⟨tk, sa, sc', slots, ja, jc, jobs, wa, wc, ws⟩ := t
  dsimp only at hb sc tb HW HF lw ⊢
  have HB0 := hidp hb
  have HSC := hidp sc
  have HTB := hidp tb
  clear hb sc tb
  go_enter Try.func26, Try.ntmps26
  go_wp2_with fail
  obtain ⟨w0, hw0⟩ : ∃ v, ((w.alloc (.cells #[.int .i64 tk, .slice sa slots.length sc', .slice ja jobs.length jc, .slice wa ws.length wc] 38)).alloc (.cells #[.int .i64 s.proto, .slice s.ca s.cores.length s.cc, .slice s.ha s.homes.length s.hc, .slice s.ta s.tasks.length s.tc] 26)) = v := ⟨_, rfl⟩
  rw [hw0] at HB0 HSC HTB HW ⊢
  clear hw0
  go_loopg [10] ws.length (fun gg i wr => ∃ k : Nat, k + gg = ws.length ∧ i = .int .i64 k ∧ Hid (∀ j, j < k → holdsR s time res (ws.getD j default) = false) ∧ Below w0.heap.size w0 wr)
  case atStart => exact ⟨0, by omega, rfl, hidp (fun j hj => absurd hj (by omega)), Below.refl _ _⟩
  case round =>
    obtain ⟨k, hk, rfl, Hc, hbr⟩ := hrel
    have tb3 := Keeps.of_below hbr _ _ HTB.out.c3
    dsimp only at tb3
    by_cases hlt : k < ws.length
    · obtain ⟨g, off, hA, hd⟩ := HW.out.resolve_left (by intro e; rw [e] at hlt; simp at hlt)
      obtain ⟨y, HY⟩ : ∃ y, Hid (ws.getD k default = y) := ⟨_, rfl⟩
      obtain ⟨d0, d1, d2, d3, d4⟩ := (HY.out ▸ hd k hlt).keep (Keeps.of_below hbr)
      have kI : (k : Int) < (ws.length : Int) := by omega
      have Hno : Hid (holdsR s time res y = false → ∀ j, j < k + 1 → holdsR s time res (ws.getD j default) = false) := hidp (fun h j hj => by
        by_cases e : j = k
        · subst e; rw [HY.out]; exact h
        · exact Hc.out j (by omega))
      have Hyes : Hid (holdsR s time res y = true → I = y.task ∧ K = true) := hidp (fun h => by
        exact HF.out (some y) (by rw [← HY.out]; exact find_at hlt Hc.out (by rw [HY.out]; exact h)))
      have hbr1 := hbr.alloc hbr.size (.cells #[.int .i64 y.task, .int .i64 y.part, .int .i64 y.ask, .int .i64 y.got, .int .i64 y.fin] 35)
      have H1 := hidp (H.out.keep (Keeps.of_below (HB0.out.trans (hbr1.mono HB0.out.size))))
      have sc1 := (HSC.out.keep (Keeps.of_below hbr)).keep (Keeps.alloc wr (.cells #[.int .i64 y.task, .int .i64 y.part, .int .i64 y.ask, .int .i64 y.got, .int .i64 y.fin] 35))
      have yb1 := WaitBox.new wr y 35
      obtain ⟨Z, hZ⟩ : ∃ Z, wr.heap.size = Z := ⟨_, rfl⟩
      rw [hZ] at yb1
      clear hd
      subst hA
      obtain ⟨yt, yp, ya, yg, yf⟩ := y
      dsimp only at d0 d1 d2 d3 d4 hbr1 H1 sc1 yb1
      go_upto_region 5 with fail
      obtain ⟨v, hv⟩ : ∃ v, wr.alloc (.cells #[.int .i64 yt, .int .i64 yp, .int .i64 ya, .int .i64 yg, .int .i64 yf] 35) = v := ⟨_, rfl⟩
      rw [hv] at hbr1 H1 sc1 yb1 ⊢
      try rw [hZ]
      clear hv hZ d0 d1 d2 d3 d4 tb3 kI hbr
      obtain ⟨c0, c1, c2, c3⟩ := id sc1
      obtain ⟨p0, p1, p2, p3, p4⟩ := id yb1
      dsimp only at p0 p1 p2 p3 p4
      go_wp2_with fail
      refine (rlock_any s ⟨yt, yp, ya, yg, yf⟩ _ H1.out).mono ?_
      rintro e u ⟨rfl, hb2⟩
      obtain ⟨YI, HYI⟩ : ∃ v, Hid (lockI s ⟨yt, yp, ya, yg, yf⟩ = v) := ⟨_, hidp rfl⟩
      obtain ⟨YL, HYL⟩ : ∃ v, Hid (lockK s ⟨yt, yp, ya, yg, yf⟩ = v) := ⟨_, hidp rfl⟩
      rw [HYI.out, HYL.out]
      have hbv := hbr1.trans (hb2.mono hbr1.size)
      have yb2 := yb1.keep (Keeps.of_below hb2)
      clear c0 c1 c2 c3 p0 p1 p2 p3 p4 hb2 hbr1 sc1 yb1 H1
      obtain ⟨y0, y1, y2, y3, y4⟩ := yb2
      dsimp only at y0 y1 y2 y3 y4
      have HRd : Hid (holdsR s time res ⟨yt, yp, ya, yg, yf⟩ = (YL && (decide (YI = res) && (decide (yg ≤ time) && decide (time < yf))))) := hidp (by unfold holdsR; rw [HYI.out, HYL.out])
      cases YL with
      | false =>
        have Hz := hidp (Hno.out (by rw [HRd.out]; rfl))
        go_wp2_with fail
        go_roundg (gk - 1)
        case measure => omega
        case rel => exact ⟨k + 1, by omega, by go_num, Hz, hbv⟩
      | true =>
        by_cases hr : YI = res
        · have e2 : (YI == res) = true := by simpa using hr
          have e3 : decide (YI = res) = true := by simpa using hr
          by_cases h1 : yg ≤ time
          · have f1 : decide (yg ≤ time) = true := by simpa using h1
            by_cases h2 : time < yf
            · have f2 : decide (time < yf) = true := by simpa using h2
              have Hz := hidp (Hyes.out (by rw [HRd.out]; simp only [e3, f1, f2]; rfl))
              clear hr h1 h2
              go_wp2_with fail
              try rw [Exit.noGoto_ret]
              go_ret2
              exact ⟨ret_ib Hz.out.1.symm Hz.out.2.symm, HB0.out.trans (hbv.mono HB0.out.size)⟩
            · have f2 : decide (time < yf) = false := by simpa using h2
              have Hz := hidp (Hno.out (by rw [HRd.out]; simp only [e3, f1, f2]; rfl))
              clear hr h1 h2
              go_wp2_with fail
              go_roundg (gk - 1)
              case measure => omega
              case rel => exact ⟨k + 1, by omega, by go_num, Hz, hbv⟩
          · have f1 : decide (yg ≤ time) = false := by simpa using h1
            have Hz := hidp (Hno.out (by rw [HRd.out]; simp only [e3, f1]; rfl))
            clear hr h1
            go_wp2_with fail
            go_roundg (gk - 1)
            case measure => omega
            case rel => exact ⟨k + 1, by omega, by go_num, Hz, hbv⟩
        · have e2 : (YI == res) = false := by simpa using hr
          have e3 : decide (YI = res) = false := by simpa using hr
          have Hz := hidp (Hno.out (by rw [HRd.out]; simp only [e3]; rfl))
          clear hr
          go_wp2_with fail
          go_roundg (gk - 1)
          case measure => omega
          case rel => exact ⟨k + 1, by omega, by go_num, Hz, hbv⟩
    · have kI : ¬ (k : Int) < (ws.length : Int) := by omega
      have Hz := hidp (HF.out none (find_none (fun j hj => Hc.out j (by omega))))
      go_wp2_with fail
      try rw [Exit.noGoto_ret]
      go_ret2
      exact ⟨ret_ib Hz.out.1.symm Hz.out.2.symm, HB0.out.trans (hbr.mono HB0.out.size)⟩
end Go.Proofs.Ytmchjmgifipfoaa
