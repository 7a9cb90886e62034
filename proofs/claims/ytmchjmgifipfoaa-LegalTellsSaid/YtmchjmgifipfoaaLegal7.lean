/- legal: Holder. -/
import Derived.Test.YtmchjmgifipfoaaLegal2
import Derived.Test.YtmchjmgifipfoaaOwnT
import Derived.Test.YtmchjmgifipfoaaTraceB
namespace Go.Proofs.Ytmchjmgifipfoaa
open Go.ChangeShapes Go.WideShapes Go.ChangeAt Go.RowKit
set_option linter.unusedVariables false
set_option linter.unusedSimpArgs false

def holdsB (s : SetR) (time res : Int) (x : WaitM) : Bool := resL s x && (decide (resI s x = res) && (decide (x.got ≤ time) && decide (time < x.fin)))
def holdF (s : SetR) (t : TraceR) (time res : Int) : Option WaitM := if okS s = true then t.waits.find? (holdsB s time res) else none
def holdI (s : SetR) (t : TraceR) (time res : Int) : Int := match holdF s t time res with | some x => x.task | none => 0
def holdK (s : SetR) (t : TraceR) (time res : Int) : Bool := (holdF s t time res).isSome
theorem find_at {p : WaitM → Bool} {xs : List WaitM} {k : Nat} (hk : k < xs.length) (h0 : ∀ j, j < k → p (xs.getD j default) = false) (h : p (xs.getD k default) = true) : xs.find? p = some (xs.getD k default) := by
  induction xs generalizing k with
  | nil => simp at hk
  | cons a l ih =>
    cases k with
    | zero => simp at h; simp [List.find?_cons, h]
    | succ k =>
      have h1 := h0 0 (by omega)
      simp at h1
      rw [List.find?_cons, h1]
      simp only [List.getD_cons_succ] at h ⊢
      exact ih (by simpa using hk) (fun j hj => by have := h0 (j + 1) (by omega); simpa using this) h
theorem find_none {p : WaitM → Bool} {xs : List WaitM} (h0 : ∀ j, j < xs.length → p (xs.getD j default) = false) : xs.find? p = none := by
  rw [List.find?_eq_none]
  intro x hx
  obtain ⟨k, hk, rfl⟩ := mem_getD hx
  rw [h0 k hk]; decide
theorem holds_no1 {s : SetR} {time res : Int} {x : WaitM} (h : resL s x = false) : holdsB s time res x = false := by unfold holdsB; rw [h]; rfl
theorem holds_no2 {s : SetR} {time res : Int} {x : WaitM} (h : resI s x ≠ res) : holdsB s time res x = false := by unfold holdsB; rw [decide_eq_false h]; simp
theorem holds_no3 {s : SetR} {time res : Int} {x : WaitM} (h : ¬ x.got ≤ time) : holdsB s time res x = false := by unfold holdsB; rw [decide_eq_false h]; simp
theorem holds_no4 {s : SetR} {time res : Int} {x : WaitM} (h : ¬ time < x.fin) : holdsB s time res x = false := by unfold holdsB; rw [decide_eq_false h]; simp
theorem holds_yes {s : SetR} {time res : Int} {x : WaitM} (h1 : resL s x = true) (h2 : resI s x = res) (h3 : x.got ≤ time) (h4 : time < x.fin) : holdsB s time res x = true := by unfold holdsB; simp [*]

set_option maxHeartbeats 4000000 in
set_option maxRecDepth 100000 in
theorem lholder_any (s : SetR) (t : TraceR) (time res : Int) (w : World) (hs : SetOk w s) (ht : TraceOk w t) : Calls Try.prog 12 #[.agg #[.int .i64 t.ticks, .slice t.sa t.slots.length t.sc, .slice t.ja t.jobs.length t.jc, .slice t.wa t.waits.length t.wc], .agg #[.int .i64 s.proto, .slice s.ca s.cores.length s.cc, .slice s.ha s.homes.length s.hc, .slice s.ta s.tasks.length s.tc], .int .i64 time, .int .i64 res] w fun e w' => e = .returned (.tuple #[.int .i64 (holdI s t time res), .bool (holdK s t time res)]) ∧ Below w.heap.size w w' := by
  have hb := ((Below.refl w.heap.size w).alloc (Nat.le_refl _) (.cells #[.int .i64 t.ticks, .slice t.sa t.slots.length t.sc, .slice t.ja t.jobs.length t.jc, .slice t.wa t.waits.length t.wc] 38)).alloc (by simp) (.cells #[.int .i64 s.proto, .slice s.ca s.cores.length s.cc, .slice s.ha s.homes.length s.hc, .slice s.ta s.tasks.length s.tc] 26)
  have tb := (TraceBox.new w t 38).keep (Keeps.alloc _ (.cells #[.int .i64 s.proto, .slice s.ca s.cores.length s.cc, .slice s.ha s.homes.length s.hc, .slice s.ta s.tasks.length s.tc] 26))
  have sc := SetCells.new (w.alloc (.cells #[.int .i64 t.ticks, .slice t.sa t.slots.length t.sc, .slice t.ja t.jobs.length t.jc, .slice t.wa t.waits.length t.wc] 38)) s 26
  have z1 : (w.alloc (.cells #[.int .i64 t.ticks, .slice t.sa t.slots.length t.sc, .slice t.ja t.jobs.length t.jc, .slice t.wa t.waits.length t.wc] 38)).heap.size = w.heap.size + 1 := by simp
  rw [z1] at sc
  have H := hidp (hs.keep (Keeps.of_below hb))
  have HW := hidp (ht.waits.keep (Keeps.of_below hb))
  have lw : t.waits.length ≤ maxLen := Nat.le_trans ht.wsl.2.1 ht.wsl.2.2
  unfold maxLen at lw
  obtain ⟨CA, HCA⟩ : ∃ v, Hid (chkAt s = v) := ⟨_, hidp rfl⟩
  obtain ⟨CE, HCE⟩ : ∃ v, Hid (chkE s = v) := ⟨_, hidp rfl⟩
  have HK : Hid (okS s = (CE == 0)) := hidp (by rw [← HCE.out]; rfl)
  obtain ⟨I, HI⟩ : ∃ I, Hid (holdI s t time res = I) := ⟨_, hidp rfl⟩
  obtain ⟨K, HKK⟩ : ∃ K, Hid (holdK s t time res = K) := ⟨_, hidp rfl⟩
  rw [HI.out, HKK.out]
  have HF : Hid (∀ o, (okS s = true → t.waits.find? (holdsB s time res) = o) → (okS s = false → o = none) → I = (match o with | some x => x.task | none => 0) ∧ K = o.isSome) := hidp (fun o h h0 => by
    have e : holdF s t time res = o := by
      unfold holdF
      cases hk : okS s with
      | true => rw [if_pos rfl]; exact h hk
      | false => rw [if_neg (by decide)]; exact (h0 hk).symm
    rw [← HI.out, ← HKK.out]; unfold holdI holdK; rw [e]; exact ⟨rfl, rfl⟩)
  clear z1 hs ht HI HKK
  obtain ⟨tk, sa, sc', slots, ja, jc, jobs, wa, wc, ws⟩ := t
  dsimp only at hb sc tb H HW HF lw ⊢
  have HT3 := hidp tb.c3
  obtain ⟨c0, c1, c2, c3⟩ := id sc
  go_enter Try.func12, Try.ntmps12
  go_wp2_with fail
  try go_step3
  go_wp2_with fail
  refine (check_any s _ H.out).mono ?_
  rintro e u2 ⟨rfl, hb2⟩
  rw [HCA.out, HCE.out]
  replace hb := hb.trans (hb2.mono hb.size)
  replace sc := sc.keep (Keeps.of_below hb2)
  have tb3 := Keeps.of_below hb2 _ _ HT3.out
  replace H := hidp (H.out.keep (Keeps.of_below hb2))
  replace HW := hidp (HW.out.keep (Keeps.of_below hb2))
  clear hb2 c0 c1 c2 c3 HT3 tb
  by_cases hce : CE = 0
  · have e1 : (CE != 0) = false := by simpa using hce
    have Hok : Hid (okS s = true) := hidp (by rw [HK.out]; simpa using hce)
    clear hce
    go_wp2_with fail
    try go_step3
    go_wp2_with fail
    clear tb3
    go_loopg [12, 13, 28] ws.length (fun gg h ok i wr => ∃ k : Nat, k + gg = ws.length ∧ h = .int .i64 0 ∧ ok = .bool false ∧ i = .int .i64 k ∧ Hid (∀ j, j < k → holdsB s time res (ws.getD j default) = false) ∧ Below u2.heap.size u2 wr)
    case atStart => exact ⟨0, by omega, rfl, rfl, rfl, hidp (fun j hj => absurd hj (by omega)), Below.refl _ _⟩
    case round =>
      obtain ⟨k, hk, rfl, rfl, rfl, Hc, hbr⟩ := hrel
      by_cases hlt : k < ws.length
      · obtain ⟨g, off, hA, hd⟩ := HW.out.resolve_left (by intro e; rw [e] at hlt; simp at hlt)
        obtain ⟨y, HY⟩ : ∃ y, Hid (ws.getD k default = y) := ⟨_, rfl⟩
        obtain ⟨d0, d1, d2, d3, d4⟩ := (HY.out ▸ hd k hlt).keep (Keeps.of_below hbr)
        have Hno : Hid (holdsB s time res y = false → ∀ j, j < k + 1 → holdsB s time res (ws.getD j default) = false) := hidp (fun h j hj => by
          by_cases e : j = k
          · subst e; rw [HY.out]; exact h
          · exact Hc.out j (by omega))
        have Hyes : Hid (holdsB s time res y = true → I = y.task ∧ K = true) := hidp (fun h => by
          have := HF.out (some y) (fun _ => by rw [← HY.out]; exact find_at hlt Hc.out (by rw [HY.out]; exact h)) (fun h0 => by rw [Hok.out] at h0; cases h0)
          exact this)
        have H1 := hidp ((H.out.keep (Keeps.of_below hbr)).keep (Keeps.alloc wr (.cells #[.int .i64 y.task, .int .i64 y.part, .int .i64 y.ask, .int .i64 y.got, .int .i64 y.fin] 35)))
        have sc1 := (sc.keep (Keeps.of_below hbr)).keep (Keeps.alloc wr (.cells #[.int .i64 y.task, .int .i64 y.part, .int .i64 y.ask, .int .i64 y.got, .int .i64 y.fin] 35))
        have yb1 := WaitBox.new wr y 35
        have hbr1 := hbr.alloc hbr.size (.cells #[.int .i64 y.task, .int .i64 y.part, .int .i64 y.ask, .int .i64 y.got, .int .i64 y.fin] 35)
        clear hd
        subst hA
        obtain ⟨c0, c1, c2, c3⟩ := id sc1
        obtain ⟨p0, p1, p2, p3, p4⟩ := id yb1
        go_wp2_with fail
        refine (lres_any s y _ H1.out).mono ?_
        rintro e v ⟨rfl, hb2⟩
        obtain ⟨YI, HYI⟩ : ∃ v, Hid (resI s y = v) := ⟨_, hidp rfl⟩
        obtain ⟨YL, HYL⟩ : ∃ v, Hid (resL s y = v) := ⟨_, hidp rfl⟩
        rw [HYI.out, HYL.out]
        have hbv := hbr1.trans (hb2.mono hbr1.size)
        have yb2 := yb1.keep (Keeps.of_below hb2)
        clear c0 c1 c2 c3 p0 p1 p2 p3 p4 d0 d1 d2 d3 d4 hb2 hbr hbr1 sc1 yb1 H1
        obtain ⟨y0, y1, y2, y3, y4⟩ := yb2
        obtain ⟨yt, yp, ya, yg, yf⟩ := y
        dsimp only at y0 y1 y2 y3 y4
        cases YL with
        | false =>
          have Hz := hidp (Hno.out (holds_no1 HYL.out))
          go_wp2_with fail
          go_roundg (gk - 1)
          case measure => omega
          case rel => exact ⟨k + 1, by omega, rfl, rfl, by go_num, Hz, hbv⟩
        | true =>
          by_cases hr : YI = res
          · have e2 : (YI == res) = true := by simpa using hr
            by_cases h1 : yg ≤ time
            · have f1 : decide (yg ≤ time) = true := by simpa using h1
              by_cases h2 : time < yf
              · have f2 : decide (time < yf) = true := by simpa using h2
                have Hz := hidp (Hyes.out (holds_yes HYL.out (by rw [HYI.out]; exact hr) h1 h2))
                clear hr h1 h2
                go_wp2_with fail
                try rw [Exit.noGoto_ret]
                go_ret2
                exact ⟨ret_ib Hz.out.1.symm Hz.out.2.symm, hb.trans (hbv.mono hb.size)⟩
              · have f2 : decide (time < yf) = false := by simpa using h2
                have Hz := hidp (Hno.out (holds_no4 h2))
                clear hr h1 h2
                go_wp2_with fail
                go_roundg (gk - 1)
                case measure => omega
                case rel => exact ⟨k + 1, by omega, rfl, rfl, by go_num, Hz, hbv⟩
            · have f1 : decide (yg ≤ time) = false := by simpa using h1
              have Hz := hidp (Hno.out (holds_no3 h1))
              clear hr h1
              go_wp2_with fail
              go_roundg (gk - 1)
              case measure => omega
              case rel => exact ⟨k + 1, by omega, rfl, rfl, by go_num, Hz, hbv⟩
          · have e2 : (YI == res) = false := by simpa using hr
            have Hz := hidp (Hno.out (holds_no2 (by rw [HYI.out]; exact hr)))
            clear hr
            go_wp2_with fail
            go_roundg (gk - 1)
            case measure => omega
            case rel => exact ⟨k + 1, by omega, rfl, rfl, by go_num, Hz, hbv⟩
      · have Hz := hidp (HF.out none (fun _ => find_none (fun j hj => Hc.out j (by omega))) (fun _ => rfl))
        go_wp2_with fail
        try rw [Exit.noGoto_ret]
        go_ret2
        exact ⟨ret_ib Hz.out.1.symm Hz.out.2.symm, hb.trans (hbr.mono hb.size)⟩
  · have e1 : (CE != 0) = true := by simpa using hce
    have Hz := hidp (HF.out none (fun h => by rw [HK.out] at h; exact absurd (by simpa using h) hce) (fun _ => rfl))
    clear hce
    go_wp2_with fail
    try rw [Exit.noGoto_ret]
    go_ret2
    exact ⟨ret_ib Hz.out.1.symm Hz.out.2.symm, hb⟩
end Go.Proofs.Ytmchjmgifipfoaa
