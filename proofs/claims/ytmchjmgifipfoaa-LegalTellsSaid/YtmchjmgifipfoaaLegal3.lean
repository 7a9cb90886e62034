/- legal: slots. Printed by tools/legal/slots.py. -/
import Derived.Test.YtmchjmgifipfoaaLegal2
import Derived.Test.YtmchjmgifipfoaaOwnT
import Derived.Test.YtmchjmgifipfoaaTraceB
import Derived.Deep.CutBlock
namespace Go.Proofs.Ytmchjmgifipfoaa
open Go.ChangeShapes Go.WideShapes Go.ChangeAt Go.RowKit
set_option linter.unusedVariables false
set_option linter.unusedSimpArgs false

def slC (x : SlotM) : Array Value := #[.int .i64 x.time, .int .i64 x.cl, .int .i64 x.task, .bool x.held]
theorem bools_at {w : World} {g : Nat} {T : TypeId} {bs : List Bool} (h : Bk w g T (bs.map Value.bool).toArray) {j : Nat} (hj : j < bs.length) : w.cell? ⟨g, j, none⟩ = some (.bool (bs.getD j false)) := by
  rw [h.cell j]; simp [hj, List.getD]
theorem bools_put {w : World} {g : Nat} {T : TypeId} {bs : List Bool} (h : Bk w g T (bs.map Value.bool).toArray) (j : Nat) (b : Bool) : Bk (w.setCell ⟨g, j, none⟩ (.bool b)) g T ((bs.set j b).map Value.bool).toArray := by
  have := h.put j (.bool b)
  rwa [List.setIfInBounds_toArray, ← List.map_set] at this
/-- what a round begins with -/
structure SlR (w wr : World) (s : SetR) (t : TraceR) (st : SlSt) : Prop where
  bl : Bk wr (w.heap.size + 1 + 1) 29 (slC st.last)
  br : Bk wr (w.heap.size + 1 + 1 + 1) 77 (st.ran.map Value.bool).toArray
  len : st.ran.length = 6
  b : Below w.heap.size w wr
  sc : SetCells wr w.heap.size s
  tb : TraceBox wr (w.heap.size + 1) t
theorem slBad_1 {s : SetR} {tk : Int} {st : SlSt} {y : SlotM} (h : placedB s tk y = false) : slBad s tk st y = true := by unfold slBad; rw [h]; rfl
theorem slBad_2 {s : SetR} {tk : Int} {st : SlSt} {y : SlotM} (h : y.time < st.last.time ∨ (y.time = st.last.time ∧ y.cl < st.last.cl)) : slBad s tk st y = true := by unfold slBad; rcases h with h | ⟨h, g⟩ <;> simp [*]
theorem slBad_0 {s : SetR} {tk : Int} {st : SlSt} {y : SlotM} (h : placedB s tk y = true) (h1 : ¬ y.time < st.last.time) (h2 : ¬ (y.time = st.last.time ∧ y.cl < st.last.cl)) : slBad s tk st y = false := by unfold slBad; rw [h, decide_eq_false h1, ← Bool.decide_and, decide_eq_false h2]; rfl

set_option maxHeartbeats 8000000 in
set_option maxRecDepth 100000 in
theorem lslots_any (s : SetR) (t : TraceR) (w : World) (hs : SetOk w s) (ht : TraceOk w t) (hg : Good s) (htk : 0 ≤ t.ticks ∧ t.ticks ≤ 20000) : Calls Try.prog 33 #[.agg #[.int .i64 s.proto, .slice s.ca s.cores.length s.cc, .slice s.ha s.homes.length s.hc, .slice s.ta s.tasks.length s.tc], .agg #[.int .i64 t.ticks, .slice t.sa t.slots.length t.sc, .slice t.ja t.jobs.length t.jc, .slice t.wa t.waits.length t.wc]] w fun e w' => e = .returned (.bool (slotsB s t)) ∧ Below w.heap.size w w' := by
  have hb := ((Below.refl w.heap.size w).alloc (Nat.le_refl _) (.cells #[.int .i64 s.proto, .slice s.ca s.cores.length s.cc, .slice s.ha s.homes.length s.hc, .slice s.ta s.tasks.length s.tc] 26)).alloc (by simp) (.cells #[.int .i64 t.ticks, .slice t.sa t.slots.length t.sc, .slice t.ja t.jobs.length t.jc, .slice t.wa t.waits.length t.wc] 38)
  have sc := (SetCells.new w s 26).keep (Keeps.alloc _ (.cells #[.int .i64 t.ticks, .slice t.sa t.slots.length t.sc, .slice t.ja t.jobs.length t.jc, .slice t.wa t.waits.length t.wc] 38))
  have tb := TraceBox.new (w.alloc (.cells #[.int .i64 s.proto, .slice s.ca s.cores.length s.cc, .slice s.ha s.homes.length s.hc, .slice s.ta s.tasks.length s.tc] 26)) t 38
  have z1 : (w.alloc (.cells #[.int .i64 s.proto, .slice s.ca s.cores.length s.cc, .slice s.ha s.homes.length s.hc, .slice s.ta s.tasks.length s.tc] 26)).heap.size = w.heap.size + 1 := by simp
  have z2 : ((w.alloc (.cells #[.int .i64 s.proto, .slice s.ca s.cores.length s.cc, .slice s.ha s.homes.length s.hc, .slice s.ta s.tasks.length s.tc] 26)).alloc (.cells #[.int .i64 t.ticks, .slice t.sa t.slots.length t.sc, .slice t.ja t.jobs.length t.jc, .slice t.wa t.waits.length t.wc] 38)).heap.size = w.heap.size + 1 + 1 := by simp
  rw [z1] at tb
  have HS := hidp hs
  have HX := hidp ht.slots
  have lx : t.slots.length ≤ maxLen := Nat.le_trans ht.ssl.2.1 ht.ssl.2.2
  unfold maxLen at lx
  have lc : s.cores.length ≤ 3 := hg.ncores.2
  have lt6 : s.tasks.length ≤ 6 := hg.ntasks.2
  have HG := hidp hg
  have HV : ∃ V, Hid (slotsB s t = V) := ⟨_, hidp rfl⟩
  obtain ⟨V, HV⟩ := HV
  rw [HV.out]
  have Htk := hidp htk
  have HXw := hidp ht.swf
  have IC := hidp hs.cores
  have HST : Hid (∀ (k : Nat) (st : SlSt) (y : SlotM), k < t.slots.length → foldO (slNext s t.ticks) (t.slots.take k) sl0 = some st → t.slots.getD k default = y → slNext s t.ticks st y = none → V = false) := hidp (fun k st y hk h hy hn => by rw [← HV.out]; exact slots_stop hk h hy hn)
  have HEN : Hid (∀ (k : Nat) (st : SlSt), ¬ k < t.slots.length → foldO (slNext s t.ticks) (t.slots.take k) sl0 = some st → V = true) := hidp (fun k st hk h => by rw [← HV.out]; exact slots_end hk h)
  have HGO : Hid (∀ (k : Nat) (st st' : SlSt) (y : SlotM), k < t.slots.length → foldO (slNext s t.ticks) (t.slots.take k) sl0 = some st → t.slots.getD k default = y → slNext s t.ticks st y = some st' → foldO (slNext s t.ticks) (t.slots.take (k + 1)) sl0 = some st') := hidp (fun k st st' y hk h hy hn => slots_go hk h hy hn)
  have HSR : Hid (SlR w (((w.alloc (.cells #[.int .i64 s.proto, .slice s.ca s.cores.length s.cc, .slice s.ha s.homes.length s.hc, .slice s.ta s.tasks.length s.tc] 26)).alloc (.cells #[.int .i64 t.ticks, .slice t.sa t.slots.length t.sc, .slice t.ja t.jobs.length t.jc, .slice t.wa t.waits.length t.wc] 38)).alloc (.cells #[.int .i64 (-1), .int .i64 0, .int .i64 0, .bool false] 29) |>.alloc (.cells #[.bool false, .bool false, .bool false, .bool false, .bool false, .bool false] 77)) s t sl0) := hidp
    ⟨(Bk.at_ z2 rfl).alloc _, Bk.at_ (by simp) rfl, rfl, (hb.alloc hb.size _).alloc (hb.alloc hb.size _).size _, (sc.keep (Keeps.alloc _ _)).keep (Keeps.alloc _ _), (tb.keep (Keeps.alloc _ _)).keep (Keeps.alloc _ _)⟩
  clear z1 z2 hs ht hg htk HV
  obtain ⟨tk, sa, sc', slots, ja, jc, jobs, wa, wc, ws⟩ := t
  dsimp only at hb sc tb lx HX HXw Htk HST HEN HGO HSR ⊢
  obtain ⟨c0, c1, c2, c3⟩ := id sc
  obtain ⟨t0, t1, t2, t3⟩ := id tb
  dsimp only at t0 t1 t2 t3
  go_enter Try.func33, Try.ntmps33
  go_wp2_with fail
  go_step3
  go_wp2_with fail
  go_step3
  go_wp2_with fail
  clear c0 c1 c2 c3 t0 t1 t2 t3
  go_loopg [7, 8, 15] slots.length (fun gg u ok i wr => ∃ (k : Nat) (st : SlSt), k + gg = slots.length ∧ u = .int .i64 st.used ∧ ok = .bool true ∧ i = .int .i64 k ∧ Hid (foldO (slNext s tk) (slots.take k) sl0 = some st) ∧ (0 ≤ st.used ∧ st.used ≤ k) ∧ Hid (SlR w wr s ⟨tk, sa, sc', slots, ja, jc, jobs, wa, wc, ws⟩ st))
  case atStart => exact ⟨0, sl0, by omega, rfl, rfl, rfl, hidp rfl, ⟨by decide, by decide⟩, HSR⟩
  case round =>
    obtain ⟨k, st, hk, rfl, rfl, rfl, Hf, hu, HR⟩ := hrel
    obtain ⟨bl, br, len6, hbr, scr, tbr⟩ := HR.out
    clear HSR HR
    by_cases hlt : k < slots.length
    · obtain ⟨g, off, hA, hd⟩ := HX.out.resolve_left (by intro e; rw [e] at hlt; simp at hlt)
      obtain ⟨y, HY⟩ : ∃ y, Hid (slots.getD k default = y) := ⟨_, rfl⟩
      have hyw := HXw.out y (HY.out ▸ getD_mem hlt)
      obtain ⟨d0, d1, d2, d3⟩ := (HY.out ▸ hd k hlt).keep (Keeps.of_below hbr)
      have bl1 := bl.alloc (.cells #[.int .i64 y.time, .int .i64 y.cl, .int .i64 y.task, .bool y.held] 29)
      have br1 := br.alloc (.cells #[.int .i64 y.time, .int .i64 y.cl, .int .i64 y.task, .bool y.held] 29)
      have hb1 := hbr.alloc hbr.size (.cells #[.int .i64 y.time, .int .i64 y.cl, .int .i64 y.task, .bool y.held] 29)
      have sc1 := scr.keep (Keeps.alloc wr (.cells #[.int .i64 y.time, .int .i64 y.cl, .int .i64 y.task, .bool y.held] 29))
      have tb1 := tbr.keep (Keeps.alloc wr (.cells #[.int .i64 y.time, .int .i64 y.cl, .int .i64 y.task, .bool y.held] 29))
      have yb1 := SlotBox.new wr y 29
      have hLt := bl.lt
      have hRt := br.lt
      obtain ⟨Y, HYb⟩ : ∃ Y, Hid (wr.heap.size = Y) := ⟨_, rfl⟩
      have yb1 := HYb.out ▸ yb1
      have YL : w.heap.size + 1 + 1 + 1 < Y := by rw [← HYb.out]; exact hRt
      have H1 := hidp (HS.out.keep (Keeps.of_below hb1))
      have HP : ∃ P, Hid (placedB s tk y = P) := ⟨_, hidp rfl⟩
      obtain ⟨P, HP⟩ := HP
      have CP := lplaced_any s ⟨tk, sa, sc', slots, ja, jc, jobs, wa, wc, ws⟩ y _ H1.out Htk.out
      rw [HP.out] at CP
      clear hd bl br hbr scr tbr
      subst hA
      obtain ⟨c0, c1, c2, c3⟩ := id sc1
      obtain ⟨t0, t1, t2, t3⟩ := id tb1
      dsimp only at t0 t1 t2 t3
      obtain ⟨y0, y1, y2, y3⟩ := id yb1
      have hYs := HYb.out
      go_wp2_with fail
      refine CP.mono ?_
      rintro e v ⟨rfl, hb2⟩
      clear hYs CP d0 d1 d2 d3 c0 c1 c2 c3 t0 t1 t2 t3 y0 y1 y2 y3
      have blv := bl1.turned (Turned.of_below hb2 []) (by simp)
      have brv := br1.turned (Turned.of_below hb2 []) (by simp)
      have hbv := hb1.trans (hb2.mono hb1.size)
      have scv := sc1.keep (Keeps.of_below hb2)
      have tbv := tb1.keep (Keeps.of_below hb2)
      have ybv := yb1.keep (Keeps.of_below hb2)
      clear hb2 hb1 bl1 br1 sc1 tb1 yb1 H1 hLt hRt
      obtain ⟨⟨lt, lc', lk, lh⟩, u, ran⟩ := st
      have HST1 := hidp (HST.out k _ y hlt Hf.out HY.out)
      have HGO1 := hidp (fun st' => HGO.out k _ st' y hlt Hf.out HY.out)
      dsimp only at len6 hu
      obtain ⟨yt, yc, yk, yh⟩ := y
      obtain ⟨y0, y1, y2, y3⟩ := id ybv
      have l0 : v.cell? ⟨w.heap.size + 1 + 1, 0, none⟩ = some (.int .i64 lt) := blv.cell 0
      have l1 : v.cell? ⟨w.heap.size + 1 + 1, 1, none⟩ = some (.int .i64 lc') := blv.cell 1
      dsimp only at y0 y1 y2 y3
      cases P with
      | false =>
        have hV := HST1.out (slNext_bad (slBad_1 HP.out))
        have HVf := hidp hV
        clear hV
        go_wp2_with fail
        try rw [Exit.noGoto_ret]
        go_ret
        exact ⟨ret_bool HVf.out.symm, hbv⟩
      | true =>
        by_cases h1 : yt < lt
        · have hV := HST1.out (slNext_bad (slBad_2 (.inl h1)))
          have HVf := hidp hV
          have e1 : decide (yt < lt) = true := by simpa using h1
          clear hV
          go_wp2_with fail
          try rw [Exit.noGoto_ret]
          go_ret
          exact ⟨ret_bool HVf.out.symm, hbv⟩
        · have e1 : decide (yt < lt) = false := by simpa using h1
          -- what placed says of the numbers
          have hpl : inB yt 0 (tk - 1) = true ∧ inB yc 0 ((s.cores.length : Int) - 1) = true ∧ inB yk 0 ((s.tasks.length : Int) - 1) = true := by
            have hp := HP.out
            unfold placedB at hp
            simp only [Bool.and_eq_true] at hp
            exact ⟨hp.1.1.1, hp.1.1.2, hp.1.2⟩
          have p2 := inB_true.1 hpl.2.1
          have p3 := inB_true.1 hpl.2.2
          clear hpl
          obtain ⟨c, rfl⟩ : ∃ c : Nat, yc = c := ⟨yc.toNat, by omega⟩
          obtain ⟨q, rfl⟩ : ∃ q : Nat, yk = q := ⟨yk.toNat, by omega⟩
          have hc : c < s.cores.length := by omega
          have hq : q < 6 := by omega
          clear p2 p3
          have dc : decide (s.cores.length ≤ c) = false := by simp; omega
          have dq : decide (6 ≤ q) = false := by simp; omega
          obtain ⟨cg, coff, hCA, hCc⟩ := IC.out.at_.resolve_left (by intro e; rw [e] at hc; simp at hc)
          have HCA := hidp hCA
          have hCl : cg < w.heap.size := cell_lt (hCc c hc)
          clear hCA
          obtain ⟨cv, HCV⟩ : ∃ cv, Hid (s.cores.getD c 0 = cv) := ⟨_, rfl⟩
          have cb : 1 ≤ cv ∧ cv ≤ 3 := by rw [← HCV.out]; exact HG.out.cores _ (by simp [List.getD, hc])
          have cC := Keeps.of_below hbv _ _ (HCV.out ▸ hCc c hc)
          by_cases h2 : yt = lt
          · subst h2
            have e2 : (yt == yt) = true := by simp
            have e4 : decide (yt < yt) = false := by simp
            by_cases h3 : (c : Int) < lc'
            · have hV := HST1.out (slNext_bad (slBad_2 (.inr ⟨rfl, h3⟩)))
              have HVf := hidp hV
              have e3 : decide ((c : Int) < lc') = true := by simpa using h3
              clear hV
              go_wp2_with fail
              try rw [Exit.noGoto_ret]
              go_ret
              exact ⟨ret_bool HVf.out.symm, hbv⟩
            · have e3 : decide ((c : Int) < lc') = false := by simpa using h3
              have HB := hidp (slBad_0 (s := s) (tk := tk) (st := ⟨⟨yt, lc', lk, lh⟩, u, ran⟩) (y := ⟨yt, c, q, yh⟩) HP.out h1 (fun h => h3 h.2))
              by_cases h4 : lc' < c
              · have e5 : decide (lc' < (c : Int)) = true := by simpa using h4
                have HU : Hid (slUsed ⟨⟨yt, lc', lk, lh⟩, u, ran⟩ ⟨yt, c, q, yh⟩ = 0) := hidp (if_pos (.inr h4))
                have HN : Hid (slRan ⟨⟨yt, lc', lk, lh⟩, u, ran⟩ ⟨yt, c, q, yh⟩ = ran) := hidp (if_neg (by simp))
                go_upto_region 15 with fail
                obtain ⟨rq, HRq⟩ : ∃ rq, Hid (ran.getD q false = rq) := ⟨_, rfl⟩
                have cR : v.cell? ⟨w.heap.size + 1 + 1 + 1, q, none⟩ = some (.bool rq) := HRq.out ▸ bools_at brv (by rw [len6]; omega)
                have fR := brv.frozen q
                have scq := scv.2.1
                rw [HCA.out] at scq
                have eu : ((0 : Int) == cv) = false := by simp; omega
                cases rq with
                | true =>
                  have hV := HST1.out (slNext_full (by unfold slFull; rw [HU.out, HN.out]; simp only [Int.toNat_natCast]; rw [HCV.out, HRq.out]; simp))
                  have HVf := hidp hV
                  clear hV
                  go_wp2_with fail
                  try rw [Exit.noGoto_ret]
                  go_ret
                  exact ⟨ret_bool HVf.out.symm, hbv⟩
                | false =>
                  have HNx := hidp (HGO1.out _ (slNext_ok HB.out (by unfold slFull; rw [HU.out, HN.out]; simp only [Int.toNat_natCast]; rw [HCV.out, HRq.out, eu]; rfl)))
                  have bR2 := bools_put brv q true
                  have tR : Turned [w.heap.size + 1 + 1 + 1] v (v.setCell ⟨w.heap.size + 1 + 1 + 1, q, none⟩ (.bool true)) := (Turned.refl _ v).setCell (.inl (by simp)) _
                  have bL2 := blv.turned tR (by simp)
                  have m0 : (v.setCell ⟨w.heap.size + 1 + 1 + 1, q, none⟩ (.bool true)).cell? ⟨w.heap.size + 1 + 1, 0, none⟩ = some (.int .i64 yt) := bL2.cell 0
                  have m1 : (v.setCell ⟨w.heap.size + 1 + 1 + 1, q, none⟩ (.bool true)).cell? ⟨w.heap.size + 1 + 1, 1, none⟩ = some (.int .i64 lc') := bL2.cell 1
                  have m2 : (v.setCell ⟨w.heap.size + 1 + 1 + 1, q, none⟩ (.bool true)).cell? ⟨w.heap.size + 1 + 1, 2, none⟩ = some (.int .i64 lk) := bL2.cell 2
                  have m3 : (v.setCell ⟨w.heap.size + 1 + 1 + 1, q, none⟩ (.bool true)).cell? ⟨w.heap.size + 1 + 1, 3, none⟩ = some (.bool lh) := bL2.cell 3
                  have n0 := bL2.frozen 0
                  have n1 := bL2.frozen 1
                  have n2 := bL2.frozen 2
                  have n3 := bL2.frozen 3
                  have yb2 := SlotBox.turned ybv tR (by simp; omega)
                  obtain ⟨x0, x1, x2, x3⟩ := id yb2
                  dsimp only at x0 x1 x2 x3
                  have bL3 := put4_bk (v0 := .int .i64 yt) (v1 := .int .i64 (c : Int)) (v2 := .int .i64 (q : Int)) (v3 := .bool yh) bL2
                  have tL := put4_turned (v.setCell ⟨w.heap.size + 1 + 1 + 1, q, none⟩ (.bool true)) (w.heap.size + 1 + 1) (.int .i64 yt) (.int .i64 (c : Int)) (.int .i64 (q : Int)) (.bool yh)
                  have bR3 := bR2.turned tL (by simp)
                  have scN := (scv.turned tR (by simp; omega)).turned tL (by simp; omega)
                  have tbN := (TraceBox.turned tbv tR (by simp)).turned tL (by simp)
                  have hbN := (hbv.trans (tR.below hbv.size (by simp; omega))).trans (tL.below (Nat.le_trans hbv.size tR.size) (by simp; omega))
                  have HRN : Hid (SlR w _ s ⟨tk, some ⟨g, off, none⟩, sc', slots, ja, jc, jobs, wa, wc, ws⟩ ⟨⟨yt, c, q, yh⟩, 0 + 1, ran.set q true⟩) := hidp ⟨bL3, bR3, by simp; exact len6, hbN, scN, tbN⟩
                  unfold put4 at HRN
                  clear bR2 bL2 bL3 bR3 scN tbN hbN tL tR yb2 scv tbv hbv ybv blv brv
                  go_wp2_with fail
                  go_roundg (gk - 1)
                  case measure => omega
                  case rel => exact ⟨k + 1, ⟨⟨yt, c, q, yh⟩, 0 + 1, ran.set q true⟩, by omega, rfl, rfl, by go_num, hidp (by rw [HNx.out, HU.out, HN.out]; rfl), ⟨by dsimp only; omega, by dsimp only; omega⟩, HRN⟩
              · have e5 : decide (lc' < (c : Int)) = false := by simpa using h4
                have HU : Hid (slUsed ⟨⟨yt, lc', lk, lh⟩, u, ran⟩ ⟨yt, c, q, yh⟩ = u) := hidp (if_neg (fun h => h.elim (by simp) h4))
                have HN : Hid (slRan ⟨⟨yt, lc', lk, lh⟩, u, ran⟩ ⟨yt, c, q, yh⟩ = ran) := hidp (if_neg (by simp))
                go_upto_region 15 with fail
                obtain ⟨rq, HRq⟩ : ∃ rq, Hid (ran.getD q false = rq) := ⟨_, rfl⟩
                have cR : v.cell? ⟨w.heap.size + 1 + 1 + 1, q, none⟩ = some (.bool rq) := HRq.out ▸ bools_at brv (by rw [len6]; omega)
                have fR := brv.frozen q
                have scq := scv.2.1
                rw [HCA.out] at scq
                by_cases heu : u = cv
                · have eu : (u == cv) = true := by simpa using heu
                  have hV := HST1.out (slNext_full (by unfold slFull; rw [HU.out, HN.out]; simp only [Int.toNat_natCast]; rw [HCV.out, HRq.out]; simp [heu]))
                  have HVf := hidp hV
                  clear hV
                  go_wp2_with fail
                  try rw [Exit.noGoto_ret]
                  go_ret
                  exact ⟨ret_bool HVf.out.symm, hbv⟩
                · have eu : (u == cv) = false := by simpa using heu
                  cases rq with
                  | true =>
                    have hV := HST1.out (slNext_full (by unfold slFull; rw [HU.out, HN.out]; simp only [Int.toNat_natCast]; rw [HCV.out, HRq.out]; simp))
                    have HVf := hidp hV
                    clear hV
                    go_wp2_with fail
                    try rw [Exit.noGoto_ret]
                    go_ret
                    exact ⟨ret_bool HVf.out.symm, hbv⟩
                  | false =>
                    have HNx := hidp (HGO1.out _ (slNext_ok HB.out (by unfold slFull; rw [HU.out, HN.out]; simp only [Int.toNat_natCast]; rw [HCV.out, HRq.out, eu]; rfl)))
                    have bR2 := bools_put brv q true
                    have tR : Turned [w.heap.size + 1 + 1 + 1] v (v.setCell ⟨w.heap.size + 1 + 1 + 1, q, none⟩ (.bool true)) := (Turned.refl _ v).setCell (.inl (by simp)) _
                    have bL2 := blv.turned tR (by simp)
                    have m0 : (v.setCell ⟨w.heap.size + 1 + 1 + 1, q, none⟩ (.bool true)).cell? ⟨w.heap.size + 1 + 1, 0, none⟩ = some (.int .i64 yt) := bL2.cell 0
                    have m1 : (v.setCell ⟨w.heap.size + 1 + 1 + 1, q, none⟩ (.bool true)).cell? ⟨w.heap.size + 1 + 1, 1, none⟩ = some (.int .i64 lc') := bL2.cell 1
                    have m2 : (v.setCell ⟨w.heap.size + 1 + 1 + 1, q, none⟩ (.bool true)).cell? ⟨w.heap.size + 1 + 1, 2, none⟩ = some (.int .i64 lk) := bL2.cell 2
                    have m3 : (v.setCell ⟨w.heap.size + 1 + 1 + 1, q, none⟩ (.bool true)).cell? ⟨w.heap.size + 1 + 1, 3, none⟩ = some (.bool lh) := bL2.cell 3
                    have n0 := bL2.frozen 0
                    have n1 := bL2.frozen 1
                    have n2 := bL2.frozen 2
                    have n3 := bL2.frozen 3
                    have yb2 := SlotBox.turned ybv tR (by simp; omega)
                    obtain ⟨x0, x1, x2, x3⟩ := id yb2
                    dsimp only at x0 x1 x2 x3
                    have bL3 := put4_bk (v0 := .int .i64 yt) (v1 := .int .i64 (c : Int)) (v2 := .int .i64 (q : Int)) (v3 := .bool yh) bL2
                    have tL := put4_turned (v.setCell ⟨w.heap.size + 1 + 1 + 1, q, none⟩ (.bool true)) (w.heap.size + 1 + 1) (.int .i64 yt) (.int .i64 (c : Int)) (.int .i64 (q : Int)) (.bool yh)
                    have bR3 := bR2.turned tL (by simp)
                    have scN := (scv.turned tR (by simp; omega)).turned tL (by simp; omega)
                    have tbN := (TraceBox.turned tbv tR (by simp)).turned tL (by simp)
                    have hbN := (hbv.trans (tR.below hbv.size (by simp; omega))).trans (tL.below (Nat.le_trans hbv.size tR.size) (by simp; omega))
                    have HRN : Hid (SlR w _ s ⟨tk, some ⟨g, off, none⟩, sc', slots, ja, jc, jobs, wa, wc, ws⟩ ⟨⟨yt, c, q, yh⟩, u + 1, ran.set q true⟩) := hidp ⟨bL3, bR3, by simp; exact len6, hbN, scN, tbN⟩
                    unfold put4 at HRN
                    clear bR2 bL2 bL3 bR3 scN tbN hbN tL tR yb2 scv tbv hbv ybv blv brv
                    go_wp2_with fail
                    go_roundg (gk - 1)
                    case measure => omega
                    case rel => exact ⟨k + 1, ⟨⟨yt, c, q, yh⟩, u + 1, ran.set q true⟩, by omega, rfl, rfl, by go_num, hidp (by rw [HNx.out, HU.out, HN.out]; rfl), ⟨by dsimp only; omega, by dsimp only; omega⟩, HRN⟩
          · have e2 : (yt == lt) = false := by simpa using h2
            have h5 : lt < yt := by omega
            have e4 : decide (lt < yt) = true := by simpa using h5
            have HB := hidp (slBad_0 (s := s) (tk := tk) (st := ⟨⟨lt, lc', lk, lh⟩, u, ran⟩) (y := ⟨yt, c, q, yh⟩) HP.out h1 (fun h => h2 h.1))
            have HU : Hid (slUsed ⟨⟨lt, lc', lk, lh⟩, u, ran⟩ ⟨yt, c, q, yh⟩ = 0) := hidp (if_pos (.inl h5))
            have HN : Hid (slRan ⟨⟨lt, lc', lk, lh⟩, u, ran⟩ ⟨yt, c, q, yh⟩ = List.replicate 6 false) := hidp (if_pos h5)
            obtain ⟨b0, b1, b2, b3, b4, b5, hran⟩ : ∃ b0 b1 b2 b3 b4 b5, ran = [b0, b1, b2, b3, b4, b5] := by
              match ran, len6 with
              | [b0, b1, b2, b3, b4, b5], _ => exact ⟨b0, b1, b2, b3, b4, b5, rfl⟩
            have brv6 : Bk v (w.heap.size + 1 + 1 + 1) 77 #[.bool b0, .bool b1, .bool b2, .bool b3, .bool b4, .bool b5] := by rw [hran] at brv; exact brv
            clear hran
            have r0 : v.cell? ⟨w.heap.size + 1 + 1 + 1, 0, none⟩ = some (.bool b0) := brv6.cell 0
            have r1 : v.cell? ⟨w.heap.size + 1 + 1 + 1, 1, none⟩ = some (.bool b1) := brv6.cell 1
            have r2 : v.cell? ⟨w.heap.size + 1 + 1 + 1, 2, none⟩ = some (.bool b2) := brv6.cell 2
            have r3 : v.cell? ⟨w.heap.size + 1 + 1 + 1, 3, none⟩ = some (.bool b3) := brv6.cell 3
            have r4 : v.cell? ⟨w.heap.size + 1 + 1 + 1, 4, none⟩ = some (.bool b4) := brv6.cell 4
            have r5 : v.cell? ⟨w.heap.size + 1 + 1 + 1, 5, none⟩ = some (.bool b5) := brv6.cell 5
            have f0 := brv6.frozen 0
            have f1 := brv6.frozen 1
            have f2 := brv6.frozen 2
            have f3 := brv6.frozen 3
            have f4 := brv6.frozen 4
            have f5 := brv6.frozen 5
            have bx := put6_bk (v0 := .bool false) (v1 := .bool false) (v2 := .bool false) (v3 := .bool false) (v4 := .bool false) (v5 := .bool false) brv6
            have tx := put6_turned v (w.heap.size + 1 + 1 + 1) (.bool false) (.bool false) (.bool false) (.bool false) (.bool false) (.bool false)
            have blx := blv.turned tx (by simp)
            have scx := scv.turned tx (by simp; omega)
            have tbx := TraceBox.turned tbv tx (by simp)
            have ybx := SlotBox.turned ybv tx (by simp; omega)
            have hbx := hbv.trans (tx.below hbv.size (by simp; omega))
            have cCx := tx.cell cC (by simp; omega)
            have xsz := tx.size
            go_upto_region 15 with fail
            obtain ⟨v2, hv2⟩ : ∃ v2, put6 v (w.heap.size + 1 + 1 + 1) (.bool false) (.bool false) (.bool false) (.bool false) (.bool false) (.bool false) = v2 := ⟨_, rfl⟩
            have hv3 := hv2
            unfold put6 at hv3
            try rw [hv3]
            rw [hv2] at bx blx scx tbx ybx hbx cCx xsz
            have bx : Bk v2 (w.heap.size + 1 + 1 + 1) 77 ((List.replicate 6 false).map Value.bool).toArray := bx
            clear hv2 hv3 r0 r1 r2 r3 r4 r5 f0 f1 f2 f3 f4 f5 brv6 brv blv scv tbv ybv hbv cC tx l0 l1 y0 y1 y2 y3
            have brv := bx
            have blv := blx
            have scv := scx
            have tbv := tbx
            have ybv := ybx
            have hbv := hbx
            have cC := cCx
            clear bx blx scx tbx ybx hbx cCx
            obtain ⟨y0, y1, y2, y3⟩ := id ybv
            dsimp only at y0 y1 y2 y3
            obtain ⟨rq, HRq⟩ : ∃ rq, Hid ((List.replicate 6 false).getD q false = rq) := ⟨_, rfl⟩
            have cR : v2.cell? ⟨w.heap.size + 1 + 1 + 1, q, none⟩ = some (.bool rq) := HRq.out ▸ bools_at brv (by simp; omega)
            have fR := brv.frozen q
            have scq := scv.2.1
            rw [HCA.out] at scq
            have eu : ((0 : Int) == cv) = false := by simp; omega
            cases rq with
            | true =>
              have hV := HST1.out (slNext_full (by unfold slFull; rw [HU.out, HN.out]; simp only [Int.toNat_natCast]; rw [HCV.out, HRq.out]; simp))
              have HVf := hidp hV
              clear hV
              go_wp2_with fail
              try rw [Exit.noGoto_ret]
              go_ret
              exact ⟨ret_bool HVf.out.symm, hbv⟩
            | false =>
              have HNx := hidp (HGO1.out _ (slNext_ok HB.out (by unfold slFull; rw [HU.out, HN.out]; simp only [Int.toNat_natCast]; rw [HCV.out, HRq.out, eu]; rfl)))
              have bR2 := bools_put brv q true
              have tR : Turned [w.heap.size + 1 + 1 + 1] v2 (v2.setCell ⟨w.heap.size + 1 + 1 + 1, q, none⟩ (.bool true)) := (Turned.refl _ v2).setCell (.inl (by simp)) _
              have bL2 := blv.turned tR (by simp)
              have m0 : (v2.setCell ⟨w.heap.size + 1 + 1 + 1, q, none⟩ (.bool true)).cell? ⟨w.heap.size + 1 + 1, 0, none⟩ = some (.int .i64 lt) := bL2.cell 0
              have m1 : (v2.setCell ⟨w.heap.size + 1 + 1 + 1, q, none⟩ (.bool true)).cell? ⟨w.heap.size + 1 + 1, 1, none⟩ = some (.int .i64 lc') := bL2.cell 1
              have m2 : (v2.setCell ⟨w.heap.size + 1 + 1 + 1, q, none⟩ (.bool true)).cell? ⟨w.heap.size + 1 + 1, 2, none⟩ = some (.int .i64 lk) := bL2.cell 2
              have m3 : (v2.setCell ⟨w.heap.size + 1 + 1 + 1, q, none⟩ (.bool true)).cell? ⟨w.heap.size + 1 + 1, 3, none⟩ = some (.bool lh) := bL2.cell 3
              have n0 := bL2.frozen 0
              have n1 := bL2.frozen 1
              have n2 := bL2.frozen 2
              have n3 := bL2.frozen 3
              have yb2 := SlotBox.turned ybv tR (by simp; omega)
              obtain ⟨x0, x1, x2, x3⟩ := id yb2
              dsimp only at x0 x1 x2 x3
              have bL3 := put4_bk (v0 := .int .i64 yt) (v1 := .int .i64 (c : Int)) (v2 := .int .i64 (q : Int)) (v3 := .bool yh) bL2
              have tL := put4_turned (v2.setCell ⟨w.heap.size + 1 + 1 + 1, q, none⟩ (.bool true)) (w.heap.size + 1 + 1) (.int .i64 yt) (.int .i64 (c : Int)) (.int .i64 (q : Int)) (.bool yh)
              have bR3 := bR2.turned tL (by simp)
              have scN := (scv.turned tR (by simp; omega)).turned tL (by simp; omega)
              have tbN := (TraceBox.turned tbv tR (by simp)).turned tL (by simp)
              have hbN := (hbv.trans (tR.below hbv.size (by simp; omega))).trans (tL.below (Nat.le_trans hbv.size tR.size) (by simp; omega))
              have HRN : Hid (SlR w _ s ⟨tk, some ⟨g, off, none⟩, sc', slots, ja, jc, jobs, wa, wc, ws⟩ ⟨⟨yt, c, q, yh⟩, 0 + 1, (List.replicate 6 false).set q true⟩) := hidp ⟨bL3, bR3, by simp, hbN, scN, tbN⟩
              unfold put4 at HRN
              clear bR2 bL2 bL3 bR3 scN tbN hbN tL tR yb2 scv tbv hbv ybv blv brv
              go_wp2_with fail
              go_roundg (gk - 1)
              case measure => omega
              case rel => exact ⟨k + 1, ⟨⟨yt, c, q, yh⟩, 0 + 1, (List.replicate 6 false).set q true⟩, by omega, rfl, rfl, by go_num, hidp (by rw [HNx.out, HU.out, HN.out]; rfl), ⟨by dsimp only; omega, by dsimp only; omega⟩, HRN⟩
    · have hV := HEN.out k st hlt Hf.out
      have HVf := hidp hV
      clear hV
      go_wp2_with fail
      try rw [Exit.noGoto_ret]
      go_ret
      exact ⟨ret_bool HVf.out.symm, hbr⟩
end Go.Proofs.Ytmchjmgifipfoaa
