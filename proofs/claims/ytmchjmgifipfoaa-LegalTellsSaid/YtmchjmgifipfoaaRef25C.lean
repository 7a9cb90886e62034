/- swingbridgeref25: Check. -/
import Derived.Test.YtmchjmgifipfoaaRef7d
import Derived.Test.YtmchjmgifipfoaaRef25S
import Derived.Test.YtmchjmgifipfoaaRef25J
import Derived.Test.YtmchjmgifipfoaaRef25W
namespace Go.Proofs.Ytmchjmgifipfoaa
open Go.ChangeShapes Go.WideShapes Go.ChangeAt Go.RowKit
set_option linter.unusedVariables false
set_option linter.unusedSimpArgs false

set_option maxHeartbeats 4000000 in
set_option maxRecDepth 100000 in
theorem rcheck25_any (s : SetR) (t : TraceR) (w : World) (hs : SetOk w s) (ht : TraceOk w t) : Calls Try.prog 27 #[.agg #[.int .i64 s.proto, .slice s.ca s.cores.length s.cc, .slice s.ha s.homes.length s.hc, .slice s.ta s.tasks.length s.tc], .agg #[.int .i64 t.ticks, .slice t.sa t.slots.length t.sc, .slice t.ja t.jobs.length t.jc, .slice t.wa t.waits.length t.wc]] w fun e w' => e = .returned (.bool (checkB s t)) ∧ Below w.heap.size w w' := by
  have hb := ((Below.refl w.heap.size w).alloc (Nat.le_refl _) (.cells #[.int .i64 s.proto, .slice s.ca s.cores.length s.cc, .slice s.ha s.homes.length s.hc, .slice s.ta s.tasks.length s.tc] 26)).alloc (by simp) (.cells #[.int .i64 t.ticks, .slice t.sa t.slots.length t.sc, .slice t.ja t.jobs.length t.jc, .slice t.wa t.waits.length t.wc] 38)
  have sc := (SetCells.new w s 26).keep (Keeps.alloc _ (.cells #[.int .i64 t.ticks, .slice t.sa t.slots.length t.sc, .slice t.ja t.jobs.length t.jc, .slice t.wa t.waits.length t.wc] 38))
  have tb := TraceBox.new (w.alloc (.cells #[.int .i64 s.proto, .slice s.ca s.cores.length s.cc, .slice s.ha s.homes.length s.hc, .slice s.ta s.tasks.length s.tc] 26)) t 38
  have z1 : (w.alloc (.cells #[.int .i64 s.proto, .slice s.ca s.cores.length s.cc, .slice s.ha s.homes.length s.hc, .slice s.ta s.tasks.length s.tc] 26)).heap.size = w.heap.size + 1 := by simp
  rw [z1] at tb
  have H := hidp (hs.keep (Keeps.of_below hb))
  have HT := hidp (ht.keep (Keeps.of_below hb))
  obtain ⟨OK, HK⟩ : ∃ v, Hid (okS s = v) := ⟨_, hidp rfl⟩
  have HV0 : Hid (checkB s t = (okS s && (inB t.ticks 0 20000 && (slotsB s t && (jobsB s t && waitsB s t))))) := hidp rfl
  obtain ⟨V, HV⟩ : ∃ V, Hid (checkB s t = V) := ⟨_, hidp rfl⟩
  rw [HV.out]
  rw [HV.out, HK.out] at HV0
  clear HV z1 hs ht
  obtain ⟨tk, sa, sc', slots, ja, jc, jobs, wa, wc, ws⟩ := t
  dsimp only at hb sc tb H HT HV0 ⊢
  obtain ⟨c0, c1, c2, c3⟩ := id sc
  obtain ⟨t0, t1, t2, t3⟩ := id tb
  dsimp only at t0 t1 t2 t3
  go_enter Try.func27, Try.ntmps27
  go_wp2_with fail
  refine (rok_any s _ H.out).mono ?_
  rintro e u2 ⟨rfl, hb2⟩
  rw [HK.out]
  replace hb := hb.trans (hb2.mono hb.size)
  replace sc := sc.keep (Keeps.of_below hb2)
  replace tb := tb.keep (Keeps.of_below hb2)
  replace H := hidp (H.out.keep (Keeps.of_below hb2))
  replace HT := hidp (HT.out.keep (Keeps.of_below hb2))
  clear hb2
  clear c0 c1 c2 c3 t0 t1 t2 t3
  obtain ⟨c0, c1, c2, c3⟩ := id sc
  obtain ⟨t0, t1, t2, t3⟩ := id tb
  dsimp only at t0 t1 t2 t3
  cases OK with
  | false =>
    have HVf : Hid (V = false) := hidp (by rw [HV0.out]; rfl)
    go_wp2_with fail
    go_ret
    exact ⟨ret_bool HVf.out.symm, hb⟩
  | true =>
    have HG := hidp (Good.of HK.out)
    have HV1 := hidp HV0.out
    rw [Bool.true_and, slots_same HG.out, jobs_same HG.out, waits_same HG.out] at HV1
    clear HV0
    by_cases a0 : 0 ≤ tk
    · have b0 : decide (0 ≤ tk) = true := by simpa using a0
      by_cases a1 : tk ≤ 20000
      · have b1 : decide (tk ≤ 20000) = true := by simpa using a1
        have HV2 := hidp HV1.out
        rw [inB_true.2 ⟨a0, a1⟩, Bool.true_and] at HV2
        have Htk := hidp (And.intro a0 a1)
        clear a0 a1 HV1
        go_wp2_with fail
        refine (rslots_any s ⟨tk, sa, sc', slots, ja, jc, jobs, wa, wc, ws⟩ _ H.out HT.out).mono ?_
        rintro e u4 ⟨rfl, hb2⟩
        obtain ⟨B1, HB1⟩ : ∃ v, Hid (slotsQ s ⟨tk, sa, sc', slots, ja, jc, jobs, wa, wc, ws⟩ = v) := ⟨_, hidp rfl⟩
        rw [HB1.out]
        rw [HB1.out] at HV2
        replace hb := hb.trans (hb2.mono hb.size)
        replace sc := sc.keep (Keeps.of_below hb2)
        replace tb := tb.keep (Keeps.of_below hb2)
        replace H := hidp (H.out.keep (Keeps.of_below hb2))
        replace HT := hidp (HT.out.keep (Keeps.of_below hb2))
        clear hb2
        clear c0 c1 c2 c3 t0 t1 t2 t3
        obtain ⟨c0, c1, c2, c3⟩ := id sc
        obtain ⟨t0, t1, t2, t3⟩ := id tb
        dsimp only at t0 t1 t2 t3
        cases B1 with
        | false =>
          have HVf : Hid (V = false) := hidp (by rw [HV2.out]; rfl)
          go_wp2_with fail
          go_ret
          exact ⟨ret_bool HVf.out.symm, hb⟩
        | true =>
          have HV3 := hidp HV2.out
          rw [Bool.true_and] at HV3
          clear HV2
          go_wp2_with fail
          refine (rjobs_any s ⟨tk, sa, sc', slots, ja, jc, jobs, wa, wc, ws⟩ _ H.out HT.out Htk.out).mono ?_
          rintro e u5 ⟨rfl, hb2⟩
          obtain ⟨B2, HB2⟩ : ∃ v, Hid (jobsQ s ⟨tk, sa, sc', slots, ja, jc, jobs, wa, wc, ws⟩ = v) := ⟨_, hidp rfl⟩
          rw [HB2.out]
          rw [HB2.out] at HV3
          replace hb := hb.trans (hb2.mono hb.size)
          replace sc := sc.keep (Keeps.of_below hb2)
          replace tb := tb.keep (Keeps.of_below hb2)
          replace H := hidp (H.out.keep (Keeps.of_below hb2))
          replace HT := hidp (HT.out.keep (Keeps.of_below hb2))
          clear hb2
          clear c0 c1 c2 c3 t0 t1 t2 t3
          obtain ⟨c0, c1, c2, c3⟩ := id sc
          obtain ⟨t0, t1, t2, t3⟩ := id tb
          dsimp only at t0 t1 t2 t3
          cases B2 with
          | false =>
            have HVf : Hid (V = false) := hidp (by rw [HV3.out]; rfl)
            go_wp2_with fail
            go_ret
            exact ⟨ret_bool HVf.out.symm, hb⟩
          | true =>
            have HV4 := hidp HV3.out
            rw [Bool.true_and] at HV4
            clear HV3
            go_wp2_with fail
            refine (rwaits_any s ⟨tk, sa, sc', slots, ja, jc, jobs, wa, wc, ws⟩ _ H.out HT.out HK.out).mono ?_
            rintro e u6 ⟨rfl, hb2⟩
            obtain ⟨B3, HB3⟩ : ∃ v, Hid (waitsQ s ⟨tk, sa, sc', slots, ja, jc, jobs, wa, wc, ws⟩ = v) := ⟨_, hidp rfl⟩
            rw [HB3.out]
            rw [HB3.out] at HV4
            replace hb := hb.trans (hb2.mono hb.size)
            replace sc := sc.keep (Keeps.of_below hb2)
            replace tb := tb.keep (Keeps.of_below hb2)
            replace H := hidp (H.out.keep (Keeps.of_below hb2))
            replace HT := hidp (HT.out.keep (Keeps.of_below hb2))
            clear hb2
            clear c0 c1 c2 c3 t0 t1 t2 t3
            obtain ⟨c0, c1, c2, c3⟩ := id sc
            obtain ⟨t0, t1, t2, t3⟩ := id tb
            dsimp only at t0 t1 t2 t3
            go_wp2_with fail
            go_ret
            exact ⟨ret_bool HV4.out.symm, hb⟩
      · have b1 : decide (tk ≤ 20000) = false := by simpa using a1
        have HVf : Hid (V = false) := hidp (by rw [HV1.out, show inB tk 0 20000 = false from Bool.eq_false_iff.2 (fun h => a1 (inB_true.1 h).2)]; rfl)
        clear HV1
        go_wp2_with fail
        go_ret
        exact ⟨ret_bool HVf.out.symm, hb⟩
    · have b0 : decide (0 ≤ tk) = false := by simpa using a0
      have HVf : Hid (V = false) := hidp (by rw [HV1.out, show inB tk 0 20000 = false from Bool.eq_false_iff.2 (fun h => a0 (inB_true.1 h).1)]; rfl)
      clear HV1
      go_wp2_with fail
      go_ret
      exact ⟨ret_bool HVf.out.symm, hb⟩
end Go.Proofs.Ytmchjmgifipfoaa
