/- legal: Check. -/
import Derived.Test.YtmchjmgifipfoaaLegal3
import Derived.Test.YtmchjmgifipfoaaLegal4
import Derived.Test.YtmchjmgifipfoaaLegal5
namespace Go.Proofs.Ytmchjmgifipfoaa
open Go.ChangeShapes Go.WideShapes Go.ChangeAt Go.RowKit
set_option linter.unusedVariables false
set_option linter.unusedSimpArgs false

set_option maxHeartbeats 4000000 in
set_option maxRecDepth 100000 in
theorem lcheck_any (s : SetR) (t : TraceR) (w : World) (hs : SetOk w s) (ht : TraceOk w t) : Calls Try.prog 11 #[.agg #[.int .i64 s.proto, .slice s.ca s.cores.length s.cc, .slice s.ha s.homes.length s.hc, .slice s.ta s.tasks.length s.tc], .agg #[.int .i64 t.ticks, .slice t.sa t.slots.length t.sc, .slice t.ja t.jobs.length t.jc, .slice t.wa t.waits.length t.wc]] w fun e w' => e = .returned (.bool (checkB s t)) ∧ Below w.heap.size w w' := by
  have hb := ((Below.refl w.heap.size w).alloc (Nat.le_refl _) (.cells #[.int .i64 s.proto, .slice s.ca s.cores.length s.cc, .slice s.ha s.homes.length s.hc, .slice s.ta s.tasks.length s.tc] 26)).alloc (by simp) (.cells #[.int .i64 t.ticks, .slice t.sa t.slots.length t.sc, .slice t.ja t.jobs.length t.jc, .slice t.wa t.waits.length t.wc] 38)
  have sc := (SetCells.new w s 26).keep (Keeps.alloc _ (.cells #[.int .i64 t.ticks, .slice t.sa t.slots.length t.sc, .slice t.ja t.jobs.length t.jc, .slice t.wa t.waits.length t.wc] 38))
  have tb := TraceBox.new (w.alloc (.cells #[.int .i64 s.proto, .slice s.ca s.cores.length s.cc, .slice s.ha s.homes.length s.hc, .slice s.ta s.tasks.length s.tc] 26)) t 38
  have z1 : (w.alloc (.cells #[.int .i64 s.proto, .slice s.ca s.cores.length s.cc, .slice s.ha s.homes.length s.hc, .slice s.ta s.tasks.length s.tc] 26)).heap.size = w.heap.size + 1 := by simp
  rw [z1] at tb
  have H := hidp (hs.keep (Keeps.of_below hb))
  have HT := hidp (ht.keep (Keeps.of_below hb))
  obtain ⟨CA, HCA⟩ : ∃ v, Hid (chkAt s = v) := ⟨_, hidp rfl⟩
  obtain ⟨CE, HCE⟩ : ∃ v, Hid (chkE s = v) := ⟨_, hidp rfl⟩
  have HK : Hid (okS s = (CE == 0)) := hidp (by rw [← HCE.out]; rfl)
  have HV0 : Hid (checkB s t = (okS s && (inB t.ticks 0 20000 && (slotsB s t && (jobsB s t && waitsB s t))))) := hidp rfl
  obtain ⟨V, HV⟩ : ∃ V, Hid (checkB s t = V) := ⟨_, hidp rfl⟩
  rw [HV.out]
  rw [HV.out] at HV0
  clear HV z1 hs ht
  obtain ⟨tk, sa, sc', slots, ja, jc, jobs, wa, wc, ws⟩ := t
  dsimp only at hb sc tb H HT HV0 ⊢
  obtain ⟨c0, c1, c2, c3⟩ := id sc
  obtain ⟨t0, t1, t2, t3⟩ := id tb
  dsimp only at t0 t1 t2 t3
  go_enter Try.func11, Try.ntmps11
  go_wp2_with fail
  refine (check_any s _ H.out).mono ?_
  rintro e u2 ⟨rfl, hb2⟩
  rw [HCA.out, HCE.out]
  replace hb := hb.trans (hb2.mono hb.size)
  replace sc := sc.keep (Keeps.of_below hb2)
  replace tb := tb.keep (Keeps.of_below hb2)
  replace H := hidp (H.out.keep (Keeps.of_below hb2))
  replace HT := hidp (HT.out.keep (Keeps.of_below hb2))
  clear hb2 c0 c1 c2 c3 t0 t1 t2 t3
  obtain ⟨c0, c1, c2, c3⟩ := id sc
  obtain ⟨t0, t1, t2, t3⟩ := id tb
  dsimp only at t0 t1 t2 t3
  by_cases hce : CE = 0
  · have e1 : (CE == 0) = true := by simpa using hce
    have HG := hidp (Good.of (HK.out.trans e1))
    have HV1 := hidp HV0.out
    rw [HK.out, e1, Bool.true_and] at HV1
    clear HV0 hce
    cases hI : inB tk 0 20000 with
    | false =>
      have HI := hidp hI
      have HVf : Hid (V = false) := hidp (by rw [HV1.out, hI]; rfl)
      clear hI HV1
      go_wp2_with (go_at_call 32; (with_reducible refine (lwithin_is HI.out _).mono ?_); rintro e w' ⟨rfl, rfl⟩)
      go_ret
      exact ⟨ret_bool HVf.out.symm, hb⟩
    | true =>
      have HI := hidp hI
      have HV2 := hidp HV1.out
      rw [hI, Bool.true_and] at HV2
      have Htk := hidp (inB_true.1 hI)
      clear hI HV1
      go_wp2_with (go_at_call 32; (with_reducible refine (lwithin_is HI.out _).mono ?_); rintro e w' ⟨rfl, rfl⟩)
      refine (lslots_any s ⟨tk, sa, sc', slots, ja, jc, jobs, wa, wc, ws⟩ _ H.out HT.out HG.out Htk.out).mono ?_
      rintro e u3 ⟨rfl, hb2⟩
      obtain ⟨B1, HB1⟩ : ∃ v, Hid (slotsB s ⟨tk, sa, sc', slots, ja, jc, jobs, wa, wc, ws⟩ = v) := ⟨_, hidp rfl⟩
      rw [HB1.out]
      rw [HB1.out] at HV2
      replace hb := hb.trans (hb2.mono hb.size)
      replace sc := sc.keep (Keeps.of_below hb2)
      replace tb := tb.keep (Keeps.of_below hb2)
      replace H := hidp (H.out.keep (Keeps.of_below hb2))
      replace HT := hidp (HT.out.keep (Keeps.of_below hb2))
      clear hb2 c0 c1 c2 c3 t0 t1 t2 t3
      obtain ⟨c0, c1, c2, c3⟩ := id sc
      obtain ⟨t0, t1, t2, t3⟩ := id tb
      dsimp only at t0 t1 t2 t3
      cases B1 with
      | false =>
        have HVf : Hid (V = false) := hidp (by rw [HV2.out]; rfl)
        go_wp2_with fail
        go_ret
        exact ⟨ret_bool HVf.out.symm, hb⟩
      | true =>
        have HV3 := hidp HV2.out
        rw [Bool.true_and] at HV3
        clear HV2
        go_wp2_with fail
        refine (ljobs_any s ⟨tk, sa, sc', slots, ja, jc, jobs, wa, wc, ws⟩ _ H.out HT.out HG.out Htk.out).mono ?_
        rintro e u4 ⟨rfl, hb2⟩
        obtain ⟨B2, HB2⟩ : ∃ v, Hid (jobsB s ⟨tk, sa, sc', slots, ja, jc, jobs, wa, wc, ws⟩ = v) := ⟨_, hidp rfl⟩
        rw [HB2.out]
        rw [HB2.out] at HV3
        replace hb := hb.trans (hb2.mono hb.size)
        replace sc := sc.keep (Keeps.of_below hb2)
        replace tb := tb.keep (Keeps.of_below hb2)
        replace H := hidp (H.out.keep (Keeps.of_below hb2))
        replace HT := hidp (HT.out.keep (Keeps.of_below hb2))
        clear hb2 c0 c1 c2 c3 t0 t1 t2 t3
        obtain ⟨c0, c1, c2, c3⟩ := id sc
        obtain ⟨t0, t1, t2, t3⟩ := id tb
        dsimp only at t0 t1 t2 t3
        cases B2 with
        | false =>
          have HVf : Hid (V = false) := hidp (by rw [HV3.out]; rfl)
          go_wp2_with fail
          go_ret
          exact ⟨ret_bool HVf.out.symm, hb⟩
        | true =>
          have HV4 := hidp HV3.out
          rw [Bool.true_and] at HV4
          clear HV3
          go_wp2_with fail
          refine (lwaits_any s ⟨tk, sa, sc', slots, ja, jc, jobs, wa, wc, ws⟩ _ H.out HT.out HG.out Htk.out).mono ?_
          rintro e u5 ⟨rfl, hb2⟩
          obtain ⟨B3, HB3⟩ : ∃ v, Hid (waitsB s ⟨tk, sa, sc', slots, ja, jc, jobs, wa, wc, ws⟩ = v) := ⟨_, hidp rfl⟩
          rw [HB3.out]
          rw [HB3.out] at HV4
          replace hb := hb.trans (hb2.mono hb.size)
          clear hb2 c0 c1 c2 c3 t0 t1 t2 t3
          go_wp2_with fail
          go_ret
          exact ⟨ret_bool HV4.out.symm, hb⟩
  · have e1 : (CE == 0) = false := by simpa using hce
    have HVf : Hid (V = false) := hidp (by rw [HV0.out, HK.out, e1]; rfl)
    clear hce
    go_wp2_with fail
    go_ret
    exact ⟨ret_bool HVf.out.symm, hb⟩
end Go.Proofs.Ytmchjmgifipfoaa
