/- delay: Inverted. -/
import Derived.Test.YtmchjmgifipfoaaDelay4
namespace Go.Proofs.Ytmchjmgifipfoaa
open Go.ChangeShapes Go.WideShapes Go.ChangeAt Go.RowKit
set_option linter.unusedVariables false
set_option linter.unusedSimpArgs false

def invStep (a : Int × Nat) (m : MomM) : Int × Nat := (a.1 + m.holds, if m.ran = true ∨ 0 < a.1 + m.holds ∨ m.lower = false then a.2 else a.2 + 1)
def invG (ms : List MomM) : Int × Nat := ms.foldl invStep (0, 0)
def invV (s : SetR) (t : TraceR) (d : DoneM) : Int := if okS s = true ∧ 0 ≤ d.task ∧ d.task < s.tasks.length then ((invG (momL s t d)).2 : Int) else 0
theorem invG_snoc (ms : List MomM) {k : Nat} (hk : k < ms.length) : invG (ms.take (k + 1)) = invStep (invG (ms.take k)) (ms.getD k default) := by
  unfold invG; rw [take_snocD ms k hk, List.foldl_append]; rfl
theorem mom_len (s : SetR) (t : TraceR) (d : DoneM) : (momL s t d).length ≤ 20001 := by
  unfold momL
  split
  · simp
  · rw [waits_len, slots_len]; unfold mom0; simp; unfold toD fromD; omega
theorem mom_holds {s : SetR} {t : TraceR} {d : DoneM} (hw : t.waits.length ≤ 1000) : HoldsIn (momL s t d) 2000 := by
  unfold momL
  split
  · intro m hm; simp at hm
  · refine (waits_holds t.waits (slots_holds t.slots (Int.le_refl 0) (by unfold mom0; simp) (mom0_holds _))).mono (by omega)

set_option maxHeartbeats 1000000 in
set_option maxRecDepth 100000 in
theorem dmoments_nil (s : SetR) (t : TraceR) (d : DoneM) (w : World) (hf : toD d ≤ fromD d) : Calls Try.prog 40 #[.agg #[.int .i64 s.proto, .slice s.ca s.cores.length s.cc, .slice s.ha s.homes.length s.hc, .slice s.ta s.tasks.length s.tc], .agg #[.int .i64 t.ticks, .slice t.sa t.slots.length t.sc, .slice t.ja t.jobs.length t.jc, .slice t.wa t.waits.length t.wc], .agg #[.int .i64 d.task, .int .i64 d.rel, .int .i64 d.fin]] w fun e w' => e = .returned (.slice none 0 0) ∧ Below w.heap.size w w' := by
  have hb := (((Below.refl w.heap.size w).alloc (Nat.le_refl _) (.cells #[.int .i64 s.proto, .slice s.ca s.cores.length s.cc, .slice s.ha s.homes.length s.hc, .slice s.ta s.tasks.length s.tc] 26)).alloc (by simp) (.cells #[.int .i64 t.ticks, .slice t.sa t.slots.length t.sc, .slice t.ja t.jobs.length t.jc, .slice t.wa t.waits.length t.wc] 38)).alloc (by simp; omega) (.cells #[.int .i64 d.task, .int .i64 d.rel, .int .i64 d.fin] 32)
  have db := DoneBox.new ((w.alloc (.cells #[.int .i64 s.proto, .slice s.ca s.cores.length s.cc, .slice s.ha s.homes.length s.hc, .slice s.ta s.tasks.length s.tc] 26)).alloc (.cells #[.int .i64 t.ticks, .slice t.sa t.slots.length t.sc, .slice t.ja t.jobs.length t.jc, .slice t.wa t.waits.length t.wc] 38)) d 32
  have z2 : ((w.alloc (.cells #[.int .i64 s.proto, .slice s.ca s.cores.length s.cc, .slice s.ha s.homes.length s.hc, .slice s.ta s.tasks.length s.tc] 26)).alloc (.cells #[.int .i64 t.ticks, .slice t.sa t.slots.length t.sc, .slice t.ja t.jobs.length t.jc, .slice t.wa t.waits.length t.wc] 38)).heap.size = w.heap.size + 1 + 1 := by simp
  rw [z2] at db
  clear z2
  obtain ⟨dt, dr, df⟩ := d
  obtain ⟨F, HF⟩ : ∃ v, Hid (fromD ⟨dt, dr, df⟩ = v) := ⟨_, hidp rfl⟩
  obtain ⟨T, HT⟩ : ∃ v, Hid (toD ⟨dt, dr, df⟩ = v) := ⟨_, hidp rfl⟩
  have m1 : (if dr < 0 then 0 else dr) = F := by rw [← HF.out]; unfold fromD; dsimp only; split <;> omega
  have m2 : (if 20001 < df then 20001 else df) = T := by rw [← HT.out]; unfold toD; dsimp only; split <;> omega
  rw [HF.out, HT.out] at hf
  have dN : decide (T ≤ F) = true := by simpa using hf
  dsimp only at hb db ⊢
  obtain ⟨a0, a1, a2⟩ := id db
  dsimp only at a0 a1 a2
  go_enter Try.func40, Try.ntmps40
  go_wp2_with fail
  go_step3
  go_wp2_with fail
  go_quiet (fail)
  go_wp2_with fail
  try rw [Exit.noGoto_ret]
  go_ret
  exact ⟨rfl, below_drewN hb _⟩
/-- the row of a job's moments, one way or the other -/
theorem dmoments_all (s : SetR) (t : TraceR) (d : DoneM) (k : Nat) (w : World) (hs : SetOk w s) (ht : TraceOk w t) (hw : t.waits.length ≤ 1000) (hd : d.task = k) (hk : k < s.tasks.length) : Calls Try.prog 40 #[.agg #[.int .i64 s.proto, .slice s.ca s.cores.length s.cc, .slice s.ha s.homes.length s.hc, .slice s.ta s.tasks.length s.tc], .agg #[.int .i64 t.ticks, .slice t.sa t.slots.length t.sc, .slice t.ja t.jobs.length t.jc, .slice t.wa t.waits.length t.wc], .agg #[.int .i64 d.task, .int .i64 d.rel, .int .i64 d.fin]] w fun e w' => ∃ (A : Option Addr) (b n : Nat), e = .returned (.slice A n n) ∧ n = (momL s t d).length ∧ (0 < n → A = some ⟨b, 0, none⟩ ∧ MBk w' b (momL s t d)) ∧ Below w.heap.size w w' := by
  by_cases hf : fromD d < toD d
  · refine (dmoments_any s t d k w hs ht hw hd hk hf).mono ?_
    rintro e w' ⟨b, n, rfl, hn, hB, hb⟩
    exact ⟨_, b, n, rfl, hn, fun _ => ⟨rfl, hB⟩, hb⟩
  · refine (dmoments_nil s t d w (by omega)).mono ?_
    rintro e w' ⟨rfl, hb⟩
    have hm : momL s t d = [] := by unfold momL; rw [if_pos (by omega)]
    exact ⟨none, 0, 0, rfl, by rw [hm]; rfl, fun h => by omega, hb⟩

set_option maxHeartbeats 4000000 in
set_option maxRecDepth 100000 in
theorem dinv_any (s : SetR) (t : TraceR) (d : DoneM) (w : World) (hs : SetOk w s) (ht : TraceOk w t) (hw : t.waits.length ≤ 1000) : Calls Try.prog 22 #[.agg #[.int .i64 s.proto, .slice s.ca s.cores.length s.cc, .slice s.ha s.homes.length s.hc, .slice s.ta s.tasks.length s.tc], .agg #[.int .i64 t.ticks, .slice t.sa t.slots.length t.sc, .slice t.ja t.jobs.length t.jc, .slice t.wa t.waits.length t.wc], .agg #[.int .i64 d.task, .int .i64 d.rel, .int .i64 d.fin]] w fun e w' => e = .returned (.int .i64 (invV s t d)) ∧ Below w.heap.size w w' := by
  have hb := (((Below.refl w.heap.size w).alloc (Nat.le_refl _) (.cells #[.int .i64 s.proto, .slice s.ca s.cores.length s.cc, .slice s.ha s.homes.length s.hc, .slice s.ta s.tasks.length s.tc] 26)).alloc (by simp) (.cells #[.int .i64 t.ticks, .slice t.sa t.slots.length t.sc, .slice t.ja t.jobs.length t.jc, .slice t.wa t.waits.length t.wc] 38)).alloc (by simp; omega) (.cells #[.int .i64 d.task, .int .i64 d.rel, .int .i64 d.fin] 32)
  have sc := ((SetCells.new w s 26).keep (Keeps.alloc _ (.cells #[.int .i64 t.ticks, .slice t.sa t.slots.length t.sc, .slice t.ja t.jobs.length t.jc, .slice t.wa t.waits.length t.wc] 38))).keep (Keeps.alloc _ (.cells #[.int .i64 d.task, .int .i64 d.rel, .int .i64 d.fin] 32))
  have tb := (TraceBox.new (w.alloc (.cells #[.int .i64 s.proto, .slice s.ca s.cores.length s.cc, .slice s.ha s.homes.length s.hc, .slice s.ta s.tasks.length s.tc] 26)) t 38).keep (Keeps.alloc _ (.cells #[.int .i64 d.task, .int .i64 d.rel, .int .i64 d.fin] 32))
  have db := DoneBox.new ((w.alloc (.cells #[.int .i64 s.proto, .slice s.ca s.cores.length s.cc, .slice s.ha s.homes.length s.hc, .slice s.ta s.tasks.length s.tc] 26)).alloc (.cells #[.int .i64 t.ticks, .slice t.sa t.slots.length t.sc, .slice t.ja t.jobs.length t.jc, .slice t.wa t.waits.length t.wc] 38)) d 32
  have z1 : (w.alloc (.cells #[.int .i64 s.proto, .slice s.ca s.cores.length s.cc, .slice s.ha s.homes.length s.hc, .slice s.ta s.tasks.length s.tc] 26)).heap.size = w.heap.size + 1 := by simp
  have z2 : ((w.alloc (.cells #[.int .i64 s.proto, .slice s.ca s.cores.length s.cc, .slice s.ha s.homes.length s.hc, .slice s.ta s.tasks.length s.tc] 26)).alloc (.cells #[.int .i64 t.ticks, .slice t.sa t.slots.length t.sc, .slice t.ja t.jobs.length t.jc, .slice t.wa t.waits.length t.wc] 38)).heap.size = w.heap.size + 1 + 1 := by simp
  rw [z1] at tb
  rw [z2] at db
  clear z1 z2
  have H := hidp (hs.keep (Keeps.of_below hb))
  have HTr := hidp (ht.keep (Keeps.of_below hb))
  have l3 : s.tasks.length ≤ maxLen := Nat.le_trans hs.tasks.sl.2.1 hs.tasks.sl.2.2
  unfold maxLen at l3
  clear hs ht
  have HV0 : Hid (invV s t d = if okS s = true ∧ 0 ≤ d.task ∧ d.task < s.tasks.length then ((invG (momL s t d)).2 : Int) else 0) := hidp rfl
  obtain ⟨CA, HCA⟩ : ∃ v, Hid (chkAt s = v) := ⟨_, hidp rfl⟩
  obtain ⟨CE, HCE⟩ : ∃ v, Hid (chkE s = v) := ⟨_, hidp rfl⟩
  have HK : Hid (okS s = (CE == 0)) := hidp (by rw [← HCE.out]; rfl)
  obtain ⟨c0, c1, c2, c3⟩ := id sc
  go_enter Try.func22, Try.ntmps22
  go_wp2_with fail
  go_step3
  go_wp2_with fail
  refine (check_any s _ H.out).mono ?_
  rintro e u2 ⟨rfl, hb2⟩
  rw [HCA.out, HCE.out]
  replace hb := hb.trans (hb2.mono hb.size)
  replace sc := sc.keep (Keeps.of_below hb2)
  replace tb := tb.keep (Keeps.of_below hb2)
  replace db := db.keep (Keeps.of_below hb2)
  replace H := hidp (H.out.keep (Keeps.of_below hb2))
  replace HTr := hidp (HTr.out.keep (Keeps.of_below hb2))
  clear hb2 c0 c1 c2 c3
  obtain ⟨c0, c1, c2, c3⟩ := id sc
  obtain ⟨a0, a1, a2⟩ := id db
  by_cases hce : CE = 0
  · have e1 : (CE != 0) = false := by simpa using hce
    by_cases h0 : 0 ≤ d.task
    · have f0 : decide (d.task < 0) = false := by simpa using h0
      by_cases h1 : d.task < s.tasks.length
      · have HV : Hid (invV s t d = ((invG (momL s t d)).2 : Int)) := hidp (by rw [HV0.out, if_pos]; exact ⟨by rw [HK.out]; simpa using hce, h0, h1⟩)
        have f1 : decide ((s.tasks.length : Int) ≤ d.task) = false := by simpa using h1
        obtain ⟨k, hk⟩ : ∃ k : Nat, Hid (d.task = k) := ⟨d.task.toNat, hidp (by omega)⟩
        have hks : k < s.tasks.length := by have := hk.out; omega
        obtain ⟨t0, t1, t2, t3⟩ := id tb
        obtain ⟨ms, HMs⟩ : ∃ ms, Hid (momL s t d = ms) := ⟨_, hidp rfl⟩
        have hml : ms.length ≤ 20001 := by rw [← HMs.out]; exact mom_len s t d
        have HH : Hid (HoldsIn ms 2000) := hidp (by rw [← HMs.out]; exact mom_holds hw)
        clear hce
        go_wp2
        go_step3
        go_wp2_with fail
        refine (dmoments_all s t d k _ H.out HTr.out hw hk.out hks).mono ?_
        rintro e u3 ⟨A, b, n, rfl, hn, hAB, hb2⟩
        rw [HMs.out] at hn hAB
        replace hb := hb.trans (hb2.mono hb.size)
        have HAB := hidp hAB
        clear hAB hb2 c0 c1 c2 c3 a0 a1 a2 t0 t1 t2 t3 sc tb db H HTr f0 f1 h0 h1
        have Hn := hidp hn
        have hn2 : n ≤ 20001 := by rw [hn]; exact hml
        clear hn hml
        go_wp2_with fail
        go_loopg [9, 10, 38] n (fun gg m h i wr => ∃ (q c : Nat) (z : Int), q + gg = n ∧ i = .int .i64 q ∧ m = .int .i64 c ∧ h = .int .i64 z ∧ Hid (invG (ms.take q) = (z, c)) ∧ c ≤ q ∧ -(2000 * (q : Int)) ≤ z ∧ z ≤ 2000 * (q : Int) ∧ Below u3.heap.size u3 wr)
        case atStart => exact ⟨0, 0, 0, by omega, rfl, rfl, rfl, hidp (by rfl), by omega, by omega, by omega, Below.refl _ _⟩
        case round =>
          obtain ⟨q, c, z, hq, rfl, rfl, rfl, HG, hc, hz0, hz1, hbr⟩ := hrel
          by_cases hlt : q < n
          · obtain ⟨hA, hB⟩ := HAB.out (by omega)
            subst hA
            have hqm : q < ms.length := by rw [← Hn.out]; exact hlt
            have B := hB.below hbr
            obtain ⟨y, HY⟩ : ∃ y, Hid (ms.getD q default = y) := ⟨_, rfl⟩
            have p0 := B.c0 hqm
            have p1 := B.c1 hqm
            have p2 := B.c2 hqm
            have hh := HH.out.at_ hqm
            rw [HY.out] at p0 p1 p2 hh
            obtain ⟨R, L, h⟩ := y
            dsimp only at p0 p1 p2 hh
            obtain ⟨hh0, hh1⟩ := hh
            have Hs : Hid (invG (ms.take (q + 1)) = invStep (z, c) ⟨R, L, h⟩) := hidp (by rw [invG_snoc ms hqm, HG.out, HY.out])
            have wz : IntKind.i64.wrap (z + h) = z + h := IntWalk.i64_in _ (by omega)
            obtain ⟨Z, hZ⟩ : ∃ Z, z + h = Z := ⟨_, rfl⟩
            rw [hZ] at wz
            have Z0 : -(2000 * ((q + 1 : Nat) : Int)) ≤ Z ∧ Z ≤ 2000 * ((q + 1 : Nat) : Int) := by omega
            have Hs2 : Hid (invG (ms.take (q + 1)) = (Z, if R = true ∨ 0 < Z ∨ L = false then c else c + 1)) := hidp (by rw [Hs.out]; unfold invStep; dsimp only; rw [hZ])
            have HZ2 := hidp Z0
            clear hB B Hs HY Z0
            cases R with
            | true =>
              have Hz : Hid (invG (ms.take (q + 1)) = (Z, c)) := hidp (by rw [Hs2.out]; simp)
              go_wp2_with fail
              go_roundg (gk - 1)
              case measure => omega
              case rel => exact ⟨q + 1, c, Z, by omega, by go_num, rfl, rfl, Hz, by omega, HZ2.out.1, HZ2.out.2, hbr.alloc hbr.size _⟩
            | false =>
              by_cases hp : 0 < Z
              · have Hz : Hid (invG (ms.take (q + 1)) = (Z, c)) := hidp (by rw [Hs2.out]; simp [hp])
                have f2 : decide (0 < Z) = true := by simpa using hp
                go_wp2_with fail
                go_roundg (gk - 1)
                case measure => omega
                case rel => exact ⟨q + 1, c, Z, by omega, by go_num, rfl, rfl, Hz, by omega, HZ2.out.1, HZ2.out.2, hbr.alloc hbr.size _⟩
              · have f2 : decide (0 < Z) = false := by simpa using hp
                cases L with
                | false =>
                  have Hz : Hid (invG (ms.take (q + 1)) = (Z, c)) := hidp (by rw [Hs2.out]; simp)
                  go_wp2_with fail
                  go_roundg (gk - 1)
                  case measure => omega
                  case rel => exact ⟨q + 1, c, Z, by omega, by go_num, rfl, rfl, Hz, by omega, HZ2.out.1, HZ2.out.2, hbr.alloc hbr.size _⟩
                | true =>
                  have Hz : Hid (invG (ms.take (q + 1)) = (Z, c + 1)) := hidp (by rw [Hs2.out, if_neg (by simp; omega)])
                  go_wp2_with fail
                  go_roundg (gk - 1)
                  case measure => omega
                  case rel => exact ⟨q + 1, c + 1, Z, by omega, by go_num, by go_num, rfl, Hz, by omega, HZ2.out.1, HZ2.out.2, hbr.alloc hbr.size _⟩
          · have Hz := HG.out
            rw [List.take_of_length_le (by rw [← Hn.out]; omega)] at Hz
            go_wp2_with fail
            try rw [Exit.noGoto_ret]
            go_ret
            exact ⟨ret_int (by rw [HV.out, HMs.out, Hz]), hb.trans (hbr.mono hb.size)⟩
      · have HV : Hid (invV s t d = 0) := hidp (by rw [HV0.out, if_neg]; intro h; exact h1 h.2.2)
        have f1 : decide ((s.tasks.length : Int) ≤ d.task) = true := by simp; omega
        clear hce h0 h1
        go_wp2_with fail
        try rw [Exit.noGoto_ret]
        go_ret
        exact ⟨ret_int HV.out.symm, hb⟩
    · have HV : Hid (invV s t d = 0) := hidp (by rw [HV0.out, if_neg]; intro h; exact h0 h.2.1)
      have f0 : decide (d.task < 0) = true := by simp; omega
      clear hce h0
      go_wp2_with fail
      try rw [Exit.noGoto_ret]
      go_ret
      exact ⟨ret_int HV.out.symm, hb⟩
  · have e1 : (CE != 0) = true := by simpa using hce
    have HV : Hid (invV s t d = 0) := hidp (by rw [HV0.out, if_neg]; intro h; rw [HK.out] at h; exact hce (by simpa using h.1))
    clear hce
    go_wp2_with fail
    try rw [Exit.noGoto_ret]
    go_ret
    exact ⟨ret_int HV.out.symm, hb⟩
end Go.Proofs.Ytmchjmgifipfoaa
