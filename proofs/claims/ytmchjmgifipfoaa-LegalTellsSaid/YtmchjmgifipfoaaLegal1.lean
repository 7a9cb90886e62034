/- legal: within, timed, placed, resource. -/
import Derived.Test.YtmchjmgifipfoaaLegNums
import Derived.Test.YtmchjmgifipfoaaOwn
import Derived.Deep.RegionHeld3
namespace Go.Proofs.Ytmchjmgifipfoaa
open Go.ChangeShapes Go.WideShapes Go.ChangeAt Go.RowKit
set_option linter.unusedVariables false
set_option linter.unusedSimpArgs false

theorem lwithin_any (x lo hi : Int) (w : World) : Calls Try.prog 32 #[.int .i64 x, .int .i64 lo, .int .i64 hi] w fun e w' => e = .returned (.bool (inB x lo hi)) ∧ w = w' := by
  by_cases h : lo ≤ x
  · have H : Hid (inB x lo hi = decide (x ≤ hi)) := hidp (by simp [inB, h])
    go_enter Try.func32, Try.ntmps32
    go_wp2
    go_ret
    exact ⟨ret_bool H.out.symm, rfl⟩
  · have H : Hid (inB x lo hi = false) := hidp (by simp [inB, h])
    go_enter Try.func32, Try.ntmps32
    go_wp2
    go_ret
    exact ⟨ret_bool H.out.symm, rfl⟩
theorem lwithin_is {x lo hi : Int} {b : Bool} (h : inB x lo hi = b) (w : World) : Calls Try.prog 32 #[.int .i64 x, .int .i64 lo, .int .i64 hi] w fun e w' => e = .returned (.bool b) ∧ w = w' := h ▸ lwithin_any x lo hi w
theorem lwithin_q {x lo hi : Int} {b : Bool} (h : inB x lo hi = b) (w : World) : Calls Try.prog 32 #[.int .i64 x, .int .i64 lo, .int .i64 hi] w fun e w' => e = .returned (.bool b) ∧ ∃ m, w' = w.drewN m :=
  (lwithin_is h w).mono fun _ _ ⟨e, h⟩ => ⟨e, 0, h ▸ rfl⟩
set_option maxHeartbeats 1000000 in
theorem ltimed_any (t : TraceR) (a b : Int) (w : World) : Calls Try.prog 52 #[.agg #[.int .i64 t.ticks, .slice t.sa t.slots.length t.sc, .slice t.ja t.jobs.length t.jc, .slice t.wa t.waits.length t.wc], .int .i64 a, .int .i64 b] w fun e w' => e = .returned (.bool (timedB t.ticks a b)) ∧ Below w.heap.size w w' := by
  have hb := (Below.refl w.heap.size w).alloc (Nat.le_refl _) (.cells #[.int .i64 t.ticks, .slice t.sa t.slots.length t.sc, .slice t.ja t.jobs.length t.jc, .slice t.wa t.waits.length t.wc] 38)
  obtain ⟨tk, sa, sc', slots, ja, jc, jobs, wa, wc, ws⟩ := t
  dsimp only at hb ⊢
  by_cases h0 : 0 ≤ a
  · by_cases h1 : a < b
    · have H : Hid (timedB tk a b = decide (b ≤ tk)) := hidp (by unfold timedB; simp [h0, h1])
      go_enter Try.func52, Try.ntmps52
      go_wp2_with fail
      go_ret
      exact ⟨ret_bool H.out.symm, hb⟩
    · have H : Hid (timedB tk a b = false) := hidp (timedB_false (fun h => h1 h.2.1))
      go_enter Try.func52, Try.ntmps52
      go_wp2_with fail
      go_ret
      exact ⟨ret_bool H.out.symm, hb⟩
  · have H : Hid (timedB tk a b = false) := hidp (timedB_false (fun h => h0 h.1))
    go_enter Try.func52, Try.ntmps52
    go_wp2_with fail
    go_ret
    exact ⟨ret_bool H.out.symm, hb⟩

theorem placed_no1 {s : SetR} {tk : Int} {x : SlotM} (h : inB x.time 0 (tk - 1) = false) : placedB s tk x = false := by unfold placedB; rw [h]; rfl
theorem placed_no2 {s : SetR} {tk : Int} {x : SlotM} (h : inB x.cl 0 ((s.cores.length : Int) - 1) = false) : placedB s tk x = false := by unfold placedB; rw [h]; simp
theorem placed_no3 {s : SetR} {tk : Int} {x : SlotM} (h : inB x.task 0 ((s.tasks.length : Int) - 1) = false) : placedB s tk x = false := by unfold placedB; rw [h]; simp
theorem placed_yes {s : SetR} {tk : Int} {x : SlotM} (h1 : inB x.time 0 (tk - 1) = true) (h2 : inB x.cl 0 ((s.cores.length : Int) - 1) = true) (h3 : inB x.task 0 ((s.tasks.length : Int) - 1) = true) : placedB s tk x = ((x.cl == (s.tasks.getD x.task.toNat default).cl) || (x.held && (s.proto == 2))) := by unfold placedB; rw [h1, h2, h3]; rfl

set_option maxHeartbeats 2000000 in
set_option maxRecDepth 100000 in
theorem lplaced_any (s : SetR) (t : TraceR) (x : SlotM) (w : World) (hs : SetOk w s) (htk : 0 ≤ t.ticks ∧ t.ticks ≤ 20000) : Calls Try.prog 51 #[.agg #[.int .i64 s.proto, .slice s.ca s.cores.length s.cc, .slice s.ha s.homes.length s.hc, .slice s.ta s.tasks.length s.tc], .agg #[.int .i64 t.ticks, .slice t.sa t.slots.length t.sc, .slice t.ja t.jobs.length t.jc, .slice t.wa t.waits.length t.wc], .agg #[.int .i64 x.time, .int .i64 x.cl, .int .i64 x.task, .bool x.held]] w fun e w' => e = .returned (.bool (placedB s t.ticks x)) ∧ Below w.heap.size w w' := by
  have hb := (((Below.refl w.heap.size w).alloc (Nat.le_refl _) (.cells #[.int .i64 s.proto, .slice s.ca s.cores.length s.cc, .slice s.ha s.homes.length s.hc, .slice s.ta s.tasks.length s.tc] 26)).alloc (by simp) (.cells #[.int .i64 t.ticks, .slice t.sa t.slots.length t.sc, .slice t.ja t.jobs.length t.jc, .slice t.wa t.waits.length t.wc] 38)).alloc (by simp; omega) (.cells #[.int .i64 x.time, .int .i64 x.cl, .int .i64 x.task, .bool x.held] 29)
  have l1 : s.cores.length ≤ maxLen := Nat.le_trans hs.cores.sl.2.1 hs.cores.sl.2.2
  have l3 : s.tasks.length ≤ maxLen := Nat.le_trans hs.tasks.sl.2.1 hs.tasks.sl.2.2
  unfold maxLen at l1 l3
  obtain ⟨tk, sa, sc', slots, ja, jc, jobs, wa, wc, ws⟩ := t
  dsimp only at hb htk ⊢
  obtain ⟨t0, t1⟩ := htk
  cases h1 : inB x.time 0 (tk - 1) with
  | false =>
    have HV := hidp (placed_no1 (s := s) h1)
    obtain ⟨xt, xc, xk, xh⟩ := x
    obtain ⟨proto, ca, cc, cores, ha, hc, homes, ta, tc, tasks⟩ := s
    dsimp only at h1 hb l1 l3 ⊢
    have H1 := hidp h1
    clear h1 hs
    go_enter Try.func51, Try.ntmps51
    go_wp2_with (go_at_call 32; (with_reducible refine (lwithin_is H1.out _).mono ?_); rintro e w' ⟨rfl, rfl⟩)
    go_ret
    exact ⟨ret_bool HV.out.symm, hb⟩
  | true =>
    cases h2 : inB x.cl 0 ((s.cores.length : Int) - 1) with
    | false =>
      have HV := hidp (placed_no2 (tk := tk) h2)
      obtain ⟨xt, xc, xk, xh⟩ := x
      obtain ⟨proto, ca, cc, cores, ha, hc, homes, ta, tc, tasks⟩ := s
      dsimp only at h1 h2 hb l1 l3 ⊢
      have H1 := hidp h1
      have H2 := hidp h2
      clear h1 h2 hs
      go_enter Try.func51, Try.ntmps51
      go_wp2_with (first | (go_at_call 32; (with_reducible refine (lwithin_is H1.out _).mono ?_); rintro e w' ⟨rfl, rfl⟩) | (go_at_call 32; (with_reducible refine (lwithin_is H2.out _).mono ?_); rintro e w' ⟨rfl, rfl⟩))
      go_ret
      exact ⟨ret_bool HV.out.symm, hb⟩
    | true =>
      cases h3 : inB x.task 0 ((s.tasks.length : Int) - 1) with
      | false =>
        have HV := hidp (placed_no3 (tk := tk) h3)
        obtain ⟨xt, xc, xk, xh⟩ := x
        obtain ⟨proto, ca, cc, cores, ha, hc, homes, ta, tc, tasks⟩ := s
        dsimp only at h1 h2 h3 hb l1 l3 ⊢
        have H1 := hidp h1
        have H2 := hidp h2
        have H3 := hidp h3
        clear h1 h2 h3 hs
        go_enter Try.func51, Try.ntmps51
        go_wp2_with (first | (go_at_call 32; (with_reducible refine (lwithin_is H1.out _).mono ?_); rintro e w' ⟨rfl, rfl⟩) | (go_at_call 32; (with_reducible refine (lwithin_is H2.out _).mono ?_); rintro e w' ⟨rfl, rfl⟩) | (go_at_call 32; (with_reducible refine (lwithin_is H3.out _).mono ?_); rintro e w' ⟨rfl, rfl⟩))
        go_ret
        exact ⟨ret_bool HV.out.symm, hb⟩
      | true =>
        have HV := hidp (placed_yes h1 h2 h3)
        have g3 := inB_true.1 h3
        obtain ⟨n, hn⟩ : ∃ n : Nat, x.task = n := ⟨x.task.toNat, by omega⟩
        have hlt : n < s.tasks.length := by omega
        obtain ⟨g, off, hA, hc⟩ := hs.tasks.at_.resolve_left (by intro e; rw [e] at hlt; simp at hlt)
        obtain ⟨r, HR⟩ : ∃ r, Hid (s.tasks.getD n default = r) := ⟨_, rfl⟩
        obtain ⟨b0, b1, b2, b3, b4, b5⟩ := (HR.out ▸ hc n hlt).keep (Keeps.of_below hb)
        have dn : decide (s.tasks.length ≤ n) = false := by simp; omega
        have HV1 : Hid (placedB s tk x = ((x.cl == r.cl) || (x.held && (s.proto == 2)))) := hidp (by rw [HV.out, hn]; simp only [Int.toNat_natCast, HR.out])
        obtain ⟨xt, xc, xk, xh⟩ := x
        obtain ⟨proto, ca, cc, cores, ha, hc, homes, ta, tc, tasks⟩ := s
        obtain ⟨nm2, per2, dl2, prio2, cl2, pa2, pc2, parts2⟩ := r
        dsimp only at h1 h2 h3 hb l1 l3 hA hn hlt dn b0 b1 b2 b3 b4 b5 HV1 ⊢
        have H1 := hidp h1
        have H2 := hidp h2
        have H3 := hidp h3
        clear h1 h2 h3 hs hc HV HR g3
        subst hA hn
        by_cases e : xc = cl2
        · have e1 : (xc == cl2) = true := by simpa using e
          have HV2 := hidp HV1.out
          rw [e1] at HV2
          clear HV1 e
          go_enter Try.func51, Try.ntmps51
          go_wp2_with (first | (go_at_call 32; (with_reducible refine (lwithin_is H1.out _).mono ?_); rintro e w' ⟨rfl, rfl⟩) | (go_at_call 32; (with_reducible refine (lwithin_is H2.out _).mono ?_); rintro e w' ⟨rfl, rfl⟩) | (go_at_call 32; (with_reducible refine (lwithin_is H3.out _).mono ?_); rintro e w' ⟨rfl, rfl⟩))
          go_quiet (fail)
          go_wp2_with fail
          go_ret
          exact ⟨ret_bool HV2.out.symm, below_drewN hb _⟩
        · have e1 : (xc == cl2) = false := by simpa using e
          have HV2 := hidp HV1.out
          rw [e1] at HV2
          clear HV1 e
          cases xh with
          | false =>
            go_enter Try.func51, Try.ntmps51
            go_wp2_with (first | (go_at_call 32; (with_reducible refine (lwithin_is H1.out _).mono ?_); rintro e w' ⟨rfl, rfl⟩) | (go_at_call 32; (with_reducible refine (lwithin_is H2.out _).mono ?_); rintro e w' ⟨rfl, rfl⟩) | (go_at_call 32; (with_reducible refine (lwithin_is H3.out _).mono ?_); rintro e w' ⟨rfl, rfl⟩))
            go_quiet (fail)
            go_wp2_with fail
            go_ret
            exact ⟨ret_bool HV2.out.symm, below_drewN hb _⟩
          | true =>
            go_enter Try.func51, Try.ntmps51
            go_wp2_with (first | (go_at_call 32; (with_reducible refine (lwithin_is H1.out _).mono ?_); rintro e w' ⟨rfl, rfl⟩) | (go_at_call 32; (with_reducible refine (lwithin_is H2.out _).mono ?_); rintro e w' ⟨rfl, rfl⟩) | (go_at_call 32; (with_reducible refine (lwithin_is H3.out _).mono ?_); rintro e w' ⟨rfl, rfl⟩))
            go_quiet (fail)
            go_wp2_with fail
            go_ret
            exact ⟨ret_bool HV2.out.symm, below_drewN hb _⟩

end Go.Proofs.Ytmchjmgifipfoaa
