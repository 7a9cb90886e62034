/- ref7's Same. -/
import Derived.Test.YtnfkebdbfflhdaaSame5
import Derived.Test.YtnfkebdbfflhdaaSame6
import Derived.StillTailTactics
namespace Go.Proofs.Ytnfkebdbfflhdaa
open Go.ChangeShapes Go.WideShapes Go.ChangeAt Go.RowKit
set_option linter.unusedVariables false
set_option linter.unusedSimpArgs false
set_option maxRecDepth 100000
set_option maxHeartbeats 4000000 in
theorem rsame_any (s t : SetR) (w : World) (hs : SetOk w s) (ht : SetOk w t) : Calls Try.prog 12 #[.agg #[.int .i64 s.proto, .slice s.ca s.cores.length s.cc, .slice s.ha s.homes.length s.hc, .slice s.ta s.tasks.length s.tc], .agg #[.int .i64 t.proto, .slice t.ca t.cores.length t.cc, .slice t.ha t.homes.length t.hc, .slice t.ta t.tasks.length t.tc]] w fun e w' => e = .returned (.bool (sameS s t)) ∧ Below w.heap.size w w' := by
  obtain ⟨proto, ca, cc, cores, ha, hc, homes, ta, tc, tasks⟩ := s
  obtain ⟨proto2, ca2, cc2, cores2, ha2, hc2, homes2, ta2, tc2, tasks2⟩ := t
  have l1 : tasks.length ≤ maxLen := Nat.le_trans hs.tasks.sl.2.1 hs.tasks.sl.2.2
  have l2 : tasks2.length ≤ maxLen := Nat.le_trans ht.tasks.sl.2.1 ht.tasks.sl.2.2
  unfold maxLen at l1 l2
  dsimp only
  have hb1 := (Below.refl w.heap.size w).alloc (Nat.le_refl _) (.cells #[.int .i64 proto, .slice ca cores.length cc, .slice ha homes.length hc, .slice ta tasks.length tc] 25)
  have hb := hb1.alloc hb1.size (.cells #[.int .i64 proto2, .slice ca2 cores2.length cc2, .slice ha2 homes2.length hc2, .slice ta2 tasks2.length tc2] 25)
  have s1 := (SetCells.new w ⟨proto, ca, cc, cores, ha, hc, homes, ta, tc, tasks⟩ 25).keep (Keeps.alloc (w.alloc (.cells #[.int .i64 proto, .slice ca cores.length cc, .slice ha homes.length hc, .slice ta tasks.length tc] 25)) (.cells #[.int .i64 proto2, .slice ca2 cores2.length cc2, .slice ha2 homes2.length hc2, .slice ta2 tasks2.length tc2] 25))
  have s2 := SetCells.new (w.alloc (.cells #[.int .i64 proto, .slice ca cores.length cc, .slice ha homes.length hc, .slice ta tasks.length tc] 25)) ⟨proto2, ca2, cc2, cores2, ha2, hc2, homes2, ta2, tc2, tasks2⟩ 25
  rw [show (w.alloc (.cells #[.int .i64 proto, .slice ca cores.length cc, .slice ha homes.length hc, .slice ta tasks.length tc] 25)).heap.size = w.heap.size + 1 by simp] at s2
  have X := hidp (hs.keep (Keeps.of_below hb))
  have Y := hidp (ht.keep (Keeps.of_below hb))
  clear hb1 hs ht
  obtain ⟨c0, c1, c2, c3⟩ := id s1
  obtain ⟨d0, d1, d2, d3⟩ := id s2
  dsimp only at c0 c1 c2 c3 d0 d1 d2 d3
  obtain ⟨b, hB⟩ : ∃ b, sameS ⟨proto, ca, cc, cores, ha, hc, homes, ta, tc, tasks⟩ ⟨proto2, ca2, cc2, cores2, ha2, hc2, homes2, ta2, tc2, tasks2⟩ = b := ⟨_, rfl⟩
  rw [hB]
  unfold sameS at hB
  dsimp only at hB
  cases h0 : (proto == proto2)
  · have g0 : (proto != proto2) = true := by unfold bne; rw [h0]; rfl
    have Hs : Hid (b = false) := hidp (by rw [← hB]; simp only [h0, Bool.true_and, Bool.false_and])
    clear hB
    go_enter Try.func12, Try.ntmps12
    go_wp2_with fail
    go_ret
    exact ⟨ret_bool Hs.out.symm, hb⟩
  · have g0 : (proto != proto2) = false := by unfold bne; rw [h0]; rfl
    cases h1 : decide (cores = cores2)
    · have Hs : Hid (b = false) := hidp (by rw [← hB]; simp only [h0, h1, Bool.true_and, Bool.false_and])
      clear hB
      go_enter Try.func12, Try.ntmps12
      go_wp2_with fail
      refine (rsameI_any _ _ _ _ _ _ _ X.out.cores Y.out.cores).mono ?_
      rintro e w2 ⟨rfl, hq⟩
      rw [h1]
      clear c0 c1 c2 c3 d0 d1 d2 d3
      replace hb := hq.below hb
      replace s1 := s1.keep (Keeps.of_qt hq)
      replace s2 := s2.keep (Keeps.of_qt hq)
      replace X := hidp (X.out.keep (Keeps.of_qt hq))
      replace Y := hidp (Y.out.keep (Keeps.of_qt hq))
      clear hq
      obtain ⟨c0, c1, c2, c3⟩ := id s1
      obtain ⟨d0, d1, d2, d3⟩ := id s2
      dsimp only at c0 c1 c2 c3 d0 d1 d2 d3
      go_wp2_with fail
      go_ret
      exact ⟨ret_bool Hs.out.symm, hb⟩
    · cases h2 : decide (homes = homes2)
      · have Hs : Hid (b = false) := hidp (by rw [← hB]; simp only [h0, h1, h2, Bool.true_and, Bool.false_and])
        clear hB
        go_enter Try.func12, Try.ntmps12
        go_wp2_with fail
        refine (rsameI_any _ _ _ _ _ _ _ X.out.cores Y.out.cores).mono ?_
        rintro e w2 ⟨rfl, hq⟩
        rw [h1]
        clear c0 c1 c2 c3 d0 d1 d2 d3
        replace hb := hq.below hb
        replace s1 := s1.keep (Keeps.of_qt hq)
        replace s2 := s2.keep (Keeps.of_qt hq)
        replace X := hidp (X.out.keep (Keeps.of_qt hq))
        replace Y := hidp (Y.out.keep (Keeps.of_qt hq))
        clear hq
        obtain ⟨c0, c1, c2, c3⟩ := id s1
        obtain ⟨d0, d1, d2, d3⟩ := id s2
        dsimp only at c0 c1 c2 c3 d0 d1 d2 d3
        go_wp2_with fail
        refine (rsameI_any _ _ _ _ _ _ _ X.out.homes Y.out.homes).mono ?_
        rintro e w2 ⟨rfl, hq⟩
        rw [h2]
        clear c0 c1 c2 c3 d0 d1 d2 d3
        replace hb := hq.below hb
        replace s1 := s1.keep (Keeps.of_qt hq)
        replace s2 := s2.keep (Keeps.of_qt hq)
        replace X := hidp (X.out.keep (Keeps.of_qt hq))
        replace Y := hidp (Y.out.keep (Keeps.of_qt hq))
        clear hq
        obtain ⟨c0, c1, c2, c3⟩ := id s1
        obtain ⟨d0, d1, d2, d3⟩ := id s2
        dsimp only at c0 c1 c2 c3 d0 d1 d2 d3
        go_wp2_with fail
        go_ret
        exact ⟨ret_bool Hs.out.symm, hb⟩
      · have HB := hidp (show sameTs tasks tasks2 = b from by rw [← hB]; simp only [h0, h1, h2, Bool.true_and])
        clear hB
        by_cases e : tasks.length = tasks2.length
        · have t1 : ((tasks.length : Int) != (tasks2.length : Int)) = false := by simp [e]
          have He := hidp e
          clear e
          go_enter Try.func12, Try.ntmps12
          go_wp2_with fail
          refine (rsameI_any _ _ _ _ _ _ _ X.out.cores Y.out.cores).mono ?_
          rintro e w2 ⟨rfl, hq⟩
          rw [h1]
          clear c0 c1 c2 c3 d0 d1 d2 d3
          replace hb := hq.below hb
          replace s1 := s1.keep (Keeps.of_qt hq)
          replace s2 := s2.keep (Keeps.of_qt hq)
          replace X := hidp (X.out.keep (Keeps.of_qt hq))
          replace Y := hidp (Y.out.keep (Keeps.of_qt hq))
          clear hq
          obtain ⟨c0, c1, c2, c3⟩ := id s1
          obtain ⟨d0, d1, d2, d3⟩ := id s2
          dsimp only at c0 c1 c2 c3 d0 d1 d2 d3
          go_wp2_with fail
          refine (rsameI_any _ _ _ _ _ _ _ X.out.homes Y.out.homes).mono ?_
          rintro e w2 ⟨rfl, hq⟩
          rw [h2]
          clear c0 c1 c2 c3 d0 d1 d2 d3
          replace hb := hq.below hb
          replace s1 := s1.keep (Keeps.of_qt hq)
          replace s2 := s2.keep (Keeps.of_qt hq)
          replace X := hidp (X.out.keep (Keeps.of_qt hq))
          replace Y := hidp (Y.out.keep (Keeps.of_qt hq))
          clear hq
          obtain ⟨c0, c1, c2, c3⟩ := id s1
          obtain ⟨d0, d1, d2, d3⟩ := id s2
          dsimp only at c0 c1 c2 c3 d0 d1 d2 d3
          go_wp2_with fail
          obtain ⟨wi, rfl⟩ : ∃ wi : World, wi = w2 := ⟨_, rfl⟩
          go_loopg [5] tasks.length (fun g i wr => ∃ k : Nat, k + g = tasks.length ∧ i = .int .i64 k ∧ Hid (∀ j, j < k → sameT (tasks.getD j default) (tasks2.getD j default) = true) ∧ SetCells wr w.heap.size ⟨proto, ca, cc, cores, ha, hc, homes, ta, tc, tasks⟩ ∧ SetCells wr (w.heap.size + 1) ⟨proto2, ca2, cc2, cores2, ha2, hc2, homes2, ta2, tc2, tasks2⟩ ∧ Hid (SetOk wr ⟨proto, ca, cc, cores, ha, hc, homes, ta, tc, tasks⟩) ∧ Hid (SetOk wr ⟨proto2, ca2, cc2, cores2, ha2, hc2, homes2, ta2, tc2, tasks2⟩) ∧ Below w.heap.size w wr)
          case atStart => exact ⟨0, by omega, rfl, hidp (by omega), s1, s2, X, Y, hb⟩
          case round =>
            obtain ⟨k, hk, rfl, Ho, r1, r2, XX, YY, hw⟩ := hrel
            clear c0 c1 c2 c3 d0 d1 d2 d3 s1 s2 X Y hb
            obtain ⟨c0, c1, c2, c3⟩ := id r1
            obtain ⟨d0, d1, d2, d3⟩ := id r2
            dsimp only at c0 c1 c2 c3 d0 d1 d2 d3
            by_cases hlt : k < tasks.length
            · have hlt2 : k < tasks2.length := by have := He.out; omega
              obtain ⟨g, off, hA, hc⟩ := XX.out.tasks.at_.resolve_left (by intro e; dsimp only at e; rw [e] at hlt; simp at hlt)
              obtain ⟨g', off', hA', hc'⟩ := YY.out.tasks.at_.resolve_left (by intro e; dsimp only at e; rw [e] at hlt2; simp at hlt2)
              dsimp only at hA hA' hc hc'
              subst hA
              subst hA'
              obtain ⟨t, HX⟩ : ∃ t, Hid (tasks.getD k default = t) := ⟨_, rfl⟩
              obtain ⟨u, HY⟩ : ∃ u, Hid (tasks2.getD k default = u) := ⟨_, rfl⟩
              have T1 : TaskOk wr.drew t := (XX.out.tasks.ok t (HX.out ▸ getD_mem hlt)).keep (Keeps.drew wr)
              have T2 : TaskOk wr.drew u := (YY.out.tasks.ok u (HY.out ▸ getD_mem hlt2)).keep (Keeps.drew wr)
              obtain ⟨x0, x1, x2, x3, x4, x5⟩ := HX.out ▸ hc k hlt
              obtain ⟨y0, y1, y2, y3, y4, y5⟩ := HY.out ▸ hc' k hlt2
              clear hc hc'
              cases hs : sameT t u
              · have Hs : Hid (b = false) := hidp (by rw [← HB.out]; exact sameTs_at (k := k) hlt (by rw [HX.out, HY.out]; exact hs))
                go_wp2
                go_still_tail 10, (by kernel_rfl)
                change wpList _ _ _ _ _ wr.drew
                go_wp2_with fail
                refine (rsameTask_any t u _ T1 T2).mono ?_
                rintro e w5 ⟨rfl, hb2⟩
                have hw5 : Below w.heap.size w w5 := (below_drewN hw 1).trans (hb2.mono hw.size)
                have k5 : Keeps wr w5 := (Keeps.drew wr).trans (Keeps.of_below hb2)
                go_wp2
                go_ret
                exact ⟨ret_bool Hs.out.symm, hw5⟩
              · have Hs : Hid (∀ j, j < k + 1 → sameT (tasks.getD j default) (tasks2.getD j default) = true) := hidp (fun j hj => by
                  by_cases e : j = k
                  · subst e; rw [HX.out, HY.out]; exact hs
                  · exact Ho.out j (by omega))
                go_wp2
                go_still_tail 10, (by kernel_rfl)
                change wpList _ _ _ _ _ wr.drew
                go_wp2_with fail
                refine (rsameTask_any t u _ T1 T2).mono ?_
                rintro e w5 ⟨rfl, hb2⟩
                have hw5 : Below w.heap.size w w5 := (below_drewN hw 1).trans (hb2.mono hw.size)
                have k5 : Keeps wr w5 := (Keeps.drew wr).trans (Keeps.of_below hb2)
                go_wp2
                go_roundg (tasks.length - k - 1)
                case measure => omega
                case rel => exact ⟨k + 1, by omega, by go_num, Hs, r1.keep k5, r2.keep k5, hidp (XX.out.keep k5), hidp (YY.out.keep k5), hw5⟩
            · have Hs : Hid (b = true) := hidp (by rw [← HB.out]; exact sameTs_true He.out (fun j hj => Ho.out j (by omega)))
              go_wp2
              go_ret
              exact ⟨ret_bool Hs.out.symm, hw⟩
        · have Hs : Hid (b = false) := hidp (by rw [← HB.out]; exact sameTs_len e)
          have t1 : ((tasks.length : Int) != (tasks2.length : Int)) = true := by simp; omega
          clear e
          go_enter Try.func12, Try.ntmps12
          go_wp2_with fail
          refine (rsameI_any _ _ _ _ _ _ _ X.out.cores Y.out.cores).mono ?_
          rintro e w2 ⟨rfl, hq⟩
          rw [h1]
          clear c0 c1 c2 c3 d0 d1 d2 d3
          replace hb := hq.below hb
          replace s1 := s1.keep (Keeps.of_qt hq)
          replace s2 := s2.keep (Keeps.of_qt hq)
          replace X := hidp (X.out.keep (Keeps.of_qt hq))
          replace Y := hidp (Y.out.keep (Keeps.of_qt hq))
          clear hq
          obtain ⟨c0, c1, c2, c3⟩ := id s1
          obtain ⟨d0, d1, d2, d3⟩ := id s2
          dsimp only at c0 c1 c2 c3 d0 d1 d2 d3
          go_wp2_with fail
          refine (rsameI_any _ _ _ _ _ _ _ X.out.homes Y.out.homes).mono ?_
          rintro e w2 ⟨rfl, hq⟩
          rw [h2]
          clear c0 c1 c2 c3 d0 d1 d2 d3
          replace hb := hq.below hb
          replace s1 := s1.keep (Keeps.of_qt hq)
          replace s2 := s2.keep (Keeps.of_qt hq)
          replace X := hidp (X.out.keep (Keeps.of_qt hq))
          replace Y := hidp (Y.out.keep (Keeps.of_qt hq))
          clear hq
          obtain ⟨c0, c1, c2, c3⟩ := id s1
          obtain ⟨d0, d1, d2, d3⟩ := id s2
          dsimp only at c0 c1 c2 c3 d0 d1 d2 d3
          go_wp2_with fail
          go_ret
          exact ⟨ret_bool Hs.out.symm, hb⟩
end Go.Proofs.Ytnfkebdbfflhdaa
