/- swingbridgeref7: Check, OK. -/
import Derived.Test.YtjjlpaampmpdfaaGreatDoorRef7c
namespace Go.Proofs.YtjjlpaampmpdfaaGreatDoor
open Go.ChangeShapes Go.WideShapes Go.ChangeAt Go.RowKit
set_option linter.unusedVariables false

theorem rtask_any (s : SetR) (k : Nat) (w : World) (hs : SetOk w s) (hk : k < s.tasks.length) : Calls Tryz.prog 30 #[.agg #[.int .i64 s.proto, .slice s.ca s.cores.length s.cc, .slice s.ha s.homes.length s.hc, .slice s.ta s.tasks.length s.tc], .int .i64 k] w fun e w' => e = .returned (.int .i64 (taskE s k)) ∧ Below w.heap.size w w' := by
  obtain ⟨g, off, hA, _⟩ := hs.tasks.at_.resolve_left (by intro e; rw [e] at hk; simp at hk)
  obtain ⟨proto, ca, cc, cores, ha, hc, homes, ta, tc, tasks⟩ := s
  dsimp only at hA
  subst hA
  exact rtask_row proto ca cc cores ha hc homes g off tc tasks k w hs hk
theorem placesB_frame {s : SetR} (h : inB s.proto 1 3 = true) : frameV s = if placesB s = false then 16 else if 6 < s.tasks.length then 11 else if s.tasks.length = 0 then 14 else 0 := by
  unfold frameV placesB
  rw [if_neg (by rw [h]; decide)]
  cases inB s.cores.length 1 3
  · simp
  · cases allB s.cores 1 3
    · simp
    · by_cases h4 : s.homes.length ≤ 4
      · have h4' : ¬ 4 < s.homes.length := by omega
        cases allB s.homes 0 ((s.cores.length : Int) - 1) <;> simp [h4, h4']
      · have h4' : 4 < s.homes.length := by omega
        simp [h4, h4']
theorem chk_frame {s : SetR} {v : Int} (h : frameV s = v) (h0 : v ≠ 0) : chkAt s = -1 ∧ chkE s = v := by
  unfold chkAt chkE
  rw [h, if_pos h0, if_pos h0]
  exact ⟨rfl, rfl⟩

set_option maxHeartbeats 4000000 in
set_option maxRecDepth 100000 in
theorem rcheck_any (s : SetR) (w : World) (hs : SetOk w s) : Calls Tryz.prog 19 #[.agg #[.int .i64 s.proto, .slice s.ca s.cores.length s.cc, .slice s.ha s.homes.length s.hc, .slice s.ta s.tasks.length s.tc]] w fun e w' => e = .returned (.tuple #[.int .i64 (chkAt s), .int .i64 (chkE s)]) ∧ Below w.heap.size w w' := by
  have l3 : s.tasks.length ≤ maxLen := Nat.le_trans hs.tasks.sl.2.1 hs.tasks.sl.2.2
  unfold maxLen at l3
  have hb := (Below.refl w.heap.size w).alloc (Nat.le_refl _) (.cells #[.int .i64 s.proto, .slice s.ca s.cores.length s.cc, .slice s.ha s.homes.length s.hc, .slice s.ta s.tasks.length s.tc] 25)
  have sc := SetCells.new w s 25
  have hs := hs.keep (Keeps.of_below hb)
  have sc2 := sc
  obtain ⟨c0, c1, c2, c3⟩ := sc2
  have hcase : s.proto < 1 ∨ (1 ≤ s.proto ∧ 3 < s.proto) ∨ (1 ≤ s.proto ∧ s.proto ≤ 3) := by omega
  rcases hcase with p | ⟨p, p2⟩ | ⟨p, p2⟩
  · have H := hidp (chk_frame (s := s) (v := 10) (by unfold frameV; rw [if_pos (inB_false.2 (by omega))]) (by decide))
    go_enter Tryz.func19, Tryz.ntmps19
    go_wp2
    go_ret2
    exact ⟨ret_ii H.out.1.symm H.out.2.symm, hb⟩
  · have H := hidp (chk_frame (s := s) (v := 10) (by unfold frameV; rw [if_pos (inB_false.2 (by omega))]) (by decide))
    go_enter Tryz.func19, Tryz.ntmps19
    go_wp2
    go_ret2
    exact ⟨ret_ii H.out.1.symm H.out.2.symm, hb⟩
  · have Hf := hidp (placesB_frame (s := s) (inB_true.2 ⟨p, p2⟩))
    by_cases q : placesB s = true
    · by_cases q6 : 6 < s.tasks.length
      · have H := hidp (chk_frame (s := s) (v := 11) (by rw [Hf.out, if_neg (by rw [q]; decide), if_pos q6]) (by decide))
        go_enter Tryz.func19, Tryz.ntmps19
        go_wp2_with (first | (go_at_call 29; (with_reducible refine (places_any _ _ hs).mono ?_); rintro e u ⟨rfl, hb2⟩; replace hb := hb.trans (hb2.mono hb.size); replace sc := sc.keep (Keeps.of_below hb2); replace hs := hs.keep (Keeps.of_below hb2); have sc3 := sc; obtain ⟨e0, e1, e2, e3⟩ := sc3; clear hb2))
        go_ret2
        exact ⟨ret_ii H.out.1.symm H.out.2.symm, hb⟩
      · by_cases q0 : s.tasks.length = 0
        · have H := hidp (chk_frame (s := s) (v := 14) (by rw [Hf.out, if_neg (by rw [q]; decide), if_neg q6, if_pos q0]) (by decide))
          have q1 : ((s.tasks.length : Int) == 0) = true := by simp [q0]
          clear q0
          go_enter Tryz.func19, Tryz.ntmps19
          go_wp2_with (first | (go_at_call 29; (with_reducible refine (places_any _ _ hs).mono ?_); rintro e u ⟨rfl, hb2⟩; replace hb := hb.trans (hb2.mono hb.size); replace sc := sc.keep (Keeps.of_below hb2); replace hs := hs.keep (Keeps.of_below hb2); have sc3 := sc; obtain ⟨e0, e1, e2, e3⟩ := sc3; clear hb2))
          go_ret2
          exact ⟨ret_ii H.out.1.symm H.out.2.symm, hb⟩
        · have Hf0 : Hid (frameV s = 0) := hidp (by rw [Hf.out, if_neg (by rw [q]; decide), if_neg q6, if_neg q0])
          have q1 : ((s.tasks.length : Int) == 0) = false := by simp; intro e; exact q0 (by simp [e])
          clear q0
          go_enter Tryz.func19, Tryz.ntmps19
          go_wp2_with (first | (go_at_call 29; (with_reducible refine (places_any _ _ hs).mono ?_); rintro e u ⟨rfl, hb2⟩; replace hb := hb.trans (hb2.mono hb.size); replace sc := sc.keep (Keeps.of_below hb2); replace hs := hs.keep (Keeps.of_below hb2); have sc3 := sc; obtain ⟨e0, e1, e2, e3⟩ := sc3; clear hb2))
          clear c0 c1 c2 c3 e0 e1 e2 e3
          go_loopg [4] s.tasks.length (fun gg i wr => ∃ k : Nat, k + gg = s.tasks.length ∧ i = .int .i64 k ∧ Hid (∀ j, j < k → taskE s j = 0) ∧ SetCells wr w.heap.size s ∧ SetOk wr s ∧ Below w.heap.size w wr)
          case atStart => exact ⟨0, by omega, rfl, hidp (by omega), sc, hs, hb⟩
          case round =>
            obtain ⟨k, hk, rfl, Ho, sc, hs, hb⟩ := hrel
            have sc3 := sc
            obtain ⟨c0, c1, c2, c3⟩ := sc3
            by_cases hlt : k < s.tasks.length
            · obtain ⟨v, Hv⟩ : ∃ v, Hid (taskE s k = v) := ⟨_, rfl⟩
              by_cases z : v = 0
              · have Hn : Hid (∀ j, j < k + 1 → taskE s j = 0) := hidp (fun j hj => by
                  by_cases e : j = k
                  · subst e; rw [Hv.out]; exact z
                  · exact Ho.out j (by omega))
                subst z
                go_wp2_with (first | (go_at_call 30; (with_reducible refine (rtask_any _ _ _ hs hlt).mono ?_); rintro e u ⟨rfl, hb2⟩; rw [Hv.out]; replace hb := hb.trans (hb2.mono hb.size); replace sc := sc.keep (Keeps.of_below hb2); replace hs := hs.keep (Keeps.of_below hb2); clear hb2))
                go_roundg (gk - 1)
                case measure => omega
                case rel => exact ⟨k + 1, by omega, by go_num, Hn, sc, hs, hb⟩
              · have H := hidp (chk_here Hf0.out hlt Ho.out (by rw [Hv.out]; exact z))
                have z2 : (v == 0) = false := by simpa using z
                clear z
                go_wp2_with (first | (go_at_call 30; (with_reducible refine (rtask_any _ _ _ hs hlt).mono ?_); rintro e u ⟨rfl, hb2⟩; rw [Hv.out]; replace hb := hb.trans (hb2.mono hb.size); clear hb2))
                go_ret2
                exact ⟨ret_ii H.out.1.symm (by rw [H.out.2, Hv.out]), hb⟩
            · have H := hidp (chk_none Hf0.out (fun j hj => Ho.out j (by omega)))
              go_wp2
              go_ret2
              exact ⟨ret_ii H.out.1.symm H.out.2.symm, hb⟩
    · have q : placesB s = false := by simpa using q
      have H := hidp (chk_frame (s := s) (v := 16) (by rw [Hf.out, if_pos q]) (by decide))
      go_enter Tryz.func19, Tryz.ntmps19
      go_wp2_with (first | (go_at_call 29; (with_reducible refine (places_any _ _ hs).mono ?_); rintro e u ⟨rfl, hb2⟩; replace hb := hb.trans (hb2.mono hb.size); clear hb2))
      go_ret2
      exact ⟨ret_ii H.out.1.symm H.out.2.symm, hb⟩

theorem rok_any (s : SetR) (w : World) (hs : SetOk w s) : Calls Tryz.prog 12 #[.agg #[.int .i64 s.proto, .slice s.ca s.cores.length s.cc, .slice s.ha s.homes.length s.hc, .slice s.ta s.tasks.length s.tc]] w fun e w' => e = .returned (.bool (okS s)) ∧ Below w.heap.size w w' := by
  have hb := (Below.refl w.heap.size w).alloc (Nat.le_refl _) (.cells #[.int .i64 s.proto, .slice s.ca s.cores.length s.cc, .slice s.ha s.homes.length s.hc, .slice s.ta s.tasks.length s.tc] 25)
  have H := hidp (hs.keep (Keeps.of_below hb))
  have Ho : Hid (okS s = (chkE s == 0)) := hidp rfl
  clear hs
  go_enter Tryz.func12, Tryz.ntmps12
  go_wp2_with (first | (go_at_call 19; (with_reducible refine (rcheck_any _ _ H.out).mono ?_); rintro e w2 ⟨rfl, hb2⟩))
  go_ret
  exact ⟨ret_bool Ho.out.symm, hb.trans (hb2.mono hb.size)⟩
end Go.Proofs.YtjjlpaampmpdfaaGreatDoor
