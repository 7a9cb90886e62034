/- TaskTells: of every two sets whether they may be, what is wrong with which task, whether they are the same; a copy is alike. No condition. -/
import Derived.Test.YtijdincpjdkgfaaKnown8
import Derived.Test.YtijdincpjdkgfaaFews8
set_option maxHeartbeats 20000000
set_option maxRecDepth 100000
set_option linter.unusedSimpArgs false
namespace Go.Proofs.Ytijdincpjdkgfaa.taskTells
open Go.ChangeShapes Go.WideShapes Go.ChangeAt Go.RowKit
open Go.ChangeMaps (open_string shut_string)
set_option linter.unusedVariables false

/-- THE WALK: the Go text returns true, and writes nothing that was there. -/
theorem walk (s0 : SetR) (s1 : SetR) (w : World) (w0 : SetOk w s0) (w1 : SetOk w s1) :
    Calls Try.prog 3 #[.agg #[.int .i64 s0.proto, .slice s0.ca s0.cores.length s0.cc, .slice s0.ha s0.homes.length s0.hc, .slice s0.ta s0.tasks.length s0.tc], .agg #[.int .i64 s1.proto, .slice s1.ca s1.cores.length s1.cc, .slice s1.ha s1.homes.length s1.hc, .slice s1.ta s1.tasks.length s1.tc]] w fun e w' => e = .returned (.bool true) ∧ Below w.heap.size w w' := by
  have hb1 := (Below.refl w.heap.size w).alloc (Nat.le_refl _) (.cells #[.int .i64 s0.proto, .slice s0.ca s0.cores.length s0.cc, .slice s0.ha s0.homes.length s0.hc, .slice s0.ta s0.tasks.length s0.tc] 25)
  have hb := hb1.alloc hb1.size (.cells #[.int .i64 s1.proto, .slice s1.ca s1.cores.length s1.cc, .slice s1.ha s1.homes.length s1.hc, .slice s1.ta s1.tasks.length s1.tc] 25)
  have sc := (SetCells.new w s0 25).keep (Keeps.alloc _ (.cells #[.int .i64 s1.proto, .slice s1.ca s1.cores.length s1.cc, .slice s1.ha s1.homes.length s1.hc, .slice s1.ta s1.tasks.length s1.tc] 25))
  have tc := SetCells.new (w.alloc (.cells #[.int .i64 s0.proto, .slice s0.ca s0.cores.length s0.cc, .slice s0.ha s0.homes.length s0.hc, .slice s0.ta s0.tasks.length s0.tc] 25)) s1 25
  rw [show (w.alloc (.cells #[.int .i64 s0.proto, .slice s0.ca s0.cores.length s0.cc, .slice s0.ha s0.homes.length s0.hc, .slice s0.ta s0.tasks.length s0.tc] 25)).heap.size = w.heap.size + 1 by simp] at tc
  have hs := w0.keep (Keeps.of_below hb)
  have ht := w1.keep (Keeps.of_below hb)
  clear w0 w1 hb1
  obtain ⟨V, HV⟩ : ∃ V, Hid (chkAt s0 = V) := ⟨_, rfl⟩
  obtain ⟨E, HE⟩ : ∃ E, Hid (chkE s0 = E) := ⟨_, rfl⟩
  obtain ⟨Q, HQ⟩ : ∃ Q, Hid (sameS s0 s1 = Q) := ⟨_, rfl⟩
  go_enter Try.func3, Try.ntmps3
  go_wp2_with fail
  refine (known8_any _).mono ?_
  rintro e u1 ⟨rfl, hbx⟩
  replace hb := hb.trans (hbx.mono hb.size)
  replace sc := sc.keep (Keeps.of_below hbx)
  replace tc := tc.keep (Keeps.of_below hbx)
  replace hs := hs.keep (Keeps.of_below hbx)
  replace ht := ht.keep (Keeps.of_below hbx)
  clear hbx
  obtain ⟨c0, c1, c2, c3⟩ := id sc
  go_wp2_with fail
  refine (fews8_any s0 _ hs).mono ?_
  rintro e u2 ⟨⟨b, rfl, hF⟩, hbx⟩
  clear c0 c1 c2 c3
  replace hb := hb.trans (hbx.mono hb.size)
  replace sc := sc.keep (Keeps.of_below hbx)
  replace tc := tc.keep (Keeps.of_below hbx)
  replace hs := hs.keep (Keeps.of_below hbx)
  replace ht := ht.keep (Keeps.of_below hbx)
  clear hbx
  cases b
  · go_wp2_with fail
    go_ret
    exact ⟨rfl, hb⟩
  · obtain ⟨c0, c1, c2, c3⟩ := id tc
    replace hF := hidp (hF rfl)
    go_wp2_with fail
    refine (fews8_any s1 _ ht).mono ?_
    rintro e u3 ⟨⟨b, rfl, -⟩, hbx⟩
    clear c0 c1 c2 c3
    replace hb := hb.trans (hbx.mono hb.size)
    replace sc := sc.keep (Keeps.of_below hbx)
    replace tc := tc.keep (Keeps.of_below hbx)
    replace hs := hs.keep (Keeps.of_below hbx)
    replace ht := ht.keep (Keeps.of_below hbx)
    clear hbx
    cases b
    · go_wp2_with fail
      go_ret
      exact ⟨rfl, hb⟩
    · obtain ⟨c0, c1, c2, c3⟩ := id sc
      go_wp2_with fail
      refine (check_any s0 _ hs).mono ?_
      rw [HV.out, HE.out]
      rintro e u4 ⟨rfl, hbx⟩
      clear c0 c1 c2 c3
      replace hb := hb.trans (hbx.mono hb.size)
      replace sc := sc.keep (Keeps.of_below hbx)
      replace tc := tc.keep (Keeps.of_below hbx)
      replace hs := hs.keep (Keeps.of_below hbx)
      replace ht := ht.keep (Keeps.of_below hbx)
      clear hbx
      obtain ⟨c0, c1, c2, c3⟩ := id sc
      go_wp2_with fail
      refine (rcheck_any s0 _ hs).mono ?_
      rw [HV.out, HE.out]
      rintro e u5 ⟨rfl, hbx⟩
      clear c0 c1 c2 c3
      replace hb := hb.trans (hbx.mono hb.size)
      replace sc := sc.keep (Keeps.of_below hbx)
      replace tc := tc.keep (Keeps.of_below hbx)
      replace hs := hs.keep (Keeps.of_below hbx)
      replace ht := ht.keep (Keeps.of_below hbx)
      clear hbx
      replace hb : Below w.heap.size w u5.drew := below_drewN hb 1
      replace sc : SetCells u5.drew w.heap.size s0 := sc.keep (Keeps.drew u5)
      replace tc : SetCells u5.drew (w.heap.size + 1) s1 := tc.keep (Keeps.drew u5)
      replace hs : SetOk u5.drew s0 := hs.keep (Keeps.drew u5)
      replace ht : SetOk u5.drew s1 := ht.keep (Keeps.drew u5)
      have cs := And.intro sc tc
      unfold SetCells at cs
      go_wp2_with fail
      refine wp_region_held_drew (S := fun w' => (w'.cell? ⟨w.heap.size, 0, none⟩ = some (.int .i64 s0.proto) ∧ w'.cell? ⟨w.heap.size, 1, none⟩ = some (.slice s0.ca s0.cores.length s0.cc) ∧ w'.cell? ⟨w.heap.size, 2, none⟩ = some (.slice s0.ha s0.homes.length s0.hc) ∧ w'.cell? ⟨w.heap.size, 3, none⟩ = some (.slice s0.ta s0.tasks.length s0.tc)) ∧ w'.cell? ⟨w.heap.size + 1, 0, none⟩ = some (.int .i64 s1.proto) ∧ w'.cell? ⟨w.heap.size + 1, 1, none⟩ = some (.slice s1.ca s1.cores.length s1.cc) ∧ w'.cell? ⟨w.heap.size + 1, 2, none⟩ = some (.slice s1.ha s1.homes.length s1.hc) ∧ w'.cell? ⟨w.heap.size + 1, 3, none⟩ = some (.slice s1.ta s1.tasks.length s1.tc)) (by kernel_rfl) ?_ (fun hHeld => ?_)
      · exact cs
      refine wpAnyH_take (i := 0) (v := ?_) rfl (by kernel_rfl) (by kernel_rfl) (by kernel_rfl) (fun _ _ _ h => h) (Or.inl ⟨by rfl, ?_⟩) (by assumption) ?_
      rotate_left 1
      · ((intro w hSw; (try dsimp only at hSw); go_simp); (try with_reducible rfl))
      simp only [Act.put, List.setIfInBounds_toArray, List.set_cons_zero, List.set_cons_succ, List.getElem_toArray, List.getElem_cons_zero, List.getElem_cons_succ]
      refine wpAnyH_take (i := 1) (v := ?_) rfl (by kernel_rfl) (by kernel_rfl) (by kernel_rfl) (fun _ _ _ h => h) (Or.inl ⟨by rfl, ?_⟩) (by assumption) ?_
      rotate_left 1
      · ((intro w hSw; (try dsimp only at hSw); go_simp); (try with_reducible rfl))
      simp only [Act.put, List.setIfInBounds_toArray, List.set_cons_zero, List.set_cons_succ, List.getElem_toArray, List.getElem_cons_zero, List.getElem_cons_succ]
      refine wpAnyH_take (i := 2) (v := ?_) rfl (by kernel_rfl) (by kernel_rfl) (by kernel_rfl) (fun _ _ _ h => h) (Or.inl ⟨by rfl, ?_⟩) (by assumption) ?_
      rotate_left 1
      · ((intro w hSw; (try dsimp only at hSw); go_simp); (try with_reducible rfl))
      simp only [Act.put, List.setIfInBounds_toArray, List.set_cons_zero, List.set_cons_succ, List.getElem_toArray, List.getElem_cons_zero, List.getElem_cons_succ]
      refine wpAnyH_take (i := 3) (v := ?_) rfl (by kernel_rfl) (by kernel_rfl) (by kernel_rfl) (fun _ _ _ h => h) (Or.inl ⟨by rfl, ?_⟩) (by assumption) ?_
      rotate_left 1
      · ((intro w hSw; (try dsimp only at hSw); go_simp); (try with_reducible rfl))
      simp only [Act.put, List.setIfInBounds_toArray, List.set_cons_zero, List.set_cons_succ, List.getElem_toArray, List.getElem_cons_zero, List.getElem_cons_succ]
      refine wpAnyH_take (i := 4) (v := ?_) rfl (by kernel_rfl) (by kernel_rfl) (by kernel_rfl) (fun _ _ _ h => h) (Or.inl ⟨by rfl, ?_⟩) (by assumption) ?_
      rotate_left 1
      · ((intro w hSw; (try dsimp only at hSw); go_simp); (try with_reducible rfl))
      simp only [Act.put, List.setIfInBounds_toArray, List.set_cons_zero, List.set_cons_succ, List.getElem_toArray, List.getElem_cons_zero, List.getElem_cons_succ]
      refine wpAnyH_take (i := 5) (v := ?_) rfl (by kernel_rfl) (by kernel_rfl) (by kernel_rfl) (fun _ _ _ h => h) (Or.inl ⟨by rfl, ?_⟩) (by assumption) ?_
      rotate_left 1
      · ((intro w hSw; (try dsimp only at hSw); go_simp); (try with_reducible rfl))
      simp only [Act.put, List.setIfInBounds_toArray, List.set_cons_zero, List.set_cons_succ, List.getElem_toArray, List.getElem_cons_zero, List.getElem_cons_succ]
      refine wpAnyH_take (i := 6) (v := ?_) rfl (by kernel_rfl) (by kernel_rfl) (by kernel_rfl) (fun _ _ _ h => h) (Or.inl ⟨by rfl, ?_⟩) (by assumption) ?_
      rotate_left 1
      · ((intro w hSw; (try dsimp only at hSw); go_simp); (try with_reducible rfl))
      simp only [Act.put, List.setIfInBounds_toArray, List.set_cons_zero, List.set_cons_succ, List.getElem_toArray, List.getElem_cons_zero, List.getElem_cons_succ]
      refine wpAnyH_take (i := 7) (v := ?_) rfl (by kernel_rfl) (by kernel_rfl) (by kernel_rfl) (fun _ _ _ h => h) (Or.inl ⟨by rfl, ?_⟩) (by assumption) ?_
      rotate_left 1
      · ((intro w hSw; (try dsimp only at hSw); go_simp); (try with_reducible rfl))
      simp only [Act.put, List.setIfInBounds_toArray, List.set_cons_zero, List.set_cons_succ, List.getElem_toArray, List.getElem_cons_zero, List.getElem_cons_succ]
      refine wpAnyH_take (i := 8) (v := ?_) rfl (by kernel_rfl) (by kernel_rfl) (by kernel_rfl) (fun _ _ _ h => h) (Or.inl ⟨by rfl, ?_⟩) (by assumption) ?_
      rotate_left 1
      · ((intro w hSw; (try dsimp only at hSw); go_simp); (try with_reducible rfl))
      simp only [Act.put, List.setIfInBounds_toArray, List.set_cons_zero, List.set_cons_succ, List.getElem_toArray, List.getElem_cons_zero, List.getElem_cons_succ]
      refine wpAnyH_take (i := 9) (v := ?_) rfl (by kernel_rfl) (by kernel_rfl) (by kernel_rfl) (fun _ _ _ h => h) (Or.inl ⟨by rfl, ?_⟩) (by assumption) ?_
      rotate_left 1
      · ((intro w hSw; (try dsimp only at hSw); go_simp); (try with_reducible rfl))
      simp only [Act.put, List.setIfInBounds_toArray, List.set_cons_zero, List.set_cons_succ, List.getElem_toArray, List.getElem_cons_zero, List.getElem_cons_succ]
      refine wpAnyH_take (i := 10) (v := ?_) rfl (by kernel_rfl) (by kernel_rfl) (by kernel_rfl) (fun _ _ _ h => h) (Or.inl ⟨by rfl, ?_⟩) (by assumption) ?_
      rotate_left 1
      · ((intro w hSw; (try dsimp only at hSw); go_simp); (try with_reducible rfl))
      simp only [Act.put, List.setIfInBounds_toArray, List.set_cons_zero, List.set_cons_succ, List.getElem_toArray, List.getElem_cons_zero, List.getElem_cons_succ]
      refine wpAnyH_take (i := 12) (v := ?_) rfl (by kernel_rfl) (by kernel_rfl) (by kernel_rfl) (fun _ _ _ h => h) (Or.inl ⟨by rfl, ?_⟩) (by assumption) ?_
      rotate_left 1
      · ((intro w hSw; (try dsimp only at hSw); go_simp); (try with_reducible rfl))
      simp only [Act.put, List.setIfInBounds_toArray, List.set_cons_zero, List.set_cons_succ, List.getElem_toArray, List.getElem_cons_zero, List.getElem_cons_succ]
      refine wpAnyH_take (i := 13) (v := ?_) rfl (by kernel_rfl) (by kernel_rfl) (by kernel_rfl) (fun _ _ _ h => h) (Or.inl ⟨by rfl, ?_⟩) (by assumption) ?_
      rotate_left 1
      · ((intro w hSw; (try dsimp only at hSw); go_simp); (try with_reducible rfl))
      simp only [Act.put, List.setIfInBounds_toArray, List.set_cons_zero, List.set_cons_succ, List.getElem_toArray, List.getElem_cons_zero, List.getElem_cons_succ]
      refine wpAnyH_ready (rs := [11]) (by kernel_rfl) (by simp) ?_
      refine AllReadyH.cons rfl (fun K hK => ?_) AllReadyH.nil
      go_simp
      refine (same_any s0 s1 _ hs ht).mono ?_
      rw [HQ.out]
      rintro e u6 ⟨rfl, hbx⟩
      replace hb := hb.trans (hbx.mono hb.size)
      replace sc := sc.keep (Keeps.of_below hbx)
      replace tc := tc.keep (Keeps.of_below hbx)
      replace hs := hs.keep (Keeps.of_below hbx)
      replace ht := ht.keep (Keeps.of_below hbx)
      clear hbx
      replace cs := And.intro sc tc
      unfold SetCells at cs
      clear hHeld
      go_wp2_with fail
      refine hK.out _ _ ?_ (fun hHeld => ?_)
      · exact cs
      clear hK K
      try simp only [Act.put, List.setIfInBounds_toArray, List.set_cons_zero, List.set_cons_succ, List.getElem_toArray, List.getElem_cons_zero, List.getElem_cons_succ]
      refine wpAnyH_ready (rs := [14]) (by kernel_rfl) (by simp) ?_
      refine AllReadyH.cons rfl (fun K hK => ?_) AllReadyH.nil
      go_simp
      refine (rsame_any s0 s1 _ hs ht).mono ?_
      rw [HQ.out]
      rintro e u7 ⟨rfl, hbx⟩
      replace hb := hb.trans (hbx.mono hb.size)
      replace sc := sc.keep (Keeps.of_below hbx)
      replace tc := tc.keep (Keeps.of_below hbx)
      replace hs := hs.keep (Keeps.of_below hbx)
      replace ht := ht.keep (Keeps.of_below hbx)
      clear hbx
      replace cs := And.intro sc tc
      unfold SetCells at cs
      clear hHeld
      go_wp2_with fail
      refine hK.out _ _ ?_ (fun hHeld => ?_)
      · exact cs
      clear hK K
      try simp only [Act.put, List.setIfInBounds_toArray, List.set_cons_zero, List.set_cons_succ, List.getElem_toArray, List.getElem_cons_zero, List.getElem_cons_succ]
      refine wpAnyH_take (i := 15) (v := ?_) rfl (by kernel_rfl) (by kernel_rfl) (by kernel_rfl) (fun _ _ _ h => h) (Or.inl ⟨by rfl, ?_⟩) (by assumption) ?_
      rotate_left 1
      · ((intro w hSw; (try dsimp only at hSw); go_simp); (try with_reducible rfl))
      simp only [Act.put, List.setIfInBounds_toArray, List.set_cons_zero, List.set_cons_succ, List.getElem_toArray, List.getElem_cons_zero, List.getElem_cons_succ]
      refine wpAnyH_take (i := 16) (v := ?_) rfl (by kernel_rfl) (by kernel_rfl) (by kernel_rfl) (fun _ _ _ h => h) (Or.inl ⟨by rfl, ?_⟩) (by assumption) ?_
      rotate_left 1
      · ((intro w hSw; (try dsimp only at hSw); go_simp); (try with_reducible rfl))
      simp only [Act.put, List.setIfInBounds_toArray, List.set_cons_zero, List.set_cons_succ, List.getElem_toArray, List.getElem_cons_zero, List.getElem_cons_succ]
      refine wpAnyH_take (i := 17) (v := ?_) rfl (by kernel_rfl) (by kernel_rfl) (by kernel_rfl) (fun _ _ _ h => h) (Or.inl ⟨by rfl, ?_⟩) (by assumption) ?_
      rotate_left 1
      · ((intro w hSw; (try dsimp only at hSw); go_simp); (try with_reducible rfl))
      simp only [Act.put, List.setIfInBounds_toArray, List.set_cons_zero, List.set_cons_succ, List.getElem_toArray, List.getElem_cons_zero, List.getElem_cons_succ]
      refine wpAnyH_take (i := 18) (v := ?_) rfl (by kernel_rfl) (by kernel_rfl) (by kernel_rfl) (fun _ _ _ h => h) (Or.inl ⟨by rfl, ?_⟩) (by assumption) ?_
      rotate_left 1
      · ((intro w hSw; (try dsimp only at hSw); go_simp); (try with_reducible rfl))
      simp only [Act.put, List.setIfInBounds_toArray, List.set_cons_zero, List.set_cons_succ, List.getElem_toArray, List.getElem_cons_zero, List.getElem_cons_succ]
      refine wpAnyH_take (i := 20) (v := ?_) rfl (by kernel_rfl) (by kernel_rfl) (by kernel_rfl) (fun _ _ _ h => h) (Or.inl ⟨by rfl, ?_⟩) (by assumption) ?_
      rotate_left 1
      · ((intro w hSw; (try dsimp only at hSw); go_simp); (try with_reducible rfl))
      simp only [Act.put, List.setIfInBounds_toArray, List.set_cons_zero, List.set_cons_succ, List.getElem_toArray, List.getElem_cons_zero, List.getElem_cons_succ]
      refine wpAnyH_ready (rs := [19]) (by kernel_rfl) (by simp) ?_
      refine AllReadyH.cons rfl (fun K hK => ?_) AllReadyH.nil
      go_simp
      refine (tcopy_any s0 _ hs hF.out).mono ?_
      rintro e u8 ⟨X, rfl, hX, hbx⟩
      have hx := hX.ok hs
      have hsm := hX.same
      replace hb := hb.trans (hbx.mono hb.size)
      replace sc := sc.keep (Keeps.of_below hbx)
      replace tc := tc.keep (Keeps.of_below hbx)
      replace hs := hs.keep (Keeps.of_below hbx)
      replace ht := ht.keep (Keeps.of_below hbx)
      clear hbx
      replace cs := And.intro sc tc
      unfold SetCells at cs
      clear hHeld hX
      go_wp2_with fail
      refine hK.out _ _ ?_ (fun hHeld => ?_)
      · exact cs
      clear hK K
      try simp only [Act.put, List.setIfInBounds_toArray, List.set_cons_zero, List.set_cons_succ, List.getElem_toArray, List.getElem_cons_zero, List.getElem_cons_succ]
      refine wpAnyH_ready (rs := [21]) (by kernel_rfl) (by simp) ?_
      refine AllReadyH.cons rfl (fun K hK => ?_) AllReadyH.nil
      go_simp
      refine (rsame_any X s0 _ hx hs).mono ?_
      rw [hsm]
      rintro e u9 ⟨rfl, hbx⟩
      clear hx hsm
      replace hb := hb.trans (hbx.mono hb.size)
      replace sc := sc.keep (Keeps.of_below hbx)
      replace tc := tc.keep (Keeps.of_below hbx)
      replace hs := hs.keep (Keeps.of_below hbx)
      replace ht := ht.keep (Keeps.of_below hbx)
      clear hbx
      replace cs := And.intro sc tc
      unfold SetCells at cs
      clear hHeld
      go_wp2_with fail
      refine hK.out _ _ ?_ (fun hHeld => ?_)
      · exact cs
      clear hK K
      try simp only [Act.put, List.setIfInBounds_toArray, List.set_cons_zero, List.set_cons_succ, List.getElem_toArray, List.getElem_cons_zero, List.getElem_cons_succ]
      refine wpAnyH_take (i := 22) (v := ?_) rfl (by kernel_rfl) (by kernel_rfl) (by kernel_rfl) (fun _ _ _ h => h) (Or.inl ⟨by rfl, ?_⟩) (by assumption) ?_
      rotate_left 1
      · ((intro w hSw; (try dsimp only at hSw); go_simp); (try with_reducible rfl))
      simp only [Act.put, List.setIfInBounds_toArray, List.set_cons_zero, List.set_cons_succ, List.getElem_toArray, List.getElem_cons_zero, List.getElem_cons_succ]
      refine wpAnyH_take (i := 23) (v := ?_) rfl (by kernel_rfl) (by kernel_rfl) (by kernel_rfl) (fun _ _ _ h => h) (Or.inl ⟨by rfl, ?_⟩) (by assumption) ?_
      rotate_left 1
      · ((intro w hSw; (try dsimp only at hSw); go_simp); (try with_reducible rfl))
      simp only [Act.put, List.setIfInBounds_toArray, List.set_cons_zero, List.set_cons_succ, List.getElem_toArray, List.getElem_cons_zero, List.getElem_cons_succ]
      refine wpAnyH_done (by kernel_rfl) ?_ _
      go_wp2_with fail
      go_ret
      exact ⟨rfl, hb⟩

theorem own : ownKnob Try.prog.godebug = none := by kernel_rfl
theorem laidOut : laidOutB Try.prog = true := by kernel_rfl

/-! THE ROW's STEP -/
set_option maxRecDepth 100000 in
theorem lifted (os : Os) (started : os.Started) (H : Type) (enc : TypeId × Value → H) :
    ReturnsInHanded {} Try.checked os 3 .any (Rows.taskTellsSpec.pre6 enc Try.prog Try.f3 Rows.taskTellsRow.domain false) (Rows.taskTellsSpec.post enc Try.prog Try.f3 false true false false) := by
  refine returnsInHanded_of_change (C := Try.checked) own started (by kernel_rfl) Try.func3
    (ChangeSpec.witness6 (enc := enc) (C := Try.checked) false ⟨#[], #[.agg #[.int .i64 0, .slice none 0 0, .slice none 0 0, .slice none 0 0], .agg #[.int .i64 0, .slice none 0 0, .slice none 0 0, .slice none 0 0]], []⟩ 8 (by kernel_rfl) (by kernel_rfl) (by kernel_rfl) (by kernel_rfl)) ?_
  intro W base args ds gs before hval0 hW hcnd _
  have hval : ∀ (j : Nat) t v, Try.f3.params[j]? = some t → args[j]? = some v → Value.okWide Try.prog W .any base t v := hval0
  have hW' := hW
  obtain ⟨p, q, hA0, hV, rfl, hfz, hnd⟩ := hW
  have hA : DataW.TrodAll enc Try.prog W 0 (fun _ => true) true Try.f3.params.toList args.toList ds p := hA0
  rw [Try.params3] at hA hval
  obtain ⟨v0, vs0, d0, ds0, p0, q0, hargs, rfl, rfl, h0, r0⟩ := trodAll_cons hA
  obtain ⟨v1, vs1, d1, ds1, p1, q1, rfl, rfl, rfl, h1, r1⟩ := trodAll_cons r0
  obtain ⟨rfl, rfl, rfl⟩ := trodAll_nil r1
  obtain rfl : args = #[v0, v1] := by cases args; simp_all
  obtain ⟨rfl, rfl⟩ := trodVars_none hV
  have k0 := h0
  have lt0 : ∀ x ∈ p0, x.block < W.heap.size := by obtain ⟨m, hm⟩ := k0; exact DataW.trod_lt m _ _ _ hm
  obtain ⟨s0, w0, rfl⟩ := setTypes.arg_set (hval 0 25 v0 rfl rfl) h0
  have k1 := h1
  have lt1 : ∀ x ∈ p1, x.block < W.heap.size := by obtain ⟨m, hm⟩ := k1; exact DataW.trod_lt m _ _ _ hm
  obtain ⟨s1, w1, rfl⟩ := setTypes.arg_set (hval 1 25 v1 rfl rfl) h1
  clear hA0 hval0
  refine (walk s0 s1 W w0 w1).mono fun e W' ⟨he, bel⟩ => ?_
  subst he
  exact ⟨_, rfl, _, _, _, [], _, [], hW', trodAll_mk1 (shut_bool Try.underlying4 _), (trodAll_cons_mk (Below.trod laidOut (by kernel_rfl) (of_decide_eq_true (by kernel_rfl)) k0 bel lt0) (trodAll_cons_mk (Below.trod laidOut (by kernel_rfl) (of_decide_eq_true (by kernel_rfl)) k1 bel lt1) trodAll_mk0)), rfl, bel.frame _, fun h => by cases h⟩

theorem over : Rows.taskTellsRow.holds Try.pinned (OpenSpec.ofChange Rows.taskTellsSpec) :=
  OpenClaim.holds_of_wide 3 Try.f3 rfl rfl rfl rfl rfl rfl rfl ⟨rfl, rfl, rfl, rfl, rfl⟩ rfl rfl rfl rfl rfl (by kernel_rfl) Try.func3 (by kernel_rfl)
    (of_decide_eq_true (by kernel_rfl)) (by unfold Func.isWrapper; first | (rw [if_pos (by decide +kernel)]; kernel_rfl) | (rw [if_neg (by decide +kernel)]; exact ⟨rfl, rfl⟩))
    (fun os started H enc _ => lifted os started H enc)

/-- THE STATEMENT -/
theorem proved : Rows.TaskTellsSaid := over
#print axioms proved
end Go.Proofs.Ytijdincpjdkgfaa.taskTells

