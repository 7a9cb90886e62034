/- TaskSpoils: something that may not be makes a set none, and it is told where. No condition. -/
import Derived.Test.YtijdincpjdkgfaaKnown8
import Derived.Test.YtijdincpjdkgfaaFews8
import Derived.Test.YtijdincpjdkgfaaCopyPut
import Derived.Test.YtijdincpjdkgfaaTaskCopy2
set_option maxHeartbeats 20000000
set_option maxRecDepth 100000
set_option linter.unusedSimpArgs false
namespace Go.Proofs.Ytijdincpjdkgfaa
open Go.ChangeShapes Go.WideShapes Go.ChangeAt Go.RowKit
theorem PartsAt.first {w : World} {g : Nat} {a : PartM} {ps : List PartM} (h : PartsAt w (some ⟨g, 0, none⟩) (a :: ps)) : PartCells w g 0 a := by
  rcases h with h | ⟨b, off, e, hc⟩
  · cases h
  · injection e with e; injection e with e1 e2; subst e1; subst e2
    exact hc 0 (by simp)
end Go.Proofs.Ytijdincpjdkgfaa
namespace Go.Proofs.Ytijdincpjdkgfaa.taskSpoils
open Go.ChangeShapes Go.WideShapes Go.ChangeAt Go.RowKit
open Go.ChangeMaps (open_string shut_string)
set_option linter.unusedVariables false

/-- THE WALK: the Go text returns true, and writes nothing that was there. -/
theorem walk (s0 : SetR) (a1 : Int) (a2 : Int) (w : World) (w0 : SetOk w s0) (w1 : (Lit.int .u8 a1).wf = true) (w2 : (Lit.int .u8 a2).wf = true) :
    Calls Try.prog 4 #[.agg #[.int .i64 s0.proto, .slice s0.ca s0.cores.length s0.cc, .slice s0.ha s0.homes.length s0.hc, .slice s0.ta s0.tasks.length s0.tc], .int .u8 a1, .int .u8 a2] w fun e w' => e = .returned (.bool true) ∧ Below w.heap.size w w' := by
  have b1 : 0 ≤ a1 ∧ a1 ≤ 255 := by simp [Lit.wf, IntKind.min, IntKind.max, IntKind.signed, IntKind.bits] at w1; omega
  have b2 : 0 ≤ a2 ∧ a2 ≤ 255 := by simp [Lit.wf, IntKind.min, IntKind.max, IntKind.signed, IntKind.bits] at w2; omega
  obtain ⟨b1, b1'⟩ := b1
  obtain ⟨b2, b2'⟩ := b2
  have hb := (Below.refl w.heap.size w).alloc (Nat.le_refl _) (.cells #[.int .i64 s0.proto, .slice s0.ca s0.cores.length s0.cc, .slice s0.ha s0.homes.length s0.hc, .slice s0.ta s0.tasks.length s0.tc] 25)
  have sc := SetCells.new w s0 25
  have hs := w0.keep (Keeps.of_below hb)
  have W0 := hidp w0
  clear w0 w1 w2
  go_enter Try.func4, Try.ntmps4
  go_wp2_with fail
  refine (known8_any _).mono ?_
  rintro e u1 ⟨rfl, hbx⟩
  replace hb := hb.trans (hbx.mono hb.size)
  replace sc := sc.keep (Keeps.of_below hbx)
  replace hs := hs.keep (Keeps.of_below hbx)
  clear hbx
  obtain ⟨c0, c1, c2, c3⟩ := id sc
  go_wp2_with fail
  refine (fews8_any s0 _ hs).mono ?_
  rintro e u2 ⟨⟨b, rfl, hF⟩, hbx⟩
  clear c0 c1 c2 c3
  replace hb := hb.trans (hbx.mono hb.size)
  replace sc := sc.keep (Keeps.of_below hbx)
  replace hs := hs.keep (Keeps.of_below hbx)
  clear hbx
  cases b
  · go_wp2_with fail
    go_ret
    exact ⟨rfl, hb⟩
  · replace hF := hidp (hF rfl)
    obtain ⟨c0, c1, c2, c3⟩ := id sc
    go_wp2_with fail
    refine (rok_any s0 _ hs).mono ?_
    rintro e u3 ⟨rfl, hbx⟩
    clear c0 c1 c2 c3
    replace hb := hb.trans (hbx.mono hb.size)
    replace sc := sc.keep (Keeps.of_below hbx)
    replace hs := hs.keep (Keeps.of_below hbx)
    clear hbx
    obtain ⟨c0, c1, c2, c3⟩ := id sc
    cases hok : okS s0
    · go_wp2_with fail
      go_ret
      exact ⟨rfl, hb⟩
    · have Hok := hidp hok
      clear hok
      go_wp2_with fail
      refine (copied_any s0 _ hs hF.out).mono ?_
      rintro e u4 ⟨O, rfl, hO, hbx⟩
      clear c0 c1 c2 c3
      have HB3 := hidp (show w.heap.size ≤ u3.heap.size from hb.size)
      have HB4 := hidp (show u3.heap.size ≤ u4.heap.size from hbx.size)
      replace hb := hb.trans (hbx.mono hb.size)
      replace sc := sc.keep (Keeps.of_below hbx)
      replace hs := hs.keep (Keeps.of_below hbx)
      clear hbx
      have hFO := hidp (hO.few hF.out)
      have so := SetCells.new u4 O 25
      have kb := Keeps.alloc u4 (.cells #[.int .i64 O.proto, .slice O.ca O.cores.length O.cc, .slice O.ha O.homes.length O.hc, .slice O.ta O.tasks.length O.tc] 25)
      replace sc := sc.keep kb
      replace hs := hs.keep kb
      replace hO := hO.turned ((Turned.refl [] u4).alloc (.cells #[.int .i64 O.proto, .slice O.ca O.cores.length O.cc, .slice O.ha O.homes.length O.hc, .slice O.ta O.tasks.length O.tc] 25)) (by simp)
      replace hb := hb.alloc hb.size (.cells #[.int .i64 O.proto, .slice O.ca O.cores.length O.cc, .slice O.ha O.homes.length O.hc, .slice O.ta O.tasks.length O.tc] 25)
      have hOk := hO.ok hs
      have C4 := hidp sc
      have O4 := hidp so
      have K4 := hidp hOk
      have S4 := hidp hs
      have E4 := hidp hO.same
      have hb4 := Below.refl (u4.alloc (.cells #[.int .i64 O.proto, .slice O.ca O.cores.length O.cc, .slice O.ha O.homes.length O.hc, .slice O.ta O.tasks.length O.tc] 25)).heap.size (u4.alloc (.cells #[.int .i64 O.proto, .slice O.ca O.cores.length O.cc, .slice O.ha O.homes.length O.hc, .slice O.ta O.tasks.length O.tc] 25))
      clear kb
      go_wp2_with fail
      refine (tcopy_any O _ hOk hFO.out).mono ?_
      rintro e u5 ⟨X, rfl, hX, hbx⟩
      have HB5 := hidp (show u4.heap.size < u5.heap.size from by have := hbx.size; simp at this; omega)
      replace hb := hb.trans (hbx.mono hb.size)
      replace sc := sc.keep (Keeps.of_below hbx)
      replace hs := hs.keep (Keeps.of_below hbx)
      replace hX := hO.via hX
      clear hO so
      replace hb4 := hb4.trans (hbx.mono hb4.size)
      clear hbx hOk
      have hn0 : 0 < X.tasks.length := by
        rw [hX.len]
        have := (frameV_ok ((okS_iff s0).1 Hok.out).1).2.2.2.2.2.1
        omega
      obtain ⟨g, hA, hg1, hg2⟩ := own_at hX.ot.own hn0
      have HG := hidp (show u4.heap.size < g ∧ g < u5.heap.size from by simp at hg1; omega)
      have HA := hidp hA
      clear hA hg1 hg2
      have sx := SetCells.new u5 X 25
      have bk := Bk.new u5 25 #[.int .i64 X.proto, .slice X.ca X.cores.length X.cc, .slice X.ha X.homes.length X.hc, .slice X.ta X.tasks.length X.tc]
      have K5 := hidp (hX.ok hs)
      have hb5 := (Below.refl u5.heap.size u5).alloc (Nat.le_refl _) (.cells #[.int .i64 X.proto, .slice X.ca X.cores.length X.cc, .slice X.ha X.homes.length X.hc, .slice X.ta X.tasks.length X.tc] 25)
      have H35 := hidp (show ∀ m, m < X.tasks.length → ∀ k ∈ fp (X.tasks.getD m default).pa, k < u5.heap.size from fun m hm k hk => (own_fp (hX.op m hm).own k hk).2)
      have H15 := hidp (show ∀ k ∈ fp X.ca, k < u5.heap.size from fun k hk => (own_fp hX.oc.own k hk).2)
      have H34 := hidp (show ∀ m, m < X.tasks.length → ∀ k ∈ fp (X.tasks.getD m default).pa, u4.heap.size < k from fun m hm k hk => by have := (own_fp (hX.op m hm).own k hk).1; simp at this; omega)
      have H14 := hidp (show ∀ k ∈ fp X.ca, u4.heap.size < k from fun k hk => by have := (own_fp hX.oc.own k hk).1; simp at this; omega)
      have kb := Keeps.alloc u5 (.cells #[.int .i64 X.proto, .slice X.ca X.cores.length X.cc, .slice X.ha X.homes.length X.hc, .slice X.ta X.tasks.length X.tc] 25)
      replace sc := sc.keep kb
      replace hs := hs.keep kb
      replace hb4 := hb4.alloc hb4.size (.cells #[.int .i64 X.proto, .slice X.ca X.cores.length X.cc, .slice X.ha X.homes.length X.hc, .slice X.ta X.tasks.length X.tc] 25)
      replace hX := hX.turned ((Turned.refl [] u5).alloc (.cells #[.int .i64 X.proto, .slice X.ca X.cores.length X.cc, .slice X.ha X.homes.length X.hc, .slice X.ta X.tasks.length X.tc] 25)) (by simp)
      replace hb := hb.alloc hb.size (.cells #[.int .i64 X.proto, .slice X.ca X.cores.length X.cc, .slice X.ha X.homes.length X.hc, .slice X.ta X.tasks.length X.tc] 25)
      have hXk := hX.ok hs
      clear kb
      obtain ⟨c0, c1, c2, c3⟩ := id sc
      obtain ⟨d0, d1, d2, d3⟩ := id sx
      go_wp2_with fail
      refine (rsame_any X s0 _ hXk hs).mono ?_
      rw [hX.same]
      rintro e u6 ⟨rfl, hbx⟩
      clear c0 c1 c2 c3 d0 d1 d2 d3
      replace hb := hb.trans (hbx.mono hb.size)
      replace sc := sc.keep (Keeps.of_below hbx)
      replace sx := sx.keep (Keeps.of_below hbx)
      replace bk := bk.below hbx
      replace hb5 := hb5.trans (hbx.mono hb5.size)
      replace hs := hs.keep (Keeps.of_below hbx)
      replace hb4 := hb4.trans (hbx.mono hb4.size)
      replace hX := hX.turned (Turned.of_below hbx []) (by simp)
      clear hbx hXk
      obtain ⟨n, HN⟩ : ∃ n, Hid (X.tasks.length = n) := ⟨_, rfl⟩
      have hn9 : n ≤ 1000 := by rw [← HN.out, hX.len]; exact hF.out.tasks
      rw [HN.out] at hn0
      have hnz : ¬ (n : Int) = 0 := by omega
      have hnz0 : ¬ n = 0 := by omega
      have hnp : (0 : Int) < (n : Int) := by omega
      obtain ⟨p, hm2, hpn⟩ : ∃ p : Nat, a2.tmod (n : Int) = (p : Int) ∧ p < n := ⟨(a2 % (n : Int)).toNat, by rw [Int.tmod_eq_emod_of_nonneg b2]; have := Int.emod_nonneg a2 hnz; omega, by have := Int.emod_nonneg a2 hnz; have := Int.emod_lt_of_pos a2 hnp; omega⟩
      have hw2 : IntKind.i64.wrap a2 = a2 := IntWalk.i64_in _ (by omega)
      obtain ⟨m, hm1, hm9⟩ : ∃ m : Nat, a1.tmod 10 = (m : Int) ∧ m < 10 := ⟨(a1 % 10).toNat, by rw [Int.tmod_eq_emod_of_nonneg b1]; omega, by omega⟩
      obtain ⟨d0, d1, d2, d3⟩ := id sx
      rw [HN.out] at d3
      rw [HA.out] at d3
      have hpX : p < X.tasks.length := by rw [HN.out]; exact hpn
      have hps : p < s0.tasks.length := by rw [← hX.len]; exact hpX
      have htat : TasksAt u6 X.ta X.tasks := hX.ot.tasks
      rw [HA.out] at htat
      have cp : TaskCells u6 g (p * 6) (X.tasks.getD p default) := by
        obtain ⟨b', o', eA, hcl⟩ := htat.resolve_left (by intro e; rw [e] at hpX; simp at hpX)
        injection eA with eA; injection eA with e1 e2; subst e1; subst e2
        have := hcl p hpX
        rwa [Nat.zero_add] at this
      have otf := hX.ot.own
      rw [HA.out] at otf
      have fr := own_frozen otf
      have gp : X.tasks.getD p default = X.tasks[p] := by simp [List.getD, hpX]
      have lk := hX.like p hps
      rw [gp] at cp lk
      obtain ⟨tp, HTP⟩ : ∃ t, Hid (X.tasks[p] = t) := ⟨_, hidp rfl⟩
      rw [HTP.out] at cp lk
      replace lk := hidp lk
      clear htat gp otf
      rcases m with _ | _ | _ | _ | _ | _ | _ | _ | _ | _ | m
      · clear hm9
        obtain ⟨p0, -, -, -, -, -⟩ := id cp
        have fz := fr (p * 6)
        have TS : Turned [g] u6 (u6.setCell ⟨g, p * 6, none⟩ (.string ⟨#[66, 97, 100]⟩)) := (Turned.refl [g] u6).setCell (p := ⟨g, p * 6, none⟩) (.inl (by simp)) _
        obtain ⟨Y, sy, hY, HT⟩ : ∃ Y : SetR, SetCells (u6.setCell ⟨g, p * 6, none⟩ (.string ⟨#[66, 97, 100]⟩)) u5.heap.size Y ∧ SetOk (u6.setCell ⟨g, p * 6, none⟩ (.string ⟨#[66, 97, 100]⟩)) Y ∧ Hid (Told s0 Y p 10) := by
          refine ⟨setT X p { tp with name := ⟨#[66, 97, 100]⟩ }, ?_, hX.put hs HA.out hpX (j := 0) (by decide) (by rw [HTP.out]; rfl) (fun h => by rw [HTP.out] at h; exact { h with name := by show ByteArray.size ⟨#[66, 97, 100]⟩ ≤ maxLen; decide, at_ := h.at_ }) (fun _ hk => by rw [HTP.out]; exact hk), hidp ?_⟩
          · obtain ⟨e0, e1, e2, e3⟩ := sx.turned TS (by simp; have := HG.out; omega)
            exact ⟨e0, e1, e2, by unfold setT; dsimp only; rw [List.length_set]; exact e3⟩
          · exact hX.but.form Hok.out hps (by show formB ((X.tasks.set p _).getD p default) = false; rw [getD_set_eq hpX]; unfold formB; dsimp only; rw [show nameB ⟨#[66, 97, 100]⟩ = false from by decide +kernel]; rfl)
        have hbv : Below w.heap.size w (u6.setCell ⟨g, p * 6, none⟩ (.string ⟨#[66, 97, 100]⟩)) := hb.trans (TS.below hb.size (by simp; have := HB3.out; have := HB4.out; have := HG.out; omega))
        have hb4v := hb4.trans (TS.below hb4.size (by simp; have := HG.out; omega))
        clear TS hb4 hb fr cp hX sx sc bk hb5
        have sc := C4.out.keep (Keeps.of_below hb4v)
        obtain ⟨c0, c1, c2, c3⟩ := id sy
        go_wp2_with fail
        refine (check_any Y _ hY).mono ?_
        rw [HT.out.at_, HT.out.err]
        rintro e u7 ⟨rfl, hbx⟩
        clear c0 c1 c2 c3 d0 d1 d2 d3 p0 fz
        replace hbv := hbv.trans (hbx.mono hbv.size)
        replace hb4v := hb4v.trans (hbx.mono hb4v.size)
        replace sy := sy.keep (Keeps.of_below hbx)
        replace hY := hY.keep (Keeps.of_below hbx)
        replace sc := C4.out.keep (Keeps.of_below hb4v)
        have hs := S4.out.keep (Keeps.of_below hb4v)
        clear hbx
        obtain ⟨c0, c1, c2, c3⟩ := id sc
        obtain ⟨d0, d1, d2, d3⟩ := id sy
        go_wp2_with fail
        refine (same_any Y s0 _ hY hs).mono ?_
        rw [HT.out.diff]
        rintro e u8 ⟨rfl, hbx⟩
        clear c0 c1 c2 c3 d0 d1 d2 d3
        replace hbv := hbv.trans (hbx.mono hbv.size)
        replace hb4v := hb4v.trans (hbx.mono hb4v.size)
        replace sc := C4.out.keep (Keeps.of_below hb4v)
        have so := O4.out.keep (Keeps.of_below hb4v)
        replace hs := S4.out.keep (Keeps.of_below hb4v)
        have hO := K4.out.keep (Keeps.of_below hb4v)
        clear hbx
        obtain ⟨c0, c1, c2, c3⟩ := id sc
        obtain ⟨d0, d1, d2, d3⟩ := id so
        go_wp2_with fail
        refine (rsame_any O s0 _ hO hs).mono ?_
        rw [E4.out]
        rintro e u9 ⟨rfl, hbx⟩
        go_wp2_with fail
        go_ret
        exact ⟨rfl, hbv.trans (hbx.mono hbv.size)⟩
      · clear hm9
        obtain ⟨-, P1, p0, -, -, -⟩ := id cp
        have fz := fr (p * 6 + 2)
        have hper := inB_true.1 (formB_parts.1 (taskE_ok (((okS_iff s0).1 Hok.out).2 p hps)).1).2.1
        rw [← lk.out.2.1] at hper
        have hwp : IntKind.i64.wrap (tp.per + 1) = tp.per + 1 := IntWalk.i64_in _ (by omega)
        have TS : Turned [g] u6 (u6.setCell ⟨g, p * 6 + 2, none⟩ (.int .i64 (tp.per + 1))).drew := ((Turned.refl [g] u6).setCell (p := ⟨g, p * 6 + 2, none⟩) (.inl (by simp)) _).drew
        obtain ⟨Y, sy, hY, HT⟩ : ∃ Y : SetR, SetCells (u6.setCell ⟨g, p * 6 + 2, none⟩ (.int .i64 (tp.per + 1))).drew u5.heap.size Y ∧ SetOk (u6.setCell ⟨g, p * 6 + 2, none⟩ (.int .i64 (tp.per + 1))).drew Y ∧ Hid (Told s0 Y p 10) := by
          refine ⟨setT X p { tp with dl := tp.per + 1 }, ?_, (hX.put hs HA.out hpX (j := 2) (by decide) (by rw [HTP.out]; rfl) (fun h => by rw [HTP.out] at h; exact { h with dl := by show I64 (tp.per + 1); unfold I64; omega, at_ := h.at_ }) (fun _ hk => by rw [HTP.out]; exact hk)).keep (Keeps.drew _), hidp ?_⟩
          · obtain ⟨e0, e1, e2, e3⟩ := sx.turned TS (by simp; have := HG.out; omega)
            exact ⟨e0, e1, e2, by unfold setT; dsimp only; rw [List.length_set]; exact e3⟩
          · exact hX.but.form Hok.out hps (by show formB ((X.tasks.set p _).getD p default) = false; rw [getD_set_eq hpX]; unfold formB; dsimp only; rw [show inB (tp.per + 1) 1 tp.per = false from inB_false.2 (by omega)]; simp)
        have hsA : u6.drew.cell? ⟨u5.heap.size, 3, none⟩ = some (.slice (some ⟨g, 0, none⟩) n X.tc) ∧ u6.drew.cell? ⟨g, p * 6 + 1, none⟩ = some (.int .i64 tp.per) := ⟨d3, P1⟩
        have hsB : (u6.drew.setCell ⟨g, p * 6 + 2, none⟩ (.int .i64 (tp.per + 1))).cell? ⟨u5.heap.size, 3, none⟩ = some (.slice (some ⟨g, 0, none⟩) n X.tc) ∧ (u6.drew.setCell ⟨g, p * 6 + 2, none⟩ (.int .i64 (tp.per + 1))).cell? ⟨g, p * 6 + 1, none⟩ = some (.int .i64 tp.per) := ⟨TS.cell d3 (by simp; have := HG.out; omega), (World.cell?_setCell_other _ ⟨g, p * 6 + 2, none⟩ ⟨g, p * 6 + 1, none⟩ _ (by intro e; injection e with e1 e2; omega)).trans P1⟩
        clear hper
        have hbv : Below w.heap.size w (u6.setCell ⟨g, p * 6 + 2, none⟩ (.int .i64 (tp.per + 1))).drew := hb.trans (TS.below hb.size (by simp; have := HB3.out; have := HB4.out; have := HG.out; omega))
        have hb4v := hb4.trans (TS.below hb4.size (by simp; have := HG.out; omega))
        clear TS hb4 hb fr cp hX sx sc bk hb5
        have sc := C4.out.keep (Keeps.of_below hb4v)
        obtain ⟨c0, c1, c2, c3⟩ := id sy
        go_wp2_with fail
        refine wp_region_held_drew (S := fun w' => w'.cell? ⟨u5.heap.size, 3, none⟩ = some (.slice (some ⟨g, 0, none⟩) n X.tc) ∧ w'.cell? ⟨g, p * 6 + 1, none⟩ = some (.int .i64 tp.per)) (by kernel_rfl) ?_ (fun hHeld => ?_)
        · exact hsA
        refine wpAnyH_take (i := 0) (v := ?_) rfl (by kernel_rfl) (by kernel_rfl) (by kernel_rfl) (fun _ _ _ h => h) (Or.inl ⟨by rfl, ?_⟩) (by assumption) ?_
        rotate_left 1
        · ((intro w hSw; (try dsimp only at hSw); go_simp); (try with_reducible rfl))
        simp only [Act.put, List.setIfInBounds_toArray, List.set_cons_zero, List.set_cons_succ, List.getElem_toArray, List.getElem_cons_zero, List.getElem_cons_succ]
        refine wpAnyH_take (i := 1) (v := ?_) rfl (by kernel_rfl) (by kernel_rfl) (by kernel_rfl) (fun _ _ _ h => h) (Or.inl ⟨by rfl, ?_⟩) (by assumption) ?_
        rotate_left 1
        · ((intro w hSw; (try dsimp only at hSw); go_simp); (try with_reducible rfl))
        simp only [Act.put, List.setIfInBounds_toArray, List.set_cons_zero, List.set_cons_succ, List.getElem_toArray, List.getElem_cons_zero, List.getElem_cons_succ]
        refine wpAnyH_take (i := 2) (v := ?_) rfl (by kernel_rfl) (by kernel_rfl) (by kernel_rfl) (fun _ _ _ h => h) (Or.inl ⟨by rfl, ?_⟩) (by assumption) ?_
        rotate_left 1
        · ((intro w hSw; (try dsimp only at hSw); go_simp); (try with_reducible rfl))
        simp only [Act.put, List.setIfInBounds_toArray, List.set_cons_zero, List.set_cons_succ, List.getElem_toArray, List.getElem_cons_zero, List.getElem_cons_succ]
        refine wpAnyH_take (i := 3) (v := ?_) rfl (by kernel_rfl) (by kernel_rfl) (by kernel_rfl) (fun _ _ _ h => h) (Or.inl ⟨by rfl, ?_⟩) (by assumption) ?_
        rotate_left 1
        · ((intro w hSw; (try dsimp only at hSw); go_simp); (try with_reducible rfl))
        simp only [Act.put, List.setIfInBounds_toArray, List.set_cons_zero, List.set_cons_succ, List.getElem_toArray, List.getElem_cons_zero, List.getElem_cons_succ]
        refine wpAnyH_take (i := 4) (v := ?_) rfl (by kernel_rfl) (by kernel_rfl) (by kernel_rfl) (fun _ _ _ h => h) (Or.inl ⟨by rfl, ?_⟩) (by assumption) ?_
        rotate_left 1
        · ((intro w hSw; (try dsimp only at hSw); go_simp); (try with_reducible rfl))
        simp only [Act.put, List.setIfInBounds_toArray, List.set_cons_zero, List.set_cons_succ, List.getElem_toArray, List.getElem_cons_zero, List.getElem_cons_succ]
        refine wpAnyH_take (i := 5) (v := ?_) rfl (by kernel_rfl) (by kernel_rfl) (by kernel_rfl) (fun _ _ _ h => h) (Or.inl ⟨by rfl, ?_⟩) (by assumption) ?_
        rotate_left 1
        · ((intro w hSw; (try dsimp only at hSw); go_simp); (try with_reducible rfl))
        simp only [Act.put, List.setIfInBounds_toArray, List.set_cons_zero, List.set_cons_succ, List.getElem_toArray, List.getElem_cons_zero, List.getElem_cons_succ]
        refine wpAnyH_take (i := 6) (v := ?_) rfl (by kernel_rfl) (by kernel_rfl) (by kernel_rfl) (fun _ _ _ h => h) (Or.inl ⟨by rfl, ?_⟩) (by assumption) ?_
        rotate_left 1
        · ((intro w hSw; (try dsimp only at hSw); go_simp); (try with_reducible rfl))
        simp only [Act.put, List.setIfInBounds_toArray, List.set_cons_zero, List.set_cons_succ, List.getElem_toArray, List.getElem_cons_zero, List.getElem_cons_succ]
        refine wpAnyH_take (i := 7) (v := ?_) rfl (by kernel_rfl) (by kernel_rfl) (by kernel_rfl) (fun _ _ _ h => h) (Or.inl ⟨by rfl, ?_⟩) (by assumption) ?_
        rotate_left 1
        · ((intro w hSw; (try dsimp only at hSw); go_simp); (try with_reducible rfl))
        simp only [Act.put, List.setIfInBounds_toArray, List.set_cons_zero, List.set_cons_succ, List.getElem_toArray, List.getElem_cons_zero, List.getElem_cons_succ]
        refine wpAnyH_take (i := 8) (v := ?_) rfl (by kernel_rfl) (by kernel_rfl) (by kernel_rfl) (fun _ _ _ h => h) (Or.inl ⟨by rfl, ?_⟩) (by assumption) ?_
        rotate_left 1
        · ((intro w hSw; (try dsimp only at hSw); go_simp); (try with_reducible rfl))
        simp only [Act.put, List.setIfInBounds_toArray, List.set_cons_zero, List.set_cons_succ, List.getElem_toArray, List.getElem_cons_zero, List.getElem_cons_succ]
        refine wpAnyH_take (i := 9) (v := ?_) rfl (by kernel_rfl) (by kernel_rfl) (by kernel_rfl) (fun _ _ _ h => h) (Or.inl ⟨by rfl, ?_⟩) (by assumption) ?_
        rotate_left 1
        · ((intro w hSw; (try dsimp only at hSw); go_simp); (try with_reducible rfl))
        simp only [Act.put, List.setIfInBounds_toArray, List.set_cons_zero, List.set_cons_succ, List.getElem_toArray, List.getElem_cons_zero, List.getElem_cons_succ]
        refine wpAnyH_take (i := 10) (v := ?_) rfl (by kernel_rfl) (by kernel_rfl) (by kernel_rfl) (fun _ _ _ h => h) (Or.inl ⟨by rfl, ?_⟩) (by assumption) ?_
        rotate_left 1
        · ((intro w hSw; (try dsimp only at hSw); go_simp); (try with_reducible rfl))
        simp only [Act.put, List.setIfInBounds_toArray, List.set_cons_zero, List.set_cons_succ, List.getElem_toArray, List.getElem_cons_zero, List.getElem_cons_succ]
        refine wpAnyH_take (i := 11) (v := ?_) rfl (by kernel_rfl) (by kernel_rfl) (by kernel_rfl) (fun _ _ _ h => h) (Or.inl ⟨by rfl, ?_⟩) (by assumption) ?_
        rotate_left 1
        · ((intro w hSw; (try dsimp only at hSw); go_simp); (try with_reducible rfl))
        simp only [Act.put, List.setIfInBounds_toArray, List.set_cons_zero, List.set_cons_succ, List.getElem_toArray, List.getElem_cons_zero, List.getElem_cons_succ]
        refine wpAnyH_ready (rs := [12]) (by kernel_rfl) (by simp) ?_
        refine AllReadyH.cons rfl (fun K hK => ?_) AllReadyH.nil
        go_simp
        refine hK.out _ _ ?_ (fun hHeld => ?_)
        · exact hsB
        clear hK K
        try simp only [Act.put, List.setIfInBounds_toArray, List.set_cons_zero, List.set_cons_succ, List.getElem_toArray, List.getElem_cons_zero, List.getElem_cons_succ]
        refine wpAnyH_done (by kernel_rfl) ?_ _
        clear hHeld hsA hsB
        go_wp2_with fail
        refine (check_any Y _ hY).mono ?_
        rw [HT.out.at_, HT.out.err]
        rintro e u7 ⟨rfl, hbx⟩
        clear c0 c1 c2 c3 d0 d1 d2 d3 p0 fz
        replace hbv := hbv.trans (hbx.mono hbv.size)
        replace hb4v := hb4v.trans (hbx.mono hb4v.size)
        replace sy := sy.keep (Keeps.of_below hbx)
        replace hY := hY.keep (Keeps.of_below hbx)
        replace sc := C4.out.keep (Keeps.of_below hb4v)
        have hs := S4.out.keep (Keeps.of_below hb4v)
        clear hbx
        obtain ⟨c0, c1, c2, c3⟩ := id sc
        obtain ⟨d0, d1, d2, d3⟩ := id sy
        go_wp2_with fail
        refine (same_any Y s0 _ hY hs).mono ?_
        rw [HT.out.diff]
        rintro e u8 ⟨rfl, hbx⟩
        clear c0 c1 c2 c3 d0 d1 d2 d3
        replace hbv := hbv.trans (hbx.mono hbv.size)
        replace hb4v := hb4v.trans (hbx.mono hb4v.size)
        replace sc := C4.out.keep (Keeps.of_below hb4v)
        have so := O4.out.keep (Keeps.of_below hb4v)
        replace hs := S4.out.keep (Keeps.of_below hb4v)
        have hO := K4.out.keep (Keeps.of_below hb4v)
        clear hbx
        obtain ⟨c0, c1, c2, c3⟩ := id sc
        obtain ⟨d0, d1, d2, d3⟩ := id so
        go_wp2_with fail
        refine (rsame_any O s0 _ hO hs).mono ?_
        rw [E4.out]
        rintro e u9 ⟨rfl, hbx⟩
        go_wp2_with fail
        go_ret
        exact ⟨rfl, hbv.trans (hbx.mono hbv.size)⟩
      · clear hm9
        obtain ⟨-, -, -, p0, -, -⟩ := id cp
        have fz := fr (p * 6 + 3)
        have TS : Turned [g] u6 (u6.setCell ⟨g, p * 6 + 3, none⟩ (.int .i64 1001)) := (Turned.refl [g] u6).setCell (p := ⟨g, p * 6 + 3, none⟩) (.inl (by simp)) _
        obtain ⟨Y, sy, hY, HT⟩ : ∃ Y : SetR, SetCells (u6.setCell ⟨g, p * 6 + 3, none⟩ (.int .i64 1001)) u5.heap.size Y ∧ SetOk (u6.setCell ⟨g, p * 6 + 3, none⟩ (.int .i64 1001)) Y ∧ Hid (Told s0 Y p 10) := by
          refine ⟨setT X p { tp with prio := 1001 }, ?_, hX.put hs HA.out hpX (j := 3) (by decide) (by rw [HTP.out]; rfl) (fun h => by rw [HTP.out] at h; exact { h with prio := by show I64 1001; unfold I64; omega, at_ := h.at_ }) (fun _ hk => by rw [HTP.out]; exact hk), hidp ?_⟩
          · obtain ⟨e0, e1, e2, e3⟩ := sx.turned TS (by simp; have := HG.out; omega)
            exact ⟨e0, e1, e2, by unfold setT; dsimp only; rw [List.length_set]; exact e3⟩
          · exact hX.but.form Hok.out hps (by show formB ((X.tasks.set p _).getD p default) = false; rw [getD_set_eq hpX]; unfold formB; dsimp only; rw [show inB 1001 1 1000 = false from rfl]; simp)
        have hbv : Below w.heap.size w (u6.setCell ⟨g, p * 6 + 3, none⟩ (.int .i64 1001)) := hb.trans (TS.below hb.size (by simp; have := HB3.out; have := HB4.out; have := HG.out; omega))
        have hb4v := hb4.trans (TS.below hb4.size (by simp; have := HG.out; omega))
        clear TS hb4 hb fr cp hX sx sc bk hb5
        have sc := C4.out.keep (Keeps.of_below hb4v)
        obtain ⟨c0, c1, c2, c3⟩ := id sy
        go_wp2_with fail
        refine (check_any Y _ hY).mono ?_
        rw [HT.out.at_, HT.out.err]
        rintro e u7 ⟨rfl, hbx⟩
        clear c0 c1 c2 c3 d0 d1 d2 d3 p0 fz
        replace hbv := hbv.trans (hbx.mono hbv.size)
        replace hb4v := hb4v.trans (hbx.mono hb4v.size)
        replace sy := sy.keep (Keeps.of_below hbx)
        replace hY := hY.keep (Keeps.of_below hbx)
        replace sc := C4.out.keep (Keeps.of_below hb4v)
        have hs := S4.out.keep (Keeps.of_below hb4v)
        clear hbx
        obtain ⟨c0, c1, c2, c3⟩ := id sc
        obtain ⟨d0, d1, d2, d3⟩ := id sy
        go_wp2_with fail
        refine (same_any Y s0 _ hY hs).mono ?_
        rw [HT.out.diff]
        rintro e u8 ⟨rfl, hbx⟩
        clear c0 c1 c2 c3 d0 d1 d2 d3
        replace hbv := hbv.trans (hbx.mono hbv.size)
        replace hb4v := hb4v.trans (hbx.mono hb4v.size)
        replace sc := C4.out.keep (Keeps.of_below hb4v)
        have so := O4.out.keep (Keeps.of_below hb4v)
        replace hs := S4.out.keep (Keeps.of_below hb4v)
        have hO := K4.out.keep (Keeps.of_below hb4v)
        clear hbx
        obtain ⟨c0, c1, c2, c3⟩ := id sc
        obtain ⟨d0, d1, d2, d3⟩ := id so
        go_wp2_with fail
        refine (rsame_any O s0 _ hO hs).mono ?_
        rw [E4.out]
        rintro e u9 ⟨rfl, hbx⟩
        go_wp2_with fail
        go_ret
        exact ⟨rfl, hbv.trans (hbx.mono hbv.size)⟩
      · clear hm9
        obtain ⟨-, -, -, -, p0, -⟩ := id cp
        have fz := fr (p * 6 + 4)
        have TS : Turned [g] u6 (u6.setCell ⟨g, p * 6 + 4, none⟩ (.int .i64 (X.cores.length : Int))) := (Turned.refl [g] u6).setCell (p := ⟨g, p * 6 + 4, none⟩) (.inl (by simp)) _
        obtain ⟨Y, sy, hY, HT⟩ : ∃ Y : SetR, SetCells (u6.setCell ⟨g, p * 6 + 4, none⟩ (.int .i64 (X.cores.length : Int))) u5.heap.size Y ∧ SetOk (u6.setCell ⟨g, p * 6 + 4, none⟩ (.int .i64 (X.cores.length : Int))) Y ∧ Hid (Told s0 Y p 16) := by
          refine ⟨setT X p { tp with cl := (X.cores.length : Int) }, ?_, hX.put hs HA.out hpX (j := 4) (by decide) (by rw [HTP.out]; rfl) (fun h => by rw [HTP.out] at h; exact { h with cl := by have := hF.out.cores; rw [← hX.cores] at this; show I64 (X.cores.length : Int); unfold I64; omega, at_ := h.at_ }) (fun _ hk => by rw [HTP.out]; exact hk), hidp ?_⟩
          · obtain ⟨e0, e1, e2, e3⟩ := sx.turned TS (by simp; have := HG.out; omega)
            exact ⟨e0, e1, e2, by unfold setT; dsimp only; rw [List.length_set]; exact e3⟩
          · exact hX.but.place Hok.out hps ⟨by show ((X.tasks.set p _).getD p default).name = _; rw [getD_set_eq hpX]; exact lk.out.1, by show ((X.tasks.set p _).getD p default).per = _; rw [getD_set_eq hpX]; exact lk.out.2.1, by show ((X.tasks.set p _).getD p default).dl = _; rw [getD_set_eq hpX]; exact lk.out.2.2.1, by show ((X.tasks.set p _).getD p default).prio = _; rw [getD_set_eq hpX]; exact lk.out.2.2.2.1⟩ (by show ((X.tasks.set p _).getD p default).cl = _; rw [getD_set_eq hpX, ← hX.cores])
        have hbv : Below w.heap.size w (u6.setCell ⟨g, p * 6 + 4, none⟩ (.int .i64 (X.cores.length : Int))) := hb.trans (TS.below hb.size (by simp; have := HB3.out; have := HB4.out; have := HG.out; omega))
        have hb4v := hb4.trans (TS.below hb4.size (by simp; have := HG.out; omega))
        clear TS hb4 hb fr cp hX sx sc bk hb5
        have sc := C4.out.keep (Keeps.of_below hb4v)
        obtain ⟨c0, c1, c2, c3⟩ := id sy
        go_wp2_with fail
        refine (check_any Y _ hY).mono ?_
        rw [HT.out.at_, HT.out.err]
        rintro e u7 ⟨rfl, hbx⟩
        clear c0 c1 c2 c3 d0 d1 d2 d3 p0 fz
        replace hbv := hbv.trans (hbx.mono hbv.size)
        replace hb4v := hb4v.trans (hbx.mono hb4v.size)
        replace sy := sy.keep (Keeps.of_below hbx)
        replace hY := hY.keep (Keeps.of_below hbx)
        replace sc := C4.out.keep (Keeps.of_below hb4v)
        have hs := S4.out.keep (Keeps.of_below hb4v)
        clear hbx
        obtain ⟨c0, c1, c2, c3⟩ := id sc
        obtain ⟨d0, d1, d2, d3⟩ := id sy
        go_wp2_with fail
        refine (same_any Y s0 _ hY hs).mono ?_
        rw [HT.out.diff]
        rintro e u8 ⟨rfl, hbx⟩
        clear c0 c1 c2 c3 d0 d1 d2 d3
        replace hbv := hbv.trans (hbx.mono hbv.size)
        replace hb4v := hb4v.trans (hbx.mono hb4v.size)
        replace sc := C4.out.keep (Keeps.of_below hb4v)
        have so := O4.out.keep (Keeps.of_below hb4v)
        replace hs := S4.out.keep (Keeps.of_below hb4v)
        have hO := K4.out.keep (Keeps.of_below hb4v)
        clear hbx
        obtain ⟨c0, c1, c2, c3⟩ := id sc
        obtain ⟨d0, d1, d2, d3⟩ := id so
        go_wp2_with fail
        refine (rsame_any O s0 _ hO hs).mono ?_
        rw [E4.out]
        rintro e u9 ⟨rfl, hbx⟩
        go_wp2_with fail
        go_ret
        exact ⟨rfl, hbv.trans (hbx.mono hbv.size)⟩
      · clear hm9
        obtain ⟨-, -, -, -, -, p0⟩ := id cp
        have fz := fr (p * 6 + 5)
        have TS : Turned [g] u6 (u6.setCell ⟨g, p * 6 + 5, none⟩ (.slice none 0 0)) := (Turned.refl [g] u6).setCell (p := ⟨g, p * 6 + 5, none⟩) (.inl (by simp)) _
        obtain ⟨Y, sy, hY, HT⟩ : ∃ Y : SetR, SetCells (u6.setCell ⟨g, p * 6 + 5, none⟩ (.slice none 0 0)) u5.heap.size Y ∧ SetOk (u6.setCell ⟨g, p * 6 + 5, none⟩ (.slice none 0 0)) Y ∧ Hid (Told s0 Y p 15) := by
          refine ⟨setT X p { tp with pa := none, parts := [], pc := 0 }, ?_, hX.put hs HA.out hpX (j := 5) (by decide) (by rw [HTP.out]; rfl) (fun h => by rw [HTP.out] at h; exact { h with sl := ⟨fun _ => ⟨rfl, rfl⟩, Nat.le_refl _, Nat.zero_le _⟩, at_ := .inl rfl, wf := fun _ hq => by simp at hq }) (fun _ hk => by simp [fp] at hk), hidp ?_⟩
          · obtain ⟨e0, e1, e2, e3⟩ := sx.turned TS (by simp; have := HG.out; omega)
            exact ⟨e0, e1, e2, by unfold setT; dsimp only; rw [List.length_set]; exact e3⟩
          · exact hX.but.part Hok.out hps ⟨by show ((X.tasks.set p _).getD p default).name = _; rw [getD_set_eq hpX]; exact lk.out.1, by show ((X.tasks.set p _).getD p default).per = _; rw [getD_set_eq hpX]; exact lk.out.2.1, by show ((X.tasks.set p _).getD p default).dl = _; rw [getD_set_eq hpX]; exact lk.out.2.2.1, by show ((X.tasks.set p _).getD p default).prio = _; rw [getD_set_eq hpX]; exact lk.out.2.2.2.1⟩ (by show ((X.tasks.set p _).getD p default).cl = _; rw [getD_set_eq hpX]; exact lk.out.2.2.2.2.1) (by show partsB ((X.tasks.set p _).getD p default).parts _ = false; rw [getD_set_eq hpX]; rfl)
        have hbv : Below w.heap.size w (u6.setCell ⟨g, p * 6 + 5, none⟩ (.slice none 0 0)) := hb.trans (TS.below hb.size (by simp; have := HB3.out; have := HB4.out; have := HG.out; omega))
        have hb4v := hb4.trans (TS.below hb4.size (by simp; have := HG.out; omega))
        clear TS hb4 hb fr cp hX sx sc bk hb5
        have sc := C4.out.keep (Keeps.of_below hb4v)
        obtain ⟨c0, c1, c2, c3⟩ := id sy
        go_wp2_with fail
        refine (check_any Y _ hY).mono ?_
        rw [HT.out.at_, HT.out.err]
        rintro e u7 ⟨rfl, hbx⟩
        clear c0 c1 c2 c3 d0 d1 d2 d3 p0 fz
        replace hbv := hbv.trans (hbx.mono hbv.size)
        replace hb4v := hb4v.trans (hbx.mono hb4v.size)
        replace sy := sy.keep (Keeps.of_below hbx)
        replace hY := hY.keep (Keeps.of_below hbx)
        replace sc := C4.out.keep (Keeps.of_below hb4v)
        have hs := S4.out.keep (Keeps.of_below hb4v)
        clear hbx
        obtain ⟨c0, c1, c2, c3⟩ := id sc
        obtain ⟨d0, d1, d2, d3⟩ := id sy
        go_wp2_with fail
        refine (same_any Y s0 _ hY hs).mono ?_
        rw [HT.out.diff]
        rintro e u8 ⟨rfl, hbx⟩
        clear c0 c1 c2 c3 d0 d1 d2 d3
        replace hbv := hbv.trans (hbx.mono hbv.size)
        replace hb4v := hb4v.trans (hbx.mono hb4v.size)
        replace sc := C4.out.keep (Keeps.of_below hb4v)
        have so := O4.out.keep (Keeps.of_below hb4v)
        replace hs := S4.out.keep (Keeps.of_below hb4v)
        have hO := K4.out.keep (Keeps.of_below hb4v)
        clear hbx
        obtain ⟨c0, c1, c2, c3⟩ := id sc
        obtain ⟨d0, d1, d2, d3⟩ := id so
        go_wp2_with fail
        refine (rsame_any O s0 _ hO hs).mono ?_
        rw [E4.out]
        rintro e u9 ⟨rfl, hbx⟩
        go_wp2_with fail
        go_ret
        exact ⟨rfl, hbv.trans (hbx.mono hbv.size)⟩
      · clear hm9
        obtain ⟨-, -, -, -, -, P5⟩ := id cp
        have gq : X.tasks.getD p default = X.tasks[p] := by simp [List.getD, hpX]
        have op := hX.op p hpX
        have h35 := H35.out p hpX
        have h34 := H34.out p hpX
        rw [gq, HTP.out] at op h35 h34
        have hpb := (taskE_ok (((okS_iff s0).1 Hok.out).2 p hps)).2.2.2
        rw [← lk.out.2.2.2.2.2] at hpb
        obtain ⟨a, ps, hps2⟩ : ∃ a ps, tp.parts = a :: ps := by
          cases e : tp.parts with
          | nil => rw [e] at hpb; exact absurd hpb (by simp [partsB, inB])
          | cons a l => exact ⟨a, l, rfl⟩
        obtain ⟨gb, hAb, -, -⟩ := own_at op.own (by rw [hps2]; simp)
        have HC := hidp (show u4.heap.size < gb ∧ gb < u5.heap.size from ⟨h34 gb (by rw [hAb]; simp [fp]), h35 gb (by rw [hAb]; simp [fp])⟩)
        rw [hAb] at op P5
        have fr2 := own_frozen op.own
        have pcs := PartsAt.first (hps2 ▸ op.parts)
        obtain ⟨q0, q1, q2⟩ := pcs
        have f0 := fr2 0
        have f1 := fr2 1
        have f2 := fr2 2
        rw [hps2] at op
        have TS : Turned [gb] u6 (u6.setCell ⟨gb, 1, none⟩ (.int .i64 61)) := (Turned.refl [gb] u6).setCell (p := ⟨gb, 1, none⟩) (.inl (by simp)) _
        obtain ⟨Y, sy, hY, HT⟩ : ∃ Y : SetR, SetCells (u6.setCell ⟨gb, 1, none⟩ (.int .i64 61)) u5.heap.size Y ∧ SetOk (u6.setCell ⟨gb, 1, none⟩ (.int .i64 61)) Y ∧ Hid (Told s0 Y p 15) := by
          have ow := ownP_len0 op 61
          have hwf : ∀ q ∈ tp.parts, q.wf := by
            have := ((hX.ok S4.out).tasks.ok _ (List.getElem_mem hpX)).wf
            rwa [HTP.out] at this
          have hpt := hX.putP S4.out hpX (by rw [HTP.out]; exact hAb) TS (ps := (⟨a.kind, 61, a.res⟩ : PartM) :: ps) (by rw [HTP.out, hps2]; rfl) ow.parts (fun q hq => by
            rcases List.mem_cons.1 hq with h | h
            · subst h
              have := hwf a (by rw [hps2]; simp)
              exact ⟨this.1, by show I64 61; unfold I64; omega, this.2.2⟩
            · exact hwf q (by rw [hps2]; simp [h]))
          refine ⟨_, ?_, hpt, hidp ?_⟩
          · obtain ⟨e0, e1, e2, e3⟩ := sx.turned TS (by simp; have := HC.out; omega)
            exact ⟨e0, e1, e2, by unfold setT; dsimp only; rw [List.length_set]; exact e3⟩
          · refine hX.but.part Hok.out hps ⟨by show ((X.tasks.set p _).getD p default).name = _; rw [getD_set_eq hpX, HTP.out]; exact lk.out.1, by show ((X.tasks.set p _).getD p default).per = _; rw [getD_set_eq hpX, HTP.out]; exact lk.out.2.1, by show ((X.tasks.set p _).getD p default).dl = _; rw [getD_set_eq hpX, HTP.out]; exact lk.out.2.2.1, by show ((X.tasks.set p _).getD p default).prio = _; rw [getD_set_eq hpX, HTP.out]; exact lk.out.2.2.2.1⟩ (by show ((X.tasks.set p _).getD p default).cl = _; rw [getD_set_eq hpX, HTP.out]; exact lk.out.2.2.2.2.1) ?_
            show partsB ((X.tasks.set p _).getD p default).parts _ = false
            rw [getD_set_eq hpX]
            have := parts_bad (p := (⟨a.kind, 61, a.res⟩ : PartM)) hpb (part_long a _)
            rw [hps2] at this
            exact this
        obtain ⟨r, HR⟩ : ∃ r, Hid (tp.parts.length = r) := ⟨_, rfl⟩
        have hr0 : 0 < r := by rw [← HR.out, hps2]; simp
        rw [HR.out] at P5
        replace hAb := hidp hAb
        replace hps2 := hidp hps2
        have p0 := P5
        have fz := f0
        clear op h35 h34 hpb gq
        have hbv : Below w.heap.size w (u6.setCell ⟨gb, 1, none⟩ (.int .i64 61)) := hb.trans (TS.below hb.size (by simp; have := HB3.out; have := HB4.out; have := HC.out; omega))
        have hb4v := hb4.trans (TS.below hb4.size (by simp; have := HC.out; omega))
        clear TS hb4 hb fr cp hX sx sc bk hb5
        have sc := C4.out.keep (Keeps.of_below hb4v)
        obtain ⟨c0, c1, c2, c3⟩ := id sy
        go_wp2_with fail
        refine (check_any Y _ hY).mono ?_
        rw [HT.out.at_, HT.out.err]
        rintro e u7 ⟨rfl, hbx⟩
        clear c0 c1 c2 c3 d0 d1 d2 d3 p0 fz
        replace hbv := hbv.trans (hbx.mono hbv.size)
        replace hb4v := hb4v.trans (hbx.mono hb4v.size)
        replace sy := sy.keep (Keeps.of_below hbx)
        replace hY := hY.keep (Keeps.of_below hbx)
        replace sc := C4.out.keep (Keeps.of_below hb4v)
        have hs := S4.out.keep (Keeps.of_below hb4v)
        clear hbx
        obtain ⟨c0, c1, c2, c3⟩ := id sc
        obtain ⟨d0, d1, d2, d3⟩ := id sy
        go_wp2_with fail
        refine (same_any Y s0 _ hY hs).mono ?_
        rw [HT.out.diff]
        rintro e u8 ⟨rfl, hbx⟩
        clear c0 c1 c2 c3 d0 d1 d2 d3
        replace hbv := hbv.trans (hbx.mono hbv.size)
        replace hb4v := hb4v.trans (hbx.mono hb4v.size)
        replace sc := C4.out.keep (Keeps.of_below hb4v)
        have so := O4.out.keep (Keeps.of_below hb4v)
        replace hs := S4.out.keep (Keeps.of_below hb4v)
        have hO := K4.out.keep (Keeps.of_below hb4v)
        clear hbx
        obtain ⟨c0, c1, c2, c3⟩ := id sc
        obtain ⟨d0, d1, d2, d3⟩ := id so
        go_wp2_with fail
        refine (rsame_any O s0 _ hO hs).mono ?_
        rw [E4.out]
        rintro e u9 ⟨rfl, hbx⟩
        go_wp2_with fail
        go_ret
        exact ⟨rfl, hbv.trans (hbx.mono hbv.size)⟩
      · clear hm9
        obtain ⟨-, -, -, -, -, P5⟩ := id cp
        have gq : X.tasks.getD p default = X.tasks[p] := by simp [List.getD, hpX]
        have op := hX.op p hpX
        have h35 := H35.out p hpX
        have h34 := H34.out p hpX
        rw [gq, HTP.out] at op h35 h34
        have hpb := (taskE_ok (((okS_iff s0).1 Hok.out).2 p hps)).2.2.2
        rw [← lk.out.2.2.2.2.2] at hpb
        obtain ⟨a, ps, hps2⟩ : ∃ a ps, tp.parts = a :: ps := by
          cases e : tp.parts with
          | nil => rw [e] at hpb; exact absurd hpb (by simp [partsB, inB])
          | cons a l => exact ⟨a, l, rfl⟩
        obtain ⟨gb, hAb, -, -⟩ := own_at op.own (by rw [hps2]; simp)
        have HC := hidp (show u4.heap.size < gb ∧ gb < u5.heap.size from ⟨h34 gb (by rw [hAb]; simp [fp]), h35 gb (by rw [hAb]; simp [fp])⟩)
        rw [hAb] at op P5
        have fr2 := own_frozen op.own
        have pcs := PartsAt.first (hps2 ▸ op.parts)
        obtain ⟨q0, q1, q2⟩ := pcs
        have f0 := fr2 0
        have f1 := fr2 1
        have f2 := fr2 2
        rw [hps2] at op
        have TS : Turned [gb] u6 (((u6.setCell ⟨gb, 0, none⟩ (.int .i64 3)).setCell ⟨gb, 1, none⟩ (.int .i64 1)).setCell ⟨gb, 2, none⟩ (.int .i64 (X.homes.length : Int))).drew := ((((Turned.refl [gb] u6).setCell (p := ⟨gb, 0, none⟩) (.inl (by simp)) _).setCell (p := ⟨gb, 1, none⟩) (.inl (by simp)) _).setCell (p := ⟨gb, 2, none⟩) (.inl (by simp)) _).drew
        obtain ⟨Y, sy, hY, HT⟩ : ∃ Y : SetR, SetCells (((u6.setCell ⟨gb, 0, none⟩ (.int .i64 3)).setCell ⟨gb, 1, none⟩ (.int .i64 1)).setCell ⟨gb, 2, none⟩ (.int .i64 (X.homes.length : Int))).drew u5.heap.size Y ∧ SetOk (((u6.setCell ⟨gb, 0, none⟩ (.int .i64 3)).setCell ⟨gb, 1, none⟩ (.int .i64 1)).setCell ⟨gb, 2, none⟩ (.int .i64 (X.homes.length : Int))).drew Y ∧ Hid (Told s0 Y p 15) := by
          have ow := (ownP_part0 op ⟨3, 1, (X.homes.length : Int)⟩).turned ((Turned.refl [] _).drew) (by simp)
          have hwf : ∀ q ∈ tp.parts, q.wf := by
            have := ((hX.ok S4.out).tasks.ok _ (List.getElem_mem hpX)).wf
            rwa [HTP.out] at this
          have hpt := hX.putP S4.out hpX (by rw [HTP.out]; exact hAb) TS (ps := (⟨3, 1, (X.homes.length : Int)⟩ : PartM) :: ps) (by rw [HTP.out, hps2]; rfl) ow.parts (fun q hq => by
            rcases List.mem_cons.1 hq with h | h
            · subst h
              have := hwf a (by rw [hps2]; simp)
              exact ⟨by show I64 3; unfold I64; omega, by show I64 1; unfold I64; omega, by have := hF.out.homes; rw [← hX.homes] at this; show I64 (X.homes.length : Int); unfold I64; omega⟩
            · exact hwf q (by rw [hps2]; simp [h]))
          refine ⟨_, ?_, hpt, hidp ?_⟩
          · obtain ⟨e0, e1, e2, e3⟩ := sx.turned TS (by simp; have := HC.out; omega)
            exact ⟨e0, e1, e2, by unfold setT; dsimp only; rw [List.length_set]; exact e3⟩
          · refine hX.but.part Hok.out hps ⟨by show ((X.tasks.set p _).getD p default).name = _; rw [getD_set_eq hpX, HTP.out]; exact lk.out.1, by show ((X.tasks.set p _).getD p default).per = _; rw [getD_set_eq hpX, HTP.out]; exact lk.out.2.1, by show ((X.tasks.set p _).getD p default).dl = _; rw [getD_set_eq hpX, HTP.out]; exact lk.out.2.2.1, by show ((X.tasks.set p _).getD p default).prio = _; rw [getD_set_eq hpX, HTP.out]; exact lk.out.2.2.2.1⟩ (by show ((X.tasks.set p _).getD p default).cl = _; rw [getD_set_eq hpX, HTP.out]; exact lk.out.2.2.2.2.1) ?_
            show partsB ((X.tasks.set p _).getD p default).parts _ = false
            rw [getD_set_eq hpX]
            have := parts_bad (p := (⟨3, 1, (X.homes.length : Int)⟩ : PartM)) hpb (by rw [hX.homes]; exact part_res _)
            rw [hps2] at this
            exact this
        obtain ⟨r, HR⟩ : ∃ r, Hid (tp.parts.length = r) := ⟨_, rfl⟩
        have hr0 : 0 < r := by rw [← HR.out, hps2]; simp
        rw [HR.out] at P5
        replace hAb := hidp hAb
        replace hps2 := hidp hps2
        have p0 := P5
        have hgb : g ≠ gb := by
          intro e
          have h := hX.s3 p hpX g (by rw [HA.out]; simp [fp]) gb (by rw [gq, HTP.out, hAb.out]; simp [fp])
          omega
        have hsA : u6.drew.cell? ⟨u5.heap.size, 3, none⟩ = some (.slice (some ⟨g, 0, none⟩) n X.tc) ∧ u6.drew.cell? ⟨g, p * 6 + 5, none⟩ = some (.slice (some ⟨gb, 0, none⟩) r tp.pc) ∧ u6.drew.cell? ⟨u5.heap.size, 2, none⟩ = some (.slice X.ha X.homes.length X.hc) := ⟨d3, P5, d2⟩
        have hsB : (((u6.drew.setCell ⟨gb, 0, none⟩ (.int .i64 3)).setCell ⟨gb, 1, none⟩ (.int .i64 1)).setCell ⟨gb, 2, none⟩ (.int .i64 (X.homes.length : Int))).cell? ⟨u5.heap.size, 3, none⟩ = some (.slice (some ⟨g, 0, none⟩) n X.tc) ∧ (((u6.drew.setCell ⟨gb, 0, none⟩ (.int .i64 3)).setCell ⟨gb, 1, none⟩ (.int .i64 1)).setCell ⟨gb, 2, none⟩ (.int .i64 (X.homes.length : Int))).cell? ⟨g, p * 6 + 5, none⟩ = some (.slice (some ⟨gb, 0, none⟩) r tp.pc) ∧ (((u6.drew.setCell ⟨gb, 0, none⟩ (.int .i64 3)).setCell ⟨gb, 1, none⟩ (.int .i64 1)).setCell ⟨gb, 2, none⟩ (.int .i64 (X.homes.length : Int))).cell? ⟨u5.heap.size, 2, none⟩ = some (.slice X.ha X.homes.length X.hc) := ⟨TS.cell d3 (by simp; have := HC.out; omega), TS.cell P5 (by simp; exact hgb), TS.cell d2 (by simp; have := HC.out; omega)⟩
        have fz := f0
        clear op h35 h34 hpb gq
        have hbv : Below w.heap.size w (((u6.setCell ⟨gb, 0, none⟩ (.int .i64 3)).setCell ⟨gb, 1, none⟩ (.int .i64 1)).setCell ⟨gb, 2, none⟩ (.int .i64 (X.homes.length : Int))).drew := hb.trans (TS.below hb.size (by simp; have := HB3.out; have := HB4.out; have := HC.out; omega))
        have hb4v := hb4.trans (TS.below hb4.size (by simp; have := HC.out; omega))
        clear TS hb4 hb fr cp hX sx sc bk hb5
        have sc := C4.out.keep (Keeps.of_below hb4v)
        obtain ⟨c0, c1, c2, c3⟩ := id sy
        go_wp2_with fail
        refine wp_region_held_drew (S := fun w' => w'.cell? ⟨u5.heap.size, 3, none⟩ = some (.slice (some ⟨g, 0, none⟩) n X.tc) ∧ w'.cell? ⟨g, p * 6 + 5, none⟩ = some (.slice (some ⟨gb, 0, none⟩) r tp.pc) ∧ w'.cell? ⟨u5.heap.size, 2, none⟩ = some (.slice X.ha X.homes.length X.hc)) (by kernel_rfl) ?_ (fun hHeld => ?_)
        · exact hsA
        refine wpAnyH_take (i := 0) (v := ?_) rfl (by kernel_rfl) (by kernel_rfl) (by kernel_rfl) (fun _ _ _ h => h) (Or.inl ⟨by rfl, ?_⟩) (by assumption) ?_
        rotate_left 1
        · ((intro w hSw; (try dsimp only at hSw); go_simp); (try with_reducible rfl))
        simp only [Act.put, List.setIfInBounds_toArray, List.set_cons_zero, List.set_cons_succ, List.getElem_toArray, List.getElem_cons_zero, List.getElem_cons_succ]
        refine wpAnyH_take (i := 1) (v := ?_) rfl (by kernel_rfl) (by kernel_rfl) (by kernel_rfl) (fun _ _ _ h => h) (Or.inl ⟨by rfl, ?_⟩) (by assumption) ?_
        rotate_left 1
        · ((intro w hSw; (try dsimp only at hSw); go_simp); (try with_reducible rfl))
        simp only [Act.put, List.setIfInBounds_toArray, List.set_cons_zero, List.set_cons_succ, List.getElem_toArray, List.getElem_cons_zero, List.getElem_cons_succ]
        refine wpAnyH_take (i := 2) (v := ?_) rfl (by kernel_rfl) (by kernel_rfl) (by kernel_rfl) (fun _ _ _ h => h) (Or.inl ⟨by rfl, ?_⟩) (by assumption) ?_
        rotate_left 1
        · ((intro w hSw; (try dsimp only at hSw); go_simp); (try with_reducible rfl))
        simp only [Act.put, List.setIfInBounds_toArray, List.set_cons_zero, List.set_cons_succ, List.getElem_toArray, List.getElem_cons_zero, List.getElem_cons_succ]
        refine wpAnyH_take (i := 3) (v := ?_) rfl (by kernel_rfl) (by kernel_rfl) (by kernel_rfl) (fun _ _ _ h => h) (Or.inl ⟨by rfl, ?_⟩) (by assumption) ?_
        rotate_left 1
        · ((intro w hSw; (try dsimp only at hSw); go_simp); (try with_reducible rfl))
        simp only [Act.put, List.setIfInBounds_toArray, List.set_cons_zero, List.set_cons_succ, List.getElem_toArray, List.getElem_cons_zero, List.getElem_cons_succ]
        refine wpAnyH_take (i := 4) (v := ?_) rfl (by kernel_rfl) (by kernel_rfl) (by kernel_rfl) (fun _ _ _ h => h) (Or.inl ⟨by rfl, ?_⟩) (by assumption) ?_
        rotate_left 1
        · ((intro w hSw; (try dsimp only at hSw); go_simp); (try with_reducible rfl))
        simp only [Act.put, List.setIfInBounds_toArray, List.set_cons_zero, List.set_cons_succ, List.getElem_toArray, List.getElem_cons_zero, List.getElem_cons_succ]
        refine wpAnyH_take (i := 5) (v := ?_) rfl (by kernel_rfl) (by kernel_rfl) (by kernel_rfl) (fun _ _ _ h => h) (Or.inl ⟨by rfl, ?_⟩) (by assumption) ?_
        rotate_left 1
        · ((intro w hSw; (try dsimp only at hSw); go_simp); (try with_reducible rfl))
        simp only [Act.put, List.setIfInBounds_toArray, List.set_cons_zero, List.set_cons_succ, List.getElem_toArray, List.getElem_cons_zero, List.getElem_cons_succ]
        refine wpAnyH_take (i := 6) (v := ?_) rfl (by kernel_rfl) (by kernel_rfl) (by kernel_rfl) (fun _ _ _ h => h) (Or.inl ⟨by rfl, ?_⟩) (by assumption) ?_
        rotate_left 1
        · ((intro w hSw; (try dsimp only at hSw); go_simp); (try with_reducible rfl))
        simp only [Act.put, List.setIfInBounds_toArray, List.set_cons_zero, List.set_cons_succ, List.getElem_toArray, List.getElem_cons_zero, List.getElem_cons_succ]
        refine wpAnyH_take (i := 7) (v := ?_) rfl (by kernel_rfl) (by kernel_rfl) (by kernel_rfl) (fun _ _ _ h => h) (Or.inl ⟨by rfl, ?_⟩) (by assumption) ?_
        rotate_left 1
        · ((intro w hSw; (try dsimp only at hSw); go_simp); (try with_reducible rfl))
        simp only [Act.put, List.setIfInBounds_toArray, List.set_cons_zero, List.set_cons_succ, List.getElem_toArray, List.getElem_cons_zero, List.getElem_cons_succ]
        refine wpAnyH_take (i := 8) (v := ?_) rfl (by kernel_rfl) (by kernel_rfl) (by kernel_rfl) (fun _ _ _ h => h) (Or.inl ⟨by rfl, ?_⟩) (by assumption) ?_
        rotate_left 1
        · ((intro w hSw; (try dsimp only at hSw); go_simp); (try with_reducible rfl))
        simp only [Act.put, List.setIfInBounds_toArray, List.set_cons_zero, List.set_cons_succ, List.getElem_toArray, List.getElem_cons_zero, List.getElem_cons_succ]
        refine wpAnyH_take (i := 9) (v := ?_) rfl (by kernel_rfl) (by kernel_rfl) (by kernel_rfl) (fun _ _ _ h => h) (Or.inl ⟨by rfl, ?_⟩) (by assumption) ?_
        rotate_left 1
        · ((intro w hSw; (try dsimp only at hSw); go_simp); (try with_reducible rfl))
        simp only [Act.put, List.setIfInBounds_toArray, List.set_cons_zero, List.set_cons_succ, List.getElem_toArray, List.getElem_cons_zero, List.getElem_cons_succ]
        refine wpAnyH_take (i := 10) (v := ?_) rfl (by kernel_rfl) (by kernel_rfl) (by kernel_rfl) (fun _ _ _ h => h) (Or.inl ⟨by rfl, ?_⟩) (by assumption) ?_
        rotate_left 1
        · ((intro w hSw; (try dsimp only at hSw); go_simp); (try with_reducible rfl))
        simp only [Act.put, List.setIfInBounds_toArray, List.set_cons_zero, List.set_cons_succ, List.getElem_toArray, List.getElem_cons_zero, List.getElem_cons_succ]
        refine wpAnyH_ready (rs := [11]) (by kernel_rfl) (by simp) ?_
        refine AllReadyH.cons rfl (fun K hK => ?_) AllReadyH.nil
        go_simp
        refine hK.out _ _ ?_ (fun hHeld => ?_)
        · exact hsB
        clear hK K
        try simp only [Act.put, List.setIfInBounds_toArray, List.set_cons_zero, List.set_cons_succ, List.getElem_toArray, List.getElem_cons_zero, List.getElem_cons_succ]
        refine wpAnyH_take (i := 12) (v := ?_) rfl (by kernel_rfl) (by kernel_rfl) (by kernel_rfl) (fun _ _ _ h => h) (Or.inl ⟨by rfl, ?_⟩) (by assumption) ?_
        rotate_left 1
        · ((intro w hSw; (try dsimp only at hSw); go_simp); (try with_reducible rfl))
        simp only [Act.put, List.setIfInBounds_toArray, List.set_cons_zero, List.set_cons_succ, List.getElem_toArray, List.getElem_cons_zero, List.getElem_cons_succ]
        refine wpAnyH_done (by kernel_rfl) ?_ _
        clear hHeld hsA hsB
        go_wp2_with fail
        refine (check_any Y _ hY).mono ?_
        rw [HT.out.at_, HT.out.err]
        rintro e u7 ⟨rfl, hbx⟩
        clear c0 c1 c2 c3 d0 d1 d2 d3 p0 fz
        replace hbv := hbv.trans (hbx.mono hbv.size)
        replace hb4v := hb4v.trans (hbx.mono hb4v.size)
        replace sy := sy.keep (Keeps.of_below hbx)
        replace hY := hY.keep (Keeps.of_below hbx)
        replace sc := C4.out.keep (Keeps.of_below hb4v)
        have hs := S4.out.keep (Keeps.of_below hb4v)
        clear hbx
        obtain ⟨c0, c1, c2, c3⟩ := id sc
        obtain ⟨d0, d1, d2, d3⟩ := id sy
        go_wp2_with fail
        refine (same_any Y s0 _ hY hs).mono ?_
        rw [HT.out.diff]
        rintro e u8 ⟨rfl, hbx⟩
        clear c0 c1 c2 c3 d0 d1 d2 d3
        replace hbv := hbv.trans (hbx.mono hbv.size)
        replace hb4v := hb4v.trans (hbx.mono hb4v.size)
        replace sc := C4.out.keep (Keeps.of_below hb4v)
        have so := O4.out.keep (Keeps.of_below hb4v)
        replace hs := S4.out.keep (Keeps.of_below hb4v)
        have hO := K4.out.keep (Keeps.of_below hb4v)
        clear hbx
        obtain ⟨c0, c1, c2, c3⟩ := id sc
        obtain ⟨d0, d1, d2, d3⟩ := id so
        go_wp2_with fail
        refine (rsame_any O s0 _ hO hs).mono ?_
        rw [E4.out]
        rintro e u9 ⟨rfl, hbx⟩
        go_wp2_with fail
        go_ret
        exact ⟨rfl, hbv.trans (hbx.mono hbv.size)⟩
      · clear hm9
        have p0 := d0
        have fz := bk.frozen 0
        have TS : Turned [u5.heap.size] u6 (u6.setCell ⟨u5.heap.size, 0, none⟩ (.int .i64 4)) := (Turned.refl [u5.heap.size] u6).setCell (p := ⟨u5.heap.size, 0, none⟩) (.inl (by simp)) _
        have k5 := K5.out.keep (Keeps.of_below (hb5.trans (TS.below hb5.size (by simp))))
        obtain ⟨Y, sy, hY, HT⟩ : ∃ Y : SetR, SetCells (u6.setCell ⟨u5.heap.size, 0, none⟩ (.int .i64 4)) u5.heap.size Y ∧ SetOk (u6.setCell ⟨u5.heap.size, 0, none⟩ (.int .i64 4)) Y ∧ Hid (Told s0 Y (-1) 10) := by
          have b2 : Bk (u6.setCell ⟨u5.heap.size, 0, none⟩ (.int .i64 4)) u5.heap.size 25 #[.int .i64 4, .slice X.ca X.cores.length X.cc, .slice X.ha X.homes.length X.hc, .slice X.ta X.tasks.length X.tc] := bk.put 0 _
          exact ⟨{ X with proto := 4 }, Z4 b2, { k5 with proto := by show I64 4; unfold I64; omega }, hidp (told_proto Hok.out rfl)⟩
        clear k5
        have hbv : Below w.heap.size w (u6.setCell ⟨u5.heap.size, 0, none⟩ (.int .i64 4)) := hb.trans (TS.below hb.size (by simp; have := HB3.out; have := HB4.out; have := HB5.out; omega))
        have hb4v := hb4.trans (TS.below hb4.size (by simp; have := HB5.out; omega))
        clear TS hb4 hb fr cp hX sx sc bk hb5
        have sc := C4.out.keep (Keeps.of_below hb4v)
        obtain ⟨c0, c1, c2, c3⟩ := id sy
        go_wp2_with fail
        refine (check_any Y _ hY).mono ?_
        rw [HT.out.at_, HT.out.err]
        rintro e u7 ⟨rfl, hbx⟩
        clear c0 c1 c2 c3 d0 d1 d2 d3 p0 fz
        replace hbv := hbv.trans (hbx.mono hbv.size)
        replace hb4v := hb4v.trans (hbx.mono hb4v.size)
        replace sy := sy.keep (Keeps.of_below hbx)
        replace hY := hY.keep (Keeps.of_below hbx)
        replace sc := C4.out.keep (Keeps.of_below hb4v)
        have hs := S4.out.keep (Keeps.of_below hb4v)
        clear hbx
        obtain ⟨c0, c1, c2, c3⟩ := id sc
        obtain ⟨d0, d1, d2, d3⟩ := id sy
        go_wp2_with fail
        refine (same_any Y s0 _ hY hs).mono ?_
        rw [HT.out.diff]
        rintro e u8 ⟨rfl, hbx⟩
        clear c0 c1 c2 c3 d0 d1 d2 d3
        replace hbv := hbv.trans (hbx.mono hbv.size)
        replace hb4v := hb4v.trans (hbx.mono hb4v.size)
        replace sc := C4.out.keep (Keeps.of_below hb4v)
        have so := O4.out.keep (Keeps.of_below hb4v)
        replace hs := S4.out.keep (Keeps.of_below hb4v)
        have hO := K4.out.keep (Keeps.of_below hb4v)
        clear hbx
        obtain ⟨c0, c1, c2, c3⟩ := id sc
        obtain ⟨d0, d1, d2, d3⟩ := id so
        go_wp2_with fail
        refine (rsame_any O s0 _ hO hs).mono ?_
        rw [E4.out]
        rintro e u9 ⟨rfl, hbx⟩
        go_wp2_with fail
        go_ret
        exact ⟨rfl, hbv.trans (hbx.mono hbv.size)⟩
      · clear hm9
        have hc0 : 0 < X.cores.length := by
          rw [hX.cores]
          have := inB_true.1 (frameV_ok ((okS_iff s0).1 Hok.out).1).2.1
          omega
        obtain ⟨gc, hAc, -, -⟩ := own_at hX.oc.own hc0
        have HC := hidp (show u4.heap.size < gc ∧ gc < u5.heap.size from ⟨H14.out gc (by rw [hAc]; simp [fp]), H15.out gc (by rw [hAc]; simp [fp])⟩)
        have oc := hX.oc
        rw [hAc] at oc
        have fz := own_frozen oc.own 0
        have p0 : ∃ z, u6.cell? ⟨gc, 0, none⟩ = some (.int .i64 z) := by
          have h1 := Lies.of_own oc.own
          rcases h1 with h1 | ⟨b, off, eA, _, hc⟩
          · simp at h1; rw [h1] at hc0; simp at hc0
          · injection eA with eA; injection eA with e1 e2; subst e1; subst e2
            have := hc 0 (.int .i64 (X.cores.getD 0 0)) (by cases e : X.cores with | nil => rw [e] at hc0; simp at hc0 | cons a l => rfl)
            exact ⟨_, this⟩
        obtain ⟨z, p0⟩ := p0
        have TS : Turned [gc] u6 (u6.setCell ⟨gc, 0, none⟩ (.int .i64 0)) := (Turned.refl [gc] u6).setCell (p := ⟨gc, 0, none⟩) (.inl (by simp)) _
        obtain ⟨nc, HNC⟩ : ∃ nc, Hid (X.cores.length = nc) := ⟨_, rfl⟩
        obtain ⟨Y, sy, hY, HT⟩ : ∃ Y : SetR, SetCells (u6.setCell ⟨gc, 0, none⟩ (.int .i64 0)) u5.heap.size Y ∧ SetOk (u6.setCell ⟨gc, 0, none⟩ (.int .i64 0)) Y ∧ Hid (Told s0 Y (-1) 16) := by
          have hx := hX.ok S4.out
          have oc2 := oc.put (i := 0) hc0 0
          refine ⟨{ X with cores := X.cores.set 0 0 }, ?_, ⟨hx.proto, ?_, ?_, ?_⟩, hidp (told_cores Hok.out hX.proto (by show X.cores.set 0 0 = _; rw [hX.cores]))⟩
          · obtain ⟨e0, e1, e2, e3⟩ := sx.turned TS (by simp; have := HC.out; omega)
            exact ⟨e0, by dsimp only; rw [List.length_set]; exact e1, e2, e3⟩
          · show IntsOk _ X.ca X.cc (X.cores.set 0 0)
            rw [hAc]
            refine OwnN.ok (n := (X.cores.set 0 0).length) (by rw [List.length_set]; exact oc2) (fun q hq => ?_)
            rcases List.mem_or_eq_of_mem_set hq with h | h
            · exact hx.cores.wf q h
            · subst h; unfold I64; omega
          · exact hx.homes.turned TS (fun k hk => by have := hX.s1 gc (by rw [hAc]; simp [fp]) k hk; simp; omega)
          · refine ⟨hx.tasks.sl, (hX.ot.turned TS (fun k hk => by have := hX.s2 gc (by rw [hAc]; simp [fp]) k hk; simp; omega)).tasks, fun t ht => ?_⟩
            obtain ⟨m, hm, rfl⟩ := mem_getD ht
            exact (hx.tasks.ok _ ht).turned TS (fun k hk => by have := hX.s3 m hm gc (by rw [hAc]; simp [fp]) k hk; simp; omega)
        rw [HNC.out, hAc] at d1
        rw [HNC.out] at hc0
        replace hAc := hidp hAc
        clear oc
        have hbv : Below w.heap.size w (u6.setCell ⟨gc, 0, none⟩ (.int .i64 0)) := hb.trans (TS.below hb.size (by simp; have := HB3.out; have := HB4.out; have := HC.out; omega))
        have hb4v := hb4.trans (TS.below hb4.size (by simp; have := HC.out; omega))
        clear TS hb4 hb fr cp hX sx sc bk hb5
        have sc := C4.out.keep (Keeps.of_below hb4v)
        obtain ⟨c0, c1, c2, c3⟩ := id sy
        go_wp2_with fail
        refine (check_any Y _ hY).mono ?_
        rw [HT.out.at_, HT.out.err]
        rintro e u7 ⟨rfl, hbx⟩
        clear c0 c1 c2 c3 d0 d1 d2 d3 p0 fz
        replace hbv := hbv.trans (hbx.mono hbv.size)
        replace hb4v := hb4v.trans (hbx.mono hb4v.size)
        replace sy := sy.keep (Keeps.of_below hbx)
        replace hY := hY.keep (Keeps.of_below hbx)
        replace sc := C4.out.keep (Keeps.of_below hb4v)
        have hs := S4.out.keep (Keeps.of_below hb4v)
        clear hbx
        obtain ⟨c0, c1, c2, c3⟩ := id sc
        obtain ⟨d0, d1, d2, d3⟩ := id sy
        go_wp2_with fail
        refine (same_any Y s0 _ hY hs).mono ?_
        rw [HT.out.diff]
        rintro e u8 ⟨rfl, hbx⟩
        clear c0 c1 c2 c3 d0 d1 d2 d3
        replace hbv := hbv.trans (hbx.mono hbv.size)
        replace hb4v := hb4v.trans (hbx.mono hb4v.size)
        replace sc := C4.out.keep (Keeps.of_below hb4v)
        have so := O4.out.keep (Keeps.of_below hb4v)
        replace hs := S4.out.keep (Keeps.of_below hb4v)
        have hO := K4.out.keep (Keeps.of_below hb4v)
        clear hbx
        obtain ⟨c0, c1, c2, c3⟩ := id sc
        obtain ⟨d0, d1, d2, d3⟩ := id so
        go_wp2_with fail
        refine (rsame_any O s0 _ hO hs).mono ?_
        rw [E4.out]
        rintro e u9 ⟨rfl, hbx⟩
        go_wp2_with fail
        go_ret
        exact ⟨rfl, hbv.trans (hbx.mono hbv.size)⟩
      · clear hm9
        have p0 := d3
        have fz := bk.frozen 3
        have TS : Turned [u5.heap.size] u6 (u6.setCell ⟨u5.heap.size, 3, none⟩ (.slice none 0 0)) := (Turned.refl [u5.heap.size] u6).setCell (p := ⟨u5.heap.size, 3, none⟩) (.inl (by simp)) _
        have k5 := K5.out.keep (Keeps.of_below (hb5.trans (TS.below hb5.size (by simp))))
        obtain ⟨Y, sy, hY, HT⟩ : ∃ Y : SetR, SetCells (u6.setCell ⟨u5.heap.size, 3, none⟩ (.slice none 0 0)) u5.heap.size Y ∧ SetOk (u6.setCell ⟨u5.heap.size, 3, none⟩ (.slice none 0 0)) Y ∧ Hid (Told s0 Y (-1) 14) := by
          have b2 : Bk (u6.setCell ⟨u5.heap.size, 3, none⟩ (.slice none 0 0)) u5.heap.size 25 #[.int .i64 X.proto, .slice X.ca X.cores.length X.cc, .slice X.ha X.homes.length X.hc, .slice none 0 0] := bk.put 3 _
          exact ⟨{ X with ta := none, tasks := [], tc := 0 }, Z4 b2, { k5 with tasks := ⟨⟨fun _ => ⟨rfl, rfl⟩, Nat.le_refl _, Nat.zero_le _⟩, .inl rfl, fun _ hq => by simp at hq⟩ }, hidp (told_none Hok.out hX.proto hX.cores hX.homes rfl)⟩
        clear k5
        have hbv : Below w.heap.size w (u6.setCell ⟨u5.heap.size, 3, none⟩ (.slice none 0 0)) := hb.trans (TS.below hb.size (by simp; have := HB3.out; have := HB4.out; have := HB5.out; omega))
        have hb4v := hb4.trans (TS.below hb4.size (by simp; have := HB5.out; omega))
        clear TS hb4 hb fr cp hX sx sc bk hb5
        have sc := C4.out.keep (Keeps.of_below hb4v)
        obtain ⟨c0, c1, c2, c3⟩ := id sy
        go_wp2_with fail
        refine (check_any Y _ hY).mono ?_
        rw [HT.out.at_, HT.out.err]
        rintro e u7 ⟨rfl, hbx⟩
        clear c0 c1 c2 c3 d0 d1 d2 d3 p0 fz
        replace hbv := hbv.trans (hbx.mono hbv.size)
        replace hb4v := hb4v.trans (hbx.mono hb4v.size)
        replace sy := sy.keep (Keeps.of_below hbx)
        replace hY := hY.keep (Keeps.of_below hbx)
        replace sc := C4.out.keep (Keeps.of_below hb4v)
        have hs := S4.out.keep (Keeps.of_below hb4v)
        clear hbx
        obtain ⟨c0, c1, c2, c3⟩ := id sc
        obtain ⟨d0, d1, d2, d3⟩ := id sy
        go_wp2_with fail
        refine (same_any Y s0 _ hY hs).mono ?_
        rw [HT.out.diff]
        rintro e u8 ⟨rfl, hbx⟩
        clear c0 c1 c2 c3 d0 d1 d2 d3
        replace hbv := hbv.trans (hbx.mono hbv.size)
        replace hb4v := hb4v.trans (hbx.mono hb4v.size)
        replace sc := C4.out.keep (Keeps.of_below hb4v)
        have so := O4.out.keep (Keeps.of_below hb4v)
        replace hs := S4.out.keep (Keeps.of_below hb4v)
        have hO := K4.out.keep (Keeps.of_below hb4v)
        clear hbx
        obtain ⟨c0, c1, c2, c3⟩ := id sc
        obtain ⟨d0, d1, d2, d3⟩ := id so
        go_wp2_with fail
        refine (rsame_any O s0 _ hO hs).mono ?_
        rw [E4.out]
        rintro e u9 ⟨rfl, hbx⟩
        go_wp2_with fail
        go_ret
        exact ⟨rfl, hbv.trans (hbx.mono hbv.size)⟩
      · omega

theorem own : ownKnob Try.prog.godebug = none := by kernel_rfl
theorem laidOut : laidOutB Try.prog = true := by kernel_rfl

/-! THE ROW's STEP -/
set_option maxRecDepth 100000 in
theorem lifted (os : Os) (started : os.Started) (H : Type) (enc : TypeId × Value → H) :
    ReturnsInHanded {} Try.checked os 4 .any (Rows.taskSpoilsSpec.pre6 enc Try.prog Try.f4 Rows.taskSpoilsRow.domain false) (Rows.taskSpoilsSpec.post enc Try.prog Try.f4 false true false false) := by
  refine returnsInHanded_of_change (C := Try.checked) own started (by kernel_rfl) Try.func4
    (ChangeSpec.witness6 (enc := enc) (C := Try.checked) false ⟨#[], #[.agg #[.int .i64 0, .slice none 0 0, .slice none 0 0, .slice none 0 0], .int .u8 0, .int .u8 0], []⟩ 8 (by kernel_rfl) (by kernel_rfl) (by kernel_rfl) (by kernel_rfl)) ?_
  intro W base args ds gs before hval0 hW hcnd _
  have hval : ∀ (j : Nat) t v, Try.f4.params[j]? = some t → args[j]? = some v → Value.okWide Try.prog W .any base t v := hval0
  have hW' := hW
  obtain ⟨p, q, hA0, hV, rfl, hfz, hnd⟩ := hW
  have hA : DataW.TrodAll enc Try.prog W 0 (fun _ => true) true Try.f4.params.toList args.toList ds p := hA0
  rw [Try.params4] at hA hval
  obtain ⟨v0, vs0, d0, ds0, p0, q0, hargs, rfl, rfl, h0, r0⟩ := trodAll_cons hA
  obtain ⟨v1, vs1, d1, ds1, p1, q1, rfl, rfl, rfl, h1, r1⟩ := trodAll_cons r0
  obtain ⟨v2, vs2, d2, ds2, p2, q2, rfl, rfl, rfl, h2, r2⟩ := trodAll_cons r1
  obtain ⟨rfl, rfl, rfl⟩ := trodAll_nil r2
  obtain rfl : args = #[v0, v1, v2] := by cases args; simp_all
  obtain ⟨rfl, rfl⟩ := trodVars_none hV
  have k0 := h0
  have lt0 : ∀ x ∈ p0, x.block < W.heap.size := by obtain ⟨m, hm⟩ := k0; exact DataW.trod_lt m _ _ _ hm
  obtain ⟨s0, w0, rfl⟩ := setTypes.arg_set (hval 0 25 v0 rfl rfl) h0
  obtain ⟨a1, rfl, rfl, rfl, w1⟩ := open_int Try.underlying5 (hval 1 5 v1 rfl rfl) h1
  obtain ⟨a2, rfl, rfl, rfl, w2⟩ := open_int Try.underlying5 (hval 2 5 v2 rfl rfl) h2
  clear hA0 hval0
  refine (walk s0 a1 a2 W w0 w1 w2).mono fun e W' ⟨he, bel⟩ => ?_
  subst he
  exact ⟨_, rfl, _, _, _, [], _, [], hW', trodAll_mk1 (shut_bool Try.underlying4 _), (trodAll_cons_mk (Below.trod laidOut (by kernel_rfl) (of_decide_eq_true (by kernel_rfl)) k0 bel lt0) (trodAll_cons_mk (shut_int Try.underlying5 w1) (trodAll_cons_mk (shut_int Try.underlying5 w2) trodAll_mk0))), rfl, bel.frame _, fun h => by cases h⟩

theorem over : Rows.taskSpoilsRow.holds Try.pinned (OpenSpec.ofChange Rows.taskSpoilsSpec) :=
  OpenClaim.holds_of_wide 4 Try.f4 rfl rfl rfl rfl rfl rfl rfl ⟨rfl, rfl, rfl, rfl, rfl⟩ rfl rfl rfl rfl rfl (by kernel_rfl) Try.func4 (by kernel_rfl)
    (of_decide_eq_true (by kernel_rfl)) (by unfold Func.isWrapper; first | (rw [if_pos (by decide +kernel)]; kernel_rfl) | (rw [if_neg (by decide +kernel)]; exact ⟨rfl, rfl⟩))
    (fun os started H enc _ => lifted os started H enc)

/-- THE STATEMENT -/
theorem proved : Rows.TaskSpoilsSaid := over
#print axioms proved
end Go.Proofs.Ytijdincpjdkgfaa.taskSpoils

