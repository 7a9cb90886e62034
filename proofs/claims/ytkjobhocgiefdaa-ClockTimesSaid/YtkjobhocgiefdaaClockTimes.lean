/- ClockTimes: each comes at its time, in the order in which it was put, no other time. No condition. -/
import Derived.Test.YtkjobhocgiefdaaKnown5
import Derived.Test.YtkjobhocgiefdaaClkT
set_option linter.unusedSimpArgs false
set_option linter.unusedVariables false
namespace Go.Proofs.Ytkjobhocgiefdaa
theorem min_tick2 {j : Nat} (h : j ≤ 1000) : min ((j : Int) + 1) 1000000 = ((j + 1 : Nat) : Int) := by
  rw [Int.min_eq_left (by omega)]; push_cast; rfl
end Go.Proofs.Ytkjobhocgiefdaa
set_option maxHeartbeats 8000000
set_option maxRecDepth 100000
namespace Go.Proofs.Ytkjobhocgiefdaa.clockTimes
open Go.ChangeShapes Go.WideShapes Go.ChangeAt Go.RowKit
open Go.ChangeMaps (open_string shut_string)
set_option linter.unusedVariables false

/-- THE WALK: the Go text returns true, and writes nothing that was there. -/
theorem walk (a0 : Option Addr) (len0 cap0 : Nat) (z0 : List Int) (w : World) (w0 : IsRow .u8 w a0 len0 cap0 z0) :
    Calls Try.prog 4 #[.slice a0 len0 cap0] w fun e w' => e = .returned (.bool true) ∧ Below w.heap.size w w' := by
  obtain ⟨hr, hl, hm, hz⟩ := w0.row
  have hcap : len0 ≤ cap0 := by rcases w0 with ⟨_, rfl, rfl, _⟩ | ⟨_, _, h, _⟩ <;> omega
  clear w0
  obtain ⟨zs, hzs⟩ : ∃ zs, z0.take len0 = zs := ⟨_, rfl⟩
  rw [hzs] at hr hl hz
  clear hzs
  unfold maxLen at hm
  have Hz := hidp (u8_bd hz)
  clear hz
  have HR := hidp hr
  have Hl := hidp hl
  clear hr hl
  obtain ⟨n, hn⟩ : ∃ n, len0 = n := ⟨_, rfl⟩
  rw [hn] at Hl
  subst hn
  by_cases h64 : 64 < len0
  · go_enter Try.func4, Try.ntmps4
    go_wp2_with fail
    refine (known5_any _).mono ?_
    rintro e w1 ⟨rfl, hb1⟩
    go_wp2_with fail
    go_ret
    exact ⟨rfl, hb1⟩
  obtain ⟨f, hf⟩ : ∃ f : Nat → Int, f = fun i => zs.getD i 0 % 50 := ⟨_, rfl⟩
  have Hf := hidp hf
  have Hf0 : Hid (∀ i, 0 ≤ f i) := hidp (fun i => by rw [hf]; dsimp only; omega)
  have Hf50 : Hid (∀ i, f i < 50) := hidp (fun i => by rw [hf]; dsimp only; omega)
  clear hf
  go_enter Try.func4, Try.ntmps4
  go_wp2_with fail
  refine (known5_any _).mono ?_
  rintro e v1 ⟨rfl, hb1⟩
  have HB1 := hidp hb1
  clear hb1
  go_wp2_with fail
  refine (cnew_any _).mono ?_
  rintro e v2 ⟨rfl, cs2, h2, _, hb2⟩
  have HB2 := hidp (HB1.out.trans (hb2.mono HB1.out.size))
  have HV := hidp HB1.out.size
  have H0 : Hid (ClkL v2 v1.heap.size 0 55 cs2 [] 0 (dueL f 0)) := hidp h2
  have F0 : Hid (Fr v2 v1.heap.size 0 9 55 cs2 [] v2 cs2 []) := hidp (Fr.refl _ _ _ _ _ _ _)
  have HBel : Hid (∀ wr cs' F', Fr v2 v1.heap.size 0 9 55 cs2 [] wr cs' F' → Below w.heap.size w wr) := hidp (fun wr cs' F' h => HB2.out.trans (h.turned.below HB2.out.size (by simpa using HV.out)))
  clear hb2 h2
  go_wp2
  go_loopg [4] len0 (fun gg i wr => ∃ (j : Nat) (cs' : Array Value) (F' : List Nat), j + gg = len0 ∧ i = .int .i64 j ∧ Hid (ClkL wr v1.heap.size 0 55 cs' F' 0 (dueL f j)) ∧ Hid (Fr v2 v1.heap.size 0 9 55 cs2 [] wr cs' F'))
  case atStart => exact ⟨0, cs2, [], by omega, rfl, H0, F0⟩
  case round =>
    clear H0 F0
    obtain ⟨j, cs', F', hj, rfl, H, HF⟩ := hrel
    by_cases hlt : j < len0
    · obtain ⟨g, off, hA, hc⟩ := HR.out.resolve_left (by intro e; have := Hl.out; rw [e] at this; simp at this; omega)
      subst hA
      obtain ⟨y, HN⟩ : ∃ y, Hid (zs.getD j 0 = y) := ⟨_, rfl⟩
      obtain ⟨y0, y1⟩ := HN.out ▸ Hz.out j (by rw [Hl.out]; exact hlt)
      have ck : wr.cell? ⟨g, off + j, none⟩ = some (.int .u8 y) := KeepsB (HBel.out _ _ _ HF.out) _ _ (HN.out ▸ hc j (by rw [Hl.out]; exact hlt))
      have Hy : Hid (f j = y % 50) := hidp (by rw [Hf.out]; dsimp only; rw [HN.out])
      have C := cput_ok H.out (by rw [dueL_len]; omega) ⟨y % 50, (j : Int)⟩ (by dsimp only; omega) (by unfold I64; dsimp only; omega)
      have wi : IntKind.i64.wrap (y % 50) = y % 50 := IntWalk.i64_in _ (by omega)
      have wj : IntKind.i64.wrap ((j : Int) + 1) = (j : Int) + 1 := IntWalk.i64_in _ (by omega)
      rw [← Hy.out, ← dueL_next, Hy.out] at C
      have Hj := hidp hj
      clear hc hj
      go_wp2_with fail
      refine C.mono ?_
      rintro e w3 ⟨rfl, cs3, F3, h3, f3⟩
      have H3 := hidp h3
      have HF3 := hidp (HF.out.trans f3)
      clear C h3 f3 ck wi
      go_wp2_with fail
      go_roundg (len0 - j - 1)
      case measure => have := Hj.out; omega
      case rel => exact ⟨j + 1, cs3, F3, by have := Hj.out; omega, by go_num, H3, HF3⟩
    · obtain rfl : j = len0 := by omega
      have H0 : Hid (ClkL wr v1.heap.size 0 55 cs' F' ((0 : Nat) : Int) (geL f j ((0 : Nat) : Int))) := hidp (by have := H.out; rw [← geL_zero f j Hf0.out] at this; exact this)
      have hge : Hid ((geL f j ((0 : Nat) : Int)).length = j) := hidp (by rw [show ((0 : Nat) : Int) = 0 from rfl, geL_zero f j Hf0.out, dueL_len])
      have jI : ¬ (j : Int) < (j : Int) := by omega
      clear hlt hj
      go_wp2
      obtain ⟨wo, rfl⟩ : ∃ wo, wo = wr := ⟨_, rfl⟩
      go_loopg [5, 6] 51 (fun gg lf i wr => ∃ (t left : Nat) (cs' : Array Value) (F' : List Nat), t + gg = 51 ∧ i = .int .i64 t ∧ lf = .int .i64 left ∧ Hid ((geL f j (t : Int)).length = left) ∧ Hid (ClkL wr v1.heap.size 0 55 cs' F' (t : Int) (geL f j (t : Int))) ∧ Hid (Fr v2 v1.heap.size 0 9 55 cs2 [] wr cs' F'))
      case atStart => exact ⟨0, j, cs', F', by omega, rfl, rfl, hge, H0, HF⟩
      case round =>
        clear hge H0 HF H
        obtain ⟨t, left, cs4, F4, ht, rfl, rfl, hleft, H, HF⟩ := hrel
        by_cases ht51 : t < 51
        · have C1 := cnow_any H.out
          have C2 := clen_any H.out
          rw [hleft.out] at C2
          have Ht := hidp ht
          clear ht
          go_wp2_with fail
          refine C1.mono ?_
          rintro e w4 ⟨rfl, rfl⟩
          go_wp2_with fail
          refine C2.mono ?_
          rintro e w5 ⟨rfl, hb5⟩
          have H5 := hidp (H.out.over hb5)
          have HF5 := hidp (HF.out.trans (Fr.below hb5))
          have C3 := cstep_any H5.out
          clear C1 C2 hb5
          go_wp2_with fail
          refine C3.mono ?_
          rintro e w6 ⟨A, c, cs6, F6, rfl, hs⟩
          have hc6 := hs.clk
          rw [geL_not, min_tick2 (by omega : t ≤ 1000)] at hc6
          have H6 : Hid (ClkL w6 v1.heap.size 0 55 cs6 F6 ((t + 1 : Nat) : Int) (geL f j ((t + 1 : Nat) : Int))) := hidp (by push_cast at hc6 ⊢; exact hc6)
          have HF6 := hidp (HF5.out.trans hs.fr)
          have hids := hs.ids
          rw [geL_ids] at hids
          have HI := hidp hids
          rw [geL_ids, atL_len]
          obtain ⟨cn, hcn⟩ : ∃ cn, cntL f (t : Int) j = cn := ⟨_, rfl⟩
          rw [hcn]
          have Hcn := hidp hcn
          have HL1 : Hid (left = cn + (geL f j ((t + 1 : Nat) : Int)).length) := hidp (by rw [← hleft.out, geL_len, Hcn.out]; push_cast; rfl)
          have hcj : cn ≤ j := by rw [← hcn]; exact cntL_le _ _ _
          clear C3 hs hc6 hids hcn
          go_wp2_with fail
          obtain ⟨wi, rfl⟩ : ∃ wi, wi = w6 := ⟨_, rfl⟩
          go_loopg [8, 9] j (fun gg at_ i wr => ∃ q a : Nat, q + gg = j ∧ i = .int .i64 q ∧ at_ = .int .i64 a ∧ Hid (cntL f (t : Int) q = a) ∧ wi = wr)
          case atStart => exact ⟨0, 0, by omega, rfl, rfl, hidp rfl, rfl⟩
          case round =>
            obtain ⟨q, a, hq, rfl, rfl, Ha, rfl⟩ := hrel
            by_cases hqj : q < j
            · obtain ⟨g, off, hA, hc⟩ := HR.out.resolve_left (by intro e; have := Hl.out; rw [e] at this; simp at this; omega)
              subst hA
              obtain ⟨y, HN⟩ : ∃ y, Hid (zs.getD q 0 = y) := ⟨_, rfl⟩
              obtain ⟨y0, y1⟩ := HN.out ▸ Hz.out q (by rw [Hl.out]; exact hqj)
              have ck : wi.cell? ⟨g, off + q, none⟩ = some (.int .u8 y) := KeepsB (HBel.out _ _ _ HF6.out) _ _ (HN.out ▸ hc q (by rw [Hl.out]; exact hqj))
              have Hy : Hid (f q = y % 50) := hidp (by rw [Hf.out]; dsimp only; rw [HN.out])
              have wy : IntKind.i64.wrap (y % 50) = y % 50 := IntWalk.i64_in _ (by omega)
              have wq : IntKind.i64.wrap ((q : Int) + 1) = (q : Int) + 1 := IntWalk.i64_in _ (by omega)
              have qj : (q : Int) < (j : Int) := by omega
              have Hq := hidp hq
              clear hc hq
              by_cases hyt : y % 50 = (t : Int)
              · obtain ⟨k1, k2⟩ := atL_at f (t := (t : Int)) hqj (Hy.out.trans hyt)
                rw [Ha.out, Hcn.out] at k1
                rw [Ha.out] at k2
                obtain ⟨g6, o6, hA6, hc6⟩ := HI.out.resolve_left (by intro e; have := atL_len f j (t : Int); rw [e, Hcn.out] at this; simp at this; omega)
                subst hA6
                have ca : wi.cell? ⟨g6, o6 + a, none⟩ = some (.int .i64 (q : Int)) := by rw [← k2]; exact hc6 a (by rw [atL_len, Hcn.out]; exact k1)
                have ac : (a : Int) < (cn : Int) := by omega
                have ac' : ¬ (cn : Int) ≤ (a : Int) := by omega
                have ac2 : decide (cn ≤ a) = false := by simpa using k1
                have a0 : (0 : Int) ≤ (a : Int) := by omega
                have wa : IntKind.i64.wrap ((a : Int) + 1) = (a : Int) + 1 := IntWalk.i64_in _ (by omega)
                have hyb : (y % 50 == (t : Int)) = true := by simpa using hyt
                have Hyt := hidp hyt
                have Ha1 : Hid (cntL f (t : Int) (q + 1) = a + 1) := hidp (by rw [cntL_next, Ha.out, if_pos (Hy.out.trans hyt)])
                clear hc6 k1 k2 hyt
                go_wp2_with fail
                clear wy
                go_roundg (j - q - 1)
                case measure => have := Hq.out; omega
                case rel => exact ⟨q + 1, a + 1, by have := Hq.out; omega, by go_num, by go_num, Ha1, rfl⟩
              · have hyb : (y % 50 == (t : Int)) = false := by simpa using hyt
                have Ha1 : Hid (cntL f (t : Int) (q + 1) = a) := hidp (by rw [cntL_next, Ha.out, if_neg (by rw [Hy.out]; exact hyt)]; rfl)
                clear hyt
                go_wp2_with fail
                clear wy
                go_roundg (j - q - 1)
                case measure => have := Hq.out; omega
                case rel => exact ⟨q + 1, a, by have := Hq.out; omega, by go_num, rfl, Ha1, rfl⟩
            · obtain rfl : q = j := by omega
              have hac : a = cn := Ha.out.symm.trans Hcn.out
              subst hac
              have qj : ¬ (q : Int) < (q : Int) := by omega
              have wt : IntKind.i64.wrap ((t : Int) + 1) = (t : Int) + 1 := IntWalk.i64_in _ (by omega)
              have hlq : left ≤ q := by rw [← hleft.out]; unfold geL; have := List.length_filter_le (fun d : DueM => decide ((t : Int) ≤ d.time)) (dueL f q); rwa [dueL_len] at this
              have hal : a ≤ left := by have := HL1.out; omega
              have wl : IntKind.i64.wrap ((left : Int) - (a : Int)) = ((left - a : Nat) : Int) := by rw [IntWalk.i64_in _ (by omega)]; omega
              have HL2 : Hid ((geL f q ((t + 1 : Nat) : Int)).length = left - a) := hidp (by have := HL1.out; omega)
              clear hq hqj
              go_wp2_with fail
              go_roundg (51 - t - 1)
              case measure => have := Ht.out; omega
              case rel => exact ⟨t + 1, left - a, cs6, F6, by have := Ht.out; omega, by go_num, by go_num, HL2, H6, HF6⟩
        · obtain rfl : t = 51 := by omega
          have hz0 : left = 0 := by rw [← hleft.out, geL_end f j _ (fun i => by have := Hf50.out i; push_cast; omega)]; rfl
          subst hz0
          have HBF := hidp (HBel.out _ _ _ HF.out)
          clear ht ht51
          go_wp2_with fail
          go_ret
          exact ⟨rfl, HBF.out⟩

theorem own : ownKnob Try.prog.godebug = none := by kernel_rfl
theorem laidOut : laidOutB Try.prog = true := by kernel_rfl

/-! THE ROW's STEP -/
set_option maxRecDepth 100000 in
theorem lifted (os : Os) (started : os.Started) (H : Type) (enc : TypeId × Value → H) :
    ReturnsInHanded {} Try.checked os 4 .any (Rows.clockTimesSpec.pre6 enc Try.prog Try.f4 Rows.clockTimesRow.domain false) (Rows.clockTimesSpec.post enc Try.prog Try.f4 false true false false) := by
  refine returnsInHanded_of_change (C := Try.checked) own started (by kernel_rfl) Try.func4
    (ChangeSpec.witness6 (enc := enc) (C := Try.checked) false ⟨#[], #[.slice none 0 0], []⟩ 8 (by kernel_rfl) (by kernel_rfl) (by kernel_rfl) (by kernel_rfl)) ?_
  intro W base args ds gs before hval0 hW hcnd _
  have hval : ∀ (j : Nat) t v, Try.f4.params[j]? = some t → args[j]? = some v → Value.okWide Try.prog W .any base t v := hval0
  have hW' := hW
  obtain ⟨p, q, hA0, hV, rfl, hfz, hnd⟩ := hW
  have hA : DataW.TrodAll enc Try.prog W 0 (fun _ => true) true Try.f4.params.toList args.toList ds p := hA0
  rw [Try.params4] at hA hval
  obtain ⟨v0, vs0, d0, ds0, p0, q0, hargs, rfl, rfl, h0, r0⟩ := trodAll_cons hA
  obtain ⟨rfl, rfl, rfl⟩ := trodAll_nil r0
  obtain rfl : args = #[v0] := by cases args; simp_all
  obtain ⟨rfl, rfl⟩ := trodVars_none hV
  obtain ⟨a0, len0, cap0, rfl⟩ := okWide_slice Try.underlying45 (hval 0 45 v0 rfl rfl)
  have k0 := h0
  have lt0 : ∀ x ∈ p0, x.block < W.heap.size := by obtain ⟨m, hm⟩ := k0; exact DataW.trod_lt m _ _ _ hm
  obtain ⟨z0, w0⟩ : ∃ zs, IsRow .u8 W a0 len0 cap0 zs := by
    obtain ⟨fuel, hf⟩ := h0
    rcases open_ints Try.underlying45 Try.underlying5 (by kernel_rfl) hf with ⟨hcs, _⟩ | ⟨x, l, c, zs, hcs, _, hl, hm, hz, _, hcell, hwz⟩
    · simp [Value.cells] at hcs
      obtain ⟨rfl, rfl, rfl⟩ := hcs
      exact ⟨[], .inl ⟨rfl, rfl, rfl, rfl⟩⟩
    · simp [Value.cells] at hcs
      obtain ⟨rfl, rfl, rfl⟩ := hcs
      exact ⟨zs, .inr ⟨_, rfl, hl, hm, by simpa using hz, hcell, hwz⟩⟩
  clear hA0 hval0
  refine (walk a0 len0 cap0 z0 W w0).mono fun e W' ⟨he, bel⟩ => ?_
  subst he
  exact ⟨_, rfl, _, _, _, [], _, [], hW', trodAll_mk1 (shut_bool Try.underlying4 _), (trodAll_cons_mk (Below.trod laidOut (by kernel_rfl) (of_decide_eq_true (by kernel_rfl)) k0 bel lt0) trodAll_mk0), rfl, bel.frame _, fun h => by cases h⟩

theorem over : Rows.clockTimesRow.holds Try.pinned (OpenSpec.ofChange Rows.clockTimesSpec) :=
  OpenClaim.holds_of_wide 4 Try.f4 rfl rfl rfl rfl rfl rfl rfl ⟨rfl, rfl, rfl, rfl, rfl⟩ rfl rfl rfl rfl rfl (by kernel_rfl) Try.func4 (by kernel_rfl)
    (of_decide_eq_true (by kernel_rfl)) (by unfold Func.isWrapper; first | (rw [if_pos (by decide +kernel)]; kernel_rfl) | (rw [if_neg (by decide +kernel)]; exact ⟨rfl, rfl⟩))
    (fun os started H enc _ => lifted os started H enc)

/-- THE STATEMENT -/
theorem proved : Rows.ClockTimesSaid := over
#print axioms proved
end Go.Proofs.Ytkjobhocgiefdaa.clockTimes

