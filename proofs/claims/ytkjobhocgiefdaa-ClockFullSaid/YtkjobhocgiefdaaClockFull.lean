/- ClockFull: as many as may be, and one more; times that are over, that are too late. No condition. -/
import Derived.Test.YtkjobhocgiefdaaKnown5
set_option linter.unusedSimpArgs false
set_option linter.unusedVariables false
namespace Go.Proofs.Ytkjobhocgiefdaa
open Go.ChangeShapes Go.WideShapes Go.ChangeAt Go.RowKit
theorem nat_u8 {a : Int} (h : (Lit.int .u8 a).wf = true) : ∃ k : Nat, k ≤ 255 ∧ a = (k : Int) := by
  have b : 0 ≤ a ∧ a ≤ 255 := by simp [Lit.wf, IntKind.min, IntKind.max, IntKind.signed, IntKind.bits] at h; omega
  exact ⟨a.toNat, by omega, by omega⟩
theorem nat_u16 {a : Int} (h : (Lit.int .u16 a).wf = true) : ∃ k : Nat, k ≤ 65535 ∧ a = (k : Int) := by
  have b : 0 ≤ a ∧ a ≤ 65535 := by simp [Lit.wf, IntKind.min, IntKind.max, IntKind.signed, IntKind.bits] at h; omega
  exact ⟨a.toNat, by omega, by omega⟩
theorem min_tick {j : Nat} (h : j ≤ 1000) : min ((j : Int) + 1) 1000000 = ((j + 1 : Nat) : Int) := by
  rw [Int.min_eq_left (by omega)]; push_cast; rfl
end Go.Proofs.Ytkjobhocgiefdaa
set_option maxHeartbeats 8000000
set_option maxRecDepth 100000
namespace Go.Proofs.Ytkjobhocgiefdaa.clockFull
open Go.ChangeShapes Go.WideShapes Go.ChangeAt Go.RowKit
open Go.ChangeMaps (open_string shut_string)
set_option linter.unusedVariables false

/-- THE WALK: the Go text returns true, and writes nothing that was there. -/
theorem walk (a0 : Int) (a1 : Int) (a2 : Int) (w : World) (w0 : (Lit.int .u8 a0).wf = true) (w1 : (Lit.int .u16 a1).wf = true) (w2 : (Lit.int .u8 a2).wf = true) :
    Calls Try.prog 5 #[.int .u8 a0, .int .u16 a1, .int .u8 a2] w fun e w' => e = .returned (.bool true) ∧ Below w.heap.size w w' := by
  obtain ⟨a, ha, rfl⟩ := nat_u8 w0
  obtain ⟨late, hlate, rfl⟩ := nat_u16 w1
  obtain ⟨st, hst, rfl⟩ := nat_u8 w2
  obtain ⟨r3, hr3, hr3'⟩ : ∃ r3 : Nat, r3 < 3 ∧ a % 3 = r3 := ⟨a % 3, Nat.mod_lt _ (by omega), rfl⟩
  have Hr3 := hidp hr3'
  have t3 : ((a : Int)).tmod 3 = (r3 : Int) := by rw [Int.tmod_eq_emod_of_nonneg (by omega)]; omega
  clear w0 w1 w2 hr3'
  go_enter Try.func5, Try.ntmps5
  go_wp2_with fail
  refine (known5_any _).mono ?_
  rintro e v1 ⟨rfl, hb1⟩
  have HB1 := hidp hb1
  clear hb1
  go_wp2_with fail
  refine (cnew_any _).mono ?_
  rintro e v2 ⟨rfl, cs2, h2, _, hb2⟩
  have HB2 := hidp (HB1.out.trans (hb2.mono HB1.out.size))
  have HV := hidp HB1.out.size
  have H0 := hidp h2
  have F0 : Hid (Fr v2 v1.heap.size 0 9 55 cs2 [] v2 cs2 []) := hidp (Fr.refl _ _ _ _ _ _ _)
  clear hb2 h2
  go_wp2
  go_loopg [8] st (fun gg i wr => ∃ (j : Nat) (cs' : Array Value) (F' : List Nat), j + gg = st ∧ i = .int .i64 j ∧ Hid (ClkL wr v1.heap.size 0 55 cs' F' (j : Int) []) ∧ Hid (Fr v2 v1.heap.size 0 9 55 cs2 [] wr cs' F'))
  case atStart => exact ⟨0, cs2, [], by omega, rfl, H0, F0⟩
  case round =>
    clear H0 F0
    obtain ⟨j, cs', F', hj, rfl, H, HF⟩ := hrel
    by_cases hlt : j < st
    · have jI : (j : Int) < (st : Int) := by omega
      have wj : IntKind.i64.wrap ((j : Int) + 1) = (j : Int) + 1 := IntWalk.i64_in _ (by omega)
      have C := cstep_any H.out
      have e0 : (idsAt ([] : List DueM) (j : Int)).length = 0 := rfl
      go_wp2_with fail
      refine C.mono ?_
      rintro e w3 ⟨A, c, cs3, F3, rfl, hs⟩
      rw [e0]
      have hc := hs.clk
      rw [show notAt ([] : List DueM) (j : Int) = [] from rfl, min_tick (by omega : j ≤ 1000)] at hc
      have HC := hidp hc
      have HF3 := hidp (HF.out.trans hs.fr)
      have Hj := hidp hj
      clear C e0 hs hc hj hlt
      go_wp2_with fail
      go_roundg (st - j - 1)
      case measure => have := Hj.out; omega
      case rel => exact ⟨j + 1, cs3, F3, by have := Hj.out; omega, by go_num, HC, HF3⟩
    · obtain rfl : j = st := by omega
      have jI : ¬ (j : Int) < (j : Int) := by omega
      have w1 : IntKind.i64.wrap ((j : Int) - 1) = (j : Int) - 1 := IntWalk.i64_in _ (by omega)
      have w2 : IntKind.i64.wrap (1000001 + (late : Int)) = 1000001 + (late : Int) := IntWalk.i64_in _ (by omega)
      have w3 : IntKind.i64.wrap (63 + (r3 : Int)) = 63 + (r3 : Int) := IntWalk.i64_in _ (by omega)
      have C := cput_form H.out ⟨(j : Int) - 1, 0⟩ (.inl (by dsimp only; omega))
      clear hlt hj
      go_wp2_with fail
      refine C.mono ?_
      rintro e w4 ⟨rfl, hb4⟩
      have h4 := H.out.over hb4
      have H4 := hidp h4
      have HF4 := hidp (HF.out.trans (Fr.below hb4))
      have C2 := cput_form h4 ⟨1000001 + (late : Int), 0⟩ (.inr (by dsimp only; omega))
      clear C hb4 h4
      go_wp2_with fail
      refine C2.mono ?_
      rintro e w5 ⟨rfl, hb5⟩
      have h5 := H4.out.over hb5
      have H5 := hidp h5
      have HF5 := hidp (HF4.out.trans (Fr.below hb5))
      clear C2 hb5 h5
      go_wp2_with fail
      go_loopg [13] (63 + r3) (fun gg i wr => ∃ (q : Nat) (cs' : Array Value) (F' : List Nat) (L : List DueM), q + gg = 63 + r3 ∧ i = .int .i64 q ∧ Hid (L.length = min q 64) ∧ Hid (ClkL wr v1.heap.size 0 55 cs' F' (j : Int) L) ∧ Hid (Fr v2 v1.heap.size 0 9 55 cs2 [] wr cs' F'))
      case atStart => exact ⟨0, cs', F', [], by omega, rfl, hidp rfl, H5, HF5⟩
      case round =>
        clear H5 HF5 H4 HF4
        obtain ⟨q, cs5, F5, L, hq, rfl, hL, H6, HF6⟩ := hrel
        by_cases hqk : q < 63 + r3
        · have qI : (q : Int) < 63 + (r3 : Int) := by omega
          have wq : IntKind.i64.wrap ((q : Int) + 1) = (q : Int) + 1 := IntWalk.i64_in _ (by omega)
          have wt : IntKind.i64.wrap ((j : Int) + (late : Int)) = (j : Int) + (late : Int) := IntWalk.i64_in _ (by omega)
          have Hq := hidp hq
          by_cases h64 : q < 64
          · have q64 : (q : Int) < 64 := by omega
            have C3 := cput_ok H6.out (by rw [hL.out]; omega) ⟨(j : Int) + (late : Int), (q : Int)⟩ (by dsimp only; omega) (by unfold I64; dsimp only; omega)
            clear hq
            go_wp2_with fail
            refine C3.mono ?_
            rintro e w7 ⟨rfl, cs7, F7, h7, f7⟩
            have H7 := hidp h7
            have HF7 := hidp (HF6.out.trans f7)
            have HL7 : Hid ((L ++ [(⟨(j : Int) + (late : Int), (q : Int)⟩ : DueM)]).length = min (q + 1) 64) := hidp (by rw [List.length_append, hL.out]; simp; omega)
            clear C3 h7 f7 hqk h64
            go_wp2_with fail
            go_roundg (63 + r3 - q - 1)
            case measure => have := Hq.out; omega
            case rel => exact ⟨q + 1, cs7, F7, _, by have := Hq.out; omega, by go_num, HL7, H7, HF7⟩
          · have q64 : ¬ (q : Int) < 64 := by omega
            have C3 := cput_full H6.out (by rw [hL.out]; omega) ⟨(j : Int) + (late : Int), (q : Int)⟩ (by dsimp only; omega)
            clear hq
            go_wp2_with fail
            refine C3.mono ?_
            rintro e w7 ⟨rfl, hb7⟩
            have H7 := hidp (H6.out.over hb7)
            have HF7 := hidp (HF6.out.trans (Fr.below hb7))
            have HL7 : Hid (L.length = min (q + 1) 64) := hidp (by rw [hL.out]; omega)
            clear C3 hb7 hqk h64
            go_wp2_with fail
            go_roundg (63 + r3 - q - 1)
            case measure => have := Hq.out; omega
            case rel => exact ⟨q + 1, cs5, F5, L, by have := Hq.out; omega, by go_num, HL7, H7, HF7⟩
        · have qI : ¬ (q : Int) < 63 + (r3 : Int) := by omega
          have hq2 : q = 63 + r3 := by omega
          subst hq2
          have C3 := clen_any H6.out
          rw [hL.out] at C3
          have hmin : (if (64 : Int) < 63 + (r3 : Int) then (64 : Int) else 63 + (r3 : Int)) = ((min (63 + r3) 64 : Nat) : Int) := by split <;> omega
          obtain ⟨mm, hmm⟩ : ∃ mm, min (63 + r3) 64 = mm := ⟨_, rfl⟩
          rw [hmm] at C3 hmin
          have HF7 : Hid (Below w.heap.size w wr) := hidp (HB2.out.trans (HF6.out.turned.below HB2.out.size (by simpa using HV.out)))
          clear hqk hq hmm
          go_wp2_with fail
          refine C3.mono ?_
          rintro e w7 ⟨rfl, hb7⟩
          have C4 := cnow_any (H6.out.over hb7)
          have HF8 : Hid (Below w.heap.size w w7) := hidp (HF7.out.trans (hb7.mono HF7.out.size))
          clear C3 hb7
          go_wp2_with fail
          refine C4.mono ?_
          rintro e w8 ⟨rfl, rfl⟩
          go_wp2_with fail
          go_ret
          exact ⟨rfl, HF8.out⟩

theorem own : ownKnob Try.prog.godebug = none := by kernel_rfl
theorem laidOut : laidOutB Try.prog = true := by kernel_rfl

/-! THE ROW's STEP -/
set_option maxRecDepth 100000 in
theorem lifted (os : Os) (started : os.Started) (H : Type) (enc : TypeId × Value → H) :
    ReturnsInHanded {} Try.checked os 5 .any (Rows.clockFullSpec.pre6 enc Try.prog Try.f5 Rows.clockFullRow.domain false) (Rows.clockFullSpec.post enc Try.prog Try.f5 false true false false) := by
  refine returnsInHanded_of_change (C := Try.checked) own started (by kernel_rfl) Try.func5
    (ChangeSpec.witness6 (enc := enc) (C := Try.checked) false ⟨#[], #[.int .u8 0, .int .u16 0, .int .u8 0], []⟩ 8 (by kernel_rfl) (by kernel_rfl) (by kernel_rfl) (by kernel_rfl)) ?_
  intro W base args ds gs before hval0 hW hcnd _
  have hval : ∀ (j : Nat) t v, Try.f5.params[j]? = some t → args[j]? = some v → Value.okWide Try.prog W .any base t v := hval0
  have hW' := hW
  obtain ⟨p, q, hA0, hV, rfl, hfz, hnd⟩ := hW
  have hA : DataW.TrodAll enc Try.prog W 0 (fun _ => true) true Try.f5.params.toList args.toList ds p := hA0
  rw [Try.params5] at hA hval
  obtain ⟨v0, vs0, d0, ds0, p0, q0, hargs, rfl, rfl, h0, r0⟩ := trodAll_cons hA
  obtain ⟨v1, vs1, d1, ds1, p1, q1, rfl, rfl, rfl, h1, r1⟩ := trodAll_cons r0
  obtain ⟨v2, vs2, d2, ds2, p2, q2, rfl, rfl, rfl, h2, r2⟩ := trodAll_cons r1
  obtain ⟨rfl, rfl, rfl⟩ := trodAll_nil r2
  obtain rfl : args = #[v0, v1, v2] := by cases args; simp_all
  obtain ⟨rfl, rfl⟩ := trodVars_none hV
  obtain ⟨a0, rfl, rfl, rfl, w0⟩ := open_int Try.underlying5 (hval 0 5 v0 rfl rfl) h0
  obtain ⟨a1, rfl, rfl, rfl, w1⟩ := open_int Try.underlying47 (hval 1 47 v1 rfl rfl) h1
  obtain ⟨a2, rfl, rfl, rfl, w2⟩ := open_int Try.underlying5 (hval 2 5 v2 rfl rfl) h2
  clear hA0 hval0
  refine (walk a0 a1 a2 W w0 w1 w2).mono fun e W' ⟨he, bel⟩ => ?_
  subst he
  exact ⟨_, rfl, _, _, _, [], _, [], hW', trodAll_mk1 (shut_bool Try.underlying4 _), (trodAll_cons_mk (shut_int Try.underlying5 w0) (trodAll_cons_mk (shut_int Try.underlying47 w1) (trodAll_cons_mk (shut_int Try.underlying5 w2) trodAll_mk0))), rfl, bel.frame _, fun h => by cases h⟩

theorem over : Rows.clockFullRow.holds Try.pinned (OpenSpec.ofChange Rows.clockFullSpec) :=
  OpenClaim.holds_of_wide 5 Try.f5 rfl rfl rfl rfl rfl rfl rfl ⟨rfl, rfl, rfl, rfl, rfl⟩ rfl rfl rfl rfl rfl (by kernel_rfl) Try.func5 (by kernel_rfl)
    (of_decide_eq_true (by kernel_rfl)) (by unfold Func.isWrapper; first | (rw [if_pos (by decide +kernel)]; kernel_rfl) | (rw [if_neg (by decide +kernel)]; exact ⟨rfl, rfl⟩))
    (fun os started H enc _ => lifted os started H enc)

/-- THE STATEMENT -/
theorem proved : Rows.ClockFullSaid := over
#print axioms proved
end Go.Proofs.Ytkjobhocgiefdaa.clockFull

