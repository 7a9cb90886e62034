/- GateFull: so many are let in, so many wait, and not one more; who waits can't leave, nor ask again. No condition. -/
import Derived.Test.YtilnkbmbbfdboaaGateNums
set_option maxHeartbeats 1000000
namespace Go.Proofs.Ytilnkbmbbfdboaa.gateFull
open Go.ChangeShapes Go.WideShapes Go.ChangeAt Go.RowKit
open Go.ChangeMaps (open_string shut_string)
set_option linter.unusedVariables false

/-- THE WALK: the Go text returns true, and writes nothing that was there. -/
theorem walk (a0 : Int) (a1 : Int) (w : World) (w0 : (Lit.int .u8 a0).wf = true) (w1 : (Lit.int .u8 a1).wf = true) :
    Calls Try.prog 5 #[.int .u8 a0, .int .u8 a1] w fun e w' => e = .returned (.bool true) ∧ Below w.heap.size w w' := by
  have b0 : 0 ≤ a0 ∧ a0 ≤ 255 := by simp [Lit.wf, IntKind.min, IntKind.max, IntKind.signed, IntKind.bits] at w0; omega
  have b1 : 0 ≤ a1 ∧ a1 ≤ 255 := by simp [Lit.wf, IntKind.min, IntKind.max, IntKind.signed, IntKind.bits] at w1; omega
  obtain ⟨p0, p1⟩ := b0
  obtain ⟨q0, q1⟩ := b1
  clear w0 w1
  obtain ⟨K, hK, K1, K2⟩ : ∃ K : Int, Hid (a0 % 20 + 1 = K) ∧ 1 ≤ K ∧ K ≤ 20 := ⟨_, rfl, by omega, by omega⟩
  obtain ⟨m, Hm, m1, m2⟩ : ∃ m : Nat, Hid ((m : Int) = K) ∧ 1 ≤ m ∧ m ≤ 20 := ⟨K.toNat, hidp (by omega), by omega, by omega⟩
  go_enter Try.func5, Try.ntmps5
  go_wp2_with fail
  refine (known6_any _).mono ?_
  rintro e w1 ⟨rfl, hb1⟩
  go_wp2_with fail
  rw [hK.out]
  refine (gnew_any K _ (by unfold I64; omega)).mono ?_
  rintro e w2 ⟨b, F, rfl, h, u⟩
  rw [show held1 K = K by unfold held1; omega] at h
  replace u := u.since hb1
  go_wp2_with fail
  go_loopg [7] (m + 64) (fun g i wr => ∃ (k : Nat) (F : List Nat), k + g = m + 64 ∧ i = .int .i64 k ∧ Gt wr b K (seg 0 (min k m)) (seg m (k - m)) F ∧ Up w.heap.size w wr F)
  case atStart => exact ⟨0, F, by omega, rfl, by simpa [seg] using h, u⟩
  case round =>
    obtain ⟨k, F1, hk, rfl, hg, hu⟩ := hrel
    clear h u
    by_cases hlt : k < m + 64
    · have hlt' : (k : Int) < K + 64 := by have := Hm.out; omega
      by_cases hin : k < m
      · have hin' : (k : Int) < K := by have := Hm.out; omega
        rw [show min k m = k by omega, show k - m = 0 by omega] at hg
        go_wp2_with fail
        refine (ask_ok (id := (k : Int)) hg (by unfold I64; omega) (by rw [plK_seg]; simp) (by simp [plK_seg]) (by rw [seg_len]; omega)).mono ?_
        intro e w3 hp
        obtain ⟨rfl, F3, h3, u3⟩ := hu.step hp
        clear hp hg hu
        go_wp2_with fail
        go_roundg (gk - 1)
        case measure => omega
        case rel =>
          have e1 : seg 0 k ++ [(k : Int)] = seg 0 (k + 1) := by rw [seg_snoc]; simp
          rw [e1] at h3
          exact ⟨k + 1, F3, by omega, by go_num, by rw [show min (k + 1) m = k + 1 by omega, show k + 1 - m = 0 by omega]; exact h3, u3⟩
      · have hin' : K ≤ (k : Int) := by have := Hm.out; omega
        rw [show min k m = m by omega] at hg
        go_wp2_with fail
        refine (ask_wait (id := (k : Int)) hg (by unfold I64; omega) (by rw [plK_seg]; simp; omega) (by rw [plK_seg]; simp; omega) (by rw [seg_len]; exact Hm.out) (by rw [seg_len]; omega)).mono ?_
        intro e w3 hp
        obtain ⟨rfl, F3, h3, u3⟩ := hu.step hp
        clear hp hg hu
        go_wp2_with fail
        go_roundg (gk - 1)
        case measure => omega
        case rel =>
          have e1 : seg m (k - m) ++ [(k : Int)] = seg m (k + 1 - m) := by rw [show k + 1 - m = (k - m) + 1 by omega, seg_snoc, show m + (k - m) = k by omega]
          rw [e1] at h3
          exact ⟨k + 1, F3, by omega, by go_num, by rw [show min (k + 1) m = m by omega]; exact h3, u3⟩
    · obtain rfl : k = m + 64 := by omega
      have hge : K + 64 ≤ ((m + 64 : Nat) : Int) := by have := Hm.out; omega
      rw [show min (m + 64) m = m by omega, show m + 64 - m = 64 by omega] at hg
      clear hlt hk
      go_wp2_with fail
      refine (ask_full (id := 999) hg (by decide) (by rw [plK_seg]; simp; omega) (by rw [plK_seg]; simp; omega) (by rw [seg_len]; exact Hm.out) (by rw [seg_len])).mono ?_
      rintro e w3 ⟨rfl, hb⟩
      have h3 := hg.over hb
      have u3 := hu.over hb
      clear hg hu hb
      go_wp2_with fail
      obtain ⟨j, Hj, j1, j2⟩ : ∃ j : Int, Hid (a1 % (K + 64) = j) ∧ 0 ≤ j ∧ j < K + 64 := ⟨_, rfl, Int.emod_nonneg _ (by omega), Int.emod_lt_of_pos _ (by omega)⟩
      rw [Hj.out]
      have Hlen := hidp (seg_len 0 m)
      have IJ : I64 j := by unfold I64; omega
      by_cases hjK : j < K
      · have Hin : Hid (plK (seg 0 m) j = true) := hidp (by rw [plK_seg]; have := Hm.out; simp; omega)
        refine (ask_in2 (id := j) h3 IJ Hin.out).mono ?_
        rintro e w4 ⟨rfl, hb⟩
        have h4 := h3.over hb
        have u4 := u3.over hb
        clear h3 u3 hb
        rw [show seg m 64 = (m : Int) :: seg (m + 1) 63 from seg_cons m 63] at h4
        go_wp2_with fail
        refine (leave_next (id := j) h4 IJ Hin.out).mono ?_
        intro e w5 hp
        obtain ⟨rfl, F5, h5, u5⟩ := u4.step hp
        clear hp h4 u4
        have hmK : ((m : Int) == K) = true := by simpa using Hm.out
        go_wp2_with fail
        refine (gin_eq h5).mono ?_
        rintro e w6 ⟨A6, c6, rfl, o6, hb⟩
        have u6 := u5.over hb
        have Hl6 : Hid ((besides (seg 0 m) j ++ [(m : Int)]).length = m) := hidp (by
          have hlt := besides_seg m j j1 (by have := Hm.out; omega)
          simp; omega)
        clear h5 u5 hb o6
        rw [Hl6.out]
        go_wp2_with fail
        go_ret
        exact ⟨rfl, u6.below⟩
      · have hjK2 : K ≤ j := by omega
        have Hin : Hid (plK (seg 0 m) j = false) := hidp (by rw [plK_seg]; have := Hm.out; simp; omega)
        refine (ask_line2 (id := j) h3 IJ Hin.out (by rw [plK_seg]; have := Hm.out; simp; omega)).mono ?_
        rintro e w4 ⟨rfl, hb⟩
        have h4 := h3.over hb
        have u4 := u3.over hb
        clear h3 u3 hb
        go_wp2_with fail
        refine (leave_not (id := j) h4 IJ Hin.out).mono ?_
        rintro e w5 ⟨rfl, hb⟩
        have h5 := h4.over hb
        have u5 := u4.over hb
        clear h4 u4 hb
        go_wp2_with fail
        refine (gin_eq h5).mono ?_
        rintro e w6 ⟨A6, c6, rfl, o6, hb⟩
        have u6 := u5.over hb
        clear h5 u5 hb o6
        rw [Hlen.out]
        have hmK : ((m : Int) == K) = true := by simpa using Hm.out
        go_wp2_with fail
        go_ret
        exact ⟨ret_bool (by simp; omega), u6.below⟩

theorem own : ownKnob Try.prog.godebug = none := by kernel_rfl
theorem laidOut : laidOutB Try.prog = true := by kernel_rfl

/-! THE ROW's STEP -/
set_option maxRecDepth 100000 in
theorem lifted (os : Os) (started : os.Started) (H : Type) (enc : TypeId × Value → H) :
    ReturnsInHanded {} Try.checked os 5 .any (Rows.gateFullSpec.pre6 enc Try.prog Try.f5 Rows.gateFullRow.domain false) (Rows.gateFullSpec.post enc Try.prog Try.f5 false true false false) := by
  refine returnsInHanded_of_change (C := Try.checked) own started (by kernel_rfl) Try.func5
    (ChangeSpec.witness6 (enc := enc) (C := Try.checked) false ⟨#[], #[.int .u8 0, .int .u8 0], []⟩ 8 (by kernel_rfl) (by kernel_rfl) (by kernel_rfl) (by kernel_rfl)) ?_
  intro W base args ds gs before hval0 hW hcnd _
  have hval : ∀ (j : Nat) t v, Try.f5.params[j]? = some t → args[j]? = some v → Value.okWide Try.prog W .any base t v := hval0
  have hW' := hW
  obtain ⟨p, q, hA0, hV, rfl, hfz, hnd⟩ := hW
  have hA : DataW.TrodAll enc Try.prog W 0 (fun _ => true) true Try.f5.params.toList args.toList ds p := hA0
  rw [Try.params5] at hA hval
  obtain ⟨v0, vs0, d0, ds0, p0, q0, hargs, rfl, rfl, h0, r0⟩ := trodAll_cons hA
  obtain ⟨v1, vs1, d1, ds1, p1, q1, rfl, rfl, rfl, h1, r1⟩ := trodAll_cons r0
  obtain ⟨rfl, rfl, rfl⟩ := trodAll_nil r1
  obtain rfl : args = #[v0, v1] := by cases args; simp_all
  obtain ⟨rfl, rfl⟩ := trodVars_none hV
  obtain ⟨a0, rfl, rfl, rfl, w0⟩ := open_int Try.underlying5 (hval 0 5 v0 rfl rfl) h0
  obtain ⟨a1, rfl, rfl, rfl, w1⟩ := open_int Try.underlying5 (hval 1 5 v1 rfl rfl) h1
  clear hA0 hval0
  refine (walk a0 a1 W w0 w1).mono fun e W' ⟨he, bel⟩ => ?_
  subst he
  exact ⟨_, rfl, _, _, _, [], _, [], hW', trodAll_mk1 (shut_bool Try.underlying4 _), (trodAll_cons_mk (shut_int Try.underlying5 w0) (trodAll_cons_mk (shut_int Try.underlying5 w1) trodAll_mk0)), rfl, bel.frame _, fun h => by cases h⟩

theorem over : Rows.gateFullRow.holds Try.pinned (OpenSpec.ofChange Rows.gateFullSpec) :=
  OpenClaim.holds_of_wide 5 Try.f5 rfl rfl rfl rfl rfl rfl rfl ⟨rfl, rfl, rfl, rfl, rfl⟩ rfl rfl rfl rfl rfl (by kernel_rfl) Try.func5 (by kernel_rfl)
    (of_decide_eq_true (by kernel_rfl)) (by unfold Func.isWrapper; first | (rw [if_pos (by decide +kernel)]; kernel_rfl) | (rw [if_neg (by decide +kernel)]; exact ⟨rfl, rfl⟩))
    (fun os started H enc _ => lifted os started H enc)

/-- THE STATEMENT -/
theorem proved : Rows.GateFullSaid := over
#print axioms proved
end Go.Proofs.Ytilnkbmbbfdboaa.gateFull

