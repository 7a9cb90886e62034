/- CountPeriods: windows of so many whole periods, with bounds of so many: as many jobs; one tick more, one more. No condition. -/
import Derived.Test.YtgkhbindabbdhaaKnown12
namespace Go.Proofs.Ytgkhbindabbdhaa
theorem jobV_whole {k j p : Int} (hk : 1 ≤ k) (hk2 : k ≤ 256) (hj : 0 ≤ j) (hj2 : j ≤ 255) (hp : 1 ≤ p) : jobV (k * p) (j * p) p = k + j := by
  have h1 : 1 * p ≤ k * p := Int.mul_le_mul_of_nonneg_right hk (by omega)
  have h2 : 0 ≤ j * p := Int.mul_nonneg hj (by omega)
  rw [jobV_is (q := k + j) (r := 0) (by omega) (by rw [Int.add_mul]; omega) (by omega) (by omega)]
  simp [oneMore]; omega
theorem jobV_whole1 {k j p : Int} (hk : 1 ≤ k) (hk2 : k ≤ 256) (hj : 0 ≤ j) (hj2 : j ≤ 255) (hp : 1 ≤ p) : jobV (k * p + 1) (j * p) p = k + j + 1 := by
  have h1 : 1 * p ≤ k * p := Int.mul_le_mul_of_nonneg_right hk (by omega)
  have h2 : 0 ≤ j * p := Int.mul_nonneg hj (by omega)
  rw [jobV_is (q := k + j) (r := 1) (by omega) (by rw [Int.add_mul]; omega) (by omega) (by omega)]
  simp [oneMore]; omega
theorem jobV_whole2 {k j p : Int} (hk : 1 ≤ k) (hk2 : k ≤ 256) (hj : 0 ≤ j) (hj2 : j ≤ 255) (hp : 1 ≤ p) : jobV (k * p) (j * p + 1) p = k + j + 1 := by
  have h1 : 1 * p ≤ k * p := Int.mul_le_mul_of_nonneg_right hk (by omega)
  have h2 : 0 ≤ j * p := Int.mul_nonneg hj (by omega)
  rw [jobV_is (q := k + j) (r := 1) (by omega) (by rw [Int.add_mul]; omega) (by omega) (by omega)]
  simp [oneMore]; omega
theorem jobV_one {p : Int} (hp : 1 ≤ p) : jobV 1 0 p = 1 := by
  rw [jobV_is (q := 0) (r := 1) (by omega) (by omega) (by omega) (by omega)]
  simp [oneMore]; omega
end Go.Proofs.Ytgkhbindabbdhaa
set_option maxHeartbeats 1000000
namespace Go.Proofs.Ytgkhbindabbdhaa.countPeriods
open Go.ChangeShapes Go.WideShapes Go.ChangeAt Go.RowKit
open Go.ChangeMaps (open_string shut_string)
set_option linter.unusedVariables false

/-- THE WALK: the Go text returns true, and writes nothing that was there. -/
theorem walk (a0 : Int) (a1 : Int) (a2 : Int) (w : World) (w0 : (Lit.int .u8 a0).wf = true) (w1 : (Lit.int .u8 a1).wf = true) (w2 : (Lit.int .u8 a2).wf = true) :
    Calls Try.prog 6 #[.int .u8 a0, .int .u8 a1, .int .u8 a2] w fun e w' => e = .returned (.bool true) ∧ Below w.heap.size w w' := by
  have b0 : 0 ≤ a0 ∧ a0 ≤ 255 := by simp [Lit.wf, IntKind.min, IntKind.max, IntKind.signed, IntKind.bits] at w0; omega
  have b1 : 0 ≤ a1 ∧ a1 ≤ 255 := by simp [Lit.wf, IntKind.min, IntKind.max, IntKind.signed, IntKind.bits] at w1; omega
  have b2 : 0 ≤ a2 ∧ a2 ≤ 255 := by simp [Lit.wf, IntKind.min, IntKind.max, IntKind.signed, IntKind.bits] at w2; omega
  obtain ⟨p0, p1⟩ := b0
  obtain ⟨p2, p3⟩ := b1
  obtain ⟨p4, p5⟩ := b2
  clear w0 w1 w2
  have k0 := jobV_whole (k := a0 + 1) (j := a1) (p := a2 + 2) (by omega) (by omega) (by omega) (by omega) (by omega)
  have k1 := jobV_whole1 (k := a0 + 1) (j := a1) (p := a2 + 2) (by omega) (by omega) (by omega) (by omega) (by omega)
  have k2 := jobV_whole2 (k := a0 + 1) (j := a1) (p := a2 + 2) (by omega) (by omega) (by omega) (by omega) (by omega)
  have k3 := jobV_one (p := a2 + 2) (by omega)
  obtain ⟨x, hx⟩ : ∃ x, (a0 + 1) * (a2 + 2) = x := ⟨_, rfl⟩
  obtain ⟨y, hy⟩ : ∃ y, a1 * (a2 + 2) = y := ⟨_, rfl⟩
  rw [hx, hy] at k0 k1 k2
  have x0 : 0 ≤ x := by rw [← hx]; exact Int.mul_nonneg (by omega) (by omega)
  have x1 : x ≤ 256 * 257 := by rw [← hx]; exact Int.mul_le_mul (by omega) (by omega) (by omega) (by omega)
  have y0 : 0 ≤ y := by rw [← hy]; exact Int.mul_nonneg (by omega) (by omega)
  have y1 : y ≤ 256 * 257 := by rw [← hy]; exact Int.mul_le_mul (by omega) (by omega) (by omega) (by omega)
  go_enter Try.func6, Try.ntmps6
  go_wp2_with fail
  refine (known12_any _).mono ?_
  rintro e w1 ⟨rfl, h1⟩
  go_wp2_with fail
  refine (jobs_any _ _ _ _ (by unfold I64; omega) (by unfold I64; omega) (by unfold I64; omega)).mono ?_
  rintro e w2 ⟨rfl, h2⟩
  go_wp2_with fail
  refine (jobs_any _ _ _ _ (by unfold I64; omega) (by unfold I64; omega) (by unfold I64; omega)).mono ?_
  rintro e w3 ⟨rfl, h3⟩
  go_wp2_with fail
  refine (jobs_any _ _ _ _ (by unfold I64; omega) (by unfold I64; omega) (by unfold I64; omega)).mono ?_
  rintro e w4 ⟨rfl, h4⟩
  go_wp2_with fail
  refine (jobs_any _ _ _ _ (by unfold I64; omega) (by unfold I64; omega) (by unfold I64; omega)).mono ?_
  rintro e w5 ⟨rfl, h5⟩
  go_wp2_with fail
  go_ret
  exact ⟨rfl, ((((h1.trans h2).trans h3).trans h4).trans h5).b⟩

theorem own : ownKnob Try.prog.godebug = none := by kernel_rfl
theorem laidOut : laidOutB Try.prog = true := by kernel_rfl

/-! THE ROW's STEP -/
set_option maxRecDepth 100000 in
theorem lifted (os : Os) (started : os.Started) (H : Type) (enc : TypeId × Value → H) :
    ReturnsInHanded {} Try.checked os 6 .any (Rows.countPeriodsSpec.pre6 enc Try.prog Try.f6 Rows.countPeriodsRow.domain false) (Rows.countPeriodsSpec.post enc Try.prog Try.f6 false true false false) := by
  refine returnsInHanded_of_change (C := Try.checked) own started (by kernel_rfl) Try.func6
    (ChangeSpec.witness6 (enc := enc) (C := Try.checked) false ⟨#[], #[.int .u8 0, .int .u8 0, .int .u8 0], []⟩ 8 (by kernel_rfl) (by kernel_rfl) (by kernel_rfl) (by kernel_rfl)) ?_
  intro W base args ds gs before hval0 hW hcnd _
  have hval : ∀ (j : Nat) t v, Try.f6.params[j]? = some t → args[j]? = some v → Value.okWide Try.prog W .any base t v := hval0
  have hW' := hW
  obtain ⟨p, q, hA0, hV, rfl, hfz, hnd⟩ := hW
  have hA : DataW.TrodAll enc Try.prog W 0 (fun _ => true) true Try.f6.params.toList args.toList ds p := hA0
  rw [Try.params6] at hA hval
  obtain ⟨v0, vs0, d0, ds0, p0, q0, hargs, rfl, rfl, h0, r0⟩ := trodAll_cons hA
  obtain ⟨v1, vs1, d1, ds1, p1, q1, rfl, rfl, rfl, h1, r1⟩ := trodAll_cons r0
  obtain ⟨v2, vs2, d2, ds2, p2, q2, rfl, rfl, rfl, h2, r2⟩ := trodAll_cons r1
  obtain ⟨rfl, rfl, rfl⟩ := trodAll_nil r2
  obtain rfl : args = #[v0, v1, v2] := by cases args; simp_all
  obtain ⟨rfl, rfl⟩ := trodVars_none hV
  obtain ⟨a0, rfl, rfl, rfl, w0⟩ := open_int Try.underlying5 (hval 0 5 v0 rfl rfl) h0
  obtain ⟨a1, rfl, rfl, rfl, w1⟩ := open_int Try.underlying5 (hval 1 5 v1 rfl rfl) h1
  obtain ⟨a2, rfl, rfl, rfl, w2⟩ := open_int Try.underlying5 (hval 2 5 v2 rfl rfl) h2
  clear hA0 hval0
  refine (walk a0 a1 a2 W w0 w1 w2).mono fun e W' ⟨he, bel⟩ => ?_
  subst he
  exact ⟨_, rfl, _, _, _, [], _, [], hW', trodAll_mk1 (shut_bool Try.underlying4 _), (trodAll_cons_mk (shut_int Try.underlying5 w0) (trodAll_cons_mk (shut_int Try.underlying5 w1) (trodAll_cons_mk (shut_int Try.underlying5 w2) trodAll_mk0))), rfl, bel.frame _, fun h => by cases h⟩

theorem over : Rows.countPeriodsRow.holds Try.pinned (OpenSpec.ofChange Rows.countPeriodsSpec) :=
  OpenClaim.holds_of_wide 6 Try.f6 rfl rfl rfl rfl rfl rfl rfl ⟨rfl, rfl, rfl, rfl, rfl⟩ rfl rfl rfl rfl rfl (by kernel_rfl) Try.func6 (by kernel_rfl)
    (of_decide_eq_true (by kernel_rfl)) (by unfold Func.isWrapper; first | (rw [if_pos (by decide +kernel)]; kernel_rfl) | (rw [if_neg (by decide +kernel)]; exact ⟨rfl, rfl⟩))
    (fun os started H enc _ => lifted os started H enc)

/-- THE STATEMENT -/
theorem proved : Rows.CountPeriodsSaid := over
#print axioms proved
end Go.Proofs.Ytgkhbindabbdhaa.countPeriods

