/- CalcEnds: at the ends of all numbers calc tells one more and one less, or that there is none; the least by minus one is none. No condition. -/
import Derived.Test.YtflimfmamlmmiaaKnown
import Derived.Test.YtflimfmamlmmiaaCalcNums
namespace Go.Proofs.Ytflimfmamlmmiaa.calcEnds
open Go.ChangeShapes Go.WideShapes Go.ChangeAt Go.RowKit
open Go.ChangeMaps (open_string shut_string)
set_option linter.unusedVariables false

/-- THE WALK: the Go text returns true, and writes nothing that was there. -/
theorem walk (a0 : Int) (w : World) (w0 : (Lit.int .u8 a0).wf = true) :
    Calls Try.prog 7 #[.int .u8 a0] w fun e w' => e = .returned (.bool true) ∧ Below w.heap.size w w' := by
  have b0 : 0 ≤ a0 ∧ a0 ≤ 255 := by simp [Lit.wf, IntKind.min, IntKind.max, IntKind.signed, IntKind.bits] at w0; omega
  obtain ⟨p1, p2⟩ := b0
  clear w0
  have r1 : I64 (9223372036854775807 - a0) := by unfold I64; omega
  have r2 : I64 a0 := by unfold I64; omega
  have r3 : I64 (a0 + 1) := by unfold I64; omega
  have r4 : I64 (-9223372036854775808 + a0) := by unfold I64; omega
  have r5 : I64 (-a0) := by unfold I64; omega
  have r6 : I64 (-a0 - 1) := by unfold I64; omega
  have r7 : I64 (-9223372036854775808) := by decide
  have r8 : I64 (-1) := by decide
  have r9 : I64 1 := by decide
  have r10 : I64 0 := by decide
  obtain ⟨d, hd⟩ : ∃ d, wrap64 (-Int.tdiv 9223372036854775808 (a0 + 1)) = d := ⟨_, rfl⟩
  obtain ⟨x, hx⟩ : ∃ x, Hid (Int.tdiv 9223372036854775808 (a0 + 1) = x) := ⟨_, rfl⟩
  have hx1 : 0 ≤ x ∧ x * (a0 + 1) ≤ 9223372036854775808 ∧ x ≤ 9223372036854775808 := by
    have e := Int.tdiv_mul_add_tmod 9223372036854775808 (a0 + 1)
    have e1 := Int.tmod_nonneg (a0 + 1) (show (0 : Int) ≤ 9223372036854775808 by omega)
    have e2 : (0 : Int) ≤ Int.tdiv 9223372036854775808 (a0 + 1) := Int.tdiv_nonneg (by omega) (by omega)
    have e3 := tdiv_abs 9223372036854775808 (a0 + 1)
    have e4 : (9223372036854775808 : Int).natAbs / (a0 + 1).natAbs ≤ (9223372036854775808 : Int).natAbs := Nat.div_le_self _ _
    rw [hx.out] at e e2 e3
    omega
  have hdx : Hid (d = -x) := hidp (by rw [← hd, hx.out]; exact IntWalk.wrap64_in _ (by omega))
  have r11 : I64 d := by rw [hdx.out]; unfold I64; omega
  obtain ⟨c, hc⟩ : ∃ c, fitR (d * (a0 + 1)) = c := ⟨_, rfl⟩
  have hm : I64 (d * (a0 + 1)) ∧ d * (a0 + 1) ≤ 0 := by
    rw [hdx.out, Int.neg_mul]
    have : 0 ≤ x * (a0 + 1) := Int.mul_nonneg hx1.1 (by omega)
    unfold I64; omega
  have c1 : c ≤ 0 := by rw [← hc, fitR_in hm.1]; exact hm.2
  have c2 : -9223372036854775808 ≤ c := by rw [← hc]; exact (fitR_i64 _).1
  have k1 := fitK_in hm.1
  clear hm hx1 hx
  have f1 : fitR 9223372036854775807 = 9223372036854775807 := by decide
  have f2 : fitK 9223372036854775807 = true := by decide
  have f3 : fitK (9223372036854775807 - a0 + (a0 + 1)) = false := fitK_out (by unfold I64; omega)
  have f4 : fitR (-9223372036854775808 + a0 + -a0) = -9223372036854775808 := by rw [fitR_in (by unfold I64; omega)]; omega
  have f5 : fitK (-9223372036854775808 + a0 + -a0) = true := fitK_in (by unfold I64; omega)
  have f6 : fitK (-9223372036854775808 + a0 + (-a0 - 1)) = false := fitK_out (by unfold I64; omega)
  have f7 : fitK 9223372036854775808 = false := by decide
  have g1 : upK (-9223372036854775808) (-1) = false := by decide
  have g2 : upR (-9223372036854775808) 1 = -9223372036854775808 := by decide
  have g3 : upK (-9223372036854775808) 1 = true := by decide
  have g4 : upK a0 0 = false := rfl
  go_enter Try.func7, Try.ntmps7
  go_wp2_with (first | (go_at_call 10; (with_reducible refine (known_any _).mono ?_); rintro e w1 ⟨rfl, hb⟩) | (go_at_call 11; (with_reducible refine (add_any _ _ _ (by assumption) (by assumption)).mono ?_); rintro e w' ⟨rfl, rfl⟩) | (go_at_call 12; (with_reducible refine (mul_any _ _ _ (by assumption) (by assumption)).mono ?_); rintro e w' ⟨rfl, rfl⟩) | (go_at_call 13; (with_reducible refine (up_any _ _ _ (by assumption) (by assumption)).mono ?_); rintro e w' ⟨rfl, _, rfl⟩))
  go_ret
  exact ⟨rfl, below_drewN hb _⟩

theorem own : ownKnob Try.prog.godebug = none := by kernel_rfl
theorem laidOut : laidOutB Try.prog = true := by kernel_rfl

/-! THE ROW's STEP -/
set_option maxRecDepth 100000 in
theorem lifted (os : Os) (started : os.Started) (H : Type) (enc : TypeId × Value → H) :
    ReturnsInHanded {} Try.checked os 7 .any (Rows.calcEndsSpec.pre6 enc Try.prog Try.f7 Rows.calcEndsRow.domain false) (Rows.calcEndsSpec.post enc Try.prog Try.f7 false true false false) := by
  refine returnsInHanded_of_change (C := Try.checked) own started (by kernel_rfl) Try.func7
    (ChangeSpec.witness6 (enc := enc) (C := Try.checked) false ⟨#[], #[.int .u8 0], []⟩ 8 (by kernel_rfl) (by kernel_rfl) (by kernel_rfl) (by kernel_rfl)) ?_
  intro W base args ds gs before hval0 hW hcnd _
  have hval : ∀ (j : Nat) t v, Try.f7.params[j]? = some t → args[j]? = some v → Value.okWide Try.prog W .any base t v := hval0
  have hW' := hW
  obtain ⟨p, q, hA0, hV, rfl, hfz, hnd⟩ := hW
  have hA : DataW.TrodAll enc Try.prog W 0 (fun _ => true) true Try.f7.params.toList args.toList ds p := hA0
  rw [Try.params7] at hA hval
  obtain ⟨v0, vs0, d0, ds0, p0, q0, hargs, rfl, rfl, h0, r0⟩ := trodAll_cons hA
  obtain ⟨rfl, rfl, rfl⟩ := trodAll_nil r0
  obtain rfl : args = #[v0] := by cases args; simp_all
  obtain ⟨rfl, rfl⟩ := trodVars_none hV
  obtain ⟨a0, rfl, rfl, rfl, w0⟩ := open_int Try.underlying5 (hval 0 5 v0 rfl rfl) h0
  clear hA0 hval0
  refine (walk a0 W w0).mono fun e W' ⟨he, bel⟩ => ?_
  subst he
  exact ⟨_, rfl, _, _, _, [], _, [], hW', trodAll_mk1 (shut_bool Try.underlying4 _), (trodAll_cons_mk (shut_int Try.underlying5 w0) trodAll_mk0), rfl, bel.frame _, fun h => by cases h⟩

theorem over : Rows.calcEndsRow.holds Try.pinned (OpenSpec.ofChange Rows.calcEndsSpec) :=
  OpenClaim.holds_of_wide 7 Try.f7 rfl rfl rfl rfl rfl rfl rfl ⟨rfl, rfl, rfl, rfl, rfl⟩ rfl rfl rfl rfl rfl (by kernel_rfl) Try.func7 (by kernel_rfl)
    (of_decide_eq_true (by kernel_rfl)) (by unfold Func.isWrapper; first | (rw [if_pos (by decide +kernel)]; kernel_rfl) | (rw [if_neg (by decide +kernel)]; exact ⟨rfl, rfl⟩))
    (fun os started H enc _ => lifted os started H enc)

/-- THE STATEMENT -/
theorem proved : Rows.CalcEndsSaid := over
#print axioms proved
end Go.Proofs.Ytflimfmamlmmiaa.calcEnds

