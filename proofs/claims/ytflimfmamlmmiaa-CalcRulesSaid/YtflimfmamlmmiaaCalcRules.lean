/- CalcRules: sums and products are the same either way round, a sum's other number comes back, and what is rounded up is the least that is enough. No condition. -/
import Derived.Test.YtflimfmamlmmiaaKnown
import Derived.Test.YtflimfmamlmmiaaCalcNums
namespace Go.Proofs.Ytflimfmamlmmiaa.calcRules
open Go.ChangeShapes Go.WideShapes Go.ChangeAt Go.RowKit
open Go.ChangeMaps (open_string shut_string)
set_option linter.unusedVariables false

/-- THE WALK: the Go text returns true, and writes nothing that was there. -/
theorem walk (a0 : Int) (a1 : Int) (w : World) (w0 : (Lit.int .i64 a0).wf = true) (w1 : (Lit.int .i64 a1).wf = true) :
    Calls Try.prog 5 #[.int .i64 a0, .int .i64 a1] w fun e w' => e = .returned (.bool true) ∧ Below w.heap.size w w' := by
  have i0 := i64_of w0
  have i1 := i64_of w1
  clear w0 w1
  obtain ⟨p, hp⟩ : ∃ p, wrap32 a0 = p := ⟨_, rfl⟩
  obtain ⟨q, hq⟩ : ∃ q, wrap32 a1 = q := ⟨_, rfl⟩
  have bp : -2147483648 ≤ p ∧ p ≤ 2147483647 := by rw [← hp]; unfold wrap32; omega
  have bq : -2147483648 ≤ q ∧ q ≤ 2147483647 := by rw [← hq]; unfold wrap32; omega
  have ip : I64 p := by unfold I64; omega
  have iq : I64 q := by unfold I64; omega
  obtain ⟨p1, p2⟩ := bp
  obtain ⟨q1, q2⟩ := bq
  have hw0 : wrap64 a0 = a0 := IntWalk.wrap64_in _ i0
  have hq : q ≤ 0 ∨ 0 < q ∧ ∃ u m k : Int, upR p q = u ∧ upK p q = true ∧ -2147483648 ≤ u ∧ u ≤ 2147483648 ∧ wrap64 (u * q) = m ∧ wrap64 ((u - 1) * q) = k ∧ p ≤ m ∧ k < p := by
    by_cases hq0 : q ≤ 0
    · exact .inl hq0
    · have hb := upV_small ⟨p1, p2⟩ ⟨show 0 < q by omega, q2⟩
      have hm := upV_mul_small ⟨p1, p2⟩ ⟨show 0 < q by omega, q2⟩
      have he := upV_enough (p := p) (show 0 < q by omega)
      have hi : I64 (upV p q) := by unfold I64; omega
      exact .inr ⟨by omega, upV p q, _, _, by rw [upR, if_neg (by omega), fitR_in hi], by rw [upK, if_neg (by omega), fitK_in hi], hb.1, hb.2, rfl, rfl, by rw [IntWalk.wrap64_in _ hm.1]; exact he.1, by rw [IntWalk.wrap64_in _ hm.2]; exact he.2⟩
  by_cases hs : I64 (a0 + a1)
  · have s1 := fitR_in hs
    have s2 := fitK_in hs
    have s3 : -9223372036854775808 ≤ a0 + a1 := hs.1
    have s4 : a0 + a1 ≤ 9223372036854775807 := hs.2
    have s5 : (decide (0 < a1) != decide (a0 < a0 + a1)) = false := by simp; omega
    clear hs
    rcases hq with hq0 | ⟨hq0, u, m, k, u1, u2, u3, u4, m1, k1, m2, k2⟩
    · go_enter Try.func5, Try.ntmps5
      go_wp2_with (first | (go_at_call 10; (with_reducible refine (known_any _).mono ?_); rintro e w1 ⟨rfl, hb⟩) | (go_at_call 11; (with_reducible refine (add_any _ _ _ i0 i1).mono ?_); rintro e w' ⟨rfl, rfl⟩) | (go_at_call 11; (with_reducible refine (add_flip _ _ _ i0 i1).mono ?_); rintro e w' ⟨rfl, rfl⟩) | (go_at_call 12; (with_reducible refine (mul_any _ _ _ i0 i1).mono ?_); rintro e w' ⟨rfl, rfl⟩) | (go_at_call 12; (with_reducible refine (mul_flip _ _ _ i0 i1).mono ?_); rintro e w' ⟨rfl, rfl⟩) | (go_at_call 13; (with_reducible refine (up_any _ _ _ ip iq).mono ?_); rintro e w' ⟨rfl, _, rfl⟩))
      all_goals
        go_ret
        exact ⟨rfl, hb⟩
    · go_enter Try.func5, Try.ntmps5
      go_wp2_with (first | (go_at_call 10; (with_reducible refine (known_any _).mono ?_); rintro e w1 ⟨rfl, hb⟩) | (go_at_call 11; (with_reducible refine (add_any _ _ _ i0 i1).mono ?_); rintro e w' ⟨rfl, rfl⟩) | (go_at_call 11; (with_reducible refine (add_flip _ _ _ i0 i1).mono ?_); rintro e w' ⟨rfl, rfl⟩) | (go_at_call 12; (with_reducible refine (mul_any _ _ _ i0 i1).mono ?_); rintro e w' ⟨rfl, rfl⟩) | (go_at_call 12; (with_reducible refine (mul_flip _ _ _ i0 i1).mono ?_); rintro e w' ⟨rfl, rfl⟩) | (go_at_call 13; (with_reducible refine (up_any _ _ _ ip iq).mono ?_); rintro e w' ⟨rfl, _, rfl⟩))
      all_goals
        go_ret
        exact ⟨rfl, below_drewN hb _⟩
  · have s1 := fitR_out hs
    have s2 := fitK_out hs
    clear hs
    rcases hq with hq0 | ⟨hq0, u, m, k, u1, u2, u3, u4, m1, k1, m2, k2⟩
    · go_enter Try.func5, Try.ntmps5
      go_wp2_with (first | (go_at_call 10; (with_reducible refine (known_any _).mono ?_); rintro e w1 ⟨rfl, hb⟩) | (go_at_call 11; (with_reducible refine (add_any _ _ _ i0 i1).mono ?_); rintro e w' ⟨rfl, rfl⟩) | (go_at_call 11; (with_reducible refine (add_flip _ _ _ i0 i1).mono ?_); rintro e w' ⟨rfl, rfl⟩) | (go_at_call 12; (with_reducible refine (mul_any _ _ _ i0 i1).mono ?_); rintro e w' ⟨rfl, rfl⟩) | (go_at_call 12; (with_reducible refine (mul_flip _ _ _ i0 i1).mono ?_); rintro e w' ⟨rfl, rfl⟩) | (go_at_call 13; (with_reducible refine (up_any _ _ _ ip iq).mono ?_); rintro e w' ⟨rfl, _, rfl⟩))
      all_goals
        go_ret
        exact ⟨rfl, hb⟩
    · go_enter Try.func5, Try.ntmps5
      go_wp2_with (first | (go_at_call 10; (with_reducible refine (known_any _).mono ?_); rintro e w1 ⟨rfl, hb⟩) | (go_at_call 11; (with_reducible refine (add_any _ _ _ i0 i1).mono ?_); rintro e w' ⟨rfl, rfl⟩) | (go_at_call 11; (with_reducible refine (add_flip _ _ _ i0 i1).mono ?_); rintro e w' ⟨rfl, rfl⟩) | (go_at_call 12; (with_reducible refine (mul_any _ _ _ i0 i1).mono ?_); rintro e w' ⟨rfl, rfl⟩) | (go_at_call 12; (with_reducible refine (mul_flip _ _ _ i0 i1).mono ?_); rintro e w' ⟨rfl, rfl⟩) | (go_at_call 13; (with_reducible refine (up_any _ _ _ ip iq).mono ?_); rintro e w' ⟨rfl, _, rfl⟩))
      all_goals
        go_ret
        exact ⟨rfl, below_drewN hb _⟩

theorem own : ownKnob Try.prog.godebug = none := by kernel_rfl
theorem laidOut : laidOutB Try.prog = true := by kernel_rfl

/-! THE ROW's STEP -/
set_option maxRecDepth 100000 in
theorem lifted (os : Os) (started : os.Started) (H : Type) (enc : TypeId × Value → H) :
    ReturnsInHanded {} Try.checked os 5 .any (Rows.calcRulesSpec.pre6 enc Try.prog Try.f5 Rows.calcRulesRow.domain false) (Rows.calcRulesSpec.post enc Try.prog Try.f5 false true false false) := by
  refine returnsInHanded_of_change (C := Try.checked) own started (by kernel_rfl) Try.func5
    (ChangeSpec.witness6 (enc := enc) (C := Try.checked) false ⟨#[], #[.int .i64 0, .int .i64 0], []⟩ 8 (by kernel_rfl) (by kernel_rfl) (by kernel_rfl) (by kernel_rfl)) ?_
  intro W base args ds gs before hval0 hW hcnd _
  have hval : ∀ (j : Nat) t v, Try.f5.params[j]? = some t → args[j]? = some v → Value.okWide Try.prog W .any base t v := hval0
  have hW' := hW
  obtain ⟨p, q, hA0, hV, rfl, hfz, hnd⟩ := hW
  have hA : DataW.TrodAll enc Try.prog W 0 (fun _ => true) true Try.f5.params.toList args.toList ds p := hA0
  rw [Try.params5] at hA hval
  obtain ⟨v0, vs0, d0, ds0, p0, q0, hargs, rfl, rfl, h0, r0⟩ := trodAll_cons hA
  obtain ⟨v1, vs1, d1, ds1, p1, q1, rfl, rfl, rfl, h1, r1⟩ := trodAll_cons r0
  obtain ⟨rfl, rfl, rfl⟩ := trodAll_nil r1
  obtain rfl : args = #[v0, v1] := by cases args; simp_all
  obtain ⟨rfl, rfl⟩ := trodVars_none hV
  obtain ⟨a0, rfl, rfl, rfl, w0⟩ := open_int Try.underlying2 (hval 0 2 v0 rfl rfl) h0
  obtain ⟨a1, rfl, rfl, rfl, w1⟩ := open_int Try.underlying2 (hval 1 2 v1 rfl rfl) h1
  clear hA0 hval0
  refine (walk a0 a1 W w0 w1).mono fun e W' ⟨he, bel⟩ => ?_
  subst he
  exact ⟨_, rfl, _, _, _, [], _, [], hW', trodAll_mk1 (shut_bool Try.underlying4 _), (trodAll_cons_mk (shut_int Try.underlying2 w0) (trodAll_cons_mk (shut_int Try.underlying2 w1) trodAll_mk0)), rfl, bel.frame _, fun h => by cases h⟩

theorem over : Rows.calcRulesRow.holds Try.pinned (OpenSpec.ofChange Rows.calcRulesSpec) :=
  OpenClaim.holds_of_wide 5 Try.f5 rfl rfl rfl rfl rfl rfl rfl ⟨rfl, rfl, rfl, rfl, rfl⟩ rfl rfl rfl rfl rfl (by kernel_rfl) Try.func5 (by kernel_rfl)
    (of_decide_eq_true (by kernel_rfl)) (by unfold Func.isWrapper; first | (rw [if_pos (by decide +kernel)]; kernel_rfl) | (rw [if_neg (by decide +kernel)]; exact ⟨rfl, rfl⟩))
    (fun os started H enc _ => lifted os started H enc)

/-- THE STATEMENT -/
theorem proved : Rows.CalcRulesSaid := over
#print axioms proved
end Go.Proofs.Ytflimfmamlmmiaa.calcRules

