/- CountTells: of every window, bound, period, jobs and work are the quotient rounded up, so many at most. No condition. -/
import Derived.Test.YtgkhbindabbdhaaKnown12
set_option maxHeartbeats 1000000
namespace Go.Proofs.Ytgkhbindabbdhaa.countTells
open Go.ChangeShapes Go.WideShapes Go.ChangeAt Go.RowKit
open Go.ChangeMaps (open_string shut_string)
set_option linter.unusedVariables false

/-- THE WALK: the Go text returns true, and writes nothing that was there. -/
theorem walk (a0 : Int) (a1 : Int) (a2 : Int) (a3 : Int) (w : World) (w0 : (Lit.int .i64 a0).wf = true) (w1 : (Lit.int .i64 a1).wf = true) (w2 : (Lit.int .i64 a2).wf = true) (w3 : (Lit.int .i64 a3).wf = true) :
    Calls Try.prog 3 #[.int .i64 a0, .int .i64 a1, .int .i64 a2, .int .i64 a3] w fun e w' => e = .returned (.bool true) ∧ Below w.heap.size w w' := by
  have i0 := i64_of w0
  have i1 := i64_of w1
  have i2 := i64_of w2
  have i3 := i64_of w3
  clear w0 w1 w2 w3
  by_cases h : a0 < 1 ∨ a1 < 0 ∨ a2 < 1
  · have e1 := jobV_out h
    have e2 : workV a0 a1 a2 a3 = 0 := by unfold workV; rw [e1]; simp; omega
    have hc : a0 < 1 ∨ ¬ a0 < 1 ∧ a1 < 0 ∨ ¬ a0 < 1 ∧ ¬ a1 < 0 ∧ a2 < 1 := by omega
    clear h
    rcases hc with h | ⟨h, g⟩ | ⟨h, g, f⟩
    all_goals
      go_enter Try.func3, Try.ntmps3
      go_wp2_with (first | (go_at_call 8; (with_reducible refine (known12_any _).mono ?_); rintro e w1 ⟨rfl, hb⟩) | (go_at_call 9; (with_reducible refine (jobs_any _ _ _ _ i0 i1 i2).mono ?_); rintro e w2 ⟨rfl, hq⟩) | (go_at_call 10; (with_reducible refine (work_any _ _ _ _ _ i0 i1 i2 i3).mono ?_); rintro e w3 ⟨rfl, hk⟩))
      go_ret
      exact ⟨rfl, ((hb.trans hq).trans hk).b⟩
  · have k1 := jobV_bd a0 a1 a2
    have k2 := jobV_pos h
    have k3 := workV_bd a0 a1 a2 a3
    have Hv := hidp (jobV_in h)
    have Hw : Hid (workV a0 a1 a2 a3 = min (jobV a0 a1 a2 * max a3 0) 1000000) := hidp rfl
    have Hz : a3 ≤ 0 → workV a0 a1 a2 a3 = 0 := fun g => by unfold workV; rw [show max a3 0 = 0 by omega]; simp; omega
    obtain ⟨J, hJ⟩ : ∃ J, jobV a0 a1 a2 = J := ⟨_, rfl⟩
    obtain ⟨K, hK⟩ : ∃ K, workV a0 a1 a2 a3 = K := ⟨_, rfl⟩
    rw [hJ] at k1 k2
    rw [hK] at k3 Hz
    obtain ⟨k4, k5⟩ := k1
    obtain ⟨k6, k7⟩ := k3
    have a4 : 1 ≤ a0 := by omega
    have a5 : 0 ≤ a1 := by omega
    have a6 : 1 ≤ a2 := by omega
    clear h
    have hz : a3 ≤ 0 ∧ K = 0 ∨ 0 < a3 := by
      by_cases g : a3 ≤ 0
      · exact .inl ⟨g, Hz g⟩
      · exact .inr (by omega)
    clear Hz
    by_cases hbig : 1099511627776 < a0 ∨ ¬ 1099511627776 < a0 ∧ 1099511627776 < a1 ∨ ¬ 1099511627776 < a0 ∧ ¬ 1099511627776 < a1 ∧ 1099511627776 < a2 ∨ ¬ 1099511627776 < a0 ∧ ¬ 1099511627776 < a1 ∧ ¬ 1099511627776 < a2 ∧ 1048576 < a3
    · clear Hv Hw
      rcases hz with ⟨z1, rfl⟩ | z1
      all_goals
        rcases hbig with h | ⟨h, h'⟩ | ⟨h, h', h2⟩ | ⟨h, h', h2, h3⟩
        all_goals
          first
          | omega
          | (go_enter Try.func3, Try.ntmps3
             go_wp2_with (first | (go_at_call 8; (with_reducible refine (known12_any _).mono ?_); rintro e w1 ⟨rfl, hb⟩) | (go_at_call 9; (with_reducible refine (jobs_any _ _ _ _ i0 i1 i2).mono ?_); rintro e w2 ⟨rfl, hq⟩) | (go_at_call 10; (with_reducible refine (work_any _ _ _ _ _ i0 i1 i2 i3).mono ?_); rintro e w3 ⟨rfl, hk⟩))
             go_ret
             exact ⟨rfl, ((hb.trans hq).trans hk).b⟩)
    · have b0 : a0 ≤ 1099511627776 := by omega
      have b1 : a1 ≤ 1099511627776 := by omega
      have b2 : a2 ≤ 1099511627776 := by omega
      have b3 : a3 ≤ 1048576 := by omega
      clear hbig
      obtain ⟨q, Hq⟩ : ∃ q, (a0 + a1 + a2 - 1) / a2 = q := ⟨_, rfl⟩
      have Hm : Hid (J = min q 1000000) := hidp (by rw [← hJ, Hv.out, Hq])
      have hJq : J = 1000000 ∧ 1000000 < q ∨ J = q ∧ ¬ 1000000 < q := by have := Hm.out; omega
      rcases hz with ⟨z1, rfl⟩ | z1
      · rcases hJq with ⟨rfl, g⟩ | ⟨rfl, g⟩
        all_goals
          go_enter Try.func3, Try.ntmps3
          go_wp2_with (first | (go_at_call 8; (with_reducible refine (known12_any _).mono ?_); rintro e w1 ⟨rfl, hb⟩) | (go_at_call 9; (with_reducible refine (jobs_any _ _ _ _ i0 i1 i2).mono ?_); rintro e w2 ⟨rfl, hq⟩) | (go_at_call 10; (with_reducible refine (work_any _ _ _ _ _ i0 i1 i2 i3).mono ?_); rintro e w3 ⟨rfl, hk⟩))
          go_ret
          exact ⟨rfl, ((hb.trans hq).trans hk).b⟩
      · obtain ⟨r, hr⟩ : ∃ r, J * a3 = r := ⟨_, rfl⟩
        have r1 : 0 ≤ r := by rw [← hr]; exact Int.mul_nonneg k4 (by omega)
        have r2 : r ≤ 1048576000000 := by rw [← hr]; have := Int.mul_le_mul k5 b3 (by omega) (by omega : (0:Int) ≤ 1000000); omega
        have hK2 : K = 1000000 ∧ 1000000 < r ∨ K = r ∧ ¬ 1000000 < r := by
          have := Hw.out; rw [hK, hJ, show max a3 0 = a3 by omega, hr] at this; omega
        rcases hJq with ⟨rfl, g⟩ | ⟨rfl, g⟩ <;> rcases hK2 with ⟨rfl, g2⟩ | ⟨rfl, g2⟩
        all_goals
          go_enter Try.func3, Try.ntmps3
          go_wp2_with (first | (go_at_call 8; (with_reducible refine (known12_any _).mono ?_); rintro e w1 ⟨rfl, hb⟩) | (go_at_call 9; (with_reducible refine (jobs_any _ _ _ _ i0 i1 i2).mono ?_); rintro e w2 ⟨rfl, hq⟩) | (go_at_call 10; (with_reducible refine (work_any _ _ _ _ _ i0 i1 i2 i3).mono ?_); rintro e w3 ⟨rfl, hk⟩))
          go_ret
          exact ⟨rfl, ((hb.trans hq).trans hk).b⟩

theorem own : ownKnob Try.prog.godebug = none := by kernel_rfl
theorem laidOut : laidOutB Try.prog = true := by kernel_rfl

/-! THE ROW's STEP -/
set_option maxRecDepth 100000 in
theorem lifted (os : Os) (started : os.Started) (H : Type) (enc : TypeId × Value → H) :
    ReturnsInHanded {} Try.checked os 3 .any (Rows.countTellsSpec.pre6 enc Try.prog Try.f3 Rows.countTellsRow.domain false) (Rows.countTellsSpec.post enc Try.prog Try.f3 false true false false) := by
  refine returnsInHanded_of_change (C := Try.checked) own started (by kernel_rfl) Try.func3
    (ChangeSpec.witness6 (enc := enc) (C := Try.checked) false ⟨#[], #[.int .i64 0, .int .i64 0, .int .i64 0, .int .i64 0], []⟩ 8 (by kernel_rfl) (by kernel_rfl) (by kernel_rfl) (by kernel_rfl)) ?_
  intro W base args ds gs before hval0 hW hcnd _
  have hval : ∀ (j : Nat) t v, Try.f3.params[j]? = some t → args[j]? = some v → Value.okWide Try.prog W .any base t v := hval0
  have hW' := hW
  obtain ⟨p, q, hA0, hV, rfl, hfz, hnd⟩ := hW
  have hA : DataW.TrodAll enc Try.prog W 0 (fun _ => true) true Try.f3.params.toList args.toList ds p := hA0
  rw [Try.params3] at hA hval
  obtain ⟨v0, vs0, d0, ds0, p0, q0, hargs, rfl, rfl, h0, r0⟩ := trodAll_cons hA
  obtain ⟨v1, vs1, d1, ds1, p1, q1, rfl, rfl, rfl, h1, r1⟩ := trodAll_cons r0
  obtain ⟨v2, vs2, d2, ds2, p2, q2, rfl, rfl, rfl, h2, r2⟩ := trodAll_cons r1
  obtain ⟨v3, vs3, d3, ds3, p3, q3, rfl, rfl, rfl, h3, r3⟩ := trodAll_cons r2
  obtain ⟨rfl, rfl, rfl⟩ := trodAll_nil r3
  obtain rfl : args = #[v0, v1, v2, v3] := by cases args; simp_all
  obtain ⟨rfl, rfl⟩ := trodVars_none hV
  obtain ⟨a0, rfl, rfl, rfl, w0⟩ := open_int Try.underlying3 (hval 0 3 v0 rfl rfl) h0
  obtain ⟨a1, rfl, rfl, rfl, w1⟩ := open_int Try.underlying3 (hval 1 3 v1 rfl rfl) h1
  obtain ⟨a2, rfl, rfl, rfl, w2⟩ := open_int Try.underlying3 (hval 2 3 v2 rfl rfl) h2
  obtain ⟨a3, rfl, rfl, rfl, w3⟩ := open_int Try.underlying3 (hval 3 3 v3 rfl rfl) h3
  clear hA0 hval0
  refine (walk a0 a1 a2 a3 W w0 w1 w2 w3).mono fun e W' ⟨he, bel⟩ => ?_
  subst he
  exact ⟨_, rfl, _, _, _, [], _, [], hW', trodAll_mk1 (shut_bool Try.underlying4 _), (trodAll_cons_mk (shut_int Try.underlying3 w0) (trodAll_cons_mk (shut_int Try.underlying3 w1) (trodAll_cons_mk (shut_int Try.underlying3 w2) (trodAll_cons_mk (shut_int Try.underlying3 w3) trodAll_mk0)))), rfl, bel.frame _, fun h => by cases h⟩

theorem over : Rows.countTellsRow.holds Try.pinned (OpenSpec.ofChange Rows.countTellsSpec) :=
  OpenClaim.holds_of_wide 3 Try.f3 rfl rfl rfl rfl rfl rfl rfl ⟨rfl, rfl, rfl, rfl, rfl⟩ rfl rfl rfl rfl rfl (by kernel_rfl) Try.func3 (by kernel_rfl)
    (of_decide_eq_true (by kernel_rfl)) (by unfold Func.isWrapper; first | (rw [if_pos (by decide +kernel)]; kernel_rfl) | (rw [if_neg (by decide +kernel)]; exact ⟨rfl, rfl⟩))
    (fun os started H enc _ => lifted os started H enc)

/-- THE STATEMENT -/
theorem proved : Rows.CountTellsSaid := over
#print axioms proved
end Go.Proofs.Ytgkhbindabbdhaa.countTells

