/- CountMost: however great a window, a bound, no more than so much is told, and never less than nothing. No condition. -/
import Derived.Test.YtgkhbindabbdhaaKnown12
set_option maxHeartbeats 1000000
namespace Go.Proofs.Ytgkhbindabbdhaa.countMost
open Go.ChangeShapes Go.WideShapes Go.ChangeAt Go.RowKit
open Go.ChangeMaps (open_string shut_string)
set_option linter.unusedVariables false

/-- THE WALK: the Go text returns true, and writes nothing that was there. -/
theorem walk (a0 : Int) (a1 : Int) (a2 : Int) (a3 : Int) (w : World) (w0 : (Lit.int .u64 a0).wf = true) (w1 : (Lit.int .u64 a1).wf = true) (w2 : (Lit.int .u16 a2).wf = true) (w3 : (Lit.int .u32 a3).wf = true) :
    Calls Try.prog 7 #[.int .u64 a0, .int .u64 a1, .int .u16 a2, .int .u32 a3] w fun e w' => e = .returned (.bool true) ∧ Below w.heap.size w w' := by
  have b0 : 0 ≤ a0 ∧ a0 ≤ 18446744073709551615 := by simp [Lit.wf, IntKind.min, IntKind.max, IntKind.signed, IntKind.bits] at w0; omega
  have b1 : 0 ≤ a1 ∧ a1 ≤ 18446744073709551615 := by simp [Lit.wf, IntKind.min, IntKind.max, IntKind.signed, IntKind.bits] at w1; omega
  have b2 : 0 ≤ a2 ∧ a2 ≤ 65535 := by simp [Lit.wf, IntKind.min, IntKind.max, IntKind.signed, IntKind.bits] at w2; omega
  have b3 : 0 ≤ a3 ∧ a3 ≤ 4294967295 := by simp [Lit.wf, IntKind.min, IntKind.max, IntKind.signed, IntKind.bits] at w3; omega
  obtain ⟨p0, p1⟩ := b0
  obtain ⟨p2, p3⟩ := b1
  obtain ⟨p4, p5⟩ := b2
  obtain ⟨p6, p7⟩ := b3
  clear w0 w1 w2 w3
  obtain ⟨x, hx⟩ : ∃ x, a0 / 2 = x := ⟨_, rfl⟩
  obtain ⟨y, hy⟩ : ∃ y, a1 / 2 = y := ⟨_, rfl⟩
  have x0 : 0 ≤ x := by omega
  have x1 : x ≤ 9223372036854775807 := by omega
  have y0 : 0 ≤ y := by omega
  have y1 : y ≤ 9223372036854775807 := by omega
  have i0 : I64 x := by unfold I64; omega
  have i1 : I64 y := by unfold I64; omega
  have i2 : I64 a2 := by unfold I64; omega
  have i3 : I64 a3 := by unfold I64; omega
  by_cases h : x < 1 ∨ y < 0 ∨ a2 < 1
  · have e1 := jobV_out h
    have e2 : workV x y a2 a3 = 0 := by unfold workV; rw [e1]; simp; omega
    have hc : x < 1 ∨ ¬ x < 1 ∧ a2 < 1 := by omega
    clear h
    rcases hc with h | ⟨h, g⟩
    all_goals
      go_enter Try.func7, Try.ntmps7
      go_wp2_with (first | (go_at_call 8; (with_reducible refine (known12_any _).mono ?_); rintro e w1 ⟨rfl, hb⟩) | (go_at_call 9; (with_reducible refine (jobs_any _ _ _ _ i0 i1 i2).mono ?_); rintro e w2 ⟨rfl, hq⟩) | (go_at_call 10; (with_reducible refine (work_any _ _ _ _ _ i0 i1 i2 i3).mono ?_); rintro e w3 ⟨rfl, hk⟩))
      go_ret
      exact ⟨rfl, ((hb.trans hq).trans hk).b⟩
  · have h1 : 1 ≤ x := by omega
    have h2 : 1 ≤ a2 := by omega
    have k1 := jobV_bd x y a2
    have k2 := jobV_pos h
    have k3 := workV_bd x y a2 a3
    have Hw : Hid (workV x y a2 a3 = min (jobV x y a2 * max a3 0) 1000000) := hidp rfl
    have Hbig : 1099511627776 ≤ x → jobV x y a2 = 1000000 := fun g => by
      rw [jobV_in h]
      have : 1000000 ≤ (x + y + a2 - 1) / a2 := (Int.le_ediv_iff_mul_le (by omega)).2 (by omega)
      omega
    obtain ⟨J, hJ⟩ : ∃ J, jobV x y a2 = J := ⟨_, rfl⟩
    obtain ⟨K, hK⟩ : ∃ K, workV x y a2 a3 = K := ⟨_, rfl⟩
    rw [hJ] at k1 k2 Hbig
    rw [hK] at k3
    obtain ⟨k4, k5⟩ := k1
    obtain ⟨k6, k7⟩ := k3
    clear h
    have hz : a3 = 0 ∧ K = 0 ∨ (a3 == 0) = false ∧ (K == 0) = false := by
      have e := Hw.out
      rw [hK, hJ] at e
      by_cases g : a3 = 0
      · subst g; left; simp at e; omega
      · right
        have : 1 * 1 ≤ J * max a3 0 := Int.mul_le_mul (by omega) (by omega) (by omega) (by omega)
        simp; omega
    have hs : J = 1000000 ∨ x / 1099511627776 = 0 := by
      by_cases g : 1099511627776 ≤ x
      · exact .inl (Hbig g)
      · exact .inr (by omega)
    clear Hbig Hw
    rcases hz with ⟨rfl, rfl⟩ | ⟨z1, z2⟩ <;> rcases hs with rfl | hs
    all_goals
      go_enter Try.func7, Try.ntmps7
      go_wp2_with (first | (go_at_call 8; (with_reducible refine (known12_any _).mono ?_); rintro e w1 ⟨rfl, hb⟩) | (go_at_call 9; (with_reducible refine (jobs_any _ _ _ _ i0 i1 i2).mono ?_); rintro e w2 ⟨rfl, hq⟩) | (go_at_call 10; (with_reducible refine (work_any _ _ _ _ _ i0 i1 i2 i3).mono ?_); rintro e w3 ⟨rfl, hk⟩))
      all_goals
        go_ret
        exact ⟨rfl, ((hb.trans hq).trans hk).b⟩

theorem own : ownKnob Try.prog.godebug = none := by kernel_rfl
theorem laidOut : laidOutB Try.prog = true := by kernel_rfl

/-! THE ROW's STEP -/
set_option maxRecDepth 100000 in
theorem lifted (os : Os) (started : os.Started) (H : Type) (enc : TypeId × Value → H) :
    ReturnsInHanded {} Try.checked os 7 .any (Rows.countMostSpec.pre6 enc Try.prog Try.f7 Rows.countMostRow.domain false) (Rows.countMostSpec.post enc Try.prog Try.f7 false true false false) := by
  refine returnsInHanded_of_change (C := Try.checked) own started (by kernel_rfl) Try.func7
    (ChangeSpec.witness6 (enc := enc) (C := Try.checked) false ⟨#[], #[.int .u64 0, .int .u64 0, .int .u16 0, .int .u32 0], []⟩ 8 (by kernel_rfl) (by kernel_rfl) (by kernel_rfl) (by kernel_rfl)) ?_
  intro W base args ds gs before hval0 hW hcnd _
  have hval : ∀ (j : Nat) t v, Try.f7.params[j]? = some t → args[j]? = some v → Value.okWide Try.prog W .any base t v := hval0
  have hW' := hW
  obtain ⟨p, q, hA0, hV, rfl, hfz, hnd⟩ := hW
  have hA : DataW.TrodAll enc Try.prog W 0 (fun _ => true) true Try.f7.params.toList args.toList ds p := hA0
  rw [Try.params7] at hA hval
  obtain ⟨v0, vs0, d0, ds0, p0, q0, hargs, rfl, rfl, h0, r0⟩ := trodAll_cons hA
  obtain ⟨v1, vs1, d1, ds1, p1, q1, rfl, rfl, rfl, h1, r1⟩ := trodAll_cons r0
  obtain ⟨v2, vs2, d2, ds2, p2, q2, rfl, rfl, rfl, h2, r2⟩ := trodAll_cons r1
  obtain ⟨v3, vs3, d3, ds3, p3, q3, rfl, rfl, rfl, h3, r3⟩ := trodAll_cons r2
  obtain ⟨rfl, rfl, rfl⟩ := trodAll_nil r3
  obtain rfl : args = #[v0, v1, v2, v3] := by cases args; simp_all
  obtain ⟨rfl, rfl⟩ := trodVars_none hV
  obtain ⟨a0, rfl, rfl, rfl, w0⟩ := open_int Try.underlying31 (hval 0 31 v0 rfl rfl) h0
  obtain ⟨a1, rfl, rfl, rfl, w1⟩ := open_int Try.underlying31 (hval 1 31 v1 rfl rfl) h1
  obtain ⟨a2, rfl, rfl, rfl, w2⟩ := open_int Try.underlying27 (hval 2 27 v2 rfl rfl) h2
  obtain ⟨a3, rfl, rfl, rfl, w3⟩ := open_int Try.underlying32 (hval 3 32 v3 rfl rfl) h3
  clear hA0 hval0
  refine (walk a0 a1 a2 a3 W w0 w1 w2 w3).mono fun e W' ⟨he, bel⟩ => ?_
  subst he
  exact ⟨_, rfl, _, _, _, [], _, [], hW', trodAll_mk1 (shut_bool Try.underlying4 _), (trodAll_cons_mk (shut_int Try.underlying31 w0) (trodAll_cons_mk (shut_int Try.underlying31 w1) (trodAll_cons_mk (shut_int Try.underlying27 w2) (trodAll_cons_mk (shut_int Try.underlying32 w3) trodAll_mk0)))), rfl, bel.frame _, fun h => by cases h⟩

theorem over : Rows.countMostRow.holds Try.pinned (OpenSpec.ofChange Rows.countMostSpec) :=
  OpenClaim.holds_of_wide 7 Try.f7 rfl rfl rfl rfl rfl rfl rfl ⟨rfl, rfl, rfl, rfl, rfl⟩ rfl rfl rfl rfl rfl (by kernel_rfl) Try.func7 (by kernel_rfl)
    (of_decide_eq_true (by kernel_rfl)) (by unfold Func.isWrapper; first | (rw [if_pos (by decide +kernel)]; kernel_rfl) | (rw [if_neg (by decide +kernel)]; exact ⟨rfl, rfl⟩))
    (fun os started H enc _ => lifted os started H enc)

/-- THE STATEMENT -/
theorem proved : Rows.CountMostSaid := over
#print axioms proved
end Go.Proofs.Ytgkhbindabbdhaa.countMost

