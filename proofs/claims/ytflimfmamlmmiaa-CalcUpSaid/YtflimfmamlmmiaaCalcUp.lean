/- CalcUp: of small numbers what is rounded up is what counting tells, whatever their signs; by 0 there is none. No condition. -/
import Derived.Test.YtflimfmamlmmiaaKnown
import Derived.Test.YtflimfmamlmmiaaCalcNums
import Derived.Deep.LoopGhost
namespace Go.Proofs.Ytflimfmamlmmiaa.calcUp
open Go.ChangeShapes Go.WideShapes Go.ChangeAt Go.RowKit
open Go.ChangeMaps (open_string shut_string)
set_option linter.unusedVariables false

/-- THE WALK: the Go text returns true, and writes nothing that was there. -/
theorem walk (a0 : Int) (a1 : Int) (w : World) (w0 : (Lit.int .i16 a0).wf = true) (w1 : (Lit.int .i8 a1).wf = true) :
    Calls Try.prog 8 #[.int .i16 a0, .int .i8 a1] w fun e w' => e = .returned (.bool true) ∧ Below w.heap.size w w' := by
  have b0 : -32768 ≤ a0 ∧ a0 ≤ 32767 := by simp [Lit.wf, IntKind.min, IntKind.max, IntKind.signed, IntKind.bits] at w0; omega
  have b1 : -128 ≤ a1 ∧ a1 ≤ 127 := by simp [Lit.wf, IntKind.min, IntKind.max, IntKind.signed, IntKind.bits] at w1; omega
  obtain ⟨p1, p2⟩ := b0
  obtain ⟨q1, q2⟩ := b1
  have i0 : I64 a0 := by unfold I64; omega
  have i1 : I64 a1 := by unfold I64; omega
  clear w0 w1
  by_cases h0 : a1 = 0
  · subst h0
    have u1 : upR a0 0 = 0 := rfl
    have u2 : upK a0 0 = false := rfl
    go_enter Try.func8, Try.ntmps8
    go_wp2_with (first | (go_at_call 10; (with_reducible refine (known_any _).mono ?_); rintro e w1 ⟨rfl, hb⟩) | (go_at_call 13; (with_reducible refine (up_any _ _ _ i0 i1).mono ?_); rintro e w' ⟨rfl, _, rfl⟩))
    go_ret
    exact ⟨rfl, below_drewN hb _⟩
  · have c0 : (a1 == 0) = false := by simpa using h0
    obtain ⟨p, q, hpq⟩ : ∃ p q : Int, (a1 < 0 ∧ p = -a0 ∧ q = -a1) ∨ (0 < a1 ∧ p = a0 ∧ q = a1) := by
      by_cases h : a1 < 0
      · exact ⟨-a0, -a1, .inl ⟨h, rfl, rfl⟩⟩
      · exact ⟨a0, a1, .inr ⟨by omega, rfl, rfl⟩⟩
    have hq : 0 < q := by omega
    have hv : upV a0 a1 = upV p q := by
      rcases hpq with ⟨_, rfl, rfl⟩ | ⟨_, rfl, rfl⟩
      · exact (upV_neg h0).symm
      · rfl
    have hsm := upV_small (p := p) (q := q) (by omega) (by omega)
    have hen := upV_enough (p := p) hq
    have hi : I64 (upV p q) := by unfold I64; omega
    have u1 : upR a0 a1 = upV p q := by rw [upR, if_neg h0, hv, fitR_in hi]
    have u2 : upK a0 a1 = true := by rw [upK, if_neg h0, hv, fitK_in hi]
    obtain ⟨d, hd⟩ : ∃ d, p.tdiv q = d := ⟨_, rfl⟩
    obtain ⟨u, hu⟩ : ∃ u, upV p q = u := ⟨_, rfl⟩
    obtain ⟨m, hm⟩ : ∃ m, wrap64 (u * q) = m := ⟨_, rfl⟩
    obtain ⟨k, hk⟩ : ∃ k, wrap64 ((u - 1) * q) = k := ⟨_, rfl⟩
    have hmi := upV_mul_small (p := p) (q := q) (by omega) (by omega)
    have m1 : p ≤ m := by rw [← hm, ← hu, IntWalk.wrap64_in _ hmi.1]; exact hen.1
    have k1 : k < p := by rw [← hk, ← hu, IntWalk.wrap64_in _ hmi.2]; exact hen.2
    have hdb : p.tdiv q = d → -32768 ≤ d ∧ d ≤ 32768 := by
      intro e; have := tdiv_abs p q; have : p.natAbs / q.natAbs ≤ p.natAbs := Nat.div_le_self _ _; omega
    obtain ⟨d1, d2⟩ := hdb hd
    have hdu : d = u ∨ Hid (d + 1 = u) ∧ ∃ z, wrap64 (d * q) = z ∧ z < p := by
      rw [← hd, ← hu]
      by_cases g : p.tmod q ≠ 0 ∧ (0 < p ↔ 0 < q)
      · refine .inr ⟨hidp (by unfold upV; rw [if_pos g]), _, rfl, ?_⟩
        have e := hen.2
        unfold upV at e
        rw [if_pos g, Int.add_sub_cancel] at e
        rw [IntWalk.wrap64_in _ ?_]
        · exact e
        · have := hmi.2; unfold upV at this; rw [if_pos g, Int.add_sub_cancel] at this; exact this
      · refine .inl ?_
        unfold upV; rw [if_neg g]; omega
    rw [hu] at u1 hsm
    obtain ⟨s1, s2⟩ := hsm
    clear hmi hen hdb hi hv hu
    rcases hpq with ⟨hs, hp0, hq0⟩ | ⟨hs, rfl, rfl⟩
    · have hp := hp0.symm
      have hq1 := hq0.symm
      clear hp0 hq0
      go_enter Try.func8, Try.ntmps8
      go_wp2_with (first | (go_at_call 10; (with_reducible refine (known_any _).mono ?_); rintro e w1 ⟨rfl, hb⟩) | (go_at_call 13; (with_reducible refine (up_any _ _ _ i0 i1).mono ?_); rintro e w' ⟨rfl, _, rfl⟩))
      go_loopg [9] 1 (fun g m wr => ∃ x : Int, m = .int .i64 x ∧ (u = x ∨ d = x ∧ g = 1 ∧ Hid (d + 1 = u) ∧ ∃ z, wrap64 (d * q) = z ∧ z < p) ∧ Below w.heap.size w wr)
      case atStart => exact ⟨d, rfl, by rcases hdu with rfl | ⟨e1, e2⟩; exact .inl rfl; exact .inr ⟨rfl, rfl, e1, e2⟩, below_drewN hb _⟩
      case round =>
        obtain ⟨x, rfl, hx, hbw⟩ := hrel
        rcases hx with rfl | ⟨rfl, hg, hd1, z, hz, hzp⟩
        · clear hdu
          go_wp2
          go_loopg [9] 0 (fun g m wr => m = .int .i64 u ∧ Below w.heap.size w wr)
          case atStart => exact ⟨rfl, hbw⟩
          case round =>
            obtain ⟨rfl, hbw⟩ := hrel
            go_wp2
            go_ret
            exact ⟨rfl, hbw⟩
        · clear hdu
          go_wp2
          go_roundg 0
          case measure => omega
          case rel => exact ⟨u, by rw [hd1.out], .inl rfl, hbw⟩
    · go_enter Try.func8, Try.ntmps8
      go_wp2_with (first | (go_at_call 10; (with_reducible refine (known_any _).mono ?_); rintro e w1 ⟨rfl, hb⟩) | (go_at_call 13; (with_reducible refine (up_any _ _ _ i0 i1).mono ?_); rintro e w' ⟨rfl, _, rfl⟩))
      go_loopg [9] 1 (fun g m wr => ∃ x : Int, m = .int .i64 x ∧ (u = x ∨ d = x ∧ g = 1 ∧ Hid (d + 1 = u) ∧ ∃ z, wrap64 (d * q) = z ∧ z < p) ∧ Below w.heap.size w wr)
      case atStart => exact ⟨d, rfl, by rcases hdu with rfl | ⟨e1, e2⟩; exact .inl rfl; exact .inr ⟨rfl, rfl, e1, e2⟩, below_drewN hb _⟩
      case round =>
        obtain ⟨x, rfl, hx, hbw⟩ := hrel
        rcases hx with rfl | ⟨rfl, hg, hd1, z, hz, hzp⟩
        · clear hdu
          go_wp2
          go_loopg [9] 0 (fun g m wr => m = .int .i64 u ∧ Below w.heap.size w wr)
          case atStart => exact ⟨rfl, hbw⟩
          case round =>
            obtain ⟨rfl, hbw⟩ := hrel
            go_wp2
            go_ret
            exact ⟨rfl, hbw⟩
        · clear hdu
          go_wp2
          go_roundg 0
          case measure => omega
          case rel => exact ⟨u, by rw [hd1.out], .inl rfl, hbw⟩

theorem own : ownKnob Try.prog.godebug = none := by kernel_rfl
theorem laidOut : laidOutB Try.prog = true := by kernel_rfl

/-! THE ROW's STEP -/
set_option maxRecDepth 100000 in
theorem lifted (os : Os) (started : os.Started) (H : Type) (enc : TypeId × Value → H) :
    ReturnsInHanded {} Try.checked os 8 .any (Rows.calcUpSpec.pre6 enc Try.prog Try.f8 Rows.calcUpRow.domain false) (Rows.calcUpSpec.post enc Try.prog Try.f8 false true false false) := by
  refine returnsInHanded_of_change (C := Try.checked) own started (by kernel_rfl) Try.func8
    (ChangeSpec.witness6 (enc := enc) (C := Try.checked) false ⟨#[], #[.int .i16 0, .int .i8 0], []⟩ 8 (by kernel_rfl) (by kernel_rfl) (by kernel_rfl) (by kernel_rfl)) ?_
  intro W base args ds gs before hval0 hW hcnd _
  have hval : ∀ (j : Nat) t v, Try.f8.params[j]? = some t → args[j]? = some v → Value.okWide Try.prog W .any base t v := hval0
  have hW' := hW
  obtain ⟨p, q, hA0, hV, rfl, hfz, hnd⟩ := hW
  have hA : DataW.TrodAll enc Try.prog W 0 (fun _ => true) true Try.f8.params.toList args.toList ds p := hA0
  rw [Try.params8] at hA hval
  obtain ⟨v0, vs0, d0, ds0, p0, q0, hargs, rfl, rfl, h0, r0⟩ := trodAll_cons hA
  obtain ⟨v1, vs1, d1, ds1, p1, q1, rfl, rfl, rfl, h1, r1⟩ := trodAll_cons r0
  obtain ⟨rfl, rfl, rfl⟩ := trodAll_nil r1
  obtain rfl : args = #[v0, v1] := by cases args; simp_all
  obtain ⟨rfl, rfl⟩ := trodVars_none hV
  obtain ⟨a0, rfl, rfl, rfl, w0⟩ := open_int Try.underlying33 (hval 0 33 v0 rfl rfl) h0
  obtain ⟨a1, rfl, rfl, rfl, w1⟩ := open_int Try.underlying34 (hval 1 34 v1 rfl rfl) h1
  clear hA0 hval0
  refine (walk a0 a1 W w0 w1).mono fun e W' ⟨he, bel⟩ => ?_
  subst he
  exact ⟨_, rfl, _, _, _, [], _, [], hW', trodAll_mk1 (shut_bool Try.underlying4 _), (trodAll_cons_mk (shut_int Try.underlying33 w0) (trodAll_cons_mk (shut_int Try.underlying34 w1) trodAll_mk0)), rfl, bel.frame _, fun h => by cases h⟩

theorem over : Rows.calcUpRow.holds Try.pinned (OpenSpec.ofChange Rows.calcUpSpec) :=
  OpenClaim.holds_of_wide 8 Try.f8 rfl rfl rfl rfl rfl rfl rfl ⟨rfl, rfl, rfl, rfl, rfl⟩ rfl rfl rfl rfl rfl (by kernel_rfl) Try.func8 (by kernel_rfl)
    (of_decide_eq_true (by kernel_rfl)) (by unfold Func.isWrapper; first | (rw [if_pos (by decide +kernel)]; kernel_rfl) | (rw [if_neg (by decide +kernel)]; exact ⟨rfl, rfl⟩))
    (fun os started H enc _ => lifted os started H enc)

/-- THE STATEMENT -/
theorem proved : Rows.CalcUpSaid := over
#print axioms proved
end Go.Proofs.Ytflimfmamlmmiaa.calcUp

