/- TapeNothing: where there is nothing to choose nothing is used; without bytes the greatest is chosen. No condition. -/
import Derived.Test.YtbnncaljekifdaaKnown20
namespace Go.Proofs.Ytbnncaljekifdaa.tapeNothing
open Go.ChangeShapes Go.WideShapes Go.ChangeAt Go.RowKit
open Go.ChangeMaps (open_string shut_string)
set_option linter.unusedVariables false

/-- THE WALK: the Go text returns true, and writes nothing that was there. -/
theorem walk (a0 : Option Addr) (len0 cap0 : Nat) (z0 : List Int) (a1 : Int) (a2 : Int) (w : World) (w0 : IsRow .u8 w a0 len0 cap0 z0) (w1 : (Lit.int .i16 a1).wf = true) (w2 : (Lit.int .u8 a2).wf = true) :
    Calls Try.prog 5 #[.slice a0 len0 cap0, .int .i16 a1, .int .u8 a2] w fun e w' => e = .returned (.bool true) ∧ Below w.heap.size w w' := by
  have p1 : -32768 ≤ a1 ∧ a1 ≤ 32767 := by simp [Lit.wf, IntKind.min, IntKind.max, IntKind.signed, IntKind.bits] at w1; omega
  have p2 : 0 ≤ a2 ∧ a2 ≤ 255 := by simp [Lit.wf, IntKind.min, IntKind.max, IntKind.signed, IntKind.bits] at w2; omega
  obtain ⟨p1, p1'⟩ := p1
  obtain ⟨p2, p2'⟩ := p2
  have hr := RdB.of_row w0
  generalize z0.take len0 = bs at hr
  clear w0 w1 w2
  by_cases h50 : 50 < len0
  · go_enter Try.func5, Try.ntmps5
    go_wp2_with fail
    refine (known20_any _).mono ?_
    rintro e w1 ⟨rfl, hb1⟩
    go_wp2_with fail
    go_ret
    exact ⟨rfl, hb1⟩
  · have hl : len0 ≤ 1000000 := by omega
    go_enter Try.func5, Try.ntmps5
    go_wp2_with fail
    refine (known20_any _).mono ?_
    rintro e w1 ⟨rfl, hb1⟩
    go_wp2_with fail
    refine (tnew_any (hr.below hb1) hl).mono ?_
    rintro e w2 ⟨b, F, rfl, h, u⟩
    replace u := u.since hb1
    go_wp2_with fail
    refine (tnew_any (RdB.none_ _) (by decide)).mono ?_
    rintro e w3 ⟨b2, F2, rfl, h2, u2⟩
    have A12 := h.new u2
    replace h := h.over u2.below
    have U := u.over u2.below
    have V2 := (Up.since u.below u2).blocks
    clear u u2
    go_wp2_with fail
    refine (tpick_any (lo := a1) (hi := a1 - a2) h (by unfold I64; omega) (by unfold I64; omega) (by decide)).mono ?_
    rw [show pickV bs 0 a1 (a1 - a2) = a1 - a2 by unfold pickV; rw [if_pos (.inl (by omega))], show usedV 0 a1 (a1 - a2) = 0 by unfold usedV; rw [if_pos (by omega)]]
    rintro e w4 ⟨rfl, h4, t4⟩
    replace h2 := h2.keep t4 h.head A12
    have U4 := U.turned t4 (fun k hk => by simp at hk; subst hk; exact h.head)
    clear U h t4
    go_wp2_with fail
    refine (tpick_any (lo := a1) (hi := a1 + a2) h2 (by unfold I64; omega) (by unfold I64; omega) (by decide)).mono ?_
    rw [show pickV [] 0 a1 (a1 + a2) = a1 + a2 by unfold pickV; rw [if_pos (.inr rfl)]]
    rintro e w5 ⟨rfl, h5, t5⟩
    replace h4 := h4.keep t5 h2.head A12.symm
    have U5 : Below w.heap.size w w5 := U4.below.trans (t5.below U4.below.size (fun k hk => by simp at hk; subst hk; exact V2 _ h2.head))
    clear U4 h2 t5 V2
    by_cases h0 : 0 < a2
    · have e0 : usedV 0 a1 (a1 + a2) = 1 := by unfold usedV; rw [if_neg (by omega)]
      rw [e0] at h5
      clear e0
      go_wp2_with fail
      refine (tused_any h4).mono ?_
      rintro e w' ⟨rfl, rfl⟩
      go_wp2_with fail
      refine (tused_any h5).mono ?_
      rintro e w' ⟨rfl, rfl⟩
      go_wp2_with fail
      go_ret
      exact ⟨rfl, U5⟩
    · have e0 : usedV 0 a1 (a1 + a2) = 0 := by unfold usedV; rw [if_pos (by omega)]
      rw [e0] at h5
      clear e0
      go_wp2_with fail
      refine (tused_any h4).mono ?_
      rintro e w' ⟨rfl, rfl⟩
      go_wp2_with fail
      refine (tused_any h5).mono ?_
      rintro e w' ⟨rfl, rfl⟩
      go_wp2_with fail
      go_ret
      exact ⟨rfl, U5⟩

theorem own : ownKnob Try.prog.godebug = none := by kernel_rfl
theorem laidOut : laidOutB Try.prog = true := by kernel_rfl

/-! THE ROW's STEP -/
set_option maxRecDepth 100000 in
theorem lifted (os : Os) (started : os.Started) (H : Type) (enc : TypeId × Value → H) :
    ReturnsInHanded {} Try.checked os 5 .any (Rows.tapeNothingSpec.pre6 enc Try.prog Try.f5 Rows.tapeNothingRow.domain false) (Rows.tapeNothingSpec.post enc Try.prog Try.f5 false true false false) := by
  refine returnsInHanded_of_change (C := Try.checked) own started (by kernel_rfl) Try.func5
    (ChangeSpec.witness6 (enc := enc) (C := Try.checked) false ⟨#[], #[.slice none 0 0, .int .i16 0, .int .u8 0], []⟩ 8 (by kernel_rfl) (by kernel_rfl) (by kernel_rfl) (by kernel_rfl)) ?_
  intro W base args ds gs before hval0 hW hcnd _
  have hval : ∀ (j : Nat) t v, Try.f5.params[j]? = some t → args[j]? = some v → Value.okWide Try.prog W .any base t v := hval0
  have hW' := hW
  obtain ⟨p, q, hA0, hV, rfl, hfz, hnd⟩ := hW
  have hA : DataW.TrodAll enc Try.prog W 0 (fun _ => true) true Try.f5.params.toList args.toList ds p := hA0
  rw [Try.params5] at hA hval
  obtain ⟨v0, vs0, d0, ds0, p0, q0, hargs, rfl, rfl, h0, r0⟩ := trodAll_cons hA
  obtain ⟨v1, vs1, d1, ds1, p1, q1, rfl, rfl, rfl, h1, r1⟩ := trodAll_cons r0
  obtain ⟨v2, vs2, d2, ds2, p2, q2, rfl, rfl, rfl, h2, r2⟩ := trodAll_cons r1
  obtain ⟨rfl, rfl, rfl⟩ := trodAll_nil r2
  obtain rfl : args = #[v0, v1, v2] := by cases args; simp_all
  obtain ⟨rfl, rfl⟩ := trodVars_none hV
  obtain ⟨a0, len0, cap0, rfl⟩ := okWide_slice Try.underlying22 (hval 0 22 v0 rfl rfl)
  have k0 := h0
  have lt0 : ∀ x ∈ p0, x.block < W.heap.size := by obtain ⟨m, hm⟩ := k0; exact DataW.trod_lt m _ _ _ hm
  obtain ⟨z0, w0⟩ : ∃ zs, IsRow .u8 W a0 len0 cap0 zs := by
    obtain ⟨fuel, hf⟩ := h0
    rcases open_ints Try.underlying22 Try.underlying5 (by kernel_rfl) hf with ⟨hcs, _⟩ | ⟨x, l, c, zs, hcs, _, hl, hm, hz, _, hcell, hwz⟩
    · simp [Value.cells] at hcs
      obtain ⟨rfl, rfl, rfl⟩ := hcs
      exact ⟨[], .inl ⟨rfl, rfl, rfl, rfl⟩⟩
    · simp [Value.cells] at hcs
      obtain ⟨rfl, rfl, rfl⟩ := hcs
      exact ⟨zs, .inr ⟨_, rfl, hl, hm, by simpa using hz, hcell, hwz⟩⟩
  obtain ⟨a1, rfl, rfl, rfl, w1⟩ := open_int Try.underlying34 (hval 1 34 v1 rfl rfl) h1
  obtain ⟨a2, rfl, rfl, rfl, w2⟩ := open_int Try.underlying5 (hval 2 5 v2 rfl rfl) h2
  clear hA0 hval0
  refine (walk a0 len0 cap0 z0 a1 a2 W w0 w1 w2).mono fun e W' ⟨he, bel⟩ => ?_
  subst he
  exact ⟨_, rfl, _, _, _, [], _, [], hW', trodAll_mk1 (shut_bool Try.underlying4 _), (trodAll_cons_mk (Below.trod laidOut (by kernel_rfl) (of_decide_eq_true (by kernel_rfl)) k0 bel lt0) (trodAll_cons_mk (shut_int Try.underlying34 w1) (trodAll_cons_mk (shut_int Try.underlying5 w2) trodAll_mk0))), rfl, bel.frame _, fun h => by cases h⟩

theorem over : Rows.tapeNothingRow.holds Try.pinned (OpenSpec.ofChange Rows.tapeNothingSpec) :=
  OpenClaim.holds_of_wide 5 Try.f5 rfl rfl rfl rfl rfl rfl rfl ⟨rfl, rfl, rfl, rfl, rfl⟩ rfl rfl rfl rfl rfl (by kernel_rfl) Try.func5 (by kernel_rfl)
    (of_decide_eq_true (by kernel_rfl)) (by unfold Func.isWrapper; first | (rw [if_pos (by decide +kernel)]; kernel_rfl) | (rw [if_neg (by decide +kernel)]; exact ⟨rfl, rfl⟩))
    (fun os started H enc _ => lifted os started H enc)

/-- THE STATEMENT -/
theorem proved : Rows.TapeNothingSaid := over
#print axioms proved
end Go.Proofs.Ytbnncaljekifdaa.tapeNothing

