/- TapeBetween: whatever is chosen lies between; each number near may be; the bytes go round and round. No condition. -/
import Derived.Test.YtbnncaljekifdaaKnown20
set_option maxHeartbeats 1000000
namespace Go.Proofs.Ytbnncaljekifdaa.tapeBetween
open Go.ChangeShapes Go.WideShapes Go.ChangeAt Go.RowKit
open Go.ChangeMaps (open_string shut_string)
set_option linter.unusedVariables false

/-- THE WALK: the Go text returns true, and writes nothing that was there. -/
theorem walk (a0 : Option Addr) (len0 cap0 : Nat) (z0 : List Int) (a1 : Int) (a2 : Int) (w : World) (w0 : IsRow .u8 w a0 len0 cap0 z0) (w1 : (Lit.int .i16 a1).wf = true) (w2 : (Lit.int .u8 a2).wf = true) :
    Calls Try.prog 4 #[.slice a0 len0 cap0, .int .i16 a1, .int .u8 a2] w fun e w' => e = .returned (.bool true) ∧ Below w.heap.size w w' := by
  have p1 : -32768 ≤ a1 ∧ a1 ≤ 32767 := by simp [Lit.wf, IntKind.min, IntKind.max, IntKind.signed, IntKind.bits] at w1; omega
  have p2 : 0 ≤ a2 ∧ a2 ≤ 255 := by simp [Lit.wf, IntKind.min, IntKind.max, IntKind.signed, IntKind.bits] at w2; omega
  obtain ⟨p1, p1'⟩ := p1
  obtain ⟨p2, p2'⟩ := p2
  have hr := RdB.of_row w0
  generalize z0.take len0 = bs at hr
  clear w0 w1 w2
  by_cases h50 : 50 < len0
  · go_enter Try.func4, Try.ntmps4
    go_wp2_with fail
    refine (known20_any _).mono ?_
    rintro e w1 ⟨rfl, hb1⟩
    go_wp2_with fail
    go_ret
    exact ⟨rfl, hb1⟩
  · by_cases h0 : len0 = 0
    · subst h0
      go_enter Try.func4, Try.ntmps4
      go_wp2_with fail
      refine (known20_any _).mono ?_
      rintro e w1 ⟨rfl, hb1⟩
      go_wp2_with fail
      go_ret
      exact ⟨rfl, hb1⟩
    · have hl : len0 ≤ 1000000 := by omega
      have hn0 : ((len0 : Int) == 0) = false := by rw [beq_eq_false_iff_ne]; omega
      have hn1 : ¬ (len0 : Int) = 0 := by omega
      have hn2 : 0 < len0 := by omega
      obtain ⟨W, HW, q1, q2⟩ : ∃ W : Int, Hid (a2 % 40 + 1 = W) ∧ 1 ≤ W ∧ W ≤ 40 := ⟨_, rfl, by omega, by omega⟩
      have HL := hidp hr.len
      go_enter Try.func4, Try.ntmps4
      go_wp2_with fail
      refine (known20_any _).mono ?_
      rintro e w1 ⟨rfl, hb1⟩
      go_wp2_with fail
      rw [HW.out]
      refine (tnew_any (hr.below hb1) hl).mono ?_
      rintro e w2 ⟨b, F, rfl, h, u⟩
      replace u := u.since hb1
      go_wp2_with fail
      go_loopg [10] (2 * len0) (fun g i wr => ∃ k : Nat, k + g = 2 * len0 ∧ i = .int .i64 k ∧ Tp wr b bs k F ∧ Up w.heap.size w wr F)
      case atStart => exact ⟨0, by omega, rfl, h, u⟩
      case round =>
        obtain ⟨k, hk, rfl, h, u⟩ := hrel
        by_cases hlt : k < 2 * len0
        · have hlt' : (k : Int) < 2 * (len0 : Int) := by omega
          obtain ⟨p, Hp, hp⟩ : ∃ p : Nat, Hid (k % bs.length = p) ∧ p < len0 := ⟨_, hidp rfl, by rw [← HL.out]; exact Nat.mod_lt _ hn2⟩
          obtain ⟨x, HX⟩ : ∃ x, Hid (bs.getD p 0 = x) := ⟨_, rfl⟩
          obtain ⟨x1, x2⟩ : 0 ≤ x ∧ x ≤ 255 := by
            have := HX.out
            have hpl : p < bs.length := by rw [← HL.out]; exact hp
            simp only [List.getD, List.getElem?_eq_getElem hpl, Option.getD_some] at this
            rw [← this]; exact hr.fit _ (List.getElem_mem hpl)
          obtain ⟨r, Hr, r1, r2⟩ : ∃ r, Hid (x % (W + 1) = r) ∧ 0 ≤ r ∧ r ≤ W := ⟨_, hidp rfl, Int.emod_nonneg x (by omega), by have := Int.emod_lt_of_pos x (show 0 < W + 1 by omega); omega⟩
          have hpick : pickV bs k a1 (a1 + W) = a1 + r := by
            have hb : bs ≠ [] := by intro e; subst e; have := HL.out; simp at this; omega
            unfold pickV
            rw [if_neg (by simp [hb]; omega), Hp.out, HX.out]
            unfold pickI
            have : spanV a1 (a1 + W) = W := by
              unfold spanV; rw [show a1 + W - a1 = W by omega, IntWalk.wrap64_in _ (by omega)]; unfold clipV
              rw [if_neg (by omega), if_neg (by omega)]
            rw [this, Hr.out]
          have huse : usedV k a1 (a1 + W) = k + 1 := by unfold usedV; rw [if_neg (by omega)]
          go_wp2_with fail
          refine (tpick_any (lo := a1) (hi := a1 + W) h (by unfold I64; omega) (by unfold I64; omega) (by omega)).mono ?_
          rw [hpick, huse]
          rintro e w3 ⟨rfl, h3, t3⟩
          have u3 := u.turned t3 (fun k hk => by simp at hk; subst hk; exact h.head)
          clear hpick huse h u t3
          obtain ⟨g0, off, rfl, hc⟩ := (hr.row.below u3.below).resolve_left (by intro e; subst e; have := HL.out; simp at this; omega)
          have hc2 : w3.cell? ⟨g0, off + p, none⟩ = some (.int .u8 x) := HX.out ▸ hc p (by rw [← HL.out]; exact hp)
          clear hc
          have hkp : (k : Int) % (len0 : Int) = (p : Int) := by rw [← Hp.out, ← HL.out]; exact (Int.natCast_emod k len0).symm
          have hr' := Hr.out
          go_wp2_with fail
          go_roundg (gk - 1)
          case measure => omega
          case rel => exact ⟨k + 1, by omega, by go_num, h3, u3⟩
        · obtain rfl : k = 2 * len0 := by omega
          go_wp2_with fail
          refine (tused_any h).mono ?_
          rintro e w' ⟨rfl, rfl⟩
          go_wp2_with fail
          go_ret
          exact ⟨rfl, u.below⟩

theorem own : ownKnob Try.prog.godebug = none := by kernel_rfl
theorem laidOut : laidOutB Try.prog = true := by kernel_rfl

/-! THE ROW's STEP -/
set_option maxRecDepth 100000 in
theorem lifted (os : Os) (started : os.Started) (H : Type) (enc : TypeId × Value → H) :
    ReturnsInHanded {} Try.checked os 4 .any (Rows.tapeBetweenSpec.pre6 enc Try.prog Try.f4 Rows.tapeBetweenRow.domain false) (Rows.tapeBetweenSpec.post enc Try.prog Try.f4 false true false false) := by
  refine returnsInHanded_of_change (C := Try.checked) own started (by kernel_rfl) Try.func4
    (ChangeSpec.witness6 (enc := enc) (C := Try.checked) false ⟨#[], #[.slice none 0 0, .int .i16 0, .int .u8 0], []⟩ 8 (by kernel_rfl) (by kernel_rfl) (by kernel_rfl) (by kernel_rfl)) ?_
  intro W base args ds gs before hval0 hW hcnd _
  have hval : ∀ (j : Nat) t v, Try.f4.params[j]? = some t → args[j]? = some v → Value.okWide Try.prog W .any base t v := hval0
  have hW' := hW
  obtain ⟨p, q, hA0, hV, rfl, hfz, hnd⟩ := hW
  have hA : DataW.TrodAll enc Try.prog W 0 (fun _ => true) true Try.f4.params.toList args.toList ds p := hA0
  rw [Try.params4] at hA hval
  obtain ⟨v0, vs0, d0, ds0, p0, q0, hargs, rfl, rfl, h0, r0⟩ := trodAll_cons hA
  obtain ⟨v1, vs1, d1, ds1, p1, q1, rfl, rfl, rfl, h1, r1⟩ := trodAll_cons r0
  obtain ⟨v2, vs2, d2, ds2, p2, q2, rfl, rfl, rfl, h2, r2⟩ := trodAll_cons r1
  obtain ⟨rfl, rfl, rfl⟩ := trodAll_nil r2
  obtain rfl : args = #[v0, v1, v2] := by cases args; simp_all
  obtain ⟨rfl, rfl⟩ := trodVars_none hV
  obtain ⟨a0, len0, cap0, rfl⟩ := okWide_slice Try.underlying22 (hval 0 22 v0 rfl rfl)
  have k0 := h0
  have lt0 : ∀ x ∈ p0, x.block < W.heap.size := by obtain ⟨m, hm⟩ := k0; exact DataW.trod_lt m _ _ _ hm
  obtain ⟨z0, w0⟩ : ∃ zs, IsRow .u8 W a0 len0 cap0 zs := by
    obtain ⟨fuel, hf⟩ := h0
    rcases open_ints Try.underlying22 Try.underlying5 (by kernel_rfl) hf with ⟨hcs, _⟩ | ⟨x, l, c, zs, hcs, _, hl, hm, hz, _, hcell, hwz⟩
    · simp [Value.cells] at hcs
      obtain ⟨rfl, rfl, rfl⟩ := hcs
      exact ⟨[], .inl ⟨rfl, rfl, rfl, rfl⟩⟩
    · simp [Value.cells] at hcs
      obtain ⟨rfl, rfl, rfl⟩ := hcs
      exact ⟨zs, .inr ⟨_, rfl, hl, hm, by simpa using hz, hcell, hwz⟩⟩
  obtain ⟨a1, rfl, rfl, rfl, w1⟩ := open_int Try.underlying34 (hval 1 34 v1 rfl rfl) h1
  obtain ⟨a2, rfl, rfl, rfl, w2⟩ := open_int Try.underlying5 (hval 2 5 v2 rfl rfl) h2
  clear hA0 hval0
  refine (walk a0 len0 cap0 z0 a1 a2 W w0 w1 w2).mono fun e W' ⟨he, bel⟩ => ?_
  subst he
  exact ⟨_, rfl, _, _, _, [], _, [], hW', trodAll_mk1 (shut_bool Try.underlying4 _), (trodAll_cons_mk (Below.trod laidOut (by kernel_rfl) (of_decide_eq_true (by kernel_rfl)) k0 bel lt0) (trodAll_cons_mk (shut_int Try.underlying34 w1) (trodAll_cons_mk (shut_int Try.underlying5 w2) trodAll_mk0))), rfl, bel.frame _, fun h => by cases h⟩

theorem over : Rows.tapeBetweenRow.holds Try.pinned (OpenSpec.ofChange Rows.tapeBetweenSpec) :=
  OpenClaim.holds_of_wide 4 Try.f4 rfl rfl rfl rfl rfl rfl rfl ⟨rfl, rfl, rfl, rfl, rfl⟩ rfl rfl rfl rfl rfl (by kernel_rfl) Try.func4 (by kernel_rfl)
    (of_decide_eq_true (by kernel_rfl)) (by unfold Func.isWrapper; first | (rw [if_pos (by decide +kernel)]; kernel_rfl) | (rw [if_neg (by decide +kernel)]; exact ⟨rfl, rfl⟩))
    (fun os started H enc _ => lifted os started H enc)

/-- THE STATEMENT -/
theorem proved : Rows.TapeBetweenSaid := over
#print axioms proved
end Go.Proofs.Ytbnncaljekifdaa.tapeBetween

