/- SortedOnes: put in one by one a row is as sorted at once. No condition. -/
import Derived.Test.YtjbjkegjcpplaaaSortNums
set_option maxHeartbeats 1000000
namespace Go.Proofs.Ytjbjkegjcpplaaa.sortedOnes
open Go.ChangeShapes Go.WideShapes Go.ChangeAt Go.RowKit
open Go.ChangeMaps (open_string shut_string)
set_option linter.unusedVariables false

/-- THE WALK: the Go text returns true, and writes nothing that was there. -/
theorem walk (a0 : Option Addr) (len0 cap0 : Nat) (z0 : List (Int × Int)) (w : World) (w0 : IsPairs w a0 len0 cap0 z0) :
    Calls Try.prog 6 #[.slice a0 len0 cap0] w fun e w' => e = .returned (.bool true) ∧ Below w.heap.size w w' := by
  have hpr := RdI.of_pairs w0
  have hrow := w0.row
  obtain ⟨hl, hlc, hcm, hfit, _, _⟩ := hrow
  clear w0
  unfold maxLen at hcm
  obtain ⟨ps, Hps⟩ : ∃ ps, Hid (z0 = ps) := ⟨_, rfl⟩
  rw [Hps.out] at hl hpr hfit
  by_cases h40 : 40 < len0
  · clear hpr hl
    go_enter Try.func6, Try.ntmps6
    go_wp2_with fail
    refine (known2_any _).mono ?_
    rintro e w1 ⟨rfl, hb1⟩
    go_wp2_with fail
    go_ret
    exact ⟨rfl, hb1⟩
  · have HL := hidp hl
    clear hl
    have Hpr := hidp hpr
    clear hpr
    have Hfit := hidp hfit
    clear hfit
    go_enter Try.func6, Try.ntmps6
    go_wp2_with fail
    refine (known2_any _).mono ?_
    rintro e w1 ⟨rfl, hb1⟩
    go_wp2_with fail
    go_loopg [3, 4] len0 (fun g s i wr => ∃ (k : Nat) (D : Option Addr) (d : Nat), k + g = len0 ∧ i = .int .i64 k ∧ s = .slice D k d ∧ RdI wr D k d (isort (ps.take k)) ∧ Below w.heap.size w wr)
    case atStart => exact ⟨0, none, 0, by omega, rfl, rfl, ⟨.inl rfl, rfl, ⟨by simp [isort], by decide⟩, fun _ => ⟨by simp [isort], rfl⟩, by simp [isort]⟩, hb1⟩
    case round =>
      obtain ⟨k, D, d, hk, rfl, rfl, r, hbe⟩ := hrel
      by_cases hlt : k < len0
      · have hkp : k < ps.length := by rw [HL.out]; exact hlt
        have hR := Hpr.out.over hbe
        obtain ⟨g, off, rfl⟩ := hR.some_ (by omega)
        obtain ⟨a1, a2⟩ := hR.cells hkp
        obtain ⟨x, HX⟩ : ∃ x, Hid (ps.getD k (0, 0) = x) := ⟨_, rfl⟩
        have hx := Hfit.out (ps.getD k (0, 0)) (by simp [List.getD, hkp])
        rw [HX.out] at a1 a2 hx
        obtain ⟨x1, x2⟩ := x
        simp only at a1 a2 hx
        have e1 : Hid (ins (isort (isort (ps.take k))) (x1, x2) = isort (ps.take (k + 1))) := hidp (by
          rw [isort_id (isort_srt _)]
          have : ps.take (k + 1) = ps.take k ++ [(x1, x2)] := by rw [List.take_succ_eq_append_getElem hkp, ← HX.out]; simp [List.getD, hkp]
          rw [this, isort_snoc])
        clear hR
        go_wp2_with fail
        refine (sput_any r (by omega) hx).mono ?_
        rintro e w2 ⟨D2, d2, rfl, o2, hb2⟩
        rw [e1.out] at o2
        have r2 := RdI.of_own o2
        have hbe2 := hbe.trans (hb2.mono hbe.size)
        clear r o2 hb2 a1 a2
        go_wp2_with fail
        refine (is_any r2 (by omega)).mono ?_
        rintro e w3 ⟨rfl, hb3⟩
        rw [isB_yes (isort_srt _)]
        have r3 := r2.over hb3
        have hbe3 := hbe2.trans (hb3.mono hbe2.size)
        clear r2 hb3
        go_wp2_with fail
        go_roundg (gk - 1)
        case measure => omega
        case rel => exact ⟨k + 1, D2, d2, by omega, by go_num, rfl, r3, hbe3⟩
      · obtain rfl : k = len0 := by omega
        rw [List.take_of_length_le (by rw [HL.out]; exact Nat.le_refl _)] at r
        go_wp2_with fail
        refine (sort_any (Hpr.out.over hbe) (by have := HL.out; omega)).mono ?_
        rintro e w2 ⟨D2, d2, rfl, o2, hb2⟩
        have r2 := RdI.of_own o2
        have r1 := r.over hb2
        have hbe2 := hbe.trans (hb2.mono hbe.size)
        clear r o2 hb2
        go_wp2_with fail
        refine (same_any r1 r2 (by omega)).mono ?_
        rintro e w3 ⟨rfl, hb3⟩
        have r3 := r1.over hb3
        have hbe3 := hbe2.trans (hb3.mono hbe2.size)
        clear r1 r2 hb3
        go_wp2_with fail
        refine (sort_any r3 (by omega)).mono ?_
        rintro e w4 ⟨D4, d4, rfl, o4, hb4⟩
        rw [isort_id (isort_srt _)] at o4
        have r4 := RdI.of_own o4
        have r5 := r3.over hb4
        have hbe4 := hbe3.trans (hb4.mono hbe3.size)
        clear r3 o4 hb4
        go_wp2_with fail
        refine (same_any r4 r5 (by omega)).mono ?_
        rintro e w5 ⟨rfl, hb5⟩
        go_wp2_with fail
        go_ret
        exact ⟨rfl, hbe4.trans (hb5.mono hbe4.size)⟩

theorem own : ownKnob Try.prog.godebug = none := by kernel_rfl
theorem laidOut : laidOutB Try.prog = true := by kernel_rfl

/-! THE ROW's STEP -/
set_option maxRecDepth 100000 in
theorem lifted (os : Os) (started : os.Started) (H : Type) (enc : TypeId × Value → H) :
    ReturnsInHanded {} Try.checked os 6 .any (Rows.sortedOnesSpec.pre6 enc Try.prog Try.f6 Rows.sortedOnesRow.domain false) (Rows.sortedOnesSpec.post enc Try.prog Try.f6 false true false false) := by
  refine returnsInHanded_of_change (C := Try.checked) own started (by kernel_rfl) Try.func6
    (ChangeSpec.witness6 (enc := enc) (C := Try.checked) false ⟨#[], #[.slice none 0 0], []⟩ 8 (by kernel_rfl) (by kernel_rfl) (by kernel_rfl) (by kernel_rfl)) ?_
  intro W base args ds gs before hval0 hW hcnd _
  have hval : ∀ (j : Nat) t v, Try.f6.params[j]? = some t → args[j]? = some v → Value.okWide Try.prog W .any base t v := hval0
  have hW' := hW
  obtain ⟨p, q, hA0, hV, rfl, hfz, hnd⟩ := hW
  have hA : DataW.TrodAll enc Try.prog W 0 (fun _ => true) true Try.f6.params.toList args.toList ds p := hA0
  rw [Try.params6] at hA hval
  obtain ⟨v0, vs0, d0, ds0, p0, q0, hargs, rfl, rfl, h0, r0⟩ := trodAll_cons hA
  obtain ⟨rfl, rfl, rfl⟩ := trodAll_nil r0
  obtain rfl : args = #[v0] := by cases args; simp_all
  obtain ⟨rfl, rfl⟩ := trodVars_none hV
  obtain ⟨a0, len0, cap0, rfl⟩ := okWide_slice Try.underlying22 (hval 0 22 v0 rfl rfl)
  have k0 := h0
  have lt0 : ∀ x ∈ p0, x.block < W.heap.size := by obtain ⟨m, hm⟩ := k0; exact DataW.trod_lt m _ _ _ hm
  obtain ⟨z0, w0⟩ : ∃ zs, IsPairs W a0 len0 cap0 zs := by
    obtain ⟨fuel, hf⟩ := h0
    obtain ⟨x1, x2, x3, zs, hcs, hz⟩ := open_pairs Try.underlying22 Try.underlying24 (by kernel_rfl) rfl rfl (by kernel_rfl) (by kernel_rfl) Try.underlying3 Try.underlying3 hf
    simp [Value.cells] at hcs
    obtain ⟨rfl, rfl, rfl⟩ := hcs
    exact ⟨zs, hz⟩
  clear hA0 hval0
  refine (walk a0 len0 cap0 z0 W w0).mono fun e W' ⟨he, bel⟩ => ?_
  subst he
  exact ⟨_, rfl, _, _, _, [], _, [], hW', trodAll_mk1 (shut_bool Try.underlying4 _), (trodAll_cons_mk (Below.trod laidOut (by kernel_rfl) (of_decide_eq_true (by kernel_rfl)) k0 bel lt0) trodAll_mk0), rfl, bel.frame _, fun h => by cases h⟩

theorem over : Rows.sortedOnesRow.holds Try.pinned (OpenSpec.ofChange Rows.sortedOnesSpec) :=
  OpenClaim.holds_of_wide 6 Try.f6 rfl rfl rfl rfl rfl rfl rfl ⟨rfl, rfl, rfl, rfl, rfl⟩ rfl rfl rfl rfl rfl (by kernel_rfl) Try.func6 (by kernel_rfl)
    (of_decide_eq_true (by kernel_rfl)) (by unfold Func.isWrapper; first | (rw [if_pos (by decide +kernel)]; kernel_rfl) | (rw [if_neg (by decide +kernel)]; exact ⟨rfl, rfl⟩))
    (fun os started H enc _ => lifted os started H enc)

/-- THE STATEMENT -/
theorem proved : Rows.SortedOnesSaid := over
#print axioms proved
end Go.Proofs.Ytjbjkegjcpplaaa.sortedOnes

