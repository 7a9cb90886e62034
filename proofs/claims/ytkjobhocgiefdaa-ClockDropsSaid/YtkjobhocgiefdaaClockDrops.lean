/- ClockDrops: what is dropped doesn't come; of two alike the one that is due first goes. No condition. -/
import Derived.Test.YtkjobhocgiefdaaKnown5
import Derived.Test.YtkjobhocgiefdaaClkD
import Derived.Test.YtkjobhocgiefdaaClkV
set_option linter.unusedSimpArgs false
set_option linter.unusedVariables false
namespace Go.Proofs.Ytkjobhocgiefdaa
theorem min_tick3 {j : Nat} (h : j ≤ 1000) : min ((j : Int) + 1) 1000000 = ((j + 1 : Nat) : Int) := by
  rw [Int.min_eq_left (by omega)]; push_cast; rfl
theorem u8_mod30 {a : Int} (h : (Lit.int .u8 a).wf = true) : ∃ k : Nat, k < 30 ∧ a.tmod 30 = (k : Int) := by
  have b : 0 ≤ a ∧ a ≤ 255 := by simp [Lit.wf, IntKind.min, IntKind.max, IntKind.signed, IntKind.bits] at h; omega
  refine ⟨(a % 30).toNat, by omega, ?_⟩
  rw [Int.tmod_eq_emod_of_nonneg b.1]; omega
theorem u8_bd1 {a : Int} (h : (Lit.int .u8 a).wf = true) : 0 ≤ a ∧ a ≤ 255 := by simp [Lit.wf, IntKind.min, IntKind.max, IntKind.signed, IntKind.bits] at h; omega
end Go.Proofs.Ytkjobhocgiefdaa
set_option maxHeartbeats 8000000
set_option maxRecDepth 100000
namespace Go.Proofs.Ytkjobhocgiefdaa.clockDrops
open Go.ChangeShapes Go.WideShapes Go.ChangeAt Go.RowKit
open Go.ChangeMaps (open_string shut_string)
set_option linter.unusedVariables false

/-- THE WALK: the Go text returns true, and writes nothing that was there. -/
theorem walk (a0 : Int) (a1 : Int) (a2 : Int) (w : World) (w0 : (Lit.int .u8 a0).wf = true) (w1 : (Lit.int .u8 a1).wf = true) (w2 : (Lit.int .u8 a2).wf = true) :
    Calls Try.prog 6 #[.int .u8 a0, .int .u8 a1, .int .u8 a2] w fun e w' => e = .returned (.bool true) ∧ Below w.heap.size w w' := by
  obtain ⟨x, hx, mx⟩ := u8_mod30 w0
  obtain ⟨y, hy, my⟩ := u8_mod30 w1
  obtain ⟨i0, i1⟩ := u8_bd1 w2
  clear w0 w1 w2
  have wx : IntKind.i64.wrap (x : Int) = (x : Int) := IntWalk.i64_in _ (by omega)
  have wy : IntKind.i64.wrap (y : Int) = (y : Int) := IntWalk.i64_in _ (by omega)
  go_enter Try.func6, Try.ntmps6
  go_wp2_with fail
  refine (known5_any _).mono ?_
  rintro e v1 ⟨rfl, hb1⟩
  have HB1 := hidp hb1
  clear hb1
  go_wp2_with fail
  refine (cnew_any _).mono ?_
  rintro e v2 ⟨rfl, cs2, h2, _, hb2⟩
  have HB2 := hidp (HB1.out.trans (hb2.mono HB1.out.size))
  have HV := hidp HB1.out.size
  have HBel : Hid (∀ wr cs' F', Fr v2 v1.heap.size 0 9 55 cs2 [] wr cs' F' → Below w.heap.size w wr) := hidp (fun wr cs' F' h => HB2.out.trans (h.turned.below HB2.out.size (by simpa using HV.out)))
  have C := cput_ok h2 (by simp) ⟨(x : Int), a2⟩ (by dsimp only; omega) (by unfold I64; dsimp only; omega)
  clear hb2 h2
  go_wp2_with fail
  refine C.mono ?_
  rintro e v3 ⟨rfl, cs3, F3, h3, f3⟩
  have HF3 := hidp f3
  have C := cput_ok h3 (by simp) ⟨(y : Int), a2⟩ (by dsimp only; omega) (by unfold I64; dsimp only; omega)
  clear h3 f3
  go_wp2_with fail
  refine C.mono ?_
  rintro e v4 ⟨rfl, cs4, F4, h4, f4⟩
  have HF4 := hidp (HF3.out.trans f4)
  obtain ⟨t1, t2⟩ := two_drop x y a2
  have C := cdrop_yes 20 sorts20 (by omega) h4 (by simp) t1
  clear h4 f4
  go_wp2_with fail
  refine C.mono ?_
  rintro e v5 ⟨rfl, cs5, F5, h5, f5⟩
  rw [t2] at h5
  obtain ⟨z, hz⟩ : ∃ z, max x y = z := ⟨_, rfl⟩
  rw [hz] at h5
  have Hz := hidp hz
  have hz30 : z < 30 := by omega
  have HF5 := hidp (HF4.out.trans f5)
  have H5 := hidp h5
  have C := clen_any h5
  clear h5 f5 t1 t2
  go_wp2_with fail
  refine C.mono ?_
  rintro e v6 ⟨rfl, hb6⟩
  have h6 := H5.out.over hb6
  have HF6 := hidp (HF5.out.trans (Fr.below hb6))
  have H6 := hidp h6
  have C := call_any 20 sorts20 (by omega) h6 (by simp)
  clear h6 hb6
  rw [show sortE [(⟨(z : Int), a2⟩ : DueM)] = [⟨(z : Int), a2⟩] from rfl] at C
  go_wp2_with fail
  refine C.mono ?_
  rintro e v7 ⟨A, c, rfl, ho, hb7⟩
  have H7 : Hid (ClkL v7 v1.heap.size 0 55 cs5 F5 ((0 : Nat) : Int) (lefts z a2 0)) := hidp (H6.out.over hb7)
  have HF7 := hidp (HF6.out.trans (Fr.below hb7))
  obtain ⟨g, off, rfl, hc⟩ := ho.dues.resolve_left (by simp)
  have c0 : v7.cell? ⟨g, off, none⟩ = some (.int .i64 (z : Int)) := (hc 0 (by simp)).1
  have c1 : v7.cell? ⟨g, off + 1, none⟩ = some (.int .i64 a2) := (hc 0 (by simp)).2
  have hmax : (if x < y then (y : Int) else (x : Int)) = (z : Int) := by rw [← hz]; split <;> omega
  clear ho hb7 hc C hz
  go_wp2_with fail
  go_loopg [10] 30 (fun gg i wr => ∃ (t : Nat) (cs' : Array Value) (F' : List Nat), t + gg = 30 ∧ i = .int .i64 t ∧ Hid (ClkL wr v1.heap.size 0 55 cs' F' (t : Int) (lefts z a2 t)) ∧ Hid (Fr v2 v1.heap.size 0 9 55 cs2 [] wr cs' F'))
  case atStart => exact ⟨0, cs5, F5, by omega, rfl, H7, HF7⟩
  case round =>
    clear H7 HF7
    obtain ⟨t, cs', F', ht, rfl, H, HF⟩ := hrel
    by_cases hlt : t < 30
    · have tI : (t : Int) < 30 := by omega
      have wt : IntKind.i64.wrap ((t : Int) + 1) = (t : Int) + 1 := IntWalk.i64_in _ (by omega)
      have C := cstep_any H.out
      have Ht := hidp ht
      go_wp2_with fail
      refine C.mono ?_
      rintro e w8 ⟨A, c, cs8, F8, rfl, hs⟩
      have hc8 := hs.clk
      obtain ⟨l1, l2⟩ := lefts_not z a2 t
      rw [l1, min_tick3 (by omega : t ≤ 1000)] at hc8
      have H8 := hidp hc8
      have HF8 := hidp (HF.out.trans hs.fr)
      rw [l2]
      clear C hs hc8 l1 l2 ht
      by_cases htz : t = z
      · have e1 : ((t : Int) == (z : Int)) = true := by rw [htz]; simp
        rw [if_pos htz]
        clear htz
        go_wp2_with fail
        go_roundg (30 - t - 1)
        case measure => have := Ht.out; omega
        case rel => exact ⟨t + 1, cs8, F8, by have := Ht.out; omega, by go_num, H8, HF8⟩
      · have e1 : ((t : Int) == (z : Int)) = false := by simp; omega
        rw [if_neg htz]
        clear htz
        go_wp2_with fail
        go_roundg (30 - t - 1)
        case measure => have := Ht.out; omega
        case rel => exact ⟨t + 1, cs8, F8, by have := Ht.out; omega, by go_num, H8, HF8⟩
    · obtain rfl : t = 30 := by omega
      have h9 := H.out
      rw [show lefts z a2 30 = [] by unfold lefts; rw [if_neg (by omega)]] at h9
      have C := cdrop_nil h9 a2
      have HBF := hidp (HBel.out _ _ _ HF.out)
      clear ht hlt h9
      go_wp2_with fail
      refine C.mono ?_
      rintro e w9 ⟨rfl, hb9⟩
      have HBG := hidp (HBF.out.trans (hb9.mono HBF.out.size))
      clear C hb9
      go_wp2_with fail
      go_ret
      exact ⟨rfl, HBG.out⟩

theorem own : ownKnob Try.prog.godebug = none := by kernel_rfl
theorem laidOut : laidOutB Try.prog = true := by kernel_rfl

/-! THE ROW's STEP -/
set_option maxRecDepth 100000 in
theorem lifted (os : Os) (started : os.Started) (H : Type) (enc : TypeId × Value → H) :
    ReturnsInHanded {} Try.checked os 6 .any (Rows.clockDropsSpec.pre6 enc Try.prog Try.f6 Rows.clockDropsRow.domain false) (Rows.clockDropsSpec.post enc Try.prog Try.f6 false true false false) := by
  refine returnsInHanded_of_change (C := Try.checked) own started (by kernel_rfl) Try.func6
    (ChangeSpec.witness6 (enc := enc) (C := Try.checked) false ⟨#[], #[.int .u8 0, .int .u8 0, .int .u8 0], []⟩ 8 (by kernel_rfl) (by kernel_rfl) (by kernel_rfl) (by kernel_rfl)) ?_
  intro W base args ds gs before hval0 hW hcnd _
  have hval : ∀ (j : Nat) t v, Try.f6.params[j]? = some t → args[j]? = some v → Value.okWide Try.prog W .any base t v := hval0
  have hW' := hW
  obtain ⟨p, q, hA0, hV, rfl, hfz, hnd⟩ := hW
  have hA : DataW.TrodAll enc Try.prog W 0 (fun _ => true) true Try.f6.params.toList args.toList ds p := hA0
  rw [Try.params6] at hA hval
  obtain ⟨v0, vs0, d0, ds0, p0, q0, hargs, rfl, rfl, h0, r0⟩ := trodAll_cons hA
  obtain ⟨v1, vs1, d1, ds1, p1, q1, rfl, rfl, rfl, h1, r1⟩ := trodAll_cons r0
  obtain ⟨v2, vs2, d2, ds2, p2, q2, rfl, rfl, rfl, h2, r2⟩ := trodAll_cons r1
  obtain ⟨rfl, rfl, rfl⟩ := trodAll_nil r2
  obtain rfl : args = #[v0, v1, v2] := by cases args; simp_all
  obtain ⟨rfl, rfl⟩ := trodVars_none hV
  obtain ⟨a0, rfl, rfl, rfl, w0⟩ := open_int Try.underlying5 (hval 0 5 v0 rfl rfl) h0
  obtain ⟨a1, rfl, rfl, rfl, w1⟩ := open_int Try.underlying5 (hval 1 5 v1 rfl rfl) h1
  obtain ⟨a2, rfl, rfl, rfl, w2⟩ := open_int Try.underlying5 (hval 2 5 v2 rfl rfl) h2
  clear hA0 hval0
  refine (walk a0 a1 a2 W w0 w1 w2).mono fun e W' ⟨he, bel⟩ => ?_
  subst he
  exact ⟨_, rfl, _, _, _, [], _, [], hW', trodAll_mk1 (shut_bool Try.underlying4 _), (trodAll_cons_mk (shut_int Try.underlying5 w0) (trodAll_cons_mk (shut_int Try.underlying5 w1) (trodAll_cons_mk (shut_int Try.underlying5 w2) trodAll_mk0))), rfl, bel.frame _, fun h => by cases h⟩

theorem over : Rows.clockDropsRow.holds Try.pinned (OpenSpec.ofChange Rows.clockDropsSpec) :=
  OpenClaim.holds_of_wide 6 Try.f6 rfl rfl rfl rfl rfl rfl rfl ⟨rfl, rfl, rfl, rfl, rfl⟩ rfl rfl rfl rfl rfl (by kernel_rfl) Try.func6 (by kernel_rfl)
    (of_decide_eq_true (by kernel_rfl)) (by unfold Func.isWrapper; first | (rw [if_pos (by decide +kernel)]; kernel_rfl) | (rw [if_neg (by decide +kernel)]; exact ⟨rfl, rfl⟩))
    (fun os started H enc _ => lifted os started H enc)

/-- THE STATEMENT -/
theorem proved : Rows.ClockDropsSaid := over
#print axioms proved
end Go.Proofs.Ytkjobhocgiefdaa.clockDrops

