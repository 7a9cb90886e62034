/- RankSorts: what is put in goes out in order, of one key as it came. No condition. -/
import Derived.Test.YtpcbonljbfbdmaaKnown4
import Derived.Test.YtpcbonljbfbdmaaRankW
set_option maxHeartbeats 4000000
set_option maxRecDepth 100000
namespace Go.Proofs.Ytpcbonljbfbdmaa.rankSorts
open Go.ChangeShapes Go.WideShapes Go.ChangeAt Go.RowKit
open Go.ChangeMaps (open_string shut_string)
set_option linter.unusedVariables false

/-- THE WALK: the Go text returns true, and writes nothing that was there. -/
theorem walk (a0 : Option Addr) (len0 cap0 : Nat) (z0 : List Int) (w : World) (w0 : IsRow .u8 w a0 len0 cap0 z0) :
    Calls Try.prog 4 #[.slice a0 len0 cap0] w fun e w' => e = .returned (.bool true) ∧ Below w.heap.size w w' := by
  obtain ⟨hr, hl, hm, hz⟩ := w0.row
  have hcap : len0 ≤ cap0 := by rcases w0 with ⟨_, rfl, rfl, _⟩ | ⟨_, _, h, _⟩ <;> omega
  clear w0
  obtain ⟨zs, hzs⟩ : ∃ zs, z0.take len0 = zs := ⟨_, rfl⟩
  rw [hzs] at hr hl hz
  clear hzs
  subst hl
  unfold maxLen at hm
  have Hz := hidp (u8_bd hz)
  clear hz
  have HR := hidp hr
  clear hr
  by_cases h64 : 64 < zs.length
  · go_enter Try.func4, Try.ntmps4
    go_wp2_with fail
    refine (known4_any _).mono ?_
    rintro e w1 ⟨rfl, hb1⟩
    go_wp2_with fail
    go_ret
    exact ⟨rfl, hb1⟩
  · obtain ⟨key, Hkey⟩ : ∃ key : Nat → Int, Hid (key = fun i => zs.getD i 0 % 9) := ⟨_, hidp rfl⟩
    go_enter Try.func4, Try.ntmps4
    go_wp2_with fail
    refine (known4_any _).mono ?_
    rintro e w1 ⟨rfl, hb1⟩
    go_wp2_with fail
    refine (rnew_any 64 _ (by unfold I64; decide)).mono ?_
    rintro e w2 ⟨rfl, rfl⟩
    rw [show roomR 64 = 64 from rfl]
    have hk := hidp (RkUp.new_ (R := 64) hb1)
    obtain ⟨b, hbb⟩ : ∃ b, w1.heap.size = b := ⟨_, rfl⟩
    obtain ⟨u0, hu0⟩ : ∃ u0, w1.alloc (.cells #[.int .i64 64, .int .i64 0, .slice none 0 0] 53) = u0 := ⟨_, rfl⟩
    rw [hu0] at hk ⊢
    rw [hbb] at hk ⊢
    clear hbb hu0 hb1
    go_wp2_with fail
    go_loopg [4] zs.length (fun g i wr => ∃ (k : Nat) (l : List EntM) (A : Option Addr) (c : Nat), k + g = zs.length ∧ i = .int .i64 k ∧ Hid (RsIn key k l) ∧ Hid (l.length = k) ∧ Hid (RkUp w.heap.size w wr b 64 k l A c))
    case atStart => exact ⟨0, [], none, 0, by omega, rfl, hidp (RsIn.nil key), hidp rfl, hk⟩
    case round =>
      obtain ⟨k, l, A, c, hkg, rfl, HI, HL, HU⟩ := hrel
      clear hk
      by_cases hlt : k < zs.length
      · obtain ⟨g, off, hA, hc⟩ := HR.out.resolve_left (by intro e; simp [e] at hlt)
        subst hA
        obtain ⟨n, HN⟩ : ∃ n, Hid (zs.getD k 0 = n) := ⟨_, rfl⟩
        obtain ⟨n0, n1⟩ := HN.out ▸ Hz.out k hlt
        have ck : wr.cell? ⟨g, off + k, none⟩ = some (.int .u8 n) := HU.out.old (HN.out ▸ hc k hlt)
        clear hc
        have wi : IntKind.i64.wrap (n % 9) = n % 9 := IntWalk.i64_in _ (by omega)
        go_wp2_with fail
        refine (rput_any (k := n % 9) (i := (k : Int)) HU.out.rk (by rw [HL.out]; omega) (by omega) (by omega)).mono ?_
        intro e w3 hp
        obtain ⟨rfl, A3, c3, h3⟩ := HU.out.put hp
        have HI3 := hidp (HI.out.put (y := n % 9) (by rw [Hkey.out]; dsimp only; rw [HN.out]))
        have HL3 : Hid ((riseL (l ++ [(⟨n % 9, k, k⟩ : EntM)]) l.length).length = k + 1) := hidp (by rw [riseL_len _ _ (by simp)]; simp [HL.out])
        have HU3 := hidp h3
        clear hp ck h3 HU HI HL
        go_wp2_with fail
        go_roundg (gk - 1)
        case measure => omega
        case rel => exact ⟨k + 1, _, A3, c3, by omega, by go_num, HI3, HL3, HU3⟩
      · obtain rfl : k = zs.length := by omega
        clear hlt hkg
        go_wp2_with fail
        obtain ⟨wo, rfl⟩ : ∃ wo : World, wo = wr := ⟨_, rfl⟩
        go_loopg [5, 6] zs.length (fun g la i wr => ∃ (last : Int) (k : Nat) (l : List EntM), k + g = zs.length ∧ i = .int .i64 k ∧ la = .int .i64 last ∧ Hid (RsIn key zs.length l) ∧ Hid (RsAfter key zs.length last l) ∧ Hid (l.length + k = zs.length) ∧ Hid (RkUp w.heap.size w wr b 64 zs.length l A c))
        case atStart => exact ⟨-1, 0, l, by omega, rfl, rfl, HI, hidp ⟨.inl rfl, fun h => absurd h (by omega)⟩, hidp (by rw [HL.out]; omega), HU⟩
        case round =>
          clear HI HL HU
          obtain ⟨last, k, l, hkg, rfl, rfl, HI, HF, HL, HU⟩ := hrel
          by_cases hlt : k < zs.length
          · have hl0 : 0 < l.length := by have := HL.out; omega
            have hl1 : l.length ≤ 64 := by have := HL.out; omega
            obtain ⟨HI2, x, hx, hxk, HF2, hcmp⟩ := HI.out.take hl0 HF.out
            have HX := hidp hx
            have HI2 := hidp HI2
            have HF2 := hidp HF2
            have HC := hidp hcmp
            have HB := hidp HF.out.1
            have HL2 : Hid ((removeL l 0).length + (k + 1) = zs.length) := hidp (by rw [removeL_len hl0]; have := HL.out; omega)
            clear hx hcmp HI HF
            obtain ⟨g, off, hA, hc⟩ := HR.out.resolve_left (by intro e; simp [e] at hlt)
            subst hA
            go_wp2_with fail
            refine (rtake_cons HU.out.rk hl0 hl1).mono ?_
            rintro e w4 ⟨rfl, h4, T4⟩
            rw [HX.out]
            have HU2 := hidp (HU.out.took h4 T4)
            clear h4 T4 HU hl0 hl1 HX HL
            obtain ⟨n, HN⟩ : ∃ n, Hid (zs.getD x 0 = n) := ⟨_, rfl⟩
            obtain ⟨n0, n1⟩ := HN.out ▸ Hz.out x hxk
            have cx : w4.cell? ⟨g, off + x, none⟩ = some (.int .u8 n) := HU2.out.old (HN.out ▸ hc x hxk)
            have fx0 : decide ((x : Int) < 0) = false := by simp
            have fx1 : decide ((zs.length : Int) ≤ (x : Int)) = false := by simp; omega
            have ix0 : (0 : Int) ≤ (x : Int) := by omega
            have ix1 : (x : Int) < (zs.length : Int) := by omega
            have ix2 : decide (zs.length ≤ x) = false := by simp; omega
            have tn : n.tmod 9 = n % 9 := Int.tmod_eq_emod_of_nonneg n0
            have wn : IntKind.u8.wrap (n % 9) = n % 9 := by
              have : 0 ≤ n % 9 ∧ n % 9 < 9 := ⟨Int.emod_nonneg _ (by decide), Int.emod_lt_of_pos _ (by decide)⟩
              rw [IntWalk.u8_in _ (by omega)]
            rcases HB.out with hm1 | ⟨hp0, hp1⟩
            · subst hm1
              go_wp2_with fail
              go_quiet (fail)
              go_wp2_with fail
              go_roundg (gk - 1)
              case measure => omega
              case rel => exact ⟨_, k + 1, _, by omega, by go_num, rfl, HI2, HF2, HL2, hidp (HU2.out.drewN nq)⟩
            · obtain ⟨p, rfl⟩ : ∃ p : Nat, last = (p : Int) := ⟨last.toNat, by omega⟩
              have hpk : p < zs.length := by omega
              obtain ⟨m, HM⟩ : ∃ m, Hid (zs.getD p 0 = m) := ⟨_, rfl⟩
              obtain ⟨m0, m1⟩ := HM.out ▸ Hz.out p hpk
              have cp : w4.cell? ⟨g, off + p, none⟩ = some (.int .u8 m) := HU2.out.old (HM.out ▸ hc p hpk)
              have ip1 : (p : Int) < (zs.length : Int) := by omega
              have ip2 : decide (zs.length ≤ p) = false := by simp; omega
              have fp0 : decide ((0 : Int) ≤ (p : Int)) = true := by simp
              have tm : m.tmod 9 = m % 9 := Int.tmod_eq_emod_of_nonneg m0
              have wm : IntKind.u8.wrap (m % 9) = m % 9 := by
                have : 0 ≤ m % 9 ∧ m % 9 < 9 := ⟨Int.emod_nonneg _ (by decide), Int.emod_lt_of_pos _ (by decide)⟩
                rw [IntWalk.u8_in _ (by omega)]
              have hc2 : m % 9 < n % 9 ∨ m % 9 = n % 9 ∧ (p : Int) < (x : Int) := by
                have := HC.out (by omega)
                rw [Int.toNat_natCast, Hkey.out] at this
                dsimp only at this
                rw [HM.out, HN.out] at this
                exact this
              clear hc
              by_cases he : m % 9 = n % 9
              · have hpx : (p : Int) < (x : Int) := by omega
                have q1 : decide (n % 9 < m % 9) = false := by simp; omega
                have q2 : (m % 9 == n % 9) = true := by simpa using he
                have q3 : decide ((x : Int) ≤ (p : Int)) = false := by simp; omega
                have q4 : decide (x ≤ p) = false := by simp; omega
                have Hhe := hidp he
                clear he hc2
                go_wp2_with fail
                go_quiet (fail)
                go_wp2_with fail
                go_roundg (gk - 1)
                case measure => omega
                case rel => exact ⟨_, k + 1, _, by omega, by go_num, rfl, HI2, HF2, HL2, hidp (HU2.out.drewN nq)⟩
              · have q1 : decide (n % 9 < m % 9) = false := by simp; omega
                have q2 : (m % 9 == n % 9) = false := by simpa using he
                clear he hc2
                go_wp2_with fail
                go_quiet (fail)
                go_wp2_with fail
                go_roundg (gk - 1)
                case measure => omega
                case rel => exact ⟨_, k + 1, _, by omega, by go_num, rfl, HI2, HF2, HL2, hidp (HU2.out.drewN nq)⟩
          · obtain rfl : k = zs.length := by omega
            have hl0 : l = [] := List.eq_nil_of_length_eq_zero (by have := HL.out; omega)
            subst hl0
            clear hlt HI HF HL
            go_wp2_with fail
            refine (rtake_nil HU.out.rk).mono ?_
            rintro e w5 ⟨rfl, rfl⟩
            go_wp2_with fail
            go_ret
            exact ⟨rfl, HU.out.up.below⟩

theorem own : ownKnob Try.prog.godebug = none := by kernel_rfl
theorem laidOut : laidOutB Try.prog = true := by kernel_rfl

/-! THE ROW's STEP -/
set_option maxRecDepth 100000 in
theorem lifted (os : Os) (started : os.Started) (H : Type) (enc : TypeId × Value → H) :
    ReturnsInHanded {} Try.checked os 4 .any (Rows.rankSortsSpec.pre6 enc Try.prog Try.f4 Rows.rankSortsRow.domain false) (Rows.rankSortsSpec.post enc Try.prog Try.f4 false true false false) := by
  refine returnsInHanded_of_change (C := Try.checked) own started (by kernel_rfl) Try.func4
    (ChangeSpec.witness6 (enc := enc) (C := Try.checked) false ⟨#[], #[.slice none 0 0], []⟩ 8 (by kernel_rfl) (by kernel_rfl) (by kernel_rfl) (by kernel_rfl)) ?_
  intro W base args ds gs before hval0 hW hcnd _
  have hval : ∀ (j : Nat) t v, Try.f4.params[j]? = some t → args[j]? = some v → Value.okWide Try.prog W .any base t v := hval0
  have hW' := hW
  obtain ⟨p, q, hA0, hV, rfl, hfz, hnd⟩ := hW
  have hA : DataW.TrodAll enc Try.prog W 0 (fun _ => true) true Try.f4.params.toList args.toList ds p := hA0
  rw [Try.params4] at hA hval
  obtain ⟨v0, vs0, d0, ds0, p0, q0, hargs, rfl, rfl, h0, r0⟩ := trodAll_cons hA
  obtain ⟨rfl, rfl, rfl⟩ := trodAll_nil r0
  obtain rfl : args = #[v0] := by cases args; simp_all
  obtain ⟨rfl, rfl⟩ := trodVars_none hV
  obtain ⟨a0, len0, cap0, rfl⟩ := okWide_slice Try.underlying45 (hval 0 45 v0 rfl rfl)
  have k0 := h0
  have lt0 : ∀ x ∈ p0, x.block < W.heap.size := by obtain ⟨m, hm⟩ := k0; exact DataW.trod_lt m _ _ _ hm
  obtain ⟨z0, w0⟩ : ∃ zs, IsRow .u8 W a0 len0 cap0 zs := by
    obtain ⟨fuel, hf⟩ := h0
    rcases open_ints Try.underlying45 Try.underlying5 (by kernel_rfl) hf with ⟨hcs, _⟩ | ⟨x, l, c, zs, hcs, _, hl, hm, hz, _, hcell, hwz⟩
    · simp [Value.cells] at hcs
      obtain ⟨rfl, rfl, rfl⟩ := hcs
      exact ⟨[], .inl ⟨rfl, rfl, rfl, rfl⟩⟩
    · simp [Value.cells] at hcs
      obtain ⟨rfl, rfl, rfl⟩ := hcs
      exact ⟨zs, .inr ⟨_, rfl, hl, hm, by simpa using hz, hcell, hwz⟩⟩
  clear hA0 hval0
  refine (walk a0 len0 cap0 z0 W w0).mono fun e W' ⟨he, bel⟩ => ?_
  subst he
  exact ⟨_, rfl, _, _, _, [], _, [], hW', trodAll_mk1 (shut_bool Try.underlying4 _), (trodAll_cons_mk (Below.trod laidOut (by kernel_rfl) (of_decide_eq_true (by kernel_rfl)) k0 bel lt0) trodAll_mk0), rfl, bel.frame _, fun h => by cases h⟩

theorem over : Rows.rankSortsRow.holds Try.pinned (OpenSpec.ofChange Rows.rankSortsSpec) :=
  OpenClaim.holds_of_wide 4 Try.f4 rfl rfl rfl rfl rfl rfl rfl ⟨rfl, rfl, rfl, rfl, rfl⟩ rfl rfl rfl rfl rfl (by kernel_rfl) Try.func4 (by kernel_rfl)
    (of_decide_eq_true (by kernel_rfl)) (by unfold Func.isWrapper; first | (rw [if_pos (by decide +kernel)]; kernel_rfl) | (rw [if_neg (by decide +kernel)]; exact ⟨rfl, rfl⟩))
    (fun os started H enc _ => lifted os started H enc)

/-- THE STATEMENT -/
theorem proved : Rows.RankSortsSaid := over
#print axioms proved
end Go.Proofs.Ytpcbonljbfbdmaa.rankSorts

