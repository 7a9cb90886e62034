/- LineTwice: one that stands in the line twice is dropped once, the first of both. No condition. -/
import Derived.Test.YtjbjkegjcpplaaaLineNums
import Derived.IntWalk
set_option maxHeartbeats 1000000
namespace Go.Proofs.Ytjbjkegjcpplaaa.lineTwice
open Go.ChangeShapes Go.WideShapes Go.ChangeAt Go.RowKit
open Go.ChangeMaps (open_string shut_string)
set_option linter.unusedVariables false

/-- THE WALK: the Go text returns true, and writes nothing that was there. -/
theorem walk (a0 : Option Addr) (len0 cap0 : Nat) (z0 : List Int) (a1 : Int) (w : World) (w0 : IsRow .u8 w a0 len0 cap0 z0) (w1 : (Lit.int .u8 a1).wf = true) :
    Calls Try.prog 11 #[.slice a0 len0 cap0, .int .u8 a1] w fun e w' => e = .returned (.bool true) ∧ Below w.heap.size w w' := by
  obtain ⟨hr, hl, hm, hz⟩ := w0.row
  have hcap : len0 ≤ cap0 := by rcases w0 with ⟨_, rfl, rfl, _⟩ | ⟨_, _, h, _⟩ <;> omega
  clear w0
  obtain ⟨zs, hzs⟩ : ∃ zs, z0.take len0 = zs := ⟨_, rfl⟩
  rw [hzs] at hr hl hz
  clear hzs
  subst hl
  unfold maxLen at hm
  have b1 : 0 ≤ a1 ∧ a1 ≤ 255 := by simp [Lit.wf, IntKind.min, IntKind.max, IntKind.signed, IntKind.bits] at w1; omega
  obtain ⟨q0, q1⟩ := b1
  clear w1
  have Hz := hidp (u8_bd hz)
  clear hz
  have HR := hidp hr
  clear hr
  obtain ⟨ys, HY⟩ : ∃ ys : List Int, Hid (ys.length = zs.length ∧ ∀ k, k < zs.length → ys.getD k 0 = zs.getD k 0 % 5) :=
    ⟨zs.map (· % 5), by simp, fun k hk => by simp [List.getD, hk]⟩
  by_cases h64 : 40 < zs.length
  · go_enter Try.func11, Try.ntmps11
    go_wp2_with fail
    refine (known3_any _).mono ?_
    rintro e w1 ⟨rfl, hb1⟩
    go_wp2_with fail
    go_ret
    exact ⟨rfl, hb1⟩
  · go_enter Try.func11, Try.ntmps11
    go_wp2_with fail
    refine (known3_any _).mono ?_
    rintro e w1 ⟨rfl, hb1⟩
    go_wp2_with fail
    refine (newB 64 64 _ (by decide) (by decide)).mono ?_
    rintro e w2 ⟨b, cs, A, c, rfl, h⟩
    have h1 := h.since hb1
    clear h
    go_wp2_with fail
    go_loopg [6, 7, 8] zs.length (fun g n f i wr => ∃ (k C : Nat) (F : Int) (cs : Array Value) (A : Option Addr) (c : Nat), k + g = zs.length ∧ i = .int .i64 k ∧ n = .int .i64 C ∧ f = .int .i64 F ∧ C ≤ k ∧ -1 ≤ F ∧ F < k ∧ Hid (cntN ys (a1 % 5) k = C) ∧ Hid (frs ys (a1 % 5) k = F) ∧ LnB w.heap.size w wr b 64 (ys.take k) cs A c)
    case atStart => exact ⟨0, 0, -1, cs, A, c, by omega, rfl, rfl, rfl, by omega, by omega, by omega, hidp rfl, hidp (by simp [frs]), h1⟩
    case round =>
      obtain ⟨k, C, F, cs1, A1, c1, hk, rfl, rfl, rfl, c2, f1, f2, HC, HF, hl⟩ := hrel
      clear h1
      by_cases hlt : k < zs.length
      · obtain ⟨g, off, hA, hc⟩ := HR.out.resolve_left (by intro e; simp [e] at hlt)
        subst hA
        obtain ⟨n, HN⟩ : ∃ n, Hid (zs.getD k 0 = n) := ⟨_, rfl⟩
        obtain ⟨n0, n1⟩ := HN.out ▸ Hz.out k hlt
        have ck : wr.cell? ⟨g, off + k, none⟩ = some (.int .u8 n) := hl.old (HN.out ▸ hc k hlt)
        have ck0 : w.cell? ⟨g, off + k, none⟩ = some (.int .u8 n) := HN.out ▸ hc k hlt
        have hky : k < ys.length := by rw [HY.out.1]; exact hlt
        have HE : Hid (ys.getD k 0 = n % 5) := hidp (by rw [HY.out.2 k hlt, HN.out])
        have e1 : Hid (ys.take k ++ [n % 5] = ys.take (k + 1)) := hidp (by rw [take_snoc ys k hky, HE.out])
        clear hc
        go_wp2_with fail
        refine (put_ok (id := n % 5) hl.ln (by simp; omega) (by unfold I64; omega)).mono ?_
        intro e w3 hp
        obtain ⟨rfl, cs3, A3, c3, h3⟩ := hl.post hp
        rw [e1.out] at h3
        clear hp hl ck
        have ck : w3.cell? ⟨g, off + k, none⟩ = some (.int .u8 n) := h3.old ck0
        clear ck0
        by_cases he : n % 5 = a1 % 5
        · have he' : (n % 5 == a1 % 5) = true := by simpa using he
          have HC2 := hidp (cnt_hit hky (HE.out.trans he))
          have HF2 := hidp (frs_hit hky (HE.out.trans he))
          clear he
          by_cases hF : F < 0
          · go_wp2_with fail
            go_roundg (gk - 1)
            case measure => omega
            case rel => exact ⟨k + 1, C + 1, k, cs3, A3, c3, by omega, by go_num, by go_num, rfl, by omega, by omega, by omega, hidp (by rw [HC2.out, HC.out]), hidp (HF2.out (by rw [HF.out]; exact hF)), h3⟩
          · go_wp2_with fail
            go_roundg (gk - 1)
            case measure => omega
            case rel => exact ⟨k + 1, C + 1, F, cs3, A3, c3, by omega, by go_num, by go_num, rfl, by omega, by omega, by omega, hidp (by rw [HC2.out, HC.out]), hidp (by rw [frs_keep hky (.inr (by rw [HF.out]; omega)), HF.out]), h3⟩
        · have he' : (n % 5 == a1 % 5) = false := by simpa using he
          have HC2 := hidp (cnt_miss hky (by rw [HE.out]; exact he))
          have HF2 := hidp (frs_keep (ys := ys) (x := a1 % 5) hky (.inl (by rw [HE.out]; exact he)))
          clear he
          go_wp2_with fail
          go_roundg (gk - 1)
          case measure => omega
          case rel => exact ⟨k + 1, C, F, cs3, A3, c3, by omega, by go_num, rfl, rfl, by omega, by omega, by omega, hidp (by rw [HC2.out, HC.out]), hidp (by rw [HF2.out, HF.out]), h3⟩
      · obtain rfl : k = zs.length := by omega
        clear hlt hk
        rw [show ys.take zs.length = ys by rw [← HY.out.1, List.take_length]] at hl
        rw [← HY.out.1] at HC HF
        have Hp := hidp (HC.out ▸ cnt_all ys (a1 % 5))
        by_cases hC : 0 < C
        · have HP : Hid (plK ys (a1 % 5) = true) := hidp (by rw [Hp.out]; simpa using hC)
          have Hfe := hidp (frs_all_yes HP.out)
          have Hhas := hidp (cnt_erase HP.out)
          rw [HC.out] at Hhas
          rw [HF.out] at Hfe
          obtain ⟨f, Hf⟩ : ∃ f, Hid (plN ys (a1 % 5) = f) := ⟨_, rfl⟩
          have hf := plN_lt HP.out
          rw [Hf.out] at hf Hfe
          obtain rfl : F = (f : Int) := Hfe.out
          have HL := hidp (less_one hf)
          have hle := List.length_eraseIdx_of_lt hf
          go_wp2_with fail
          refine (drop_yes (id := a1 % 5) hl.ln HP.out).mono ?_
          intro e w6 hp
          obtain ⟨rfl, cs6, A6, c6, h6⟩ := hl.post hp
          clear hp hl
          rw [Hf.out] at h6 Hhas
          obtain ⟨ws, Hw⟩ : ∃ ws, Hid (ys.eraseIdx f = ws) := ⟨_, rfl⟩
          rw [Hw.out] at h6 Hhas HL hle
          have HW := hidp (show ws.length + 1 = zs.length ∧ ws.length ≤ 64 by have := HY.out.1; omega)
          clear hle
          go_wp2_with fail
          refine (all_any h6.ln).mono ?_
          rintro e w7 ⟨A7, c7, rfl, h7, hb7⟩
          replace h6 := h6.over hb7
          clear hb7
          have HR2 := hidp (Lies.row (B := w7.heap.size) (Lies.of_own h7.1))
          clear h7
          go_wp2_with fail
          refine (has_eq (id := a1 % 5) h6.ln Hhas.out).mono ?_
          rintro e w8 ⟨rfl, rfl⟩
          have hwl : ((ws.length : Int) != (zs.length : Int) - 1) = false := by have := HW.out; simp; omega
          have hwm : ws.length ≤ 64 := HW.out.2
          go_wp2_with fail

          obtain ⟨wz, hwz⟩ : ∃ wz : World, wz = w7 := ⟨_, rfl⟩
          subst hwz
          go_loopg [11, 12] zs.length (fun g at_ i wr => ∃ k : Nat, k + g = zs.length ∧ i = .int .i64 k ∧ at_ = .int .i64 (pos (f : Int) k : Nat) ∧ Qt wz wr)
          case atStart => exact ⟨0, by omega, rfl, by rw [pos_zero]; rfl, Qt.refl _⟩
          case round =>
            obtain ⟨k, hk, rfl, rfl, hq⟩ := hrel
            obtain ⟨j, Hj⟩ : ∃ j, Hid (pos (f : Int) k = j) := ⟨_, rfl⟩
            rw [Hj.out]
            by_cases hlt : k < zs.length
            · by_cases hF : (k : Int) = (f : Int)
              · have hF' : ((k : Int) == (f : Int)) = true := by simpa using hF
                have H1 := hidp (pos_at hF)
                clear hF
                go_wp2_with fail
                go_roundg (gk - 1)
                case measure => omega
                case rel => exact ⟨k + 1, by omega, by go_num, by rw [H1.out, Hj.out], hq⟩
              · have hF' : ((k : Int) == (f : Int)) = false := by simpa using hF
                have H1 := hidp (pos_off hF)
                obtain ⟨hj, hv⟩ := HL.out.1 k (by rw [HY.out.1]; exact hlt) hF
                rw [Hj.out] at hj hv
                clear hF
                obtain ⟨g, off, hA, hc⟩ := HR.out.resolve_left (by intro e; simp [e] at hlt)
                subst hA
                obtain ⟨n, HN⟩ : ∃ n, Hid (zs.getD k 0 = n) := ⟨_, rfl⟩
                obtain ⟨n0, n1⟩ := HN.out ▸ Hz.out k hlt
                rw [HY.out.2 k hlt, HN.out] at hv
                have HV := hidp hv
                have ck : wr.cell? ⟨g, off + k, none⟩ = some (.int .u8 n) := hq.cell (h6.old (HN.out ▸ hc k hlt))
                obtain ⟨g2, off2, hA2, hc2⟩ := HR2.out.resolve_left (by intro e; simp [e] at hj)
                subst hA2
                have cj : wr.cell? ⟨g2, off2 + j, none⟩ = some (.int .i64 (n % 5)) := hq.cell (HV.out ▸ hc2 j hj)
                have hge : decide ((ws.length : Int) ≤ (j : Int)) = false := by simp; omega
                have b1 : (0 : Int) ≤ (j : Int) := by omega
                have b2 : (j : Int) < (ws.length : Int) := by omega
                clear hc hc2 hv
                have hmod : n.tmod 5 = n % 5 := Int.tmod_eq_emod_of_nonneg n0
                have hwr : IntKind.i64.wrap (n % 5) = n % 5 := IntWalk.i64_in _ (by omega)
                have hjm : j ≤ 64 := by have := HW.out.2; omega
                go_wp2_with fail
                go_quiet (fail)
                go_wp2_with fail
                go_roundg (gk - 1)
                case measure => omega
                case rel => exact ⟨k + 1, by omega, by go_num, by rw [H1.out, Hj.out]; go_num, hq.add _⟩
            · obtain rfl : k = zs.length := by omega
              have e := HL.out.2
              rw [HY.out.1, Hj.out] at e
              subst e
              clear hlt hk
              go_wp2_with fail
              go_ret
              exact ⟨rfl, hq.below h6.below⟩
        · have HP : Hid (plK ys (a1 % 5) = false) := hidp (by rw [Hp.out]; simpa using hC)
          have Hfe := hidp (frs_all_no HP.out)
          rw [HF.out] at Hfe
          obtain rfl : F = -1 := Hfe.out
          have HL := hidp (less_none ys (F := -1) (by omega))
          obtain rfl : C = 0 := by omega
          go_wp2_with fail
          refine (drop_not (id := a1 % 5) hl.ln HP.out).mono ?_
          rintro e w6 ⟨rfl, rfl⟩
          go_wp2_with fail
          refine (all_any hl.ln).mono ?_
          rintro e w7 ⟨A7, c7, rfl, h7, hb7⟩
          have h6 := hl.over hb7
          clear hb7 hl
          have HR2 := hidp (Lies.row (B := w7.heap.size) (Lies.of_own h7.1))
          clear h7
          have HW := hidp (show ys.length ≤ 64 by rw [HY.out.1]; omega)
          go_wp2_with fail
          refine (has_eq (id := a1 % 5) h6.ln HP.out).mono ?_
          rintro e w8 ⟨rfl, rfl⟩
          go_wp2_with fail
          obtain ⟨wz, hwz⟩ : ∃ wz : World, wz = w7 := ⟨_, rfl⟩
          subst hwz
          go_loopg [11, 12] zs.length (fun g at_ i wr => ∃ k : Nat, k + g = zs.length ∧ i = .int .i64 k ∧ at_ = .int .i64 (pos (-1) k : Nat) ∧ Qt wz wr)
          case atStart => exact ⟨0, by omega, rfl, by rw [pos_zero]; rfl, Qt.refl _⟩
          case round =>
            obtain ⟨k, hk, rfl, rfl, hq⟩ := hrel
            obtain ⟨j, Hj⟩ : ∃ j, Hid (pos (-1) k = j) := ⟨_, rfl⟩
            rw [Hj.out]
            by_cases hlt : k < zs.length
            · have hF : (k : Int) ≠ -1 := by omega
              have hF' : ((k : Int) == -1) = false := by simp
              have H1 := hidp (pos_off hF)
              obtain ⟨hj, hv⟩ := HL.out.1 k (by rw [HY.out.1]; exact hlt) hF
              rw [Hj.out] at hj hv
              clear hF
              obtain ⟨g, off, hA, hc⟩ := HR.out.resolve_left (by intro e; simp [e] at hlt)
              subst hA
              obtain ⟨n, HN⟩ : ∃ n, Hid (zs.getD k 0 = n) := ⟨_, rfl⟩
              obtain ⟨n0, n1⟩ := HN.out ▸ Hz.out k hlt
              rw [HY.out.2 k hlt, HN.out] at hv
              have HV := hidp hv
              have ck : wr.cell? ⟨g, off + k, none⟩ = some (.int .u8 n) := hq.cell (h6.old (HN.out ▸ hc k hlt))
              obtain ⟨g2, off2, hA2, hc2⟩ := HR2.out.resolve_left (by intro e; simp [e] at hj)
              subst hA2
              have cj : wr.cell? ⟨g2, off2 + j, none⟩ = some (.int .i64 (n % 5)) := hq.cell (HV.out ▸ hc2 j hj)
              have hge : decide ((ys.length : Int) ≤ (j : Int)) = false := by simp; omega
              have b1 : (0 : Int) ≤ (j : Int) := by omega
              have b2 : (j : Int) < (ys.length : Int) := by omega
              clear hc hc2 hv
              have hmod : n.tmod 5 = n % 5 := Int.tmod_eq_emod_of_nonneg n0
              have hwr : IntKind.i64.wrap (n % 5) = n % 5 := IntWalk.i64_in _ (by omega)
              have hjm : j ≤ 64 := by have := HW.out; omega
              go_wp2_with fail
              go_quiet (fail)
              go_wp2_with fail
              go_roundg (gk - 1)
              case measure => omega
              case rel => exact ⟨k + 1, by omega, by go_num, by rw [H1.out, Hj.out]; go_num, hq.add _⟩
            · obtain rfl : k = zs.length := by omega
              have e := HL.out.2
              rw [HY.out.1, Hj.out] at e
              subst e
              clear hlt hk
              go_wp2_with fail
              go_ret
              exact ⟨ret_bool (by simp [HY.out.1]), hq.below h6.below⟩

theorem own : ownKnob Try.prog.godebug = none := by kernel_rfl
theorem laidOut : laidOutB Try.prog = true := by kernel_rfl

/-! THE ROW's STEP -/
set_option maxRecDepth 100000 in
theorem lifted (os : Os) (started : os.Started) (H : Type) (enc : TypeId × Value → H) :
    ReturnsInHanded {} Try.checked os 11 .any (Rows.lineTwiceSpec.pre6 enc Try.prog Try.f11 Rows.lineTwiceRow.domain false) (Rows.lineTwiceSpec.post enc Try.prog Try.f11 false true false false) := by
  refine returnsInHanded_of_change (C := Try.checked) own started (by kernel_rfl) Try.func11
    (ChangeSpec.witness6 (enc := enc) (C := Try.checked) false ⟨#[], #[.slice none 0 0, .int .u8 0], []⟩ 8 (by kernel_rfl) (by kernel_rfl) (by kernel_rfl) (by kernel_rfl)) ?_
  intro W base args ds gs before hval0 hW hcnd _
  have hval : ∀ (j : Nat) t v, Try.f11.params[j]? = some t → args[j]? = some v → Value.okWide Try.prog W .any base t v := hval0
  have hW' := hW
  obtain ⟨p, q, hA0, hV, rfl, hfz, hnd⟩ := hW
  have hA : DataW.TrodAll enc Try.prog W 0 (fun _ => true) true Try.f11.params.toList args.toList ds p := hA0
  rw [Try.params11] at hA hval
  obtain ⟨v0, vs0, d0, ds0, p0, q0, hargs, rfl, rfl, h0, r0⟩ := trodAll_cons hA
  obtain ⟨v1, vs1, d1, ds1, p1, q1, rfl, rfl, rfl, h1, r1⟩ := trodAll_cons r0
  obtain ⟨rfl, rfl, rfl⟩ := trodAll_nil r1
  obtain rfl : args = #[v0, v1] := by cases args; simp_all
  obtain ⟨rfl, rfl⟩ := trodVars_none hV
  obtain ⟨a0, len0, cap0, rfl⟩ := okWide_slice Try.underlying63 (hval 0 63 v0 rfl rfl)
  have k0 := h0
  have lt0 : ∀ x ∈ p0, x.block < W.heap.size := by obtain ⟨m, hm⟩ := k0; exact DataW.trod_lt m _ _ _ hm
  obtain ⟨z0, w0⟩ : ∃ zs, IsRow .u8 W a0 len0 cap0 zs := by
    obtain ⟨fuel, hf⟩ := h0
    rcases open_ints Try.underlying63 Try.underlying5 (by kernel_rfl) hf with ⟨hcs, _⟩ | ⟨x, l, c, zs, hcs, _, hl, hm, hz, _, hcell, hwz⟩
    · simp [Value.cells] at hcs
      obtain ⟨rfl, rfl, rfl⟩ := hcs
      exact ⟨[], .inl ⟨rfl, rfl, rfl, rfl⟩⟩
    · simp [Value.cells] at hcs
      obtain ⟨rfl, rfl, rfl⟩ := hcs
      exact ⟨zs, .inr ⟨_, rfl, hl, hm, by simpa using hz, hcell, hwz⟩⟩
  obtain ⟨a1, rfl, rfl, rfl, w1⟩ := open_int Try.underlying5 (hval 1 5 v1 rfl rfl) h1
  clear hA0 hval0
  refine (walk a0 len0 cap0 z0 a1 W w0 w1).mono fun e W' ⟨he, bel⟩ => ?_
  subst he
  exact ⟨_, rfl, _, _, _, [], _, [], hW', trodAll_mk1 (shut_bool Try.underlying4 _), (trodAll_cons_mk (Below.trod laidOut (by kernel_rfl) (of_decide_eq_true (by kernel_rfl)) k0 bel lt0) (trodAll_cons_mk (shut_int Try.underlying5 w1) trodAll_mk0)), rfl, bel.frame _, fun h => by cases h⟩

theorem over : Rows.lineTwiceRow.holds Try.pinned (OpenSpec.ofChange Rows.lineTwiceSpec) :=
  OpenClaim.holds_of_wide 11 Try.f11 rfl rfl rfl rfl rfl rfl rfl ⟨rfl, rfl, rfl, rfl, rfl⟩ rfl rfl rfl rfl rfl (by kernel_rfl) Try.func11 (by kernel_rfl)
    (of_decide_eq_true (by kernel_rfl)) (by unfold Func.isWrapper; first | (rw [if_pos (by decide +kernel)]; kernel_rfl) | (rw [if_neg (by decide +kernel)]; exact ⟨rfl, rfl⟩))
    (fun os started H enc _ => lifted os started H enc)

/-- THE STATEMENT -/
theorem proved : Rows.LineTwiceSaid := over
#print axioms proved
end Go.Proofs.Ytjbjkegjcpplaaa.lineTwice

