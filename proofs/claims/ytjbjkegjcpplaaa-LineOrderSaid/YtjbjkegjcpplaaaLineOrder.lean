/- LineOrder: who came first goes first, whoever came meanwhile, as long as there is room. No condition. -/
import Derived.Test.YtjbjkegjcpplaaaLineNums
namespace Go.Proofs.Ytjbjkegjcpplaaa.lineOrder
open Go.ChangeShapes Go.WideShapes Go.ChangeAt Go.RowKit
open Go.ChangeMaps (open_string shut_string)
set_option linter.unusedVariables false

/-- THE WALK: the Go text returns true, and writes nothing that was there. -/
theorem walk (a0 : Option Addr) (len0 cap0 : Nat) (z0 : List Int) (a1 : Int) (w : World) (w0 : IsRow .u8 w a0 len0 cap0 z0) (w1 : (Lit.int .u8 a1).wf = true) :
    Calls Try.prog 9 #[.slice a0 len0 cap0, .int .u8 a1] w fun e w' => e = .returned (.bool true) ∧ Below w.heap.size w w' := by
  obtain ⟨hr, hl, hm, hz⟩ := w0.row
  have hcap : len0 ≤ cap0 := by rcases w0 with ⟨_, rfl, rfl, _⟩ | ⟨_, _, h, _⟩ <;> omega
  clear w0
  obtain ⟨zs, hzs⟩ : ∃ zs, z0.take len0 = zs := ⟨_, rfl⟩
  rw [hzs] at hr hl hz
  clear hzs
  subst hl
  unfold maxLen at hm
  have b1 : 0 ≤ a1 ∧ a1 ≤ 255 := by simp [Lit.wf, IntKind.min, IntKind.max, IntKind.signed, IntKind.bits] at w1; omega
  obtain ⟨q0, q1⟩ := b1
  clear w1
  have Hz := hidp (u8_bd hz)
  clear hz
  have HR := hidp hr
  clear hr
  by_cases h64 : 64 < zs.length
  · go_enter Try.func9, Try.ntmps9
    go_wp2_with fail
    refine (known3_any _).mono ?_
    rintro e w1 ⟨rfl, hb1⟩
    go_wp2_with fail
    go_ret
    exact ⟨rfl, hb1⟩
  · go_enter Try.func9, Try.ntmps9
    go_wp2_with fail
    refine (known3_any _).mono ?_
    rintro e w1 ⟨rfl, hb1⟩
    go_wp2_with fail
    refine (newB 64 64 _ (by decide) (by decide)).mono ?_
    rintro e w2 ⟨b, cs, A, c, rfl, h⟩
    have h1 := h.since hb1
    clear h
    go_wp2_with fail
    go_loopg [6, 7] zs.length (fun g at_ i wr => ∃ (k j : Nat) (cs : Array Value) (A : Option Addr) (c : Nat), k + g = zs.length ∧ j ≤ k ∧ i = .int .i64 k ∧ at_ = .int .i64 j ∧ LnB w.heap.size w wr b 64 ((zs.take k).drop j) cs A c)
    case atStart => exact ⟨0, 0, cs, A, c, by omega, Nat.le_refl _, rfl, rfl, h1⟩
    case round =>
      obtain ⟨k, j, cs1, A1, c1, hk, hj, rfl, rfl, hl⟩ := hrel
      clear h1
      by_cases hlt : k < zs.length
      · obtain ⟨g, off, hA, hc⟩ := HR.out.resolve_left (by intro e; simp [e] at hlt)
        subst hA
        have Hc := hidp hc
        clear hc
        obtain ⟨n, HN⟩ : ∃ n, Hid (zs.getD k 0 = n) := ⟨_, rfl⟩
        obtain ⟨n0, n1⟩ := HN.out ▸ Hz.out k hlt
        have ck : wr.cell? ⟨g, off + k, none⟩ = some (.int .u8 n) := hl.old (HN.out ▸ Hc.out k hlt)
        have e1 : Hid ((zs.take k).drop j ++ [n] = (zs.take (k + 1)).drop j) := hidp (by
          rw [take_snoc zs k hlt, HN.out, List.drop_append_of_le_length (by simp; omega)])
        go_wp2_with fail
        refine (put_ok (id := n) hl.ln (by simp; omega) (by unfold I64; omega)).mono ?_
        intro e w3 hp
        obtain ⟨rfl, cs3, A3, c3, h3⟩ := hl.post hp
        rw [e1.out] at h3
        clear hp hl ck
        go_wp2_with fail
        · obtain ⟨x, HX⟩ : ∃ x, Hid (zs.getD j 0 = x) := ⟨_, rfl⟩
          obtain ⟨x0, x1⟩ := HX.out ▸ Hz.out j (by omega)
          have e2 := take_drop_cons zs (k + 1) j (by omega) (by omega)
          rw [HX.out] at e2
          rw [e2] at h3
          clear e2
          refine (take_cons h3.ln).mono ?_
          intro e w4 hp
          obtain ⟨rfl, cs4, A4, c4, h4⟩ := h3.post hp
          clear hp h3
          have cj : w4.cell? ⟨g, off + j, none⟩ = some (.int .u8 x) := h4.old (HX.out ▸ Hc.out j (by omega))
          go_wp2_with fail
          go_roundg (gk - 1)
          case measure => omega
          case rel => exact ⟨k + 1, j + 1, cs4, A4, c4, by omega, by omega, by go_num, by go_num, h4⟩
        · go_roundg (gk - 1)
          case measure => omega
          case rel => exact ⟨k + 1, j, cs3, A3, c3, by omega, by omega, by go_num, rfl, h3⟩
      · obtain rfl : k = zs.length := by omega
        clear hlt hk
        go_wp2_with fail
        obtain ⟨wo, rfl⟩ : ∃ wo : World, wo = wr := ⟨_, rfl⟩
        go_loopg [6] (zs.length - j) (fun g at_ wr => ∃ (j : Nat) (cs : Array Value) (A : Option Addr) (c : Nat), j + g = zs.length ∧ at_ = .int .i64 j ∧ LnB w.heap.size w wr b 64 ((zs.take zs.length).drop j) cs A c)
        case atStart => exact ⟨j, cs1, A1, c1, by omega, rfl, hl⟩
        case round =>
          obtain ⟨j, cs1, A1, c1, hj, rfl, hl⟩ := hrel
          by_cases hlt : j < zs.length
          · obtain ⟨g, off, hA, hc⟩ := HR.out.resolve_left (by intro e; simp [e] at hlt)
            subst hA
            have Hc := hidp hc
            clear hc
            obtain ⟨x, HX⟩ : ∃ x, Hid (zs.getD j 0 = x) := ⟨_, rfl⟩
            obtain ⟨x0, x1⟩ := HX.out ▸ Hz.out j (by omega)
            have e2 := take_drop_cons zs zs.length j (by omega) (by omega)
            rw [HX.out] at e2
            rw [e2] at hl
            clear e2
            go_wp2_with fail
            refine (take_cons hl.ln).mono ?_
            intro e w4 hp
            obtain ⟨rfl, cs4, A4, c4, h4⟩ := hl.post hp
            clear hp hl
            have cj : w4.cell? ⟨g, off + j, none⟩ = some (.int .u8 x) := h4.old (HX.out ▸ Hc.out j (by omega))
            go_wp2_with fail
            go_roundg (gk - 1)
            case measure => omega
            case rel => exact ⟨j + 1, cs4, A4, c4, by omega, by go_num, h4⟩
          · obtain rfl : j = zs.length := by omega
            clear hlt
            go_wp2_with fail
            refine (len_eq (n := 0) hl.ln (by simp)).mono ?_
            rintro e w5 ⟨rfl, rfl⟩
            go_wp2_with fail
            go_ret
            exact ⟨rfl, hl.below⟩

theorem own : ownKnob Try.prog.godebug = none := by kernel_rfl
theorem laidOut : laidOutB Try.prog = true := by kernel_rfl

/-! THE ROW's STEP -/
set_option maxRecDepth 100000 in
theorem lifted (os : Os) (started : os.Started) (H : Type) (enc : TypeId × Value → H) :
    ReturnsInHanded {} Try.checked os 9 .any (Rows.lineOrderSpec.pre6 enc Try.prog Try.f9 Rows.lineOrderRow.domain false) (Rows.lineOrderSpec.post enc Try.prog Try.f9 false true false false) := by
  refine returnsInHanded_of_change (C := Try.checked) own started (by kernel_rfl) Try.func9
    (ChangeSpec.witness6 (enc := enc) (C := Try.checked) false ⟨#[], #[.slice none 0 0, .int .u8 0], []⟩ 8 (by kernel_rfl) (by kernel_rfl) (by kernel_rfl) (by kernel_rfl)) ?_
  intro W base args ds gs before hval0 hW hcnd _
  have hval : ∀ (j : Nat) t v, Try.f9.params[j]? = some t → args[j]? = some v → Value.okWide Try.prog W .any base t v := hval0
  have hW' := hW
  obtain ⟨p, q, hA0, hV, rfl, hfz, hnd⟩ := hW
  have hA : DataW.TrodAll enc Try.prog W 0 (fun _ => true) true Try.f9.params.toList args.toList ds p := hA0
  rw [Try.params9] at hA hval
  obtain ⟨v0, vs0, d0, ds0, p0, q0, hargs, rfl, rfl, h0, r0⟩ := trodAll_cons hA
  obtain ⟨v1, vs1, d1, ds1, p1, q1, rfl, rfl, rfl, h1, r1⟩ := trodAll_cons r0
  obtain ⟨rfl, rfl, rfl⟩ := trodAll_nil r1
  obtain rfl : args = #[v0, v1] := by cases args; simp_all
  obtain ⟨rfl, rfl⟩ := trodVars_none hV
  obtain ⟨a0, len0, cap0, rfl⟩ := okWide_slice Try.underlying63 (hval 0 63 v0 rfl rfl)
  have k0 := h0
  have lt0 : ∀ x ∈ p0, x.block < W.heap.size := by obtain ⟨m, hm⟩ := k0; exact DataW.trod_lt m _ _ _ hm
  obtain ⟨z0, w0⟩ : ∃ zs, IsRow .u8 W a0 len0 cap0 zs := by
    obtain ⟨fuel, hf⟩ := h0
    rcases open_ints Try.underlying63 Try.underlying5 (by kernel_rfl) hf with ⟨hcs, _⟩ | ⟨x, l, c, zs, hcs, _, hl, hm, hz, _, hcell, hwz⟩
    · simp [Value.cells] at hcs
      obtain ⟨rfl, rfl, rfl⟩ := hcs
      exact ⟨[], .inl ⟨rfl, rfl, rfl, rfl⟩⟩
    · simp [Value.cells] at hcs
      obtain ⟨rfl, rfl, rfl⟩ := hcs
      exact ⟨zs, .inr ⟨_, rfl, hl, hm, by simpa using hz, hcell, hwz⟩⟩
  obtain ⟨a1, rfl, rfl, rfl, w1⟩ := open_int Try.underlying5 (hval 1 5 v1 rfl rfl) h1
  clear hA0 hval0
  refine (walk a0 len0 cap0 z0 a1 W w0 w1).mono fun e W' ⟨he, bel⟩ => ?_
  subst he
  exact ⟨_, rfl, _, _, _, [], _, [], hW', trodAll_mk1 (shut_bool Try.underlying4 _), (trodAll_cons_mk (Below.trod laidOut (by kernel_rfl) (of_decide_eq_true (by kernel_rfl)) k0 bel lt0) (trodAll_cons_mk (shut_int Try.underlying5 w1) trodAll_mk0)), rfl, bel.frame _, fun h => by cases h⟩

theorem over : Rows.lineOrderRow.holds Try.pinned (OpenSpec.ofChange Rows.lineOrderSpec) :=
  OpenClaim.holds_of_wide 9 Try.f9 rfl rfl rfl rfl rfl rfl rfl ⟨rfl, rfl, rfl, rfl, rfl⟩ rfl rfl rfl rfl rfl (by kernel_rfl) Try.func9 (by kernel_rfl)
    (of_decide_eq_true (by kernel_rfl)) (by unfold Func.isWrapper; first | (rw [if_pos (by decide +kernel)]; kernel_rfl) | (rw [if_neg (by decide +kernel)]; exact ⟨rfl, rfl⟩))
    (fun os started H enc _ => lifted os started H enc)

/-- THE STATEMENT -/
theorem proved : Rows.LineOrderSaid := over
#print axioms proved
end Go.Proofs.Ytjbjkegjcpplaaa.lineOrder

