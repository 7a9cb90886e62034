/- LineFull: a line takes as many as there is room for, and not one more; one gone there is room. No condition. -/
import Derived.Test.YtjbjkegjcpplaaaLineNums
namespace Go.Proofs.Ytjbjkegjcpplaaa.lineFull
open Go.ChangeShapes Go.WideShapes Go.ChangeAt Go.RowKit
open Go.ChangeMaps (open_string shut_string)
set_option linter.unusedVariables false

/-- THE WALK: the Go text returns true, and writes nothing that was there. -/
theorem walk (a0 : Int) (a1 : Int) (w : World) (w0 : (Lit.int .u8 a0).wf = true) (w1 : (Lit.int .u8 a1).wf = true) :
    Calls Try.prog 10 #[.int .u8 a0, .int .u8 a1] w fun e w' => e = .returned (.bool true) ∧ Below w.heap.size w w' := by
  have b0 : 0 ≤ a0 ∧ a0 ≤ 255 := by simp [Lit.wf, IntKind.min, IntKind.max, IntKind.signed, IntKind.bits] at w0; omega
  have b1 : 0 ≤ a1 ∧ a1 ≤ 255 := by simp [Lit.wf, IntKind.min, IntKind.max, IntKind.signed, IntKind.bits] at w1; omega
  obtain ⟨p0, p1⟩ := b0
  obtain ⟨q0, q1⟩ := b1
  clear w0 w1
  obtain ⟨m, hm, hm64⟩ : ∃ m : Nat, heldR a0 = m ∧ m ≤ 64 := ⟨(heldR a0).toNat, by have := heldR_bd a0; omega, by have := heldR_bd a0; omega⟩
  have Hm := hidp hm
  have hmin : (64 < a0 ∧ (m : Int) ≤ 64 ∧ 64 ≤ (m : Int)) ∨ (a0 ≤ 64 ∧ a0 ≤ (m : Int) ∧ (m : Int) ≤ a0) := by
    unfold heldR at hm
    split at hm
    · omega
    · split at hm <;> omega
  clear hm
  have I0 : I64 a0 := by unfold I64; omega
  have I1 : I64 a1 := by unfold I64; omega
  have h99 : Hid (plK (upTo m) 99 = false) := hidp (by rw [plK_upTo]; simp; omega)
  rcases hmin with ⟨hbig, m1, m2⟩ | ⟨hle, m1, m2⟩
  · skip
    go_enter Try.func10, Try.ntmps10
    go_wp2_with fail
    refine (known3_any _).mono ?_
    rintro e w1 ⟨rfl, hb1⟩
    go_wp2_with fail
    refine (newB _ 64 _ I0 (by rw [Hm.out]; omega)).mono ?_
    rintro e w2 ⟨b, cs, A, c, rfl, h⟩
    have h1 : LnB w.heap.size w w2 b 64 [] cs A c := ⟨h.ln, hb1.trans (h.below.mono hb1.size), Nat.le_trans hb1.size h.hb, fun k hk => Nat.le_trans hb1.size (h.hA k hk), Nat.le_refl _⟩
    clear h
    go_wp2_with fail
    go_loopg [7] m (fun g i wr => ∃ (k : Nat) (cs : Array Value) (A : Option Addr) (c : Nat), k + g = m ∧ i = .int .i64 k ∧ LnB w.heap.size w wr b 64 (upTo k) cs A c)
    case atStart => exact ⟨0, cs, A, c, by omega, rfl, h1⟩
    case round =>
      obtain ⟨k, cs1, A1, c1, hk, rfl, hl⟩ := hrel
      clear h1
      by_cases hlt : k < m
      · have hlt' : (k : Int) < 64 := by omega
        go_wp2_with fail
        refine (put_ok (id := (k : Int)) hl.ln (by rw [upTo_len]; omega) (by unfold I64; omega)).mono ?_
        intro e w3 hp
        obtain ⟨rfl, cs3, A3, c3, h3⟩ := hl.post hp
        rw [← upTo_succ] at h3
        clear hp hl
        go_wp2_with fail
        go_roundg (gk - 1)
        case measure => omega
        case rel => exact ⟨k + 1, cs3, A3, c3, by omega, by go_num, h3⟩
      · obtain rfl : k = m := by omega
        have hge : 64 ≤ (k : Int) := by omega
        have hlen : (((upTo k).length : Int)) = 64 := by rw [upTo_len]; omega
        have Hlen := hidp hlen
        clear hlen
        go_wp2_with fail
        refine (put_full (id := 99) hl.ln Hlen.out).mono ?_
        rintro e w4 ⟨rfl, hw⟩
        have h4 := hl.drewEx hw
        clear hl hw
        go_wp2_with fail
        refine (len_eq h4.ln Hlen.out).mono ?_
        rintro e w5 ⟨rfl, rfl⟩
        by_cases ht : a1 < 64
        · have hin : plK (upTo k) a1 = true := by rw [plK_upTo]; simp; omega
          have Hin := hidp hin
          clear hin
          go_wp2_with fail
          refine (drop_yes (id := a1) h4.ln Hin.out).mono ?_
          intro e w6 hp
          obtain ⟨rfl, cs6, A6, c6, h6⟩ := h4.post hp
          clear hp h4
          have Hno := hidp (nodup_erase (upTo_nodup k) Hin.out)
          have Hl6 : Hid (((upTo k).eraseIdx (plN (upTo k) a1)).length + 1 = k) := hidp (by rw [List.length_eraseIdx_of_lt (plN_lt Hin.out), upTo_len]; omega)
          obtain ⟨zs, Hz⟩ : ∃ zs, Hid ((upTo k).eraseIdx (plN (upTo k) a1) = zs) := ⟨_, rfl⟩
          rw [Hz.out] at h6 Hno Hl6
          go_wp2_with fail
          refine (has_eq (id := a1) h6.ln Hno.out).mono ?_
          rintro e w7 ⟨rfl, rfl⟩
          go_wp2_with fail
          refine (put_ok (id := 99) h6.ln (by have := Hl6.out; omega) (by decide)).mono ?_
          intro e w8 hp
          obtain ⟨rfl, cs8, A8, c8, h8⟩ := h6.post hp
          clear hp h6
          go_wp2_with fail
          refine (has_eq (id := 99) (v := true) h8.ln (by simp [plK])).mono ?_
          rintro e w9 ⟨rfl, rfl⟩
          go_wp2_with fail
          go_ret
          exact ⟨rfl, h8.below⟩
        · have hge2 : 64 ≤ a1 := by omega
          have Hin : Hid (plK (upTo k) a1 = false) := hidp (by rw [plK_upTo]; simp; omega)
          go_wp2_with fail
          refine (drop_not (id := a1) h4.ln Hin.out).mono ?_
          rintro e w6 ⟨rfl, rfl⟩
          go_wp2_with fail
          refine (has_eq (id := a1) h4.ln Hin.out).mono ?_
          rintro e w7 ⟨rfl, rfl⟩
          go_wp2_with fail
          refine (put_full (id := 99) h4.ln Hlen.out).mono ?_
          rintro e w8 ⟨rfl, hw⟩
          have h8 := h4.drewEx hw
          clear h4 hw
          go_wp2_with fail
          refine (has_eq (id := 99) h8.ln h99.out).mono ?_
          rintro e w9 ⟨rfl, rfl⟩
          go_wp2_with fail
          go_ret
          exact ⟨ret_bool (by simp; omega), h8.below⟩
  · skip
    go_enter Try.func10, Try.ntmps10
    go_wp2_with fail
    refine (known3_any _).mono ?_
    rintro e w1 ⟨rfl, hb1⟩
    go_wp2_with fail
    refine (newB _ a0 _ I0 (by rw [Hm.out]; omega)).mono ?_
    rintro e w2 ⟨b, cs, A, c, rfl, h⟩
    have h1 : LnB w.heap.size w w2 b a0 [] cs A c := ⟨h.ln, hb1.trans (h.below.mono hb1.size), Nat.le_trans hb1.size h.hb, fun k hk => Nat.le_trans hb1.size (h.hA k hk), Nat.le_refl _⟩
    clear h
    go_wp2_with fail
    go_loopg [7] m (fun g i wr => ∃ (k : Nat) (cs : Array Value) (A : Option Addr) (c : Nat), k + g = m ∧ i = .int .i64 k ∧ LnB w.heap.size w wr b a0 (upTo k) cs A c)
    case atStart => exact ⟨0, cs, A, c, by omega, rfl, h1⟩
    case round =>
      obtain ⟨k, cs1, A1, c1, hk, rfl, hl⟩ := hrel
      clear h1
      by_cases hlt : k < m
      · have hlt' : (k : Int) < a0 := by omega
        go_wp2_with fail
        refine (put_ok (id := (k : Int)) hl.ln (by rw [upTo_len]; omega) (by unfold I64; omega)).mono ?_
        intro e w3 hp
        obtain ⟨rfl, cs3, A3, c3, h3⟩ := hl.post hp
        rw [← upTo_succ] at h3
        clear hp hl
        go_wp2_with fail
        go_roundg (gk - 1)
        case measure => omega
        case rel => exact ⟨k + 1, cs3, A3, c3, by omega, by go_num, h3⟩
      · obtain rfl : k = m := by omega
        have hge : a0 ≤ (k : Int) := by omega
        have hlen : (((upTo k).length : Int)) = a0 := by rw [upTo_len]; omega
        have Hlen := hidp hlen
        clear hlen
        go_wp2_with fail
        refine (put_full (id := 99) hl.ln Hlen.out).mono ?_
        rintro e w4 ⟨rfl, hw⟩
        have h4 := hl.drewEx hw
        clear hl hw
        go_wp2_with fail
        refine (len_eq h4.ln Hlen.out).mono ?_
        rintro e w5 ⟨rfl, rfl⟩
        by_cases ht : a1 < a0
        · have hin : plK (upTo k) a1 = true := by rw [plK_upTo]; simp; omega
          have Hin := hidp hin
          clear hin
          go_wp2_with fail
          refine (drop_yes (id := a1) h4.ln Hin.out).mono ?_
          intro e w6 hp
          obtain ⟨rfl, cs6, A6, c6, h6⟩ := h4.post hp
          clear hp h4
          have Hno := hidp (nodup_erase (upTo_nodup k) Hin.out)
          have Hl6 : Hid (((upTo k).eraseIdx (plN (upTo k) a1)).length + 1 = k) := hidp (by rw [List.length_eraseIdx_of_lt (plN_lt Hin.out), upTo_len]; omega)
          obtain ⟨zs, Hz⟩ : ∃ zs, Hid ((upTo k).eraseIdx (plN (upTo k) a1) = zs) := ⟨_, rfl⟩
          rw [Hz.out] at h6 Hno Hl6
          go_wp2_with fail
          refine (has_eq (id := a1) h6.ln Hno.out).mono ?_
          rintro e w7 ⟨rfl, rfl⟩
          go_wp2_with fail
          refine (put_ok (id := 99) h6.ln (by have := Hl6.out; omega) (by decide)).mono ?_
          intro e w8 hp
          obtain ⟨rfl, cs8, A8, c8, h8⟩ := h6.post hp
          clear hp h6
          go_wp2_with fail
          refine (has_eq (id := 99) (v := true) h8.ln (by simp [plK])).mono ?_
          rintro e w9 ⟨rfl, rfl⟩
          go_wp2_with fail
          go_ret
          exact ⟨rfl, h8.below⟩
        · have hge2 : a0 ≤ a1 := by omega
          have Hin : Hid (plK (upTo k) a1 = false) := hidp (by rw [plK_upTo]; simp; omega)
          go_wp2_with fail
          refine (drop_not (id := a1) h4.ln Hin.out).mono ?_
          rintro e w6 ⟨rfl, rfl⟩
          go_wp2_with fail
          refine (has_eq (id := a1) h4.ln Hin.out).mono ?_
          rintro e w7 ⟨rfl, rfl⟩
          go_wp2_with fail
          refine (put_full (id := 99) h4.ln Hlen.out).mono ?_
          rintro e w8 ⟨rfl, hw⟩
          have h8 := h4.drewEx hw
          clear h4 hw
          go_wp2_with fail
          refine (has_eq (id := 99) h8.ln h99.out).mono ?_
          rintro e w9 ⟨rfl, rfl⟩
          go_wp2_with fail
          go_ret
          exact ⟨ret_bool (by simp; omega), h8.below⟩

theorem own : ownKnob Try.prog.godebug = none := by kernel_rfl
theorem laidOut : laidOutB Try.prog = true := by kernel_rfl

/-! THE ROW's STEP -/
set_option maxRecDepth 100000 in
theorem lifted (os : Os) (started : os.Started) (H : Type) (enc : TypeId × Value → H) :
    ReturnsInHanded {} Try.checked os 10 .any (Rows.lineFullSpec.pre6 enc Try.prog Try.f10 Rows.lineFullRow.domain false) (Rows.lineFullSpec.post enc Try.prog Try.f10 false true false false) := by
  refine returnsInHanded_of_change (C := Try.checked) own started (by kernel_rfl) Try.func10
    (ChangeSpec.witness6 (enc := enc) (C := Try.checked) false ⟨#[], #[.int .u8 0, .int .u8 0], []⟩ 8 (by kernel_rfl) (by kernel_rfl) (by kernel_rfl) (by kernel_rfl)) ?_
  intro W base args ds gs before hval0 hW hcnd _
  have hval : ∀ (j : Nat) t v, Try.f10.params[j]? = some t → args[j]? = some v → Value.okWide Try.prog W .any base t v := hval0
  have hW' := hW
  obtain ⟨p, q, hA0, hV, rfl, hfz, hnd⟩ := hW
  have hA : DataW.TrodAll enc Try.prog W 0 (fun _ => true) true Try.f10.params.toList args.toList ds p := hA0
  rw [Try.params10] at hA hval
  obtain ⟨v0, vs0, d0, ds0, p0, q0, hargs, rfl, rfl, h0, r0⟩ := trodAll_cons hA
  obtain ⟨v1, vs1, d1, ds1, p1, q1, rfl, rfl, rfl, h1, r1⟩ := trodAll_cons r0
  obtain ⟨rfl, rfl, rfl⟩ := trodAll_nil r1
  obtain rfl : args = #[v0, v1] := by cases args; simp_all
  obtain ⟨rfl, rfl⟩ := trodVars_none hV
  obtain ⟨a0, rfl, rfl, rfl, w0⟩ := open_int Try.underlying5 (hval 0 5 v0 rfl rfl) h0
  obtain ⟨a1, rfl, rfl, rfl, w1⟩ := open_int Try.underlying5 (hval 1 5 v1 rfl rfl) h1
  clear hA0 hval0
  refine (walk a0 a1 W w0 w1).mono fun e W' ⟨he, bel⟩ => ?_
  subst he
  exact ⟨_, rfl, _, _, _, [], _, [], hW', trodAll_mk1 (shut_bool Try.underlying4 _), (trodAll_cons_mk (shut_int Try.underlying5 w0) (trodAll_cons_mk (shut_int Try.underlying5 w1) trodAll_mk0)), rfl, bel.frame _, fun h => by cases h⟩

theorem over : Rows.lineFullRow.holds Try.pinned (OpenSpec.ofChange Rows.lineFullSpec) :=
  OpenClaim.holds_of_wide 10 Try.f10 rfl rfl rfl rfl rfl rfl rfl ⟨rfl, rfl, rfl, rfl, rfl⟩ rfl rfl rfl rfl rfl (by kernel_rfl) Try.func10 (by kernel_rfl)
    (of_decide_eq_true (by kernel_rfl)) (by unfold Func.isWrapper; first | (rw [if_pos (by decide +kernel)]; kernel_rfl) | (rw [if_neg (by decide +kernel)]; exact ⟨rfl, rfl⟩))
    (fun os started H enc _ => lifted os started H enc)

/-- THE STATEMENT -/
theorem proved : Rows.LineFullSaid := over
#print axioms proved
end Go.Proofs.Ytjbjkegjcpplaaa.lineFull

