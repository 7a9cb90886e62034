/- SortedTells: sorted tells what the reference tells. No condition. -/
import Derived.Test.YtjbjkegjcpplaaaSortTopRef
import Derived.Test.YtjbjkegjcpplaaaPairs
namespace Go.Proofs.Ytjbjkegjcpplaaa
open Go.ChangeShapes Go.WideShapes Go.ChangeAt Go.RowKit
theorem qb {w w' : World} (h : Qt w w') : Below w.heap.size w w' := h.below (Below.refl _ _)
theorem keep2 {w w1 : World} {p q : Addr} {u v : Value} (hb : Below w.heap.size w w1) (h : w.cell? p = some u ∧ w.cell? q = some v) : w1.cell? p = some u ∧ w1.cell? q = some v :=
  ⟨(hb.cell (cell_lt h.1)).trans h.1, (hb.cell (cell_lt h.2)).trans h.2⟩
end Go.Proofs.Ytjbjkegjcpplaaa
set_option maxHeartbeats 3000000
namespace Go.Proofs.Ytjbjkegjcpplaaa.sortedTells
open Go.ChangeShapes Go.WideShapes Go.ChangeAt Go.RowKit
open Go.ChangeMaps (open_string shut_string)
set_option linter.unusedVariables false

/-- THE WALK: the Go text returns true, and writes nothing that was there. -/
theorem walk (a0 : Option Addr) (len0 cap0 : Nat) (z0 : List (Int × Int)) (x1 y1 : Int) (a2 : Option Addr) (len2 cap2 : Nat) (z2 : List Int) (a3 : Int) (w : World) (w0 : IsPairs w a0 len0 cap0 z0) (w1 : I64 x1 ∧ I64 y1) (w2 : IsRow .i64 w a2 len2 cap2 z2) (w3 : (Lit.int .i64 a3).wf = true) :
    Calls Try.prog 3 #[.slice a0 len0 cap0, .agg #[.int .i64 x1, .int .i64 y1], .slice a2 len2 cap2, .int .i64 a3] w fun e w' => e = .returned (.bool true) ∧ Below w.heap.size w w' := by
  have hpr := RdI.of_pairs w0
  have hrow := w0.row
  obtain ⟨_, _, _, hfit, _, _⟩ := hrow
  obtain ⟨hr, hl, hm, hz⟩ := w2.row
  have hcap : len2 ≤ cap2 ∧ (a2 = none → len2 = 0 ∧ cap2 = 0) := by
    rcases w2 with ⟨rfl, rfl, rfl, rfl⟩ | ⟨x, rfl, hl, _⟩
    · exact ⟨Nat.le_refl _, fun _ => ⟨rfl, rfl⟩⟩
    · exact ⟨hl, fun e => by cases e⟩
  clear w0 w2
  generalize z2.take len2 = zs at *
  have Hf : Hid (∀ n ∈ zs, I64 n) := hidp fun n hn => i64_of (hz n hn)
  have Hk : Hid (I64 a3) := hidp (i64_of w3)
  have Hx := hidp w1
  have HN : Hid (len2 = zs.length) := hidp hl.symm
  have Hc := hidp hcap.1
  have Hnil := hidp hcap.2
  have Hr := hidp hr
  have Hpr := hidp hpr
  clear hz w3 w1 hl hcap hr hpr hm hfit
  by_cases h50 : 50 < len0
  · clear Hpr
    go_enter Try.func3, Try.ntmps3
    go_wp2_with fail
    refine (known2_any _).mono ?_
    rintro e u1 ⟨rfl, hb1⟩
    have hbe : Below w.heap.size w u1 := ((Below.refl w.heap.size w).alloc (Nat.le_refl _) _).trans (hb1.mono (by simp))
    go_wp2_with fail
    go_ret
    exact ⟨rfl, hbe⟩
  by_cases h52 : 50 < len2
  · clear Hpr
    go_enter Try.func3, Try.ntmps3
    go_wp2_with fail
    refine (known2_any _).mono ?_
    rintro e u1 ⟨rfl, hb1⟩
    have hbe : Below w.heap.size w u1 := ((Below.refl w.heap.size w).alloc (Nat.le_refl _) _).trans (hb1.mono (by simp))
    go_wp2_with fail
    go_ret
    exact ⟨rfl, hbe⟩
  · obtain ⟨b, HB⟩ : ∃ b, Hid (isB z0 = b) := ⟨_, rfl⟩
    obtain ⟨sv, HS⟩ : ∃ sv, Hid (sumW (tops zs a3) = sv) := ⟨_, rfl⟩
    have H50 : Hid (len0 ≤ 50) := hidp (by omega)
    have H51 : Hid (len0 + 1 ≤ 1000) := hidp (by omega)
    have H52 : Hid (len2 ≤ 50) := hidp (by omega)
    have HT : Hid (clampN a3 len2 = (tops zs a3).length) := hidp (by rw [tops_len, HN.out])
    have HT2 : Hid ((tops zs a3).length ≤ 1000) := hidp (by rw [tops_len]; have := clampN_le a3 zs.length; have := HN.out; omega)
    go_enter Try.func3, Try.ntmps3
    go_wp2_with fail
    refine (known2_any _).mono ?_
    rintro e u1 ⟨rfl, hb1⟩
    have hbe : Below w.heap.size w u1 := ((Below.refl w.heap.size w).alloc (Nat.le_refl _) _).trans (hb1.mono (by simp))
    have hs : u1.cell? ⟨w.heap.size, 0, none⟩ = some (.int .i64 x1) ∧ u1.cell? ⟨w.heap.size, 1, none⟩ = some (.int .i64 y1) := keep2 hb1 ⟨by simp, by simp⟩
    have rl := Hpr.out.over hbe
    have rz := Hr.out.below hbe
    clear hb1
    go_wp2_with fail
    refine (rsort_any rl (Nat.le_trans H50.out (by decide))).mono ?_
    rintro e u2 ⟨S, sc, rfl, rs, hb⟩
    replace hbe : Below w.heap.size w u2.drew := (hbe.trans (hb.mono hbe.size)).drew
    have hs2 := keep2 hb hs
    have rz2 := rz.below hb
    clear hs rz
    have hs : u2.drew.cell? ⟨w.heap.size, 0, none⟩ = some (.int .i64 x1) ∧ u2.drew.cell? ⟨w.heap.size, 1, none⟩ = some (.int .i64 y1) := hs2
    replace rl := (rl.over hb).drew
    have rz : Row u2.drew .i64 a2 zs := rz2
    clear hs2 rz2
    replace rs := rs.drew
    clear hb
    go_wp2_with fail
    go_region_held3 (fun w' => w'.cell? ⟨w.heap.size, 0, none⟩ = some (.int .i64 x1) ∧ w'.cell? ⟨w.heap.size, 1, none⟩ = some (.int .i64 y1)) (exact hs)
      (first
        | (go_at_call 15; refine (sort_any rl (Nat.le_trans H50.out (by decide))).mono ?_; rintro e u ⟨DA, dA, rfl, oA, hb⟩; have rA := RdI.of_own oA; have rl := rl.over hb; have rs := rs.over hb; have rz := rz.below hb; have hs := keep2 hb hs; have hbe := hbe.trans (hb.mono hbe.size))
        | (go_at_call 14; (first | (refine (same_any rP rQ H51.out).mono ?_; rintro e u ⟨rfl, hb⟩; have rl := rl.over hb; have rs := rs.over hb; have rz := rz.below hb; have hs := keep2 hb hs; have hbe := hbe.trans (hb.mono hbe.size)) | (refine (same_any rA rs (Nat.le_trans H50.out (by decide))).mono ?_; rintro e u ⟨rfl, hb⟩; have rl := rl.over hb; have rs := rs.over hb; have rz := rz.below hb; have hs := keep2 hb hs; have hbe := hbe.trans (hb.mono hbe.size))))
        | (go_at_call 16; refine (is_any rl (Nat.le_trans H50.out (by decide))).mono ?_; rintro e u ⟨rfl, hb⟩; rw [HB.out]; have rl := rl.over hb; have rs := rs.over hb; have rz := rz.below hb; have hs := keep2 hb hs; have hbe := hbe.trans (hb.mono hbe.size))
        | (go_at_call 17; refine (ris_any rl (Nat.le_trans H50.out (by decide))).mono ?_; rintro e u ⟨rfl, hb⟩; rw [HB.out]; have rl := rl.over hb; have rs := rs.over hb; have rz := rz.below hb; have hs := keep2 hb hs; have hbe := hbe.trans (hb.mono hbe.size))
        | (go_at_call 18; refine (sput_any rl (Nat.le_trans H50.out (by decide)) Hx.out).mono ?_; rintro e u ⟨DP, dP, rfl, oP, hb⟩; have rP := RdI.of_own oP; have rl := rl.over hb; have rs := rs.over hb; have rz := rz.below hb; have hs := keep2 hb hs; have hbe := hbe.trans (hb.mono hbe.size))
        | (go_at_call 19; refine (rput_any rs (Nat.le_trans H50.out (by decide)) Hx.out).mono ?_; rintro e u ⟨DQ, dQ, rfl, oQ, hb⟩; have rQ := RdI.of_own oQ; have rP := rP.over hb; have rl := rl.over hb; have rs := rs.over hb; have rz := rz.below hb; have hs := keep2 hb hs; have hbe := hbe.trans (hb.mono hbe.size))
        | (go_at_call 21; refine (top_any rz HN.out Hc.out Hnil.out (Nat.le_trans H52.out (by decide)) Hk.out).mono ?_; rintro e u ⟨DT, dT, rfl, rT, hb⟩; have rl := rl.over hb; have rs := rs.over hb; have rz := rz.below hb; have hs := keep2 hb hs; have hbe := hbe.trans (hb.mono hbe.size))
        | (go_at_call 22; refine (rtop_any rz HN.out Hnil.out (Nat.le_trans H52.out (by decide)) Hk.out Hf.out).mono ?_; rintro e u ⟨DU, dU, rfl, rU, hb⟩; have rT := rT.below hb; have rl := rl.over hb; have rs := rs.over hb; have rz := rz.below hb; have hs := keep2 hb hs; have hbe := hbe.trans (hb.mono hbe.size))
        | (go_at_call 20; refine (same_yes rT rU HT.out HT.out HT2.out).mono ?_; rintro e u ⟨rfl, hq⟩; have hb := qb hq; have rl := rl.over hb; have rs := rs.over hb; have rz := rz.below hb; have hs := keep2 hb hs; have hbe := hbe.trans (hb.mono hbe.size))
        | (go_at_call 23; refine (ssum_any rz HN.out Hc.out Hnil.out (Nat.le_trans H52.out (by decide)) Hk.out Hf.out).mono ?_; rintro e u ⟨rfl, hb⟩; rw [HS.out]; have rl := rl.over hb; have rs := rs.over hb; have rz := rz.below hb; have hs := keep2 hb hs; have hbe := hbe.trans (hb.mono hbe.size))
        | (go_at_call 24; refine (rsum_any rz HN.out Hc.out Hnil.out (Nat.le_trans H52.out (by decide)) Hk.out Hf.out).mono ?_; rintro e u ⟨rfl, hb⟩; rw [HS.out]; have rl := rl.over hb; have rs := rs.over hb; have rz := rz.below hb; have hs := keep2 hb hs; have hbe := hbe.trans (hb.mono hbe.size)))
    go_wp2_with fail
    go_ret
    exact ⟨rfl, hbe⟩

theorem own : ownKnob Try.prog.godebug = none := by kernel_rfl
theorem laidOut : laidOutB Try.prog = true := by kernel_rfl

/-! THE ROW's STEP -/
set_option maxRecDepth 100000 in
theorem lifted (os : Os) (started : os.Started) (H : Type) (enc : TypeId × Value → H) :
    ReturnsInHanded {} Try.checked os 3 .any (Rows.sortedTellsSpec.pre6 enc Try.prog Try.f3 Rows.sortedTellsRow.domain false) (Rows.sortedTellsSpec.post enc Try.prog Try.f3 false true false false) := by
  refine returnsInHanded_of_change (C := Try.checked) own started (by kernel_rfl) Try.func3
    (ChangeSpec.witness6 (enc := enc) (C := Try.checked) false ⟨#[], #[.slice none 0 0, .agg #[.int .i64 0, .int .i64 0], .slice none 0 0, .int .i64 0], []⟩ 8 (by kernel_rfl) (by kernel_rfl) (by kernel_rfl) (by kernel_rfl)) ?_
  intro W base args ds gs before hval0 hW hcnd _
  have hval : ∀ (j : Nat) t v, Try.f3.params[j]? = some t → args[j]? = some v → Value.okWide Try.prog W .any base t v := hval0
  have hW' := hW
  obtain ⟨p, q, hA0, hV, rfl, hfz, hnd⟩ := hW
  have hA : DataW.TrodAll enc Try.prog W 0 (fun _ => true) true Try.f3.params.toList args.toList ds p := hA0
  rw [Try.params3] at hA hval
  obtain ⟨v0, vs0, d0, ds0, p0, q0, hargs, rfl, rfl, h0, r0⟩ := trodAll_cons hA
  obtain ⟨v1, vs1, d1, ds1, p1, q1, rfl, rfl, rfl, h1, r1⟩ := trodAll_cons r0
  obtain ⟨v2, vs2, d2, ds2, p2, q2, rfl, rfl, rfl, h2, r2⟩ := trodAll_cons r1
  obtain ⟨v3, vs3, d3, ds3, p3, q3, rfl, rfl, rfl, h3, r3⟩ := trodAll_cons r2
  obtain ⟨rfl, rfl, rfl⟩ := trodAll_nil r3
  obtain rfl : args = #[v0, v1, v2, v3] := by cases args; simp_all
  obtain ⟨rfl, rfl⟩ := trodVars_none hV
  obtain ⟨a0, len0, cap0, rfl⟩ := okWide_slice Try.underlying22 (hval 0 22 v0 rfl rfl)
  have k0 := h0
  have lt0 : ∀ x ∈ p0, x.block < W.heap.size := by obtain ⟨m, hm⟩ := k0; exact DataW.trod_lt m _ _ _ hm
  obtain ⟨z0, w0⟩ : ∃ zs, IsPairs W a0 len0 cap0 zs := by
    obtain ⟨fuel, hf⟩ := h0
    obtain ⟨x1, x2, x3, zs, hcs, hz⟩ := open_pairs Try.underlying22 Try.underlying24 (by kernel_rfl) rfl rfl (by kernel_rfl) (by kernel_rfl) Try.underlying3 Try.underlying3 hf
    simp [Value.cells] at hcs
    obtain ⟨rfl, rfl, rfl⟩ := hcs
    exact ⟨zs, hz⟩
  obtain ⟨c1, rfl, hsz1⟩ := okWide_struct Try.underlying24 (hval 1 24 v1 rfl rfl)
  have k1 := h1
  have lt1 : ∀ x ∈ p1, x.block < W.heap.size := by obtain ⟨m, hm⟩ := k1; exact DataW.trod_lt m _ _ _ hm
  obtain ⟨x1, y1, rfl, w1⟩ : ∃ x y, c1 = #[.int .i64 x, .int .i64 y] ∧ I64 x ∧ I64 y := by
    obtain ⟨fuel, hf⟩ := h1
    obtain ⟨x, y, hcs, hz⟩ := open_pair Try.underlying24 rfl rfl (by kernel_rfl) (by kernel_rfl) Try.underlying3 Try.underlying3 hf
    refine ⟨x, y, ?_, hz⟩
    obtain ⟨l⟩ := c1
    have hl : l.length = 2 := hsz1
    simp [Value.cells] at hcs
    rw [List.take_of_length_le (by omega)] at hcs
    rw [hcs]
  obtain ⟨a2, len2, cap2, rfl⟩ := okWide_slice Try.underlying25 (hval 2 25 v2 rfl rfl)
  have k2 := h2
  have lt2 : ∀ x ∈ p2, x.block < W.heap.size := by obtain ⟨m, hm⟩ := k2; exact DataW.trod_lt m _ _ _ hm
  obtain ⟨z2, w2⟩ : ∃ zs, IsRow .i64 W a2 len2 cap2 zs := by
    obtain ⟨fuel, hf⟩ := h2
    rcases open_ints Try.underlying25 Try.underlying3 (by kernel_rfl) hf with ⟨hcs, _⟩ | ⟨x, l, c, zs, hcs, _, hl, hm, hz, _, hcell, hwz⟩
    · simp [Value.cells] at hcs
      obtain ⟨rfl, rfl, rfl⟩ := hcs
      exact ⟨[], .inl ⟨rfl, rfl, rfl, rfl⟩⟩
    · simp [Value.cells] at hcs
      obtain ⟨rfl, rfl, rfl⟩ := hcs
      exact ⟨zs, .inr ⟨_, rfl, hl, hm, by simpa using hz, hcell, hwz⟩⟩
  obtain ⟨a3, rfl, rfl, rfl, w3⟩ := open_int Try.underlying3 (hval 3 3 v3 rfl rfl) h3
  clear hA0 hval0
  refine (walk a0 len0 cap0 z0 x1 y1 a2 len2 cap2 z2 a3 W w0 w1 w2 w3).mono fun e W' ⟨he, bel⟩ => ?_
  subst he
  exact ⟨_, rfl, _, _, _, [], _, [], hW', trodAll_mk1 (shut_bool Try.underlying4 _), (trodAll_cons_mk (Below.trod laidOut (by kernel_rfl) (of_decide_eq_true (by kernel_rfl)) k0 bel lt0) (trodAll_cons_mk (Below.trod laidOut (by kernel_rfl) (of_decide_eq_true (by kernel_rfl)) k1 bel lt1) (trodAll_cons_mk (Below.trod laidOut (by kernel_rfl) (of_decide_eq_true (by kernel_rfl)) k2 bel lt2) (trodAll_cons_mk (shut_int Try.underlying3 w3) trodAll_mk0)))), rfl, bel.frame _, fun h => by cases h⟩

theorem over : Rows.sortedTellsRow.holds Try.pinned (OpenSpec.ofChange Rows.sortedTellsSpec) :=
  OpenClaim.holds_of_wide 3 Try.f3 rfl rfl rfl rfl rfl rfl rfl ⟨rfl, rfl, rfl, rfl, rfl⟩ rfl rfl rfl rfl rfl (by kernel_rfl) Try.func3 (by kernel_rfl)
    (of_decide_eq_true (by kernel_rfl)) (by unfold Func.isWrapper; first | (rw [if_pos (by decide +kernel)]; kernel_rfl) | (rw [if_neg (by decide +kernel)]; exact ⟨rfl, rfl⟩))
    (fun os started H enc _ => lifted os started H enc)

/-- THE STATEMENT -/
theorem proved : Rows.SortedTellsSaid := over
#print axioms proved
end Go.Proofs.Ytjbjkegjcpplaaa.sortedTells

