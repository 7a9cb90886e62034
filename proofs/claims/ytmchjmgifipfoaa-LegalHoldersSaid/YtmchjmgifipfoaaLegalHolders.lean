/- LegalHolders: who held a resource in a tick is told by its waits. No condition. -/
import Derived.Test.YtmchjmgifipfoaaKnown25
import Derived.Test.YtmchjmgifipfoaaHoldNums
import Derived.Test.YtmchjmgifipfoaaLit
import Derived.Test.YtmchjmgifipfoaaOk3
import Derived.Test.YtmchjmgifipfoaaUp
import Derived.Deep.CutBlock
set_option linter.unusedSimpArgs false
set_option maxHeartbeats 4000000
set_option maxRecDepth 100000
namespace Go.Proofs.Ytmchjmgifipfoaa.legalHolders
open Go.ChangeShapes Go.WideShapes Go.ChangeAt Go.RowKit
open Go.ChangeMaps (open_string shut_string)
set_option linter.unusedVariables false

/-- THE WALK: the Go text returns true, and writes nothing that was there. -/
theorem walk (a0 : Int) (a1 : Int) (a2 : Int) (a3 : Int) (w : World) (w0 : (Lit.int .u8 a0).wf = true) (w1 : (Lit.int .u8 a1).wf = true) (w2 : (Lit.int .u8 a2).wf = true) (w3 : (Lit.int .u8 a3).wf = true) :
    Calls Try.prog 4 #[.int .u8 a0, .int .u8 a1, .int .u8 a2, .int .u8 a3] w fun e w' => e = .returned (.bool true) ∧ Below w.heap.size w w' := by
  obtain ⟨x, x0, x1, hx⟩ := mod_u8 50 w0 (by decide)
  obtain ⟨y, y0, y1, hy⟩ := mod_u8 20 w1 (by decide)
  obtain ⟨z, z0, z1, hz⟩ := mod_u8 80 w2 (by decide)
  obtain ⟨r, r0, r1, hr⟩ := mod_u8 3 w3 (by decide)
  go_enter Try.func4, Try.ntmps4
  have hb := Below.refl w.heap.size w
  go_wp2_with fail
  refine (known25_any _).mono ?_
  rintro e u1 ⟨rfl, hb2⟩
  replace hb := hb.trans (hb2.mono hb.size)
  clear hb2
  go_wp2_with fail
  refine (two25_any 1 1 9 1 9 _ (by decide) (by decide) (by decide) (by decide) (by decide)).mono ?_
  rintro e u2 ⟨⟨S, rfl, hs, hS⟩, hb2⟩
  replace hb := hb.trans (hb2.mono hb.size)
  clear hb2
  obtain ⟨q1, q2, q3, a1, a2, c1, c2, q4⟩ := hS
  obtain ⟨proto, ca, cc, cores, ha, hc, homes, ta, tc, tasks⟩ := S
  dsimp only at q1 q2 q3 q4 ⊢
  subst q1
  subst q2
  subst q3
  subst q4
  obtain ⟨B, hB⟩ : ∃ x, u2.heap.size = x := ⟨_, rfl⟩
  have bS : Bk (u2.alloc (.cells #[.int .i64 1, .slice ca 1 cc, .slice ha 1 hc, .slice ta 2 tc] 26)) B 26 #[.int .i64 1, .slice ca 1 cc, .slice ha 1 hc, .slice ta 2 tc] := Bk.at_ hB rfl
  have hv := (Below.refl u2.heap.size u2).alloc (Nat.le_refl _) (.cells #[.int .i64 1, .slice ca 1 cc, .slice ha 1 hc, .slice ta 2 tc] 26)
  go_upto_region 4 with fail
  obtain ⟨v0, hv0⟩ : ∃ v, u2.alloc (.cells #[.int .i64 1, .slice ca 1 cc, .slice ha 1 hc, .slice ta 2 tc] 26) = v := ⟨_, rfl⟩
  rw [hv0] at bS hv ⊢
  try rw [hB]
  have hBv : B < v0.heap.size := bS.lt
  clear hv0
  obtain ⟨N, hN⟩ : ∃ x, v0.heap.size = x := ⟨_, rfl⟩
  have bS1 := bS.alloc (.cells #[.int .i64 0, .int .i64 0] 3)
  have cz := bS1.cell 2
  have fz := bS1.frozen 2
  go_upto_region 5 with fail
  have b1 : Bk ((v0.alloc (.cells #[.int .i64 0, .int .i64 0] 3)).setCell ⟨B, 2, none⟩ (.slice (some ⟨N, 0, none⟩) 2 2)) B 26 #[.int .i64 1, .slice ca 1 cc, .slice (some ⟨N, 0, none⟩) 2 2, .slice ta 2 tc] := bS1.put 2 _
  have bN : Bk ((v0.alloc (.cells #[.int .i64 0, .int .i64 0] 3)).setCell ⟨B, 2, none⟩ (.slice (some ⟨N, 0, none⟩) 2 2)) N 3 #[.int .i64 0, .int .i64 0] := (Bk.at_ hN rfl : Bk (v0.alloc (.cells #[.int .i64 0, .int .i64 0] 3)) N 3 #[.int .i64 0, .int .i64 0]).far (by simp; omega) _
  have IH : IntsOk _ (some ⟨N, 0, none⟩) 2 [0, 0] := ⟨⟨(fun e => by cases e), by show 2 ≤ 2; decide, by show 2 ≤ maxLen; decide⟩, ints_lit (zs := [0, 0]) bN, by decide⟩
  have hv1 := (hv.alloc hv.size (.cells #[.int .i64 0, .int .i64 0] 3)).setCell (p := ⟨B, 2, none⟩) (by rw [hB]; exact Nat.le_refl _) (.slice (some ⟨N, 0, none⟩) 2 2)
  obtain ⟨v1, hw1⟩ : ∃ v, (v0.alloc (.cells #[.int .i64 0, .int .i64 0] 3)).setCell ⟨B, 2, none⟩ (.slice (some ⟨N, 0, none⟩) 2 2) = v := ⟨_, rfl⟩
  rw [hw1] at b1 IH hv1 ⊢
  replace hs := hs.keep (Keeps.of_below hv1)
  have HsF : Hid (SetOk v1 (hS ca cc (some ⟨N, 0, none⟩) ta tc a1 c1 a2 c2)) := hidp ⟨by show I64 1; decide, hs.cores, IH, hs.tasks⟩
  replace hb := hb.trans (hv1.mono hb.size)
  clear hw1 bS bS1 cz fz hBv hN hv hv1 hs IH bN hB
  have hBv : B < v1.heap.size := b1.lt
  have wf : IntKind.i64.wrap (x + (y + 1)) = x + (y + 1) := IntWalk.i64_in _ (by omega)
  obtain ⟨M, hM⟩ : ∃ x, v1.heap.size = x := ⟨_, rfl⟩
  have bW := Bk.at_ (w := v1) (g := M) (t := 35) (cs := #[.int .i64 1, .int .i64 1, .int .i64 x, .int .i64 x, .int .i64 (x + (y + 1)), .int .i64 0, .int .i64 0, .int .i64 0, .int .i64 x, .int .i64 (x + (y + 1))]) hM rfl
  have bT := Bk.at_ (w := v1.alloc (.cells #[.int .i64 1, .int .i64 1, .int .i64 x, .int .i64 x, .int .i64 (x + (y + 1)), .int .i64 0, .int .i64 0, .int .i64 0, .int .i64 x, .int .i64 (x + (y + 1))] 35)) (g := M + 1) (t := 38) (cs := #[.int .i64 100, .slice none 0 0, .slice none 0 0, .slice (some ⟨M, 0, none⟩) 2 2]) (by simp; omega) rfl
  replace bW := bW.alloc (.cells #[.int .i64 100, .slice none 0 0, .slice none 0 0, .slice (some ⟨M, 0, none⟩) 2 2] 38)
  replace b1 := (b1.alloc (.cells #[.int .i64 1, .int .i64 1, .int .i64 x, .int .i64 x, .int .i64 (x + (y + 1)), .int .i64 0, .int .i64 0, .int .i64 0, .int .i64 x, .int .i64 (x + (y + 1))] 35)).alloc (.cells #[.int .i64 100, .slice none 0 0, .slice none 0 0, .slice (some ⟨M, 0, none⟩) 2 2] 38)
  replace HsF := hidp ((HsF.out.keep (Keeps.alloc _ (.cells #[.int .i64 1, .int .i64 1, .int .i64 x, .int .i64 x, .int .i64 (x + (y + 1)), .int .i64 0, .int .i64 0, .int .i64 0, .int .i64 x, .int .i64 (x + (y + 1))] 35))).keep (Keeps.alloc _ (.cells #[.int .i64 100, .slice none 0 0, .slice none 0 0, .slice (some ⟨M, 0, none⟩) 2 2] 38)))
  replace hb := (hb.alloc hb.size (.cells #[.int .i64 1, .int .i64 1, .int .i64 x, .int .i64 x, .int .i64 (x + (y + 1)), .int .i64 0, .int .i64 0, .int .i64 0, .int .i64 x, .int .i64 (x + (y + 1))] 35)).alloc (hb.alloc hb.size _).size (.cells #[.int .i64 100, .slice none 0 0, .slice none 0 0, .slice (some ⟨M, 0, none⟩) 2 2] 38)
  have HtF := hidp (ht_ok (a := ⟨M, 0, none⟩) (g := x) (f := x + (y + 1)) (.inr ⟨_, _, rfl, fun i hi => by
    have hi : i < 2 := hi
    match i, hi with
    | 0, _ => exact ⟨bW.cell 0, bW.cell 1, bW.cell 2, bW.cell 3, bW.cell 4⟩
    | 1, _ => exact ⟨bW.cell 5, bW.cell 6, bW.cell 7, bW.cell 8, bW.cell 9⟩⟩) (by unfold I64; omega) (by unfold I64; omega))
  have s0 := b1.cell 0
  have s1 := b1.cell 1
  have s2 := b1.cell 2
  have s3 := b1.cell 3
  have t0 := bT.cell 0
  have t1 := bT.cell 1
  have t2 := bT.cell 2
  have t3 := bT.cell 3
  clear bW bT b1
  by_cases h1 : x ≤ z
  · have e1 : decide (x ≤ z) = true := by simpa using h1
    by_cases h2 : z < x + (y + 1)
    · have e2 : decide (z < x + (y + 1)) = true := by simpa using h2
      by_cases h3 : r = 0
      · have HV := hidp (hh_yes ca cc (some ⟨N, 0, none⟩) ta tc a1 c1 a2 c2 (some ⟨M, 0, none⟩) h1 h2 h3)
        subst h3
        have CC := lholder_any (hS ca cc (some ⟨N, 0, none⟩) ta tc a1 c1 a2 c2) (hT (some ⟨M, 0, none⟩) x (x + (y + 1))) z 0 _ HsF.out HtF.out
        rw [HV.out.1, HV.out.2] at CC
        go_wp2_with fail
        refine CC.mono ?_
        rintro e u ⟨rfl, hb2⟩
        replace hb := hb.trans (hb2.mono hb.size)
        clear CC hb2
        go_wp2_with fail
        go_ret
        exact ⟨rfl, hb⟩
      · have HV := hidp (hh_no (g := x) (f := x + (y + 1)) (t := z) (r := r) ca cc (some ⟨N, 0, none⟩) ta tc a1 c1 a2 c2 (some ⟨M, 0, none⟩) (fun h => h3 h.2.2))
        have e3 : (r == 0) = false := by simpa using h3
        have CC := lholder_any (hS ca cc (some ⟨N, 0, none⟩) ta tc a1 c1 a2 c2) (hT (some ⟨M, 0, none⟩) x (x + (y + 1))) z r _ HsF.out HtF.out
        rw [HV.out.1, HV.out.2] at CC
        go_wp2_with fail
        refine CC.mono ?_
        rintro e u ⟨rfl, hb2⟩
        replace hb := hb.trans (hb2.mono hb.size)
        clear CC hb2
        go_wp2_with fail
        go_ret
        exact ⟨rfl, hb⟩
    · have e2 : decide (z < x + (y + 1)) = false := by simpa using h2
      have HV := hidp (hh_no (g := x) (f := x + (y + 1)) (t := z) (r := r) ca cc (some ⟨N, 0, none⟩) ta tc a1 c1 a2 c2 (some ⟨M, 0, none⟩) (fun h => h2 h.2.1))
      have CC := lholder_any (hS ca cc (some ⟨N, 0, none⟩) ta tc a1 c1 a2 c2) (hT (some ⟨M, 0, none⟩) x (x + (y + 1))) z r _ HsF.out HtF.out
      rw [HV.out.1, HV.out.2] at CC
      go_wp2_with fail
      refine CC.mono ?_
      rintro e u ⟨rfl, hb2⟩
      replace hb := hb.trans (hb2.mono hb.size)
      clear CC hb2
      go_wp2_with fail
      go_ret
      exact ⟨rfl, hb⟩
  · have e1 : decide (x ≤ z) = false := by simpa using h1
    have HV := hidp (hh_no (g := x) (f := x + (y + 1)) (t := z) (r := r) ca cc (some ⟨N, 0, none⟩) ta tc a1 c1 a2 c2 (some ⟨M, 0, none⟩) (fun h => h1 h.1))
    have CC := lholder_any (hS ca cc (some ⟨N, 0, none⟩) ta tc a1 c1 a2 c2) (hT (some ⟨M, 0, none⟩) x (x + (y + 1))) z r _ HsF.out HtF.out
    rw [HV.out.1, HV.out.2] at CC
    go_wp2_with fail
    refine CC.mono ?_
    rintro e u ⟨rfl, hb2⟩
    replace hb := hb.trans (hb2.mono hb.size)
    clear CC hb2
    go_wp2_with fail
    go_ret
    exact ⟨rfl, hb⟩

theorem own : ownKnob Try.prog.godebug = none := by kernel_rfl
theorem laidOut : laidOutB Try.prog = true := by kernel_rfl

/-! THE ROW's STEP -/
set_option maxRecDepth 100000 in
theorem lifted (os : Os) (started : os.Started) (H : Type) (enc : TypeId × Value → H) :
    ReturnsInHanded {} Try.checked os 4 .any (Rows.legalHoldersSpec.pre6 enc Try.prog Try.f4 Rows.legalHoldersRow.domain false) (Rows.legalHoldersSpec.post enc Try.prog Try.f4 false true false false) := by
  refine returnsInHanded_of_change (C := Try.checked) own started (by kernel_rfl) Try.func4
    (ChangeSpec.witness6 (enc := enc) (C := Try.checked) false ⟨#[], #[.int .u8 0, .int .u8 0, .int .u8 0, .int .u8 0], []⟩ 8 (by kernel_rfl) (by kernel_rfl) (by kernel_rfl) (by kernel_rfl)) ?_
  intro W base args ds gs before hval0 hW hcnd _
  have hval : ∀ (j : Nat) t v, Try.f4.params[j]? = some t → args[j]? = some v → Value.okWide Try.prog W .any base t v := hval0
  have hW' := hW
  obtain ⟨p, q, hA0, hV, rfl, hfz, hnd⟩ := hW
  have hA : DataW.TrodAll enc Try.prog W 0 (fun _ => true) true Try.f4.params.toList args.toList ds p := hA0
  rw [Try.params4] at hA hval
  obtain ⟨v0, vs0, d0, ds0, p0, q0, hargs, rfl, rfl, h0, r0⟩ := trodAll_cons hA
  obtain ⟨v1, vs1, d1, ds1, p1, q1, rfl, rfl, rfl, h1, r1⟩ := trodAll_cons r0
  obtain ⟨v2, vs2, d2, ds2, p2, q2, rfl, rfl, rfl, h2, r2⟩ := trodAll_cons r1
  obtain ⟨v3, vs3, d3, ds3, p3, q3, rfl, rfl, rfl, h3, r3⟩ := trodAll_cons r2
  obtain ⟨rfl, rfl, rfl⟩ := trodAll_nil r3
  obtain rfl : args = #[v0, v1, v2, v3] := by cases args; simp_all
  obtain ⟨rfl, rfl⟩ := trodVars_none hV
  obtain ⟨a0, rfl, rfl, rfl, w0⟩ := open_int Try.underlying5 (hval 0 5 v0 rfl rfl) h0
  obtain ⟨a1, rfl, rfl, rfl, w1⟩ := open_int Try.underlying5 (hval 1 5 v1 rfl rfl) h1
  obtain ⟨a2, rfl, rfl, rfl, w2⟩ := open_int Try.underlying5 (hval 2 5 v2 rfl rfl) h2
  obtain ⟨a3, rfl, rfl, rfl, w3⟩ := open_int Try.underlying5 (hval 3 5 v3 rfl rfl) h3
  clear hA0 hval0
  refine (walk a0 a1 a2 a3 W w0 w1 w2 w3).mono fun e W' ⟨he, bel⟩ => ?_
  subst he
  exact ⟨_, rfl, _, _, _, [], _, [], hW', trodAll_mk1 (shut_bool Try.underlying4 _), (trodAll_cons_mk (shut_int Try.underlying5 w0) (trodAll_cons_mk (shut_int Try.underlying5 w1) (trodAll_cons_mk (shut_int Try.underlying5 w2) (trodAll_cons_mk (shut_int Try.underlying5 w3) trodAll_mk0)))), rfl, bel.frame _, fun h => by cases h⟩

theorem over : Rows.legalHoldersRow.holds Try.pinned (OpenSpec.ofChange Rows.legalHoldersSpec) :=
  OpenClaim.holds_of_wide 4 Try.f4 rfl rfl rfl rfl rfl rfl rfl ⟨rfl, rfl, rfl, rfl, rfl⟩ rfl rfl rfl rfl rfl (by kernel_rfl) Try.func4 (by kernel_rfl)
    (of_decide_eq_true (by kernel_rfl)) (by unfold Func.isWrapper; first | (rw [if_pos (by decide +kernel)]; kernel_rfl) | (rw [if_neg (by decide +kernel)]; exact ⟨rfl, rfl⟩))
    (fun os started H enc _ => lifted os started H enc)

/-- THE STATEMENT -/
theorem proved : Rows.LegalHoldersSaid := over
#print axioms proved
end Go.Proofs.Ytmchjmgifipfoaa.legalHolders

