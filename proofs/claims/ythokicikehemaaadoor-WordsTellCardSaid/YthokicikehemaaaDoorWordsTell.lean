/- WordsTell: of every text its lines, its words, the number, whether it is a name; of every number its text. No condition. -/
import Derived.Test.YthokicikehemaaaDoorKnown7
import Derived.Test.YthokicikehemaaaDoorWdRef
import Derived.Test.YthokicikehemaaaDoorWdName
set_option maxHeartbeats 1000000
set_option maxRecDepth 100000
namespace Go.Proofs.YthokicikehemaaaDoor.wordsTell
open Go.ChangeShapes Go.WideShapes Go.ChangeAt Go.RowKit
open Go.ChangeMaps (open_string shut_string)
set_option linter.unusedVariables false

/-- THE WALK: the Go text returns true, and writes nothing that was there. -/
theorem walk (a0 : ByteArray) (a1 : Int) (w : World) (w0 : a0.size ≤ maxLen) (w1 : (Lit.int .i64 a1).wf = true) (mMax : Int) (hMax : w.cell? ⟨0, 0, none⟩ = some (.int .i64 mMax)) (hTab : Go.Lib.TabIs Tryd.prog w "internal/strconv.uint64pow10" .u64 Go.Lib.pow10Tab) :
    Calls Tryd.prog 3 #[.string a0, .int .i64 a1] w fun e w' => e = .returned (.bool true) ∧ Below w.heap.size w w' := by
  have HX := hidp hMax
  have HT := hidp hTab
  have hI : I64 a1 := by unfold I64; simp [Lit.wf, IntKind.min, IntKind.max, IntKind.signed, IntKind.bits] at w1; omega
  have HI := hidp hI
  have HW0 := hidp w0
  clear hMax hTab w1 hI w0
  by_cases h4 : 400 < a0.size
  · have f1 : (400 : Int) < (a0.size : Int) := by omega
    go_enter Tryd.func3, Tryd.ntmps3
    go_wp2_with fail
    refine (known7_any w mMax HX.out HT.out).mono ?_
    rintro e w1 ⟨rfl, hb1⟩
    go_wp2_with fail
    go_ret
    exact ⟨rfl, hb1⟩
  have f1 : ¬ (400 : Int) < (a0.size : Int) := by omega
  have hs : a0.size ≤ 100000 := by omega
  obtain ⟨V, HV⟩ : ∃ V, Hid (numV a0 = V) := ⟨_, hidp rfl⟩
  obtain ⟨O, HO⟩ : ∃ O, Hid (numOK a0 = O) := ⟨_, hidp rfl⟩
  obtain ⟨NB, HNB⟩ : ∃ O, Hid (nameB a0 = O) := ⟨_, hidp rfl⟩
  obtain ⟨T, HTx⟩ : ∃ O, Hid (textV a1 = O) := ⟨_, hidp rfl⟩
  have CN := hidp (fun u => num_any a0 u HW0.out)
  have CR := hidp (fun u => rnum_any a0 u HW0.out)
  have e1 : (V == V) = true := by simp
  have e2 : (O == O) = true := by simp
  have e3 : (NB == NB) = true := by simp
  have e4 : (T.toList == T.toList) = true := by simp
  go_enter Tryd.func3, Tryd.ntmps3
  go_wp2_with fail
  refine (known7_any w mMax HX.out HT.out).mono ?_
  rintro e w1 ⟨rfl, hb1⟩
  have HB := hidp hb1
  clear hb1
  go_wp2_with fail
  refine (num_any a0 w1 HW0.out).mono ?_
  rintro e u ⟨rfl, rfl⟩
  rw [HV.out, HO.out]
  go_wp2_with fail
  refine (rnum_any a0 w1 HW0.out).mono ?_
  rintro e u ⟨rfl, rfl⟩
  rw [HV.out, HO.out]
  go_wp2_with fail
  refine (lines_any a0 mMax w1 (max_at HX.out HB.out) hs).mono ?_
  rintro e w2 ⟨ls, h1, hln, A, c, rfl, ho, _, _, _, hb⟩
  replace HB := hidp (HB.out.trans (hb.mono HB.out.size))
  have H1 := hidp h1
  have HS := hidp ho
  have HL := hidp hln
  clear h1 ho hb hln
  go_wp2_with fail
  refine (rlines_any a0 w2 hs).mono ?_
  rintro e w3 ⟨ls2, h1, _, A2, c2, rfl, ho, hb⟩
  have e9 : ls2 = ls := map_bl_inj (h1.trans H1.out.symm)
  subst e9
  replace HB := hidp (HB.out.trans (hb.mono HB.out.size))
  replace HS := hidp (HS.out.below hb)
  have HS2 := hidp ho.at_
  clear h1 ho hb H1
  go_wp2_with fail
  refine (strs_same HS.out HS2.out rfl rfl (Nat.le_trans HL.out hs)).mono ?_
  rintro e w4 ⟨rfl, hq⟩
  replace HB := hidp (HB.out.trans ((qt_below hq).mono HB.out.size))
  clear hq HS HS2 HL
  go_wp2_with fail
  refine (words_any a0 mMax w4 (max_at HX.out HB.out) hs).mono ?_
  rintro e w5 ⟨ls3, h1, hln, A, c, rfl, ho, hb⟩
  replace HB := hidp (HB.out.trans (hb.mono HB.out.size))
  have H1 := hidp h1
  have HS := hidp ho.at_
  have HL := hidp hln
  clear h1 ho hb hln
  go_wp2_with fail
  refine (rwords_any a0 w5 hs).mono ?_
  rintro e w6 ⟨ls4, h1, A2, c2, rfl, ho, hb⟩
  have e9 : ls4 = ls3 := map_bl_inj (h1.trans H1.out.symm)
  subst e9
  replace HB := hidp (HB.out.trans (hb.mono HB.out.size))
  replace HS := hidp (HS.out.below hb)
  have HS2 := hidp ho.at_
  clear h1 ho hb H1
  go_wp2_with fail
  refine (strs_same HS.out HS2.out rfl rfl (Nat.le_trans HL.out hs)).mono ?_
  rintro e w7 ⟨rfl, hq⟩
  replace HB := hidp (HB.out.trans ((qt_below hq).mono HB.out.size))
  clear hq HS HS2 HL
  go_wp2_with fail
  refine (name_any a0 w7 HW0.out).mono ?_
  rintro e u ⟨rfl, rfl⟩
  rw [HNB.out]
  go_wp2_with fail
  refine (rname_any a0 w7 HW0.out).mono ?_
  rintro e u ⟨rfl, rfl⟩
  rw [HNB.out]
  go_wp2_with fail
  refine (text_any a1 w7 HI.out (tab_at HT.out HB.out)).mono ?_
  rintro e w8 ⟨rfl, hb⟩
  replace HB := hidp (HB.out.trans (hb.mono HB.out.size))
  rw [HTx.out]
  clear hb
  go_wp2_with fail
  refine (rtext_any a1 w8 HI.out).mono ?_
  rintro e w9 ⟨rfl, hb⟩
  replace HB := hidp (HB.out.trans (hb.mono HB.out.size))
  rw [HTx.out]
  clear hb
  go_wp2_with fail
  go_ret
  exact ⟨rfl, HB.out⟩

theorem own : ownKnob Tryd.prog.godebug = none := by kernel_rfl
theorem laidOut : laidOutB Tryd.prog = true := by kernel_rfl
def cellsD : DataW Unit → List Value
  | .agg ds => ds.flatMap fun
    | .lit (.int k z) => [Value.int k z]
    | .agg es => es.flatMap fun
      | .lit (.int k z) => [Value.int k z]
      | _ => []
    | _ => []
  | _ => []
def layTab (d : DataW Unit) : Obj → Obj
  | .cells _ t frozen => .cells (cellsD d).toArray t frozen
  | o => o
/-- a world in which the listed tables lie: the witness -/
noncomputable def laidWorld (os : Os) : World := { World.holding Tryd.prog os ⟨#[], #[], []⟩ with heap := ((((((World.holding Tryd.prog os ⟨#[], #[], []⟩).heap.modify 4 (layTab Rows.laid_math_bits_deBruijn32tab)).modify 5 (layTab Rows.laid_math_bits_deBruijn64tab)).modify 1 (layTab Rows.laid_internal_strconv_uint64pow10)).modify 3 (layTab Rows.laid_unicode_utf8_acceptRanges)).modify 2 (layTab Rows.laid_unicode_utf8_first)) }
theorem laid_met (os : Os) (args : Array Value) : laidMetH Tryd.prog Rows.wordsTellRow.laid ((laidWorld os).forCall (fun _ _ => 0) ⟨#[], args, []⟩).memory :=
  laidMet_of_run' 8 (by kernel_rfl) (by kernel_rfl)
theorem witness_row (os : Os) {H : Type} (enc : TypeId × Value → H) :
    (OpenSpec.ofChange Rows.wordsTellSpec).preRow enc Tryd.prog Tryd.f3 Rows.wordsTellRow.domain false Rows.wordsTellRow.laid ((laidWorld os).forCall (fun _ _ => 0) ⟨#[], #[.string ByteArray.empty, .int .i64 0], []⟩).memory #[.string ByteArray.empty, .int .i64 0] := by
  have hw : (DataW.whole enc Tryd.prog ((laidWorld os).forCall (fun _ _ => 0) ⟨#[], #[.string ByteArray.empty, .int .i64 0], []⟩).memory Tryd.f3.params.toList (OpenSpec.ofChange Rows.wordsTellSpec).vars false (#[.string ByteArray.empty, .int .i64 0] : Array Value).toList 8).map (fun x => (x.1, x.2.1)) =
      some ([.lit (.string []), .lit (.int .i64 0)], []) := by kernel_rfl
  obtain ⟨⟨x1, x2, x3⟩, hx, hx1⟩ := Option.map_eq_some_iff.1 hw
  simp only [Prod.mk.injEq] at hx1
  obtain ⟨rfl, rfl⟩ := hx1
  exact OpenSpec.preRow_of_cond 8 hx (by kernel_rfl) (fun k hk => by cases hk) (by kernel_rfl) (laid_met os _)

set_option maxRecDepth 100000 in
theorem lifted (os : Os) (started : os.Started) (H : Type) (enc : TypeId × Value → H) (F0 : Stop.Interp) :
    ReturnsInHanded {} Tryd.checked os 3 .any ((OpenSpec.ofChange Rows.wordsTellSpec).preRow enc Tryd.prog Tryd.f3 Rows.wordsTellRow.domain false Rows.wordsTellRow.laid) (((OpenSpec.ofChange Rows.wordsTellSpec).at F0).post enc Tryd.prog Tryd.f3 false true false false) := by
  refine returnsInHanded_of_row (C := Tryd.checked) (s := OpenSpec.ofChange Rows.wordsTellSpec) own started (by kernel_rfl) Tryd.func3
    (witness_row_at (enc := enc) (C := Tryd.checked) false (laidWorld os) #[.string ByteArray.empty, .int .i64 0] rfl (by kernel_rfl) (by kernel_rfl) (by kernel_rfl) (witness_row os enc)) ?_
  intro W base args ds gs before hval0 hW _ _ _ hL hsh _
  obtain ⟨mMax, hMax⟩ : ∃ m, W.cell? ⟨0, 0, none⟩ = some (.int .i64 m) := Tryd.laysM146.s1_3 W hsh
  have hTab : Go.Lib.TabIs Tryd.prog W "internal/strconv.uint64pow10" .u64 Go.Lib.pow10Tab := tabPow hL
  have hval : ∀ (j : Nat) t v, Tryd.f3.params[j]? = some t → args[j]? = some v → Value.okWide Tryd.prog W .any base t v := hval0
  have hW' := hW
  obtain ⟨p, q, hA0, hV, rfl, hfz, hnd⟩ := hW
  have hA : DataW.TrodAll enc Tryd.prog W 0 (fun _ => true) true Tryd.f3.params.toList args.toList ds p := hA0
  rw [Tryd.params3] at hA hval
  obtain ⟨v0, vs0, d0, ds0, p0, q0, hargs, rfl, rfl, h0, r0⟩ := trodAll_cons hA
  obtain ⟨v1, vs1, d1, ds1, p1, q1, rfl, rfl, rfl, h1, r1⟩ := trodAll_cons r0
  obtain ⟨rfl, rfl, rfl⟩ := trodAll_nil r1
  obtain rfl : args = #[v0, v1] := by cases args; simp_all
  obtain ⟨rfl, rfl⟩ := trodVars_none hV
  obtain ⟨a0, rfl, rfl, rfl, w0⟩ := open_string Tryd.underlying9 (hval 0 9 v0 rfl rfl) h0
  obtain ⟨a1, rfl, rfl, rfl, w1⟩ := open_int Tryd.underlying3 (hval 1 3 v1 rfl rfl) h1
  clear hA0 hval0
  refine (walk a0 a1  W w0 w1 mMax hMax hTab).mono fun e W' ⟨he, bel⟩ => ?_
  subst he
  exact ⟨_, rfl, _, _, _, [], _, [], hW', trodAll_mk1 (shut_bool Tryd.underlying4 _), (trodAll_cons_mk (shut_string Tryd.underlying9 w0) (trodAll_cons_mk (shut_int Tryd.underlying3 w1) trodAll_mk0)), rfl, bel.frame _, fun h => by cases h⟩

theorem over : Rows.WordsTellSaid :=
  OpenClaim.holds_of_cond 3 Tryd.f3 rfl rfl rfl rfl rfl rfl rfl ⟨rfl, rfl, rfl, rfl, rfl⟩ rfl rfl rfl rfl rfl (by kernel_rfl) Tryd.func3 (by kernel_rfl)
    (of_decide_eq_true (by kernel_rfl)) (by unfold Func.isWrapper; first | (rw [if_pos (by decide +kernel)]; kernel_rfl) | (rw [if_neg (by decide +kernel)]; exact ⟨rfl, rfl⟩))
    (fun os started H enc _ F0 => by rw [OpenClaim.pre_eq_preRow]; exact lifted os started H enc F0)

/-- THE STATEMENT: the tied card -/
theorem proved : Rows.WordsTellCardSaid :=
  Claim7.holds_tied_plain_at .later [] [.data, .data, .data, .data, .pinned] true (true, "db598113370d98e2309149c1441c3a179ae62143bb3dcc12fee36e4b95f3bc1e") false
    over (fun _ h => by cases h) (by kernel_rfl) (fun _ h => by cases h) wordsTell_row_tie rfl ⟨rfl, rfl⟩ (by kernel_rfl) rfl
    (fun f fn hf hfn => by
      obtain rfl : f = 3 := Option.some.inj ((show Tryd.prog.funcNamed Rows.wordsTellRow.func = some 3 by kernel_rfl).symm.trans hf) |>.symm
      obtain rfl : fn = Tryd.f3 := (Option.some.inj (Tryd.func3.symm.trans hfn)).symm
      refine ⟨by kernel_rfl, fun j t ht => ?_⟩
      rw [Tryd.params3] at ht
      exact standIns _ (by kernel_rfl) j t ht)
    (by kernel_rfl)
#print axioms proved
end Go.Proofs.YthokicikehemaaaDoor.wordsTell

