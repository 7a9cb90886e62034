/- WordsEmpty: blanks alone, marks alone, nothing are no words; lines may be empty, but the last one. No condition. -/
import Derived.Test.YthokicikehemaaaDoorKnown7
namespace Go.Proofs.YthokicikehemaaaDoor
theorem ahead_rep (k : Nat) (r : Bts) : ahead35 (List.replicate k 32 ++ r) = List.replicate k 32 ++ ahead35 r := by
  induction k with
  | zero => rfl
  | succ k ih => rw [List.replicate_succ, List.cons_append, ahead35, if_neg (by decide), ih]; rfl
theorem wl_rep (k : Nat) (r : Bts) : wl [] (List.replicate k 32 ++ r) = wl [] r := by
  induction k with
  | zero => rfl
  | succ k ih => rw [List.replicate_succ, List.cons_append, wl, if_pos rfl, if_pos rfl, ih]
theorem wl_end (k : Nat) (x : Bts) (hx : x ≠ []) : wl x (List.replicate k 32) = [x] := by
  cases k with
  | zero => rw [List.replicate_zero, wl, if_neg hx]
  | succ k =>
    rw [List.replicate_succ, wl, if_pos rfl, if_neg hx]
    have := wl_rep k []
    rw [List.append_nil] at this
    rw [this]; rfl
theorem pl_rep (k : Nat) (r : Bts) : pl 10 [] (List.replicate k 10 ++ r) = List.replicate k [] ++ pl 10 [] r := by
  induction k with
  | zero => rfl
  | succ k ih => rw [List.replicate_succ, List.cons_append, pl, if_pos rfl, ih]; rfl
theorem bl_snoc {S X : ByteArray} {k : Nat} {c : UInt8} (h : bl S = List.replicate k c) (hX : bl X = [c]) : bl (S ++ X) = List.replicate (k + 1) c := by
  rw [bl_append, h, hX, List.replicate_succ']
theorem words_none {k : Nat} (r : Bts) (hr : ahead35 r = []) : wordsL (List.replicate k 32 ++ r) = [] := by
  unfold wordsL
  rw [ahead_rep, hr, wl_rep]; rfl
theorem words_one (k : Nat) : wordsL (List.replicate k 32 ++ ([120] ++ List.replicate k 32)) = [[120]] := by
  unfold wordsL
  have h : ahead35 (List.replicate k 32) = List.replicate k 32 := by have := ahead_rep k []; rw [List.append_nil] at this; rw [this]; simp [ahead35]
  rw [ahead_rep, wl_rep, List.cons_append, List.nil_append, ahead35, if_neg (by decide), h, wl, if_neg (by decide)]
  exact wl_end k _ (by simp)
theorem lines_rep (k : Nat) : linesL (List.replicate k 10) = List.replicate k [] := by
  have := pl_rep k []
  rw [List.append_nil] at this
  unfold linesL
  rw [this]
  simp [pl]
theorem lines_one (k : Nat) : linesL (List.replicate k 10 ++ [120]) = List.replicate k [] ++ [[120]] := by
  unfold linesL
  rw [pl_rep]
  rfl
theorem len_of {ls : List ByteArray} {L : List Bts} (h : ls.map bl = L) : ls.length = L.length := by rw [← h, List.length_map]
end Go.Proofs.YthokicikehemaaaDoor
set_option maxHeartbeats 1000000
set_option maxRecDepth 100000
namespace Go.Proofs.YthokicikehemaaaDoor.wordsEmpty
open Go.ChangeShapes Go.WideShapes Go.ChangeAt Go.RowKit
open Go.ChangeMaps (open_string shut_string)
set_option linter.unusedVariables false

/-- THE WALK: the Go text returns true, and writes nothing that was there. -/
theorem walk (a0 : Int) (a1 : Int) (a2 : Bool) (w : World) (w0 : (Lit.int .u8 a0).wf = true) (w1 : (Lit.int .u8 a1).wf = true) (mMax : Int) (hMax : w.cell? ⟨0, 0, none⟩ = some (.int .i64 mMax)) (hTab : Go.Lib.TabIs Tryd.prog w "internal/strconv.uint64pow10" .u64 Go.Lib.pow10Tab) :
    Calls Tryd.prog 7 #[.int .u8 a0, .int .u8 a1, .bool a2] w fun e w' => e = .returned (.bool true) ∧ Below w.heap.size w w' := by
  have b0 : 0 ≤ a0 ∧ a0 ≤ 255 := by simp [Lit.wf, IntKind.min, IntKind.max, IntKind.signed, IntKind.bits] at w0; omega
  have b1 : 0 ≤ a1 ∧ a1 ≤ 255 := by simp [Lit.wf, IntKind.min, IntKind.max, IntKind.signed, IntKind.bits] at w1; omega
  clear w0 w1
  obtain ⟨K, HK, hK20⟩ : ∃ K : Nat, Hid (a0 % 20 = (K : Int)) ∧ K < 20 := ⟨(a0 % 20).toNat, hidp (by omega), by omega⟩
  obtain ⟨M, HMm, hM20⟩ : ∃ M : Nat, Hid (a1 % 20 = (M : Int)) ∧ M < 20 := ⟨(a1 % 20).toNat, hidp (by omega), by omega⟩
  have wk : IntKind.i64.wrap (a0 % 20) = a0 % 20 := IntWalk.i64_in _ (by omega)
  have wm : IntKind.i64.wrap (a1 % 20) = a1 % 20 := IntWalk.i64_in _ (by omega)
  have HX := hidp hMax
  have HT := hidp hTab
  clear hMax hTab
  go_enter Tryd.func7, Tryd.ntmps7
  go_wp2_with fail
  refine (known7_any w mMax HX.out HT.out).mono ?_
  rintro e w1 ⟨rfl, hb1⟩
  have HB := hidp hb1
  clear hb1
  go_wp2_with fail
  go_loopg [7, 9] K (fun g s i wr => ∃ (k : Nat) (S : ByteArray), k + g = K ∧ i = .int .i64 k ∧ s = .string S ∧ S.size = k ∧ Hid (bl S = List.replicate k 32) ∧ w1 = wr)
  case atStart => exact ⟨0, ⟨#[]⟩, by omega, rfl, rfl, rfl, hidp rfl, rfl⟩
  case round =>
    obtain ⟨k, S, hk, rfl, rfl, hS, HS, rfl⟩ := hrel
    by_cases hlt : k < K
    · have kI : (k : Int) < a0 % 20 := by have := HK.out; omega
      have hsz : ¬ 9223372036854775807 < S.size + 1 := by omega
      go_wp2
      go_roundg (gk - 1)
      case measure => omega
      case rel => exact ⟨k + 1, _, by omega, by go_num, rfl, by rw [← bl_len, bl_snoc HS.out rfl, List.length_replicate], hidp (bl_snoc HS.out rfl), rfl⟩
    · have kI : ¬ (k : Int) < a0 % 20 := by have := HK.out; omega
      obtain rfl : k = K := by omega
      clear hlt hk
      go_wp2_with fail
      go_loopg [8, 10] M (fun g s i wr => ∃ (k : Nat) (S : ByteArray), k + g = M ∧ i = .int .i64 k ∧ s = .string S ∧ S.size = k ∧ Hid (bl S = List.replicate k 10) ∧ w1 = wr)
      case atStart => exact ⟨0, ⟨#[]⟩, by omega, rfl, rfl, rfl, hidp rfl, rfl⟩
      case round =>
        obtain ⟨m, U, hm, rfl, rfl, hU, HU, rfl⟩ := hrel
        by_cases hlt : m < M
        · have kI : (m : Int) < a1 % 20 := by have := HMm.out; omega
          have hsz : ¬ 9223372036854775807 < U.size + 1 := by omega
          go_wp2
          go_roundg (gk - 1)
          case measure => omega
          case rel => exact ⟨m + 1, _, by omega, by go_num, rfl, by rw [← bl_len, bl_snoc HU.out rfl, List.length_replicate], hidp (bl_snoc HU.out rfl), rfl⟩
        · have kI2 : ¬ (m : Int) < a1 % 20 := by have := HMm.out; omega
          obtain rfl : m = M := by omega
          clear hlt hm
          have hsz1 : ¬ 9223372036854775807 < U.size + 1 := by omega
          have hsz2 : ¬ 9223372036854775807 < S.size + 1 := by omega
          have hsz3 : ¬ 9223372036854775807 < S.size + 1 + S.size := by omega
          have hsz4 : ¬ 9223372036854775807 < S.size + 16 := by omega
          have hsz5 : (S ++ ⟨#[120]⟩).size = S.size + 1 := by rw [ByteArray.size_append]; rfl
          have zU : Hid ((U ++ (⟨#[120]⟩ : ByteArray)).size ≤ 100000) := hidp (by rw [ByteArray.size_append]; show U.size + 1 ≤ 100000; omega)
          have zS : Hid (((S ++ (⟨#[120]⟩ : ByteArray)) ++ S).size ≤ 100000) := hidp (by rw [ByteArray.size_append, ByteArray.size_append]; show S.size + 1 + S.size ≤ 100000; omega)
          have zM : Hid ((S ++ (⟨#[35, 119, 111, 114, 100, 115, 32, 98, 101, 104, 105, 110, 100, 32, 105, 116]⟩ : ByteArray)).size ≤ 100000) := hidp (by rw [ByteArray.size_append]; show S.size + 16 ≤ 100000; omega)
          clear kI
          cases a2 with
          | false =>
            go_wp2_with fail
            with_reducible refine (words_any S mMax w1 (max_at HX.out HB.out) (by omega)).mono ?_
            rintro e w2 ⟨ls, h1, _, A, c, rfl, _, hb⟩
            replace HB := hidp (HB.out.trans (hb.mono HB.out.size))
            have hl : ls.length = 0 := by rw [len_of h1, HS.out, show List.replicate k (32 : UInt8) = List.replicate k 32 ++ [] by rw [List.append_nil], words_none [] rfl]; rfl
            rw [hl]
            clear h1 hb hl
            go_wp2_with fail
            with_reducible refine (lines_any U mMax w2 (max_at HX.out HB.out) (by omega)).mono ?_
            rintro e w3 ⟨ls2, h1, _, A, c, rfl, _, _, _, _, hb⟩
            replace HB := hidp (HB.out.trans (hb.mono HB.out.size))
            have hl : ls2.length = m := by rw [len_of h1, HU.out, lines_rep, List.length_replicate]
            rw [hl]
            clear h1 hb hl
            have f1 : ((m : Int) == a1 % 20) = true := by rw [HMm.out]; simp
            go_wp2_with fail
            with_reducible refine (lines_any (U ++ ⟨#[120]⟩) mMax w3 (max_at HX.out HB.out) zU.out).mono ?_
            rintro e w4 ⟨ls3, h1, _, A, c, rfl, _, _, _, _, hb⟩
            replace HB := hidp (HB.out.trans (hb.mono HB.out.size))
            have hl : ls3.length = m + 1 := by rw [len_of h1, bl_append, HU.out, show bl (⟨#[120]⟩ : ByteArray) = [120] from rfl, lines_one]; simp
            rw [hl]
            clear h1 hb hl f1
            have f2 : ((m : Int) + 1 == a1 % 20 + 1) = true := by rw [HMm.out]; simp
            have wm2 : IntKind.i64.wrap (a1 % 20 + 1) = a1 % 20 + 1 := IntWalk.i64_in _ (by omega)
            go_wp2_with fail
            with_reducible refine (words_any ((S ++ ⟨#[120]⟩) ++ S) mMax w4 (max_at HX.out HB.out) zS.out).mono ?_
            rintro e w5 ⟨ls4, h1, _, A, c, rfl, _, hb⟩
            replace HB := hidp (HB.out.trans (hb.mono HB.out.size))
            have hl : ls4.length = 1 := by rw [len_of h1, bl_append, bl_append, HS.out, show bl (⟨#[120]⟩ : ByteArray) = [120] from rfl, List.append_assoc, words_one]; rfl
            rw [hl]
            clear h1 hb hl f2
            go_wp2_with fail
            go_ret
            exact ⟨rfl, HB.out⟩
          | true =>
            go_wp2_with fail
            with_reducible refine (words_any (S ++ ⟨#[35, 119, 111, 114, 100, 115, 32, 98, 101, 104, 105, 110, 100, 32, 105, 116]⟩) mMax w1 (max_at HX.out HB.out) zM.out).mono ?_
            rintro e w2 ⟨ls, h1, _, A, c, rfl, _, hb⟩
            replace HB := hidp (HB.out.trans (hb.mono HB.out.size))
            have hl : ls.length = 0 := by rw [len_of h1, bl_append, HS.out, words_none _ rfl]; rfl
            rw [hl]
            clear h1 hb hl
            go_wp2_with fail
            with_reducible refine (lines_any U mMax w2 (max_at HX.out HB.out) (by omega)).mono ?_
            rintro e w3 ⟨ls2, h1, _, A, c, rfl, _, _, _, _, hb⟩
            replace HB := hidp (HB.out.trans (hb.mono HB.out.size))
            have hl : ls2.length = m := by rw [len_of h1, HU.out, lines_rep, List.length_replicate]
            rw [hl]
            clear h1 hb hl
            have f1 : ((m : Int) == a1 % 20) = true := by rw [HMm.out]; simp
            go_wp2_with fail
            with_reducible refine (lines_any (U ++ ⟨#[120]⟩) mMax w3 (max_at HX.out HB.out) zU.out).mono ?_
            rintro e w4 ⟨ls3, h1, _, A, c, rfl, _, _, _, _, hb⟩
            replace HB := hidp (HB.out.trans (hb.mono HB.out.size))
            have hl : ls3.length = m + 1 := by rw [len_of h1, bl_append, HU.out, show bl (⟨#[120]⟩ : ByteArray) = [120] from rfl, lines_one]; simp
            rw [hl]
            clear h1 hb hl f1
            have f2 : ((m : Int) + 1 == a1 % 20 + 1) = true := by rw [HMm.out]; simp
            have wm2 : IntKind.i64.wrap (a1 % 20 + 1) = a1 % 20 + 1 := IntWalk.i64_in _ (by omega)
            go_wp2_with fail
            with_reducible refine (words_any ((S ++ ⟨#[120]⟩) ++ S) mMax w4 (max_at HX.out HB.out) zS.out).mono ?_
            rintro e w5 ⟨ls4, h1, _, A, c, rfl, _, hb⟩
            replace HB := hidp (HB.out.trans (hb.mono HB.out.size))
            have hl : ls4.length = 1 := by rw [len_of h1, bl_append, bl_append, HS.out, show bl (⟨#[120]⟩ : ByteArray) = [120] from rfl, List.append_assoc, words_one]; rfl
            rw [hl]
            clear h1 hb hl f2
            go_wp2_with fail
            go_ret
            exact ⟨rfl, HB.out⟩

theorem own : ownKnob Tryd.prog.godebug = none := by kernel_rfl
theorem laidOut : laidOutB Tryd.prog = true := by kernel_rfl
def cellsD : DataW Unit → List Value
  | .agg ds => ds.flatMap fun
    | .lit (.int k z) => [Value.int k z]
    | .agg es => es.flatMap fun
      | .lit (.int k z) => [Value.int k z]
      | _ => []
    | _ => []
  | _ => []
def layTab (d : DataW Unit) : Obj → Obj
  | .cells _ t frozen => .cells (cellsD d).toArray t frozen
  | o => o
/-- a world in which the listed tables lie: the witness -/
noncomputable def laidWorld (os : Os) : World := { World.holding Tryd.prog os ⟨#[], #[], []⟩ with heap := ((((((World.holding Tryd.prog os ⟨#[], #[], []⟩).heap.modify 4 (layTab Rows.laid_math_bits_deBruijn32tab)).modify 5 (layTab Rows.laid_math_bits_deBruijn64tab)).modify 1 (layTab Rows.laid_internal_strconv_uint64pow10)).modify 3 (layTab Rows.laid_unicode_utf8_acceptRanges)).modify 2 (layTab Rows.laid_unicode_utf8_first)) }
theorem laid_met (os : Os) (args : Array Value) : laidMetH Tryd.prog Rows.wordsEmptyRow.laid ((laidWorld os).forCall (fun _ _ => 0) ⟨#[], args, []⟩).memory :=
  laidMet_of_run' 8 (by kernel_rfl) (by kernel_rfl)
theorem witness_row (os : Os) {H : Type} (enc : TypeId × Value → H) :
    (OpenSpec.ofChange Rows.wordsEmptySpec).preRow enc Tryd.prog Tryd.f7 Rows.wordsEmptyRow.domain false Rows.wordsEmptyRow.laid ((laidWorld os).forCall (fun _ _ => 0) ⟨#[], #[.int .u8 0, .int .u8 0, .bool false], []⟩).memory #[.int .u8 0, .int .u8 0, .bool false] := by
  have hw : (DataW.whole enc Tryd.prog ((laidWorld os).forCall (fun _ _ => 0) ⟨#[], #[.int .u8 0, .int .u8 0, .bool false], []⟩).memory Tryd.f7.params.toList (OpenSpec.ofChange Rows.wordsEmptySpec).vars false (#[.int .u8 0, .int .u8 0, .bool false] : Array Value).toList 8).map (fun x => (x.1, x.2.1)) =
      some ([.lit (.int .u8 0), .lit (.int .u8 0), .lit (.bool false)], []) := by kernel_rfl
  obtain ⟨⟨x1, x2, x3⟩, hx, hx1⟩ := Option.map_eq_some_iff.1 hw
  simp only [Prod.mk.injEq] at hx1
  obtain ⟨rfl, rfl⟩ := hx1
  exact OpenSpec.preRow_of_cond 8 hx (by kernel_rfl) (fun k hk => by cases hk) (by kernel_rfl) (laid_met os _)

set_option maxRecDepth 100000 in
theorem lifted (os : Os) (started : os.Started) (H : Type) (enc : TypeId × Value → H) (F0 : Stop.Interp) :
    ReturnsInHanded {} Tryd.checked os 7 .any ((OpenSpec.ofChange Rows.wordsEmptySpec).preRow enc Tryd.prog Tryd.f7 Rows.wordsEmptyRow.domain false Rows.wordsEmptyRow.laid) (((OpenSpec.ofChange Rows.wordsEmptySpec).at F0).post enc Tryd.prog Tryd.f7 false true false false) := by
  refine returnsInHanded_of_row (C := Tryd.checked) (s := OpenSpec.ofChange Rows.wordsEmptySpec) own started (by kernel_rfl) Tryd.func7
    (witness_row_at (enc := enc) (C := Tryd.checked) false (laidWorld os) #[.int .u8 0, .int .u8 0, .bool false] rfl (by kernel_rfl) (by kernel_rfl) (by kernel_rfl) (witness_row os enc)) ?_
  intro W base args ds gs before hval0 hW _ _ _ hL hsh _
  obtain ⟨mMax, hMax⟩ : ∃ m, W.cell? ⟨0, 0, none⟩ = some (.int .i64 m) := Tryd.laysM146.s1_3 W hsh
  have hTab : Go.Lib.TabIs Tryd.prog W "internal/strconv.uint64pow10" .u64 Go.Lib.pow10Tab := tabPow hL
  have hval : ∀ (j : Nat) t v, Tryd.f7.params[j]? = some t → args[j]? = some v → Value.okWide Tryd.prog W .any base t v := hval0
  have hW' := hW
  obtain ⟨p, q, hA0, hV, rfl, hfz, hnd⟩ := hW
  have hA : DataW.TrodAll enc Tryd.prog W 0 (fun _ => true) true Tryd.f7.params.toList args.toList ds p := hA0
  rw [Tryd.params7] at hA hval
  obtain ⟨v0, vs0, d0, ds0, p0, q0, hargs, rfl, rfl, h0, r0⟩ := trodAll_cons hA
  obtain ⟨v1, vs1, d1, ds1, p1, q1, rfl, rfl, rfl, h1, r1⟩ := trodAll_cons r0
  obtain ⟨v2, vs2, d2, ds2, p2, q2, rfl, rfl, rfl, h2, r2⟩ := trodAll_cons r1
  obtain ⟨rfl, rfl, rfl⟩ := trodAll_nil r2
  obtain rfl : args = #[v0, v1, v2] := by cases args; simp_all
  obtain ⟨rfl, rfl⟩ := trodVars_none hV
  obtain ⟨a0, rfl, rfl, rfl, w0⟩ := open_int Tryd.underlying5 (hval 0 5 v0 rfl rfl) h0
  obtain ⟨a1, rfl, rfl, rfl, w1⟩ := open_int Tryd.underlying5 (hval 1 5 v1 rfl rfl) h1
  obtain ⟨a2, rfl, rfl, rfl⟩ := open_bool Tryd.underlying4 (hval 2 4 v2 rfl rfl) h2
  clear hA0 hval0
  refine (walk a0 a1 a2  W w0 w1 mMax hMax hTab).mono fun e W' ⟨he, bel⟩ => ?_
  subst he
  exact ⟨_, rfl, _, _, _, [], _, [], hW', trodAll_mk1 (shut_bool Tryd.underlying4 _), (trodAll_cons_mk (shut_int Tryd.underlying5 w0) (trodAll_cons_mk (shut_int Tryd.underlying5 w1) (trodAll_cons_mk (shut_bool Tryd.underlying4 a2) trodAll_mk0))), rfl, bel.frame _, fun h => by cases h⟩

theorem over : Rows.WordsEmptySaid :=
  OpenClaim.holds_of_cond 7 Tryd.f7 rfl rfl rfl rfl rfl rfl rfl ⟨rfl, rfl, rfl, rfl, rfl⟩ rfl rfl rfl rfl rfl (by kernel_rfl) Tryd.func7 (by kernel_rfl)
    (of_decide_eq_true (by kernel_rfl)) (by unfold Func.isWrapper; first | (rw [if_pos (by decide +kernel)]; kernel_rfl) | (rw [if_neg (by decide +kernel)]; exact ⟨rfl, rfl⟩))
    (fun os started H enc _ F0 => by rw [OpenClaim.pre_eq_preRow]; exact lifted os started H enc F0)

/-- THE STATEMENT: the tied card -/
theorem proved : Rows.WordsEmptyCardSaid :=
  Claim7.holds_tied_plain_at .later [] [.data, .data, .data, .data, .pinned] true (true, "db598113370d98e2309149c1441c3a179ae62143bb3dcc12fee36e4b95f3bc1e") false
    over (fun _ h => by cases h) (by kernel_rfl) (fun _ h => by cases h) wordsEmpty_row_tie rfl ⟨rfl, rfl⟩ (by kernel_rfl) rfl
    (fun f fn hf hfn => by
      obtain rfl : f = 7 := Option.some.inj ((show Tryd.prog.funcNamed Rows.wordsEmptyRow.func = some 7 by kernel_rfl).symm.trans hf) |>.symm
      obtain rfl : fn = Tryd.f7 := (Option.some.inj (Tryd.func7.symm.trans hfn)).symm
      refine ⟨by kernel_rfl, fun j t ht => ?_⟩
      rw [Tryd.params7] at ht
      exact standIns _ (by kernel_rfl) j t ht)
    (by kernel_rfl)
#print axioms proved
end Go.Proofs.YthokicikehemaaaDoor.wordsEmpty

