/- WordsBack: words with blanks between come back, whatever stands behind a mark; lines with line ends between too. No condition. -/
import Derived.Test.YthokicikehemaaaDoorKnown7
import Derived.Deep.QuietTactic
import Derived.BigQuiet
namespace Go.Proofs.YthokicikehemaaaDoor
open Go.ChangeShapes Go.WideShapes Go.ChangeAt Go.RowKit
theorem wl_blanks (k : Nat) (r : Bts) : wl [] (List.replicate k 32 ++ r) = wl [] r := by
  induction k with
  | zero => rfl
  | succ k ih => rw [List.replicate_succ, List.cons_append, wl, if_pos rfl, if_pos rfl, ih]
theorem wl_run (x : Bts) (h : ∀ c ∈ x, c ≠ 32) (cur r : Bts) : wl cur (x ++ r) = wl (cur ++ x) r := by
  induction x generalizing cur with
  | nil => simp
  | cons a t ih =>
    rw [List.cons_append, wl, if_neg (h a (by simp)), ih (fun c hc => h c (by simp [hc]))]
    simp
theorem pl_run (x : Bts) (h : ∀ c ∈ x, c ≠ 10) (cur r : Bts) : pl 10 cur (x ++ r) = pl 10 (cur ++ x) r := by
  induction x generalizing cur with
  | nil => simp
  | cons a t ih =>
    rw [List.cons_append, pl, if_neg (h a (by simp)), ih (fun c hc => h c (by simp [hc]))]
    simp
theorem ahead_run (x : Bts) (h : ∀ c ∈ x, c ≠ 35) (r : Bts) : ahead35 (x ++ r) = x ++ ahead35 r := by
  induction x with
  | nil => rfl
  | cons a t ih => rw [List.cons_append, ahead35, if_neg (h a (by simp)), ih (fun c hc => h c (by simp [hc]))]; rfl
/-- a text of words, each behind one blank or more -/
structure BkW (Z : List Bts) (S : Bts) : Prop where
  sep : ∀ r, wl [] (S ++ 32 :: r) = Z ++ wl [] r
  fin : wl [] S = Z
  mark : ∀ r, ahead35 (S ++ r) = S ++ ahead35 r
/-- a text of lines, each with its line end -/
def BkL (Z : List Bts) (T : Bts) : Prop := ∀ r, pl 10 [] (T ++ r) = Z ++ pl 10 [] r
/-- a byte that neither parts nor marks -/
def Plain (x : Bts) : Prop := x ≠ [] ∧ ∀ c ∈ x, c ≠ 32 ∧ c ≠ 35 ∧ c ≠ 10
theorem BkW.start : BkW [] [] := ⟨fun r => by rw [List.nil_append, wl, if_pos rfl, if_pos rfl]; rfl, rfl, fun _ => rfl⟩
theorem BkW.step {Z : List Bts} {S x : Bts} (h : BkW Z S) (n : Nat) (hx : Plain x) : BkW (Z ++ [x]) (S ++ List.replicate (n + 1) 32 ++ x) := by
  have h32 : ∀ c ∈ x, c ≠ 32 := fun c hc => (hx.2 c hc).1
  have h35 : ∀ c ∈ x, c ≠ 35 := fun c hc => (hx.2 c hc).2.1
  refine ⟨fun r => ?_, ?_, fun r => ?_⟩
  · rw [List.replicate_succ, List.append_assoc, List.append_assoc, List.cons_append, h.sep, wl_blanks, wl_run x h32, List.nil_append, wl, if_pos rfl, if_neg hx.1]
    simp
  · rw [List.replicate_succ, List.append_assoc, List.cons_append, h.sep, wl_blanks]
    have := wl_run x h32 [] []
    rw [List.append_nil, List.nil_append] at this
    rw [this, wl, if_neg hx.1]
  · rw [List.append_assoc, List.append_assoc, h.mark, ahead_run _ (fun c hc => by rw [(List.mem_replicate.1 hc).2]; decide), ahead_run x h35]
    simp
theorem BkL.start : BkL [] [] := fun _ => rfl
theorem BkL.step {Z : List Bts} {T x : Bts} (h : BkL Z T) (hx : Plain x) : BkL (Z ++ [x]) (T ++ x ++ [10]) := fun r => by
  rw [List.append_assoc, List.append_assoc, h, pl_run x (fun c hc => (hx.2 c hc).2.2), List.nil_append, List.cons_append, List.nil_append, pl, if_pos rfl]
  simp
theorem BkW.words {Z : List Bts} {S : Bts} (h : BkW Z S) : wordsL S = Z := by
  have := h.mark []
  rw [List.append_nil, ahead35, List.append_nil] at this
  unfold wordsL
  rw [this, h.fin]
theorem BkW.marked {Z : List Bts} {S : Bts} (h : BkW Z S) (m : Bts) : wordsL (S ++ [32, 35] ++ m) = Z := by
  unfold wordsL
  rw [List.append_assoc, h.mark, List.cons_append, List.cons_append, ahead35, if_neg (by decide), ahead35, if_pos rfl, h.sep]
  simp [wl]
theorem BkL.lines {Z : List Bts} {T : Bts} (h : BkL Z T) : linesL T = Z := by
  have := h []
  unfold linesL
  rw [List.append_nil] at this
  rw [this]
  simp [pl]
theorem plain_of {x : ByteArray} (h0 : 0 < x.size) (h : ∀ j (hj : j < x.size), x[j].toNat ≠ 32 ∧ x[j].toNat ≠ 35 ∧ x[j].toNat ≠ 10) : Plain (bl x) := by
  refine ⟨fun e => by have := bl_len x; rw [e] at this; simp at this; omega, fun c hc => ?_⟩
  obtain ⟨j, hj, rfl⟩ := List.getElem_of_mem hc
  have hj2 : j < x.size := by rw [← bl_len]; exact hj
  have := h j hj2
  exact ⟨fun h2 => this.1 (by rw [show x[j] = 32 from h2]; rfl), fun h2 => this.2.1 (by rw [show x[j] = 35 from h2]; rfl), fun h2 => this.2.2 (by rw [show x[j] = 10 from h2]; rfl)⟩
theorem bl_blanks (n : Nat) (h : n ≤ 1) : bl ((⟨#[32, 32, 32]⟩ : ByteArray).extract 0 (n + 1)) = List.replicate (n + 1) 32 := by
  have : n = 0 ∨ n = 1 := by omega
  rcases this with rfl | rfl <;> rfl
theorem take_more {z : List ByteArray} {i : Nat} (h : i < z.length) {x : ByteArray} (hx : z.getD i ByteArray.empty = x) : (z.take (i + 1)).map bl = (z.take i).map bl ++ [bl x] := by
  have hx2 : z[i] = x := by rw [← hx]; simp [List.getD, h]
  rw [List.take_succ_eq_append_getElem h, List.map_append, hx2]; rfl
theorem bit16 (v : Int) : ∃ n : Nat, n ≤ 1 ∧ IntKind.i64.wrap (1 + IntKind.i64.wrap (bits BinOp.and IntKind.u16 v 1)) = ((n + 1 : Nat) : Int) := by
  obtain ⟨n, hn⟩ : ∃ n : Nat, (BitVec.ofInt 16 v &&& BitVec.ofInt 16 1).toNat = n := ⟨_, rfl⟩
  have h1 : n ≤ 1 := by rw [← hn, BitVec.toNat_and]; exact Nat.and_le_right
  refine ⟨n, h1, ?_⟩
  have e : bits BinOp.and IntKind.u16 v 1 = IntKind.u16.wrap ((BitVec.ofInt 16 v &&& BitVec.ofInt 16 1).toNat : Int) := rfl
  rw [e, hn]
  have : n = 0 ∨ n = 1 := by omega
  rcases this with rfl | rfl <;> decide
end Go.Proofs.YthokicikehemaaaDoor
set_option maxHeartbeats 1000000
set_option maxRecDepth 100000
set_option linter.unusedSimpArgs false
namespace Go.Proofs.YthokicikehemaaaDoor.wordsBack
open Go.ChangeShapes Go.WideShapes Go.ChangeAt Go.RowKit
open Go.ChangeMaps (open_string shut_string)
set_option linter.unusedVariables false

/-- THE WALK: the Go text returns true, and writes nothing that was there. -/
theorem walk (a0 : Option Addr) (len0 cap0 : Nat) (z0 : List ByteArray) (a1 : Int) (a2 : ByteArray) (w : World) (w0 : IsStrs w a0 len0 cap0 z0) (w1 : (Lit.int .u16 a1).wf = true) (w2 : a2.size ≤ maxLen) (mMax : Int) (hMax : w.cell? ⟨0, 0, none⟩ = some (.int .i64 mMax)) (hTab : Go.Lib.TabIs Tryd.prog w "internal/strconv.uint64pow10" .u64 Go.Lib.pow10Tab) :
    Calls Tryd.prog 4 #[.slice a0 len0 cap0, .int .u16 a1, .string a2] w fun e w' => e = .returned (.bool true) ∧ Below w.heap.size w w' := by
  obtain ⟨hlen, hcap, hnil, hrow, hfit⟩ := w0
  subst hlen
  have HX := hidp hMax
  have HT := hidp hTab
  have HG : Hid (0 ≤ a1 ∧ a1 ≤ 65535) := hidp (by simp [Lit.wf, IntKind.min, IntKind.max, IntKind.signed, IntKind.bits] at w1; omega)
  have HR : Hid (StrsAt w a0 z0) := hidp hrow
  clear hMax hTab hcap hnil hfit hrow w1
  by_cases h12 : 12 < z0.length
  · have f1 : (12 : Int) < (z0.length : Int) := by omega
    go_enter Tryd.func4, Tryd.ntmps4
    go_wp2_with fail
    refine (known7_any w mMax HX.out HT.out).mono ?_
    rintro e w1 ⟨rfl, hb1⟩
    go_wp2_with fail
    go_ret
    exact ⟨rfl, hb1⟩
  have f1 : ¬ (12 : Int) < (z0.length : Int) := by omega
  by_cases h40 : 40 < a2.size
  · have f2 : (40 : Int) < (a2.size : Int) := by omega
    go_enter Tryd.func4, Tryd.ntmps4
    go_wp2_with fail
    refine (known7_any w mMax HX.out HT.out).mono ?_
    rintro e w1 ⟨rfl, hb1⟩
    go_wp2_with fail
    go_ret
    exact ⟨rfl, hb1⟩
  have f2 : ¬ (40 : Int) < (a2.size : Int) := by omega
  go_enter Tryd.func4, Tryd.ntmps4
  go_wp2_with fail
  refine (known7_any w mMax HX.out HT.out).mono ?_
  rintro e w1 ⟨rfl, hb1⟩
  have HB := hidp hb1
  have HR1 : Hid (StrsAt w1 a0 z0) := hidp (HR.out.below hb1)
  clear hb1 HR
  go_wp2_with fail
  go_loopg [7, 8, 9] z0.length (fun g s t i wr => ∃ (k : Nat) (S T : ByteArray), k + g = z0.length ∧ i = .int .i64 k ∧ s = .string S ∧ t = .string T ∧ S.size ≤ 22 * k ∧ T.size ≤ 21 * k ∧ Hid (BkW ((z0.take k).map bl) (bl S)) ∧ Hid (BkL ((z0.take k).map bl) (bl T)) ∧ Qt w1 wr)
  case atStart => exact ⟨0, ⟨#[]⟩, ⟨#[]⟩, by omega, rfl, rfl, rfl, Nat.le_refl _, Nat.le_refl _, hidp BkW.start, hidp BkL.start, Qt.refl _⟩
  case round =>
    obtain ⟨k, S, T, hk, rfl, rfl, rfl, hS, hT, HS, HTx, hq⟩ := hrel
    by_cases hlt : k < z0.length
    · obtain ⟨g, off, rfl, hc⟩ := HR1.out.resolve_left (by intro e; subst e; simp at hlt)
      obtain ⟨x, HXx⟩ : ∃ x, Hid (z0.getD k ByteArray.empty = x) := ⟨_, hidp rfl⟩
      have c1 : wr.cell? ⟨g, off + k, none⟩ = some (.string x) := hq.cell (HXx.out ▸ hc k hlt)
      have b1 : (0 : Int) ≤ (k : Int) := by omega
      have b2 : (k : Int) < (z0.length : Int) := by omega
      clear hc
      by_cases hx0 : x.size = 0
      · go_wp2
        go_ret
        exact ⟨rfl, HB.out.trans ((qt_below hq).mono HB.out.size)⟩
      by_cases hx20 : 20 < x.size
      · have f3 : (20 : Int) < (x.size : Int) := by omega
        go_wp2
        go_ret
        exact ⟨rfl, HB.out.trans ((qt_below hq).mono HB.out.size)⟩
      have f3 : ¬ (20 : Int) < (x.size : Int) := by omega
      go_wp2
      go_loopg [10] x.size (fun h j wr2 => ∃ m : Nat, m + h = x.size ∧ j = .int .i64 m ∧ wr2 = wr ∧ Hid (∀ i (hi : i < x.size), i < m → x[i].toNat ≠ 32 ∧ x[i].toNat ≠ 35 ∧ x[i].toNat ≠ 10))
      case atStart => exact ⟨0, by omega, rfl, rfl, hidp (fun i hi h => by omega)⟩
      case round =>
        obtain ⟨m, hm, rfl, rfl, HP⟩ := hrel
        by_cases hin : m < x.size
        · have b3 : (m : Int) < (x.size : Int) := by omega
          have b4 : (0 : Int) ≤ (m : Int) := by omega
          obtain ⟨ch, hch⟩ : ∃ c : Int, (x[m].toNat : Int) = c := ⟨_, rfl⟩
          by_cases h32 : ch = 32
          · have g1 : (ch == 32) = true := by simpa using h32
            clear h32
            go_wp2
            go_ret
            exact ⟨rfl, HB.out.trans ((qt_below hq).mono HB.out.size)⟩
          have g1 : (ch == 32) = false := by simpa using h32
          by_cases h35 : ch = 35
          · have g2 : (ch == 35) = true := by simpa using h35
            clear h32 h35
            go_wp2
            go_ret
            exact ⟨rfl, HB.out.trans ((qt_below hq).mono HB.out.size)⟩
          have g2 : (ch == 35) = false := by simpa using h35
          by_cases h10 : ch = 10
          · have g3 : (ch == 10) = true := by simpa using h10
            clear h32 h35 h10
            go_wp2
            go_ret
            exact ⟨rfl, HB.out.trans ((qt_below hq).mono HB.out.size)⟩
          have g3 : (ch == 10) = false := by simpa using h10
          have HP2 : Hid (∀ i (hi : i < x.size), i < m + 1 → x[i].toNat ≠ 32 ∧ x[i].toNat ≠ 35 ∧ x[i].toNat ≠ 10) := hidp (fun i hi h => by
            by_cases e : i = m
            · subst e; omega
            · exact HP.out i hi (by omega))
          clear h32 h35 h10
          go_wp2
          go_roundg (x.size - m - 1)
          case measure => omega
          case rel => exact ⟨m + 1, by omega, by go_num, rfl, HP2⟩
        · have b3 : ¬ (m : Int) < (x.size : Int) := by omega
          have HPl : Hid (Plain (bl x)) := hidp (plain_of (by omega) fun i hi => HP.out i hi (by omega))
          clear HP
          obtain ⟨n, hn1, hG⟩ := bit16 (a1 / 2 ^ min (IntKind.u64.wrap ↑k).toNat 16)
          obtain ⟨p, Hp⟩ : ∃ p, Hid (n + 1 = p) := ⟨_, hidp rfl⟩
          obtain ⟨Zb, hZ⟩ : ∃ Zb, (⟨#[32, 32, 32]⟩ : ByteArray).extract 0 p = Zb := ⟨_, rfl⟩
          have hZb : bl Zb = List.replicate p 32 := by rw [← hZ, ← Hp.out]; exact bl_blanks n hn1
          have hp2 : p ≤ 2 := by have := Hp.out; omega
          rw [Hp.out] at hG
          have hZs : Zb.size = p := by rw [← bl_len, hZb, List.length_replicate]
          have HS2 : Hid (BkW ((z0.take (k + 1)).map bl) (bl ((S ++ Zb) ++ x))) := hidp (by
            rw [take_more hlt HXx.out, bl_append, bl_append, hZb, ← Hp.out]
            exact HS.out.step n HPl.out)
          have HT2 : Hid (BkL ((z0.take (k + 1)).map bl) (bl ((T ++ x) ++ (⟨#[10]⟩ : ByteArray)))) := hidp (by
            rw [take_more hlt HXx.out, bl_append, bl_append]
            exact HTx.out.step HPl.out)
          have hS3 : Hid (((S ++ Zb) ++ x).size ≤ 22 * (k + 1)) := hidp (by rw [ByteArray.size_append, ByteArray.size_append]; omega)
          have hT3 : Hid (((T ++ x) ++ (⟨#[10]⟩ : ByteArray)).size ≤ 21 * (k + 1)) := hidp (by rw [ByteArray.size_append, ByteArray.size_append]; show T.size + x.size + 1 ≤ _; omega)
          have p0 : (0 : Int) ≤ (p : Int) := by omega
          have p3 : (p : Int) ≤ 3 := by omega
          have p3n : p ≤ 3 := by omega
          have z1 : ¬ 9223372036854775807 < S.size + p := by omega
          have z2 : ¬ 9223372036854775807 < S.size + p + x.size := by omega
          have z3 : ¬ 9223372036854775807 < T.size + x.size := by omega
          have z4 : ¬ 9223372036854775807 < T.size + x.size + 1 := by omega
          clear hZb hn1
          go_wp2
          go_quiet (fail)
          go_wp2
          go_roundg (z0.length - k - 1)
          case measure => omega
          case rel => exact ⟨k + 1, _, _, by omega, by go_num, rfl, rfl, hS3.out, hT3.out, HS2, HT2, hq.add _⟩
    · obtain rfl : k = z0.length := by omega
      have HB2 : Hid (Below w.heap.size w wr) := hidp (HB.out.trans ((qt_below hq).mono HB.out.size))
      have HR2 : Hid (StrsAt wr a0 z0) := hidp (HR1.out.below (qt_below hq))
      have hS3 : S.size ≤ 264 := by omega
      have hT3 : T.size ≤ 252 := by omega
      have HW : Hid (wordsL (bl S) = z0.map bl) := hidp (by have := HS.out.words; rwa [List.take_length] at this)
      have HW2 : Hid (wordsL (bl ((S ++ (⟨#[32, 35]⟩ : ByteArray)) ++ a2)) = z0.map bl) := hidp (by have := HS.out.marked (bl a2); rw [List.take_length] at this; rw [bl_append, bl_append]; exact this)
      have HL : Hid (linesL (bl T) = z0.map bl) := hidp (by have := BkL.lines HTx.out; rwa [List.take_length] at this)
      have z1 : ¬ 9223372036854775807 < S.size + 2 := by omega
      have z2 : ¬ 9223372036854775807 < S.size + 2 + a2.size := by omega
      have zS : Hid (S.size ≤ 100000) := hidp (by omega)
      have zT : Hid (T.size ≤ 100000) := hidp (by omega)
      have zM : Hid (((S ++ (⟨#[32, 35]⟩ : ByteArray)) ++ a2).size ≤ 100000) := hidp (by rw [ByteArray.size_append, ByteArray.size_append]; show S.size + 2 + a2.size ≤ 100000; omega)
      have zz : Hid (z0.length ≤ 100000) := hidp (by omega)
      clear hq HB HR1 hk hS hT HS HTx
      go_wp2_with fail
      with_reducible refine (words_any S mMax wr (max_at HX.out HB2.out) zS.out).mono ?_
      rintro e w2 ⟨ls, h1, _, A, c, rfl, ho, hb⟩
      have e9 : z0 = ls := map_bl_inj ((h1.trans HW.out).symm)
      subst e9
      replace HB2 := hidp (HB2.out.trans (hb.mono HB2.out.size))
      replace HR2 := hidp (HR2.out.below hb)
      have HA := hidp ho.at_
      clear h1 ho hb
      go_wp2_with fail
      refine (strs_same HA.out HR2.out rfl rfl zz.out).mono ?_
      rintro e w3 ⟨rfl, hq⟩
      replace HB2 := hidp (HB2.out.trans ((qt_below hq).mono HB2.out.size))
      replace HR2 := hidp (HR2.out.below (qt_below hq))
      clear hq HA
      go_wp2_with fail
      with_reducible refine (words_any ((S ++ ⟨#[32, 35]⟩) ++ a2) mMax w3 (max_at HX.out HB2.out) zM.out).mono ?_
      rintro e w4 ⟨ls, h1, _, A, c, rfl, ho, hb⟩
      have e9 : z0 = ls := map_bl_inj ((h1.trans HW2.out).symm)
      subst e9
      replace HB2 := hidp (HB2.out.trans (hb.mono HB2.out.size))
      replace HR2 := hidp (HR2.out.below hb)
      have HA := hidp ho.at_
      clear h1 ho hb
      go_wp2_with fail
      refine (strs_same HA.out HR2.out rfl rfl zz.out).mono ?_
      rintro e w5 ⟨rfl, hq⟩
      replace HB2 := hidp (HB2.out.trans ((qt_below hq).mono HB2.out.size))
      replace HR2 := hidp (HR2.out.below (qt_below hq))
      clear hq HA
      go_wp2_with fail
      with_reducible refine (lines_any T mMax w5 (max_at HX.out HB2.out) zT.out).mono ?_
      rintro e w6 ⟨ls, h1, _, A, c, rfl, ho, _, _, _, hb⟩
      have e9 : z0 = ls := map_bl_inj ((h1.trans HL.out).symm)
      subst e9
      replace HB2 := hidp (HB2.out.trans (hb.mono HB2.out.size))
      replace HR2 := hidp (HR2.out.below hb)
      have HA := hidp ho
      clear h1 ho hb
      go_wp2_with fail
      refine (strs_same HA.out HR2.out rfl rfl zz.out).mono ?_
      rintro e w7 ⟨rfl, hq⟩
      replace HB2 := hidp (HB2.out.trans ((qt_below hq).mono HB2.out.size))
      clear hq HA
      go_wp2_with fail
      go_ret
      exact ⟨rfl, HB2.out⟩

theorem own : ownKnob Tryd.prog.godebug = none := by kernel_rfl
theorem laidOut : laidOutB Tryd.prog = true := by kernel_rfl
def cellsD : DataW Unit → List Value
  | .agg ds => ds.flatMap fun
    | .lit (.int k z) => [Value.int k z]
    | .agg es => es.flatMap fun
      | .lit (.int k z) => [Value.int k z]
      | _ => []
    | _ => []
  | _ => []
def layTab (d : DataW Unit) : Obj → Obj
  | .cells _ t frozen => .cells (cellsD d).toArray t frozen
  | o => o
/-- a world in which the listed tables lie: the witness -/
noncomputable def laidWorld (os : Os) : World := { World.holding Tryd.prog os ⟨#[], #[], []⟩ with heap := ((((((World.holding Tryd.prog os ⟨#[], #[], []⟩).heap.modify 4 (layTab Rows.laid_math_bits_deBruijn32tab)).modify 5 (layTab Rows.laid_math_bits_deBruijn64tab)).modify 1 (layTab Rows.laid_internal_strconv_uint64pow10)).modify 3 (layTab Rows.laid_unicode_utf8_acceptRanges)).modify 2 (layTab Rows.laid_unicode_utf8_first)) }
theorem laid_met (os : Os) (args : Array Value) : laidMetH Tryd.prog Rows.wordsBackRow.laid ((laidWorld os).forCall (fun _ _ => 0) ⟨#[], args, []⟩).memory :=
  laidMet_of_run' 8 (by kernel_rfl) (by kernel_rfl)
theorem witness_row (os : Os) {H : Type} (enc : TypeId × Value → H) :
    (OpenSpec.ofChange Rows.wordsBackSpec).preRow enc Tryd.prog Tryd.f4 Rows.wordsBackRow.domain false Rows.wordsBackRow.laid ((laidWorld os).forCall (fun _ _ => 0) ⟨#[], #[.slice none 0 0, .int .u16 0, .string ByteArray.empty], []⟩).memory #[.slice none 0 0, .int .u16 0, .string ByteArray.empty] := by
  have hw : (DataW.whole enc Tryd.prog ((laidWorld os).forCall (fun _ _ => 0) ⟨#[], #[.slice none 0 0, .int .u16 0, .string ByteArray.empty], []⟩).memory Tryd.f4.params.toList (OpenSpec.ofChange Rows.wordsBackSpec).vars false (#[.slice none 0 0, .int .u16 0, .string ByteArray.empty] : Array Value).toList 8).map (fun x => (x.1, x.2.1)) =
      some ([.nil, .lit (.int .u16 0), .lit (.string [])], []) := by kernel_rfl
  obtain ⟨⟨x1, x2, x3⟩, hx, hx1⟩ := Option.map_eq_some_iff.1 hw
  simp only [Prod.mk.injEq] at hx1
  obtain ⟨rfl, rfl⟩ := hx1
  exact OpenSpec.preRow_of_cond 8 hx (by kernel_rfl) (fun k hk => by cases hk) (by kernel_rfl) (laid_met os _)

set_option maxRecDepth 100000 in
theorem lifted (os : Os) (started : os.Started) (H : Type) (enc : TypeId × Value → H) (F0 : Stop.Interp) :
    ReturnsInHanded {} Tryd.checked os 4 .any ((OpenSpec.ofChange Rows.wordsBackSpec).preRow enc Tryd.prog Tryd.f4 Rows.wordsBackRow.domain false Rows.wordsBackRow.laid) (((OpenSpec.ofChange Rows.wordsBackSpec).at F0).post enc Tryd.prog Tryd.f4 false true false false) := by
  refine returnsInHanded_of_row (C := Tryd.checked) (s := OpenSpec.ofChange Rows.wordsBackSpec) own started (by kernel_rfl) Tryd.func4
    (witness_row_at (enc := enc) (C := Tryd.checked) false (laidWorld os) #[.slice none 0 0, .int .u16 0, .string ByteArray.empty] rfl (by kernel_rfl) (by kernel_rfl) (by kernel_rfl) (witness_row os enc)) ?_
  intro W base args ds gs before hval0 hW _ _ _ hL hsh _
  obtain ⟨mMax, hMax⟩ : ∃ m, W.cell? ⟨0, 0, none⟩ = some (.int .i64 m) := Tryd.laysM146.s1_3 W hsh
  have hTab : Go.Lib.TabIs Tryd.prog W "internal/strconv.uint64pow10" .u64 Go.Lib.pow10Tab := tabPow hL
  have hval : ∀ (j : Nat) t v, Tryd.f4.params[j]? = some t → args[j]? = some v → Value.okWide Tryd.prog W .any base t v := hval0
  have hW' := hW
  obtain ⟨p, q, hA0, hV, rfl, hfz, hnd⟩ := hW
  have hA : DataW.TrodAll enc Tryd.prog W 0 (fun _ => true) true Tryd.f4.params.toList args.toList ds p := hA0
  rw [Tryd.params4] at hA hval
  obtain ⟨v0, vs0, d0, ds0, p0, q0, hargs, rfl, rfl, h0, r0⟩ := trodAll_cons hA
  obtain ⟨v1, vs1, d1, ds1, p1, q1, rfl, rfl, rfl, h1, r1⟩ := trodAll_cons r0
  obtain ⟨v2, vs2, d2, ds2, p2, q2, rfl, rfl, rfl, h2, r2⟩ := trodAll_cons r1
  obtain ⟨rfl, rfl, rfl⟩ := trodAll_nil r2
  obtain rfl : args = #[v0, v1, v2] := by cases args; simp_all
  obtain ⟨rfl, rfl⟩ := trodVars_none hV
  obtain ⟨a0, len0, cap0, rfl⟩ := okWide_slice Tryd.underlying26 (hval 0 26 v0 rfl rfl)
  have k0 := h0
  have lt0 : ∀ x ∈ p0, x.block < W.heap.size := by obtain ⟨m, hm⟩ := k0; exact DataW.trod_lt m _ _ _ hm
  obtain ⟨z0, w0⟩ : ∃ zs, IsStrs W a0 len0 cap0 zs := by
    obtain ⟨fuel, hf⟩ := h0
    exact open_strs hf
  obtain ⟨a1, rfl, rfl, rfl, w1⟩ := open_int Tryd.underlying31 (hval 1 31 v1 rfl rfl) h1
  obtain ⟨a2, rfl, rfl, rfl, w2⟩ := open_string Tryd.underlying9 (hval 2 9 v2 rfl rfl) h2
  clear hA0 hval0
  refine (walk a0 len0 cap0 z0 a1 a2  W w0 w1 w2 mMax hMax hTab).mono fun e W' ⟨he, bel⟩ => ?_
  subst he
  exact ⟨_, rfl, _, _, _, [], _, [], hW', trodAll_mk1 (shut_bool Tryd.underlying4 _), (trodAll_cons_mk (Below.trod laidOut (by kernel_rfl) (of_decide_eq_true (by kernel_rfl)) k0 bel lt0) (trodAll_cons_mk (shut_int Tryd.underlying31 w1) (trodAll_cons_mk (shut_string Tryd.underlying9 w2) trodAll_mk0))), rfl, bel.frame _, fun h => by cases h⟩

theorem over : Rows.WordsBackSaid :=
  OpenClaim.holds_of_cond 4 Tryd.f4 rfl rfl rfl rfl rfl rfl rfl ⟨rfl, rfl, rfl, rfl, rfl⟩ rfl rfl rfl rfl rfl (by kernel_rfl) Tryd.func4 (by kernel_rfl)
    (of_decide_eq_true (by kernel_rfl)) (by unfold Func.isWrapper; first | (rw [if_pos (by decide +kernel)]; kernel_rfl) | (rw [if_neg (by decide +kernel)]; exact ⟨rfl, rfl⟩))
    (fun os started H enc _ F0 => by rw [OpenClaim.pre_eq_preRow]; exact lifted os started H enc F0)

/-- THE STATEMENT: the tied card -/
theorem proved : Rows.WordsBackCardSaid :=
  Claim7.holds_tied_plain_at .later [] [.data, .data, .data, .data, .pinned] true (true, "db598113370d98e2309149c1441c3a179ae62143bb3dcc12fee36e4b95f3bc1e") false
    over (fun _ h => by cases h) (by kernel_rfl) (fun _ h => by cases h) wordsBack_row_tie rfl ⟨rfl, rfl⟩ (by kernel_rfl) rfl
    (fun f fn hf hfn => by
      obtain rfl : f = 4 := Option.some.inj ((show Tryd.prog.funcNamed Rows.wordsBackRow.func = some 4 by kernel_rfl).symm.trans hf) |>.symm
      obtain rfl : fn = Tryd.f4 := (Option.some.inj (Tryd.func4.symm.trans hfn)).symm
      refine ⟨by kernel_rfl, fun j t ht => ?_⟩
      rw [Tryd.params4] at ht
      exact standIns _ (by kernel_rfl) j t ht)
    (by kernel_rfl)
#print axioms proved
end Go.Proofs.YthokicikehemaaaDoor.wordsBack

