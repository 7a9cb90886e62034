/- text.anyNested, partOf, partsOf. -/
import Derived.Test.YtlmliefkhidpnaaGreatDoorTxt1
import Derived.Test.YtlmliefkhidpnaaGreatDoorTxtV
import Derived.Test.YtlmliefkhidpnaaGreatDoorWdLines
import Derived.Test.YtlmliefkhidpnaaGreatDoorReg
import Derived.Test.YtlmliefkhidpnaaGreatDoorOwnP
namespace Go.Proofs.YtlmliefkhidpnaaGreatDoor
open Go.ChangeShapes Go.WideShapes Go.ChangeAt Go.RowKit
set_option linter.unusedVariables false
set_option linter.unusedSimpArgs false
theorem rt_b {a b : Bool} (h : a = b) : Ending.returned (.bool a) = .returned (.bool b) := by rw [h]
theorem mem_max {w w' : World} {m : Int} (h : w.cell? ⟨0, 0, none⟩ = some (.int .i64 m)) (hb : Below w.heap.size w w') : w'.cell? ⟨0, 0, none⟩ = some (.int .i64 m) := by rw [hb.cell (cell_lt h)]; exact h
theorem contains_hasT (p : Bts) (l : Bts) : Lib.contains l p = hasT p l := by
  have key : ∀ l : Bts, (Lib.index l p = -1 ∧ hasT p l = false) ∨ (∃ k : Nat, Lib.index l p = (k : Int) ∧ hasT p l = true) := by
    intro l
    induction l with
    | nil =>
      unfold Lib.index hasT
      cases p with
      | nil => right; exact ⟨0, rfl, rfl⟩
      | cons a t => left; exact ⟨rfl, rfl⟩
    | cons b r ih =>
      unfold Lib.index hasT
      by_cases hp : p.isPrefixOf (b :: r) = true
      · right; exact ⟨0, by rw [hp]; rfl, by rw [hp]; rfl⟩
      · have hp : p.isPrefixOf (b :: r) = false := Bool.eq_false_iff.2 hp
        rw [hp, Bool.false_or]
        rcases ih with ⟨h1, h2⟩ | ⟨k, h1, h2⟩
        · left; rw [h1, h2]; exact ⟨by simp, rfl⟩
        · right
          refine ⟨k + 1, ?_, h2⟩
          have : ((k : Int) == -1) = false := by rw [beq_eq_false_iff_ne]; omega
          rw [h1, this]
          simp
  unfold Lib.contains
  rcases key l with ⟨h1, h2⟩ | ⟨k, h1, h2⟩
  · rw [h1, h2]; rfl
  · rw [h1, h2]; simp
theorem nest_form (x : ByteArray) : nestT (bl x) = (Lib.hasPrefix x.data.toList [108, 111, 99, 107, 58] && Lib.contains (Lib.trimPrefix x.data.toList [108, 111, 99, 107, 58]) [108, 111, 99, 107, 58]) := by
  rw [contains_hasT]
  unfold nestT Lib.trimPrefix Lib.hasPrefix
  show (([108, 111, 99, 107, 58] : Bts).isPrefixOf (bl x) && hasT [108, 111, 99, 107, 58] ((bl x).drop 5)) = _
  cases h : ([108, 111, 99, 107, 58] : Bts).isPrefixOf (bl x) with
  | true =>
    rw [show ([108, 111, 99, 107, 58] : Bts).isPrefixOf x.data.toList = true from h, if_pos rfl]
    rfl
  | false => rw [show ([108, 111, 99, 107, 58] : Bts).isPrefixOf x.data.toList = false from h]; rfl
set_option maxHeartbeats 4000000 in
theorem nested_any (A0 : Option Addr) (c0 : Nat) (ls : List ByteArray) (m : Int) (w : World) (hm : w.cell? ⟨0, 0, none⟩ = some (.int .i64 m)) (hs : StrsAt w A0 ls) (hl : ls.length ≤ 100000) (hz : ∀ x ∈ ls, x.size ≤ 100000) : Calls Tryz.prog 72 #[.slice A0 ls.length c0] w fun e w' => e = .returned (.bool ((ls.map bl).any nestT)) ∧ w = w' := by
  obtain ⟨N, hN⟩ : ∃ N, ls.length = N := ⟨_, rfl⟩
  have HN := hidp hN
  have HZ := hidp hz
  have HM := hidp hm
  rw [hN] at hl ⊢
  clear hN hz hm
  go_enter Tryz.func72, Tryz.ntmps72
  go_wp2
  go_step3
  go_wp2
  go_step3
  go_wp2
  go_loopg [3, 10] N (fun g f i wr => ∃ (k : Nat), k + g = N ∧ i = .int .i64 k ∧ f = .bool false ∧ Hid (((ls.take k).map bl).any nestT = false) ∧ w = wr)
  case atStart => exact ⟨0, by omega, rfl, rfl, hidp rfl, rfl⟩
  case round =>
    obtain ⟨k, hk, rfl, rfl, HI, rfl⟩ := hrel
    by_cases hin : k < N
    · obtain ⟨g, off, rfl, hc⟩ := hs.resolve_left (by intro e; have := HN.out; rw [e] at this; simp at this; omega)
      have hkl : k < ls.length := by rw [HN.out]; exact hin
      obtain ⟨x, HX⟩ : ∃ x, Hid (ls.getD k ByteArray.empty = x) := ⟨_, hidp rfl⟩
      have c1 : w.cell? ⟨g, off + k, none⟩ = some (.string x) := HX.out ▸ hc k hkl
      have HMx := hidp (strs_mem hkl HX.out)
      have HT := hidp (strs_take hkl HX.out)
      have hx := HZ.out x HMx.out
      have HF := hidp (nest_form x)
      have hts : (Lib.trimPrefix x.data.toList [108, 111, 99, 107, 58]).length ≤ x.size := by
        unfold Lib.trimPrefix
        rw [Lib.size_eq]
        split
        · rw [List.length_drop]; omega
        · exact Nat.le_refl _
      have hts2 : (⟨(Lib.trimPrefix x.data.toList [108, 111, 99, 107, 58]).toArray⟩ : ByteArray).size ≤ 100000 := by
        rw [Lib.size_eq]; exact Nat.le_trans hts hx
      have C1 := Tryz.strings_CutPrefix x ⟨#[108, 111, 99, 107, 58]⟩ w
      have C2 := Tryz.strings_Contains ⟨(Lib.trimPrefix x.data.toList [108, 111, 99, 107, 58]).toArray⟩ ⟨#[108, 111, 99, 107, 58]⟩ m w (by omega) HM.out
      have C1 : Calls Tryz.prog 86 #[.string x, .string ⟨#[108, 111, 99, 107, 58]⟩] w fun e w' => e = .returned (.tuple #[.string ⟨(Lib.trimPrefix x.data.toList [108, 111, 99, 107, 58]).toArray⟩, .bool (Lib.hasPrefix x.data.toList [108, 111, 99, 107, 58])]) ∧ w' = w := C1
      have C2 : Calls Tryz.prog 87 #[.string ⟨(Lib.trimPrefix x.data.toList [108, 111, 99, 107, 58]).toArray⟩, .string ⟨#[108, 111, 99, 107, 58]⟩] w fun e w' => e = .returned (.bool (Lib.contains (Lib.trimPrefix x.data.toList [108, 111, 99, 107, 58]) [108, 111, 99, 107, 58])) ∧ w' = w := C2
      obtain ⟨t, Ht⟩ : ∃ t : ByteArray, Hid ((⟨(Lib.trimPrefix x.data.toList [108, 111, 99, 107, 58]).toArray⟩ : ByteArray) = t) := ⟨_, hidp rfl⟩
      obtain ⟨p, Hp⟩ : ∃ p, Hid (Lib.hasPrefix x.data.toList [108, 111, 99, 107, 58] = p) := ⟨_, hidp rfl⟩
      obtain ⟨q, Hq⟩ : ∃ q, Hid (Lib.contains (Lib.trimPrefix x.data.toList [108, 111, 99, 107, 58]) [108, 111, 99, 107, 58] = q) := ⟨_, hidp rfl⟩
      rw [Hp.out, Hq.out] at HF
      rw [Hq.out, Ht.out] at C2
      rw [Ht.out, Hp.out] at C1
      have HC1 := hidp C1
      have HC2 := hidp C2
      clear hs hc hkl hx hts hts2 C1 C2 Ht Hp Hq
      have b1 : (0 : Int) ≤ (k : Int) := by omega
      have b2 : (k : Int) < (N : Int) := by omega
      cases p with
      | false =>
        rw [Bool.false_and] at HF
        go_wp2_with (first | (go_at_call 86; (with_reducible refine HC1.out.mono ?_); rintro e u ⟨rfl, rfl⟩) | (go_at_call 87; (with_reducible refine HC2.out.mono ?_); rintro e u ⟨rfl, rfl⟩))
        go_roundg (gk - 1)
        case measure => omega
        case rel => exact ⟨k + 1, by omega, by go_num, rfl, hidp (by rw [HT.out, List.any_append, HI.out]; simp [HF.out]), rfl⟩
      | true =>
        rw [Bool.true_and] at HF
        cases q with
        | false =>
          go_wp2_with (first | (go_at_call 86; (with_reducible refine HC1.out.mono ?_); rintro e u ⟨rfl, rfl⟩) | (go_at_call 87; (with_reducible refine HC2.out.mono ?_); rintro e u ⟨rfl, rfl⟩))
          go_roundg (gk - 1)
          case measure => omega
          case rel => exact ⟨k + 1, by omega, by go_num, rfl, hidp (by rw [HT.out, List.any_append, HI.out]; simp [HF.out]), rfl⟩
        | true =>
          go_wp2_with (first | (go_at_call 86; (with_reducible refine HC1.out.mono ?_); rintro e u ⟨rfl, rfl⟩) | (go_at_call 87; (with_reducible refine HC2.out.mono ?_); rintro e u ⟨rfl, rfl⟩))
          try rw [Exit.noGoto_ret]
          go_ret
          exact ⟨rt_b (List.any_eq_true.2 ⟨bl x, List.mem_map.2 ⟨x, HMx.out, rfl⟩, HF.out⟩).symm, rfl⟩
    · obtain rfl : k = N := by omega
      have HA : Hid ((ls.map bl).any nestT = false) := hidp (by have := HI.out; rwa [List.take_of_length_le (by rw [HN.out]; exact Nat.le_refl _)] at this)
      go_wp2
      try rw [Exit.noGoto_ret]
      go_ret
      exact ⟨rt_b HA.out.symm, rfl⟩
/-! ### Cut and Split at a colon -/
theorem cut_cutT (c : UInt8) : ∀ l cur : Bts, (Lib.index l [c] = -1 ∧ cutT c cur l = (cur ++ l, [])) ∨ (∃ k : Nat, Lib.index l [c] = (k : Int) ∧ cutT c cur l = (cur ++ l.take k, l.drop (k + 1))) := by
  intro l
  induction l with
  | nil => intro cur; left; exact ⟨rfl, by simp [cutT]⟩
  | cons b r ih =>
    intro cur
    unfold Lib.index cutT
    by_cases hb : b = c
    · right; subst hb; exact ⟨0, by simp [List.isPrefixOf], by simp⟩
    · have hp : ([c] : Bts).isPrefixOf (b :: r) = false := by
        simp only [List.isPrefixOf, Bool.and_eq_false_imp]
        intro e
        exact absurd (by simpa using e : c = b).symm hb
      rw [hp, if_neg hb]
      rcases ih (cur ++ [b]) with ⟨h1, h2⟩ | ⟨k, h1, h2⟩
      · left; rw [h1, h2]; exact ⟨by simp, by simp⟩
      · right
        refine ⟨k + 1, ?_, by rw [h2]; simp⟩
        have : ((k : Int) == -1) = false := by rw [beq_eq_false_iff_ne]; omega
        rw [h1, this]
        simp
theorem cut58 (l : Bts) : (Lib.cut l [58]).1 = (cutT 58 [] l).1 ∧ (Lib.cut l [58]).2.1 = (cutT 58 [] l).2 := by
  unfold Lib.cut
  rcases cut_cutT 58 l [] with ⟨h1, h2⟩ | ⟨k, h1, h2⟩
  · rw [h1, h2, if_neg (by decide)]; exact ⟨by simp, rfl⟩
  · rw [h1, h2, if_pos (by omega), Int.toNat_natCast]; exact ⟨by simp, rfl⟩
theorem cutT_len (c : UInt8) (l cur : Bts) : (cutT c cur l).2.length ≤ l.length := by
  induction l generalizing cur with
  | nil => simp [cutT]
  | cons x r ih => unfold cutT; split; · simp
                   · exact Nat.le_trans (ih _) (by simp)
theorem sp_len (c : UInt8) (l cur : Bts) : (sp c cur l).length ≤ l.length + 1 := by
  induction l generalizing cur with
  | nil => simp [sp]
  | cons x r ih => unfold sp; split; · have := ih []; simp; omega
                   · exact Nat.le_trans (ih _) (by simp)
theorem sp_mem (c : UInt8) (l cur : Bts) : ∀ x ∈ sp c cur l, x.length ≤ cur.length + l.length := by
  induction l generalizing cur with
  | nil => simp [sp]
  | cons y r ih =>
    unfold sp
    split
    · intro x hx
      rcases List.mem_cons.1 hx with rfl | h
      · simp
      · have := ih [] x h; simp at this ⊢; omega
    · intro x hx
      have := ih _ x hx
      simp at this ⊢; omega
theorem cut58_any (s : ByteArray) (m : Int) (w : World) (hm : w.cell? ⟨0, 0, none⟩ = some (.int .i64 m)) (hs : s.size ≤ 100000) : Calls Tryz.prog 53 #[.string s, .string ⟨#[58]⟩] w fun e w' => ∃ (k r : ByteArray) (b : Bool), e = .returned (.tuple #[.string k, .string r, .bool b]) ∧ bl k = (cutT 58 [] (bl s)).1 ∧ bl r = (cutT 58 [] (bl s)).2 ∧ Below w.heap.size w w' ∧ r.size ≤ s.size := by
  refine (Tryz.strings_Cut s ⟨#[58]⟩ m w (by omega) hm).mono ?_
  rintro e w' ⟨rfl, n, rfl⟩
  have h := cut58 (bl s)
  refine ⟨_, _, _, rfl, h.1, h.2, below_drewN (Below.refl _ w) n, ?_⟩
  rw [Lib.size_eq]
  show (Lib.cut (bl s) [58]).2.1.length ≤ s.size
  rw [h.2, ← bl_len]
  exact cutT_len _ _ _
theorem splitB_sp (c : UInt8) (s : ByteArray) : (Lib.splitB ⟨#[c]⟩ 0 (Lib.countB s ⟨#[c]⟩) s).map bl = sp c [] (bl s) :=
  (Lib.splitB_data ⟨#[c]⟩ 0 (Lib.countB s ⟨#[c]⟩) s).trans (splitK_sp c (bl s))
theorem split58_any (s : ByteArray) (m : Int) (w : World) (hm : w.cell? ⟨0, 0, none⟩ = some (.int .i64 m)) (hs : s.size ≤ 90000) : Calls Tryz.prog 34 #[.string s, .string ⟨#[58]⟩] w fun e w' => ∃ (A : Option Addr) (c : Nat) (ls : List ByteArray), e = .returned (.slice A ls.length c) ∧ ls.map bl = sp 58 [] (bl s) ∧ StrsAt w' A ls ∧ Below w.heap.size w w' ∧ ls.length ≤ 100000 ∧ ∀ x ∈ ls, x.size ≤ 100000 := by
  have hL1 := Lib.splitB_all ⟨#[58]⟩ (by decide) 0 (Lib.countB s ⟨#[58]⟩) s rfl
  have hS := splitB_sp 58 s
  refine (Tryz.strings_Split s ⟨#[58]⟩ m w (by omega) hm (by decide)).mono ?_
  rintro e w' ⟨rfl, rfl⟩
  refine ⟨_, _, Lib.splitB ⟨#[58]⟩ 0 (Lib.countB s ⟨#[58]⟩) s, by rw [hL1], hS, .inr ⟨_, 0, rfl, fun i hi => ?_⟩, (Below.refl _ w).alloc (Nat.le_refl _) _, ?_, fun x hx => ?_⟩
  · rw [Nat.zero_add, (Bk.new w 9 _).cell i]
    simp [List.getD, hi]
  · have := sp_len 58 (bl s) []
    rw [← hS, List.length_map, bl_len] at this
    omega
  · have := sp_mem 58 (bl s) [] (bl x) (by rw [← hS]; exact List.mem_map.2 ⟨x, hx, rfl⟩)
    rw [bl_len, bl_len] at this
    simp at this
    omega
/-! ### A part -/
def partK (k : Bts) (o : Option (List Int)) : Option PartT :=
  match o with
  | some [n] => if k = tRun then some ⟨1, n, 0⟩ else if k = tSleep then some ⟨2, n, 0⟩ else none
  | some [r, n] => if k = tLock then some ⟨3, n, r⟩ else none
  | _ => none
theorem partT_K (w : Bts) : partT w = partK (cutT 58 [] w).1 (numsT (sp 58 [] (cutT 58 [] w).2)) := by
  unfold partT partK
  generalize (cutT 58 [] w).1 = k
  generalize numsT _ = o
  match o with
  | none => rfl
  | some [] => rfl
  | some [n] => rfl
  | some [r, n] => rfl
  | some (a :: b :: c :: d) => rfl
def partV (b : Bts) : PartM × Bool := match partT b with | some p => (p.m, true) | none => (⟨0, 0, 0⟩, false)
def PartPost (w : World) (b : Bts) (e : Ending) (w' : World) : Prop := e = .returned (.tuple #[.agg #[.int .i64 (partV b).1.kind, .int .i64 (partV b).1.len, .int .i64 (partV b).1.res], .bool (partV b).2]) ∧ Below w.heap.size w w'
def pp3 (w : World) (g : Nat) (v0 v1 v2 : Value) : World := ((w.setCell ⟨g, 0, none⟩ v0).setCell ⟨g, 1, none⟩ v1).setCell ⟨g, 2, none⟩ v2
theorem pp3_bk {w : World} {g : Nat} {t : TypeId} {c0 c1 c2 v0 v1 v2 : Value} (h : Bk w g t #[c0, c1, c2]) : Bk (pp3 w g v0 v1 v2) g t #[v0, v1, v2] := by
  have := ((h.put 0 v0).put 1 v1).put 2 v2
  unfold pp3
  simpa using this
theorem pp3_turned (w : World) (g : Nat) (v0 v1 v2 : Value) : Turned [g] w (pp3 w g v0 v1 v2) :=
  (((Turned.refl [g] w).setCell (.inl (by simp)) _).setCell (.inl (by simp)) _).setCell (.inl (by simp)) _
theorem cz3 {w : World} {g : Nat} {t : TypeId} {c0 c1 c2 : Value} (h : Bk w g t #[c0, c1, c2]) : w.cell? ⟨g, 0, none⟩ = some c0 ∧ w.cell? ⟨g, 1, none⟩ = some c1 ∧ w.cell? ⟨g, 2, none⟩ = some c2 := ⟨h.cell 0, h.cell 1, h.cell 2⟩
theorem cf3 {w : World} {g : Nat} {t : TypeId} {cs : Array Value} (h : Bk w g t cs) : w.frozen? ⟨g, 0, none⟩ = false ∧ w.frozen? ⟨g, 1, none⟩ = false ∧ w.frozen? ⟨g, 2, none⟩ = false := ⟨h.frozen 0, h.frozen 1, h.frozen 2⟩
theorem part_ret {b : Bts} {p : PartM} {o : Bool} (h : partV b = (p, o)) : Ending.returned (.tuple #[.agg #[.int .i64 p.kind, .int .i64 p.len, .int .i64 p.res], .bool o]) = .returned (.tuple #[.agg #[.int .i64 (partV b).1.kind, .int .i64 (partV b).1.len, .int .i64 (partV b).1.res], .bool (partV b).2]) := by rw [h]
theorem OwnN.at0 {B : Nat} {w : World} {A : Option Addr} {n c : Nat} {zs : List Int} (h : OwnN B w A n c zs) (h0 : 0 < zs.length) : ∃ g, A = some ⟨g, 0, none⟩ ∧ ∀ i, i < zs.length → w.cell? ⟨g, i, none⟩ = some (.int .i64 (zs.getD i 0)) := by
  obtain ⟨g, rfl, _, _⟩ := own_at h.own (by rw [h.len]; exact h0)
  rcases h.row with e | ⟨b, off, e, hc⟩
  · rw [e] at h0; simp at h0
  · injection e with e1
    injection e1 with e2 e3
    subst e2
    refine ⟨_, rfl, fun i hi => ?_⟩
    have := hc i hi
    rwa [← e3, Nat.zero_add] at this
set_option maxHeartbeats 8000000 in
theorem partOf_any (s : ByteArray) (m : Int) (w : World) (hm : w.cell? ⟨0, 0, none⟩ = some (.int .i64 m)) (hs : s.size ≤ 90000) : Calls Tryz.prog 88 #[.string s] w (PartPost w (bl s)) := by
  have hb0 := (Below.refl w.heap.size w).alloc (Nat.le_refl _) (.cells #[.int .i64 0, .int .i64 0, .int .i64 0] 46)
  have B0 := hidp (Bk.new w 46 #[.int .i64 0, .int .i64 0, .int .i64 0])
  have HM := hidp hm
  have HM0 := hidp (mem_max hm hb0)
  have HB0 := hidp hb0
  clear hb0 hm
  go_enter Tryz.func88, Tryz.ntmps88
  go_wp2_with fail
  refine (cut58_any s m _ HM0.out (by omega)).mono ?_
  rintro e w1 ⟨k, r, b, rfl, h1, h2, hb1, hr⟩
  have H1 := hidp h1
  have H2 := hidp h2
  have BX := hidp (B0.out.below hb1)
  have HB := hidp (HB0.out.trans (hb1.mono HB0.out.size))
  clear h1 h2 hb1 B0 HB0 HM0
  go_wp2_with fail
  refine (split58_any r m _ (mem_max HM.out HB.out) (by omega)).mono ?_
  rintro e w2 ⟨A, cp, ls, rfl, h3, hst, hb2, hl, hz⟩
  have H3 := hidp h3
  have HS := hidp hst
  have HL := hidp hl
  have HZ := hidp hz
  replace BX := hidp (BX.out.below hb2)
  replace HB := hidp (HB.out.trans (hb2.mono HB.out.size))
  clear h3 hst hb2 hl hz
  go_wp2_with fail
  refine (numbers_any A cp ls w2 HS.out HL.out HZ.out).mono ?_
  rintro e w3 ⟨A2, c2, zs, ok, rfl, ho, hb3, hn, hln, hv⟩
  have HO := hidp ho
  have HP : Hid (partT (bl s) = partK (bl k) (if ok = true then some zs else none)) := hidp (by rw [partT_K, ← H1.out, ← H2.out, ← H3.out, ← hv])
  replace BX := hidp (BX.out.below hb3)
  replace HB := hidp (HB.out.trans (hb3.mono HB.out.size))
  clear ho hb3 hn hln hv HS HL HZ H3 H2 H1 hs hr
  cases ok with
  | false =>
    have HV : Hid (partV (bl s) = (⟨0, 0, 0⟩, false)) := hidp (by unfold partV; rw [HP.out]; rfl)
    have PB := pp3_bk BX.out (v0 := .int .i64 0) (v1 := .int .i64 0) (v2 := .int .i64 0)
    have T1 := pp3_turned w3 w.heap.size (.int .i64 0) (.int .i64 0) (.int .i64 0)
    have hbe := hidp (HB.out.trans (T1.below HB.out.size (by simp)))
    obtain ⟨r0, r1, r2⟩ := cz3 PB
    obtain ⟨z0, z1, z2⟩ := cz3 BX.out
    obtain ⟨y0, y1, y2⟩ := cf3 BX.out
    clear PB T1
    unfold pp3 at *
    go_wp2_with fail
    refine bodyPost_ret (v := .tuple #[.agg #[.int .i64 0, .int .i64 0, .int .i64 0], .bool false]) (by simp [results, Tryz.results88, go_sem, r0, r1, r2]) rfl ⟨part_ret (p := ⟨0, 0, 0⟩) HV.out, hbe.out⟩
  | true =>
    have e1 := toList_lit k [114, 117, 110]
    have e2 := toList_lit k [115, 108, 101, 101, 112]
    have e3 := toList_lit k [108, 111, 99, 107]
    by_cases d1 : bl k = tRun
    · rw [d1] at HP e1 e2 e3
      have f1 : (k.toList == [114, 117, 110]) = true := by rw [e1]; decide
      have f2 : (k.toList == [115, 108, 101, 101, 112]) = false := by rw [e2]; decide
      have f3 : (k.toList == [108, 111, 99, 107]) = false := by rw [e3]; decide
      clear d1
      clear e1 e2 e3
      match zs, HO, HP with
      | [], HO, HP =>
        have HV : Hid (partV (bl s) = (⟨0, 0, 0⟩, false)) := hidp (by unfold partV; rw [HP.out]; rfl)
        have PB := pp3_bk BX.out (v0 := .int .i64 0) (v1 := .int .i64 0) (v2 := .int .i64 0)
        have T1 := pp3_turned w3 w.heap.size (.int .i64 0) (.int .i64 0) (.int .i64 0)
        have hbe := hidp (HB.out.trans (T1.below HB.out.size (by simp)))
        obtain ⟨r0, r1, r2⟩ := cz3 PB
        obtain ⟨z0, z1, z2⟩ := cz3 BX.out
        obtain ⟨y0, y1, y2⟩ := cf3 BX.out
        clear PB T1
        unfold pp3 at *
        go_wp2_with fail
        refine bodyPost_ret (v := .tuple #[.agg #[.int .i64 0, .int .i64 0, .int .i64 0], .bool false]) (by simp [results, Tryz.results88, go_sem, r0, r1, r2]) rfl ⟨part_ret (p := ⟨0, 0, 0⟩) HV.out, hbe.out⟩
      | [n], HO, HP =>
        have HV : Hid (partV (bl s) = (⟨1, n, 0⟩, true)) := hidp (by unfold partV; rw [HP.out]; rfl)
        obtain ⟨g, rfl, hc⟩ := HO.out.at0 (by simp)
        have c0 : w3.cell? ⟨g, 0, none⟩ = some (.int .i64 n) := hc 0 (by simp)
        clear hc
        have PB := pp3_bk BX.out (v0 := .int .i64 1) (v1 := .int .i64 n) (v2 := .int .i64 0)
        have T1 := pp3_turned w3 w.heap.size (.int .i64 1) (.int .i64 n) (.int .i64 0)
        have hbe := hidp (HB.out.trans (T1.below HB.out.size (by simp)))
        obtain ⟨r0, r1, r2⟩ := cz3 PB
        obtain ⟨z0, z1, z2⟩ := cz3 BX.out
        obtain ⟨y0, y1, y2⟩ := cf3 BX.out
        clear PB T1
        unfold pp3 at *
        go_wp2_with fail
        refine bodyPost_ret (v := .tuple #[.agg #[.int .i64 1, .int .i64 n, .int .i64 0], .bool true]) (by simp [results, Tryz.results88, go_sem, r0, r1, r2]) rfl ⟨part_ret (p := ⟨1, n, 0⟩) HV.out, hbe.out⟩
      | [n, n2], HO, HP =>
        have HV : Hid (partV (bl s) = (⟨0, 0, 0⟩, false)) := hidp (by unfold partV; rw [HP.out]; rfl)
        have PB := pp3_bk BX.out (v0 := .int .i64 0) (v1 := .int .i64 0) (v2 := .int .i64 0)
        have T1 := pp3_turned w3 w.heap.size (.int .i64 0) (.int .i64 0) (.int .i64 0)
        have hbe := hidp (HB.out.trans (T1.below HB.out.size (by simp)))
        obtain ⟨r0, r1, r2⟩ := cz3 PB
        obtain ⟨z0, z1, z2⟩ := cz3 BX.out
        obtain ⟨y0, y1, y2⟩ := cf3 BX.out
        clear PB T1
        unfold pp3 at *
        go_wp2_with fail
        refine bodyPost_ret (v := .tuple #[.agg #[.int .i64 0, .int .i64 0, .int .i64 0], .bool false]) (by simp [results, Tryz.results88, go_sem, r0, r1, r2]) rfl ⟨part_ret (p := ⟨0, 0, 0⟩) HV.out, hbe.out⟩
      | x :: y :: z :: q, HO, HP =>
        have HV : Hid (partV (bl s) = (⟨0, 0, 0⟩, false)) := hidp (by unfold partV; rw [HP.out]; rfl)
        obtain ⟨n3, hn3⟩ : ∃ n3, (x :: y :: z :: q).length = n3 := ⟨_, rfl⟩
        have hn4 : 3 ≤ n3 := by rw [← hn3]; simp
        rw [hn3]
        clear hn3
        have g1 : ((n3 : Int) == 1) = false := by rw [beq_eq_false_iff_ne]; omega
        have g2 : ((n3 : Int) == 2) = false := by rw [beq_eq_false_iff_ne]; omega
        have PB := pp3_bk BX.out (v0 := .int .i64 0) (v1 := .int .i64 0) (v2 := .int .i64 0)
        have T1 := pp3_turned w3 w.heap.size (.int .i64 0) (.int .i64 0) (.int .i64 0)
        have hbe := hidp (HB.out.trans (T1.below HB.out.size (by simp)))
        obtain ⟨r0, r1, r2⟩ := cz3 PB
        obtain ⟨z0, z1, z2⟩ := cz3 BX.out
        obtain ⟨y0, y1, y2⟩ := cf3 BX.out
        clear PB T1
        unfold pp3 at *
        go_wp2_with fail
        refine bodyPost_ret (v := .tuple #[.agg #[.int .i64 0, .int .i64 0, .int .i64 0], .bool false]) (by simp [results, Tryz.results88, go_sem, r0, r1, r2]) rfl ⟨part_ret (p := ⟨0, 0, 0⟩) HV.out, hbe.out⟩
    by_cases d2 : bl k = tSleep
    · rw [d2] at HP e1 e2 e3
      have f1 : (k.toList == [114, 117, 110]) = false := by rw [e1]; decide
      have f2 : (k.toList == [115, 108, 101, 101, 112]) = true := by rw [e2]; decide
      have f3 : (k.toList == [108, 111, 99, 107]) = false := by rw [e3]; decide
      clear d1 d2
      clear e1 e2 e3
      match zs, HO, HP with
      | [], HO, HP =>
        have HV : Hid (partV (bl s) = (⟨0, 0, 0⟩, false)) := hidp (by unfold partV; rw [HP.out]; rfl)
        have PB := pp3_bk BX.out (v0 := .int .i64 0) (v1 := .int .i64 0) (v2 := .int .i64 0)
        have T1 := pp3_turned w3 w.heap.size (.int .i64 0) (.int .i64 0) (.int .i64 0)
        have hbe := hidp (HB.out.trans (T1.below HB.out.size (by simp)))
        obtain ⟨r0, r1, r2⟩ := cz3 PB
        obtain ⟨z0, z1, z2⟩ := cz3 BX.out
        obtain ⟨y0, y1, y2⟩ := cf3 BX.out
        clear PB T1
        unfold pp3 at *
        go_wp2_with fail
        refine bodyPost_ret (v := .tuple #[.agg #[.int .i64 0, .int .i64 0, .int .i64 0], .bool false]) (by simp [results, Tryz.results88, go_sem, r0, r1, r2]) rfl ⟨part_ret (p := ⟨0, 0, 0⟩) HV.out, hbe.out⟩
      | [n], HO, HP =>
        have HV : Hid (partV (bl s) = (⟨2, n, 0⟩, true)) := hidp (by unfold partV; rw [HP.out]; rfl)
        obtain ⟨g, rfl, hc⟩ := HO.out.at0 (by simp)
        have c0 : w3.cell? ⟨g, 0, none⟩ = some (.int .i64 n) := hc 0 (by simp)
        clear hc
        have PB := pp3_bk BX.out (v0 := .int .i64 2) (v1 := .int .i64 n) (v2 := .int .i64 0)
        have T1 := pp3_turned w3 w.heap.size (.int .i64 2) (.int .i64 n) (.int .i64 0)
        have hbe := hidp (HB.out.trans (T1.below HB.out.size (by simp)))
        obtain ⟨r0, r1, r2⟩ := cz3 PB
        obtain ⟨z0, z1, z2⟩ := cz3 BX.out
        obtain ⟨y0, y1, y2⟩ := cf3 BX.out
        clear PB T1
        unfold pp3 at *
        go_wp2_with fail
        refine bodyPost_ret (v := .tuple #[.agg #[.int .i64 2, .int .i64 n, .int .i64 0], .bool true]) (by simp [results, Tryz.results88, go_sem, r0, r1, r2]) rfl ⟨part_ret (p := ⟨2, n, 0⟩) HV.out, hbe.out⟩
      | [n, n2], HO, HP =>
        have HV : Hid (partV (bl s) = (⟨0, 0, 0⟩, false)) := hidp (by unfold partV; rw [HP.out]; rfl)
        have PB := pp3_bk BX.out (v0 := .int .i64 0) (v1 := .int .i64 0) (v2 := .int .i64 0)
        have T1 := pp3_turned w3 w.heap.size (.int .i64 0) (.int .i64 0) (.int .i64 0)
        have hbe := hidp (HB.out.trans (T1.below HB.out.size (by simp)))
        obtain ⟨r0, r1, r2⟩ := cz3 PB
        obtain ⟨z0, z1, z2⟩ := cz3 BX.out
        obtain ⟨y0, y1, y2⟩ := cf3 BX.out
        clear PB T1
        unfold pp3 at *
        go_wp2_with fail
        refine bodyPost_ret (v := .tuple #[.agg #[.int .i64 0, .int .i64 0, .int .i64 0], .bool false]) (by simp [results, Tryz.results88, go_sem, r0, r1, r2]) rfl ⟨part_ret (p := ⟨0, 0, 0⟩) HV.out, hbe.out⟩
      | x :: y :: z :: q, HO, HP =>
        have HV : Hid (partV (bl s) = (⟨0, 0, 0⟩, false)) := hidp (by unfold partV; rw [HP.out]; rfl)
        obtain ⟨n3, hn3⟩ : ∃ n3, (x :: y :: z :: q).length = n3 := ⟨_, rfl⟩
        have hn4 : 3 ≤ n3 := by rw [← hn3]; simp
        rw [hn3]
        clear hn3
        have g1 : ((n3 : Int) == 1) = false := by rw [beq_eq_false_iff_ne]; omega
        have g2 : ((n3 : Int) == 2) = false := by rw [beq_eq_false_iff_ne]; omega
        have PB := pp3_bk BX.out (v0 := .int .i64 0) (v1 := .int .i64 0) (v2 := .int .i64 0)
        have T1 := pp3_turned w3 w.heap.size (.int .i64 0) (.int .i64 0) (.int .i64 0)
        have hbe := hidp (HB.out.trans (T1.below HB.out.size (by simp)))
        obtain ⟨r0, r1, r2⟩ := cz3 PB
        obtain ⟨z0, z1, z2⟩ := cz3 BX.out
        obtain ⟨y0, y1, y2⟩ := cf3 BX.out
        clear PB T1
        unfold pp3 at *
        go_wp2_with fail
        refine bodyPost_ret (v := .tuple #[.agg #[.int .i64 0, .int .i64 0, .int .i64 0], .bool false]) (by simp [results, Tryz.results88, go_sem, r0, r1, r2]) rfl ⟨part_ret (p := ⟨0, 0, 0⟩) HV.out, hbe.out⟩
    by_cases d3 : bl k = tLock
    · rw [d3] at HP e1 e2 e3
      have f1 : (k.toList == [114, 117, 110]) = false := by rw [e1]; decide
      have f2 : (k.toList == [115, 108, 101, 101, 112]) = false := by rw [e2]; decide
      have f3 : (k.toList == [108, 111, 99, 107]) = true := by rw [e3]; decide
      clear d1 d2 d3
      clear e1 e2 e3
      match zs, HO, HP with
      | [], HO, HP =>
        have HV : Hid (partV (bl s) = (⟨0, 0, 0⟩, false)) := hidp (by unfold partV; rw [HP.out]; rfl)
        have PB := pp3_bk BX.out (v0 := .int .i64 0) (v1 := .int .i64 0) (v2 := .int .i64 0)
        have T1 := pp3_turned w3 w.heap.size (.int .i64 0) (.int .i64 0) (.int .i64 0)
        have hbe := hidp (HB.out.trans (T1.below HB.out.size (by simp)))
        obtain ⟨r0, r1, r2⟩ := cz3 PB
        obtain ⟨z0, z1, z2⟩ := cz3 BX.out
        obtain ⟨y0, y1, y2⟩ := cf3 BX.out
        clear PB T1
        unfold pp3 at *
        go_wp2_with fail
        refine bodyPost_ret (v := .tuple #[.agg #[.int .i64 0, .int .i64 0, .int .i64 0], .bool false]) (by simp [results, Tryz.results88, go_sem, r0, r1, r2]) rfl ⟨part_ret (p := ⟨0, 0, 0⟩) HV.out, hbe.out⟩
      | [n], HO, HP =>
        have HV : Hid (partV (bl s) = (⟨0, 0, 0⟩, false)) := hidp (by unfold partV; rw [HP.out]; rfl)
        have PB := pp3_bk BX.out (v0 := .int .i64 0) (v1 := .int .i64 0) (v2 := .int .i64 0)
        have T1 := pp3_turned w3 w.heap.size (.int .i64 0) (.int .i64 0) (.int .i64 0)
        have hbe := hidp (HB.out.trans (T1.below HB.out.size (by simp)))
        obtain ⟨r0, r1, r2⟩ := cz3 PB
        obtain ⟨z0, z1, z2⟩ := cz3 BX.out
        obtain ⟨y0, y1, y2⟩ := cf3 BX.out
        clear PB T1
        unfold pp3 at *
        go_wp2_with fail
        refine bodyPost_ret (v := .tuple #[.agg #[.int .i64 0, .int .i64 0, .int .i64 0], .bool false]) (by simp [results, Tryz.results88, go_sem, r0, r1, r2]) rfl ⟨part_ret (p := ⟨0, 0, 0⟩) HV.out, hbe.out⟩
      | [r9, n], HO, HP =>
        have HV : Hid (partV (bl s) = (⟨3, n, r9⟩, true)) := hidp (by unfold partV; rw [HP.out]; rfl)
        obtain ⟨g, rfl, hc⟩ := HO.out.at0 (by simp)
        have c0 : w3.cell? ⟨g, 0, none⟩ = some (.int .i64 r9) := hc 0 (by simp)
        have c1 : w3.cell? ⟨g, 1, none⟩ = some (.int .i64 n) := hc 1 (by simp)
        clear hc
        have PB := pp3_bk BX.out (v0 := .int .i64 3) (v1 := .int .i64 n) (v2 := .int .i64 r9)
        have T1 := pp3_turned w3 w.heap.size (.int .i64 3) (.int .i64 n) (.int .i64 r9)
        have hbe := hidp (HB.out.trans (T1.below HB.out.size (by simp)))
        obtain ⟨r0, r1, r2⟩ := cz3 PB
        obtain ⟨z0, z1, z2⟩ := cz3 BX.out
        obtain ⟨y0, y1, y2⟩ := cf3 BX.out
        clear PB T1
        unfold pp3 at *
        go_wp2_with fail
        go_region
        go_wp2_with fail
        refine bodyPost_ret (v := .tuple #[.agg #[.int .i64 3, .int .i64 n, .int .i64 r9], .bool true]) (by simp [results, Tryz.results88, go_sem, r0, r1, r2]) rfl ⟨part_ret (p := ⟨3, n, r9⟩) HV.out, below_drewN hbe.out 1⟩
      | x :: y :: z :: q, HO, HP =>
        have HV : Hid (partV (bl s) = (⟨0, 0, 0⟩, false)) := hidp (by unfold partV; rw [HP.out]; rfl)
        obtain ⟨n3, hn3⟩ : ∃ n3, (x :: y :: z :: q).length = n3 := ⟨_, rfl⟩
        have hn4 : 3 ≤ n3 := by rw [← hn3]; simp
        rw [hn3]
        clear hn3
        have g1 : ((n3 : Int) == 1) = false := by rw [beq_eq_false_iff_ne]; omega
        have g2 : ((n3 : Int) == 2) = false := by rw [beq_eq_false_iff_ne]; omega
        have PB := pp3_bk BX.out (v0 := .int .i64 0) (v1 := .int .i64 0) (v2 := .int .i64 0)
        have T1 := pp3_turned w3 w.heap.size (.int .i64 0) (.int .i64 0) (.int .i64 0)
        have hbe := hidp (HB.out.trans (T1.below HB.out.size (by simp)))
        obtain ⟨r0, r1, r2⟩ := cz3 PB
        obtain ⟨z0, z1, z2⟩ := cz3 BX.out
        obtain ⟨y0, y1, y2⟩ := cf3 BX.out
        clear PB T1
        unfold pp3 at *
        go_wp2_with fail
        refine bodyPost_ret (v := .tuple #[.agg #[.int .i64 0, .int .i64 0, .int .i64 0], .bool false]) (by simp [results, Tryz.results88, go_sem, r0, r1, r2]) rfl ⟨part_ret (p := ⟨0, 0, 0⟩) HV.out, hbe.out⟩
    have f1 : (k.toList == [114, 117, 110]) = false := by rw [e1]; exact decide_eq_false d1
    have f2 : (k.toList == [115, 108, 101, 101, 112]) = false := by rw [e2]; exact decide_eq_false d2
    have f3 : (k.toList == [108, 111, 99, 107]) = false := by rw [e3]; exact decide_eq_false d3
    have D1 := hidp d1
    have D2 := hidp d2
    have D3 := hidp d3
    clear d1 d2 d3
    clear e1 e2 e3
    match zs, HO, HP with
    | [], HO, HP =>
      have HV : Hid (partV (bl s) = (⟨0, 0, 0⟩, false)) := hidp (by unfold partV; rw [HP.out]; simp [partK, D1.out, D2.out, D3.out])
      have PB := pp3_bk BX.out (v0 := .int .i64 0) (v1 := .int .i64 0) (v2 := .int .i64 0)
      have T1 := pp3_turned w3 w.heap.size (.int .i64 0) (.int .i64 0) (.int .i64 0)
      have hbe := hidp (HB.out.trans (T1.below HB.out.size (by simp)))
      obtain ⟨r0, r1, r2⟩ := cz3 PB
      obtain ⟨z0, z1, z2⟩ := cz3 BX.out
      obtain ⟨y0, y1, y2⟩ := cf3 BX.out
      clear PB T1
      unfold pp3 at *
      go_wp2_with fail
      refine bodyPost_ret (v := .tuple #[.agg #[.int .i64 0, .int .i64 0, .int .i64 0], .bool false]) (by simp [results, Tryz.results88, go_sem, r0, r1, r2]) rfl ⟨part_ret (p := ⟨0, 0, 0⟩) HV.out, hbe.out⟩
    | [n], HO, HP =>
      have HV : Hid (partV (bl s) = (⟨0, 0, 0⟩, false)) := hidp (by unfold partV; rw [HP.out]; simp [partK, D1.out, D2.out, D3.out])
      have PB := pp3_bk BX.out (v0 := .int .i64 0) (v1 := .int .i64 0) (v2 := .int .i64 0)
      have T1 := pp3_turned w3 w.heap.size (.int .i64 0) (.int .i64 0) (.int .i64 0)
      have hbe := hidp (HB.out.trans (T1.below HB.out.size (by simp)))
      obtain ⟨r0, r1, r2⟩ := cz3 PB
      obtain ⟨z0, z1, z2⟩ := cz3 BX.out
      obtain ⟨y0, y1, y2⟩ := cf3 BX.out
      clear PB T1
      unfold pp3 at *
      go_wp2_with fail
      refine bodyPost_ret (v := .tuple #[.agg #[.int .i64 0, .int .i64 0, .int .i64 0], .bool false]) (by simp [results, Tryz.results88, go_sem, r0, r1, r2]) rfl ⟨part_ret (p := ⟨0, 0, 0⟩) HV.out, hbe.out⟩
    | [n, n2], HO, HP =>
      have HV : Hid (partV (bl s) = (⟨0, 0, 0⟩, false)) := hidp (by unfold partV; rw [HP.out]; simp [partK, D1.out, D2.out, D3.out])
      have PB := pp3_bk BX.out (v0 := .int .i64 0) (v1 := .int .i64 0) (v2 := .int .i64 0)
      have T1 := pp3_turned w3 w.heap.size (.int .i64 0) (.int .i64 0) (.int .i64 0)
      have hbe := hidp (HB.out.trans (T1.below HB.out.size (by simp)))
      obtain ⟨r0, r1, r2⟩ := cz3 PB
      obtain ⟨z0, z1, z2⟩ := cz3 BX.out
      obtain ⟨y0, y1, y2⟩ := cf3 BX.out
      clear PB T1
      unfold pp3 at *
      go_wp2_with fail
      refine bodyPost_ret (v := .tuple #[.agg #[.int .i64 0, .int .i64 0, .int .i64 0], .bool false]) (by simp [results, Tryz.results88, go_sem, r0, r1, r2]) rfl ⟨part_ret (p := ⟨0, 0, 0⟩) HV.out, hbe.out⟩
    | x :: y :: z :: q, HO, HP =>
      have HV : Hid (partV (bl s) = (⟨0, 0, 0⟩, false)) := hidp (by unfold partV; rw [HP.out]; simp [partK, D1.out, D2.out, D3.out])
      obtain ⟨n3, hn3⟩ : ∃ n3, (x :: y :: z :: q).length = n3 := ⟨_, rfl⟩
      have hn4 : 3 ≤ n3 := by rw [← hn3]; simp
      rw [hn3]
      clear hn3
      have g1 : ((n3 : Int) == 1) = false := by rw [beq_eq_false_iff_ne]; omega
      have g2 : ((n3 : Int) == 2) = false := by rw [beq_eq_false_iff_ne]; omega
      have PB := pp3_bk BX.out (v0 := .int .i64 0) (v1 := .int .i64 0) (v2 := .int .i64 0)
      have T1 := pp3_turned w3 w.heap.size (.int .i64 0) (.int .i64 0) (.int .i64 0)
      have hbe := hidp (HB.out.trans (T1.below HB.out.size (by simp)))
      obtain ⟨r0, r1, r2⟩ := cz3 PB
      obtain ⟨z0, z1, z2⟩ := cz3 BX.out
      obtain ⟨y0, y1, y2⟩ := cf3 BX.out
      clear PB T1
      unfold pp3 at *
      go_wp2_with fail
      refine bodyPost_ret (v := .tuple #[.agg #[.int .i64 0, .int .i64 0, .int .i64 0], .bool false]) (by simp [results, Tryz.results88, go_sem, r0, r1, r2]) rfl ⟨part_ret (p := ⟨0, 0, 0⟩) HV.out, hbe.out⟩
end Go.Proofs.YtlmliefkhidpnaaGreatDoor
