/- WordsNumbers: each number is read as it is told; a nought ahead, a sign, an eighth digit aren't read. No condition. -/
import Derived.Test.YthokicikehemaaaDoorKnown7
namespace Go.Proofs.YthokicikehemaaaDoor
open Go.ChangeShapes Go.WideShapes Go.ChangeAt Go.RowKit
set_option linter.unusedVariables false
set_option linter.unusedSimpArgs false
/-- what a row of digits is as a number -/
def digN : Bts → Int
  | l => l.foldl (fun n b => n * 10 + ((b.toNat : Int) - 48)) 0
theorem numN_mk (L : Bts) : ∀ k, k ≤ L.length → numN (mkB L) k = digN (L.take k) := by
  intro k
  induction k with
  | zero => intro _; rfl
  | succ k ih =>
    intro hk
    rw [numN, ih (by omega), List.take_succ_eq_append_getElem (by omega)]
    unfold digN
    rw [List.foldl_append]
    simp only [List.foldl_cons, List.foldl_nil]
    congr 2
    rw [byteAt_bl, bl_mk]
    simp [List.getD, show k < L.length by omega]
theorem digN_dec (n : Nat) : digN (Lib.decDigits n) = (n : Int) := by
  induction n using Nat.strongRecOn with
  | _ n ih =>
    rw [Lib.decDigits]
    split
    · rename_i h
      have : n = 0 ∨ n = 1 ∨ n = 2 ∨ n = 3 ∨ n = 4 ∨ n = 5 ∨ n = 6 ∨ n = 7 ∨ n = 8 ∨ n = 9 := by omega
      rcases this with rfl | rfl | rfl | rfl | rfl | rfl | rfl | rfl | rfl | rfl <;> rfl
    · rename_i h
      have e := ih (n / 10) (by omega)
      unfold digN at e ⊢
      rw [List.foldl_append, e]
      simp only [List.foldl_cons, List.foldl_nil]
      obtain ⟨r, hr, hr2⟩ : ∃ r, n % 10 = r ∧ r < 10 := ⟨_, rfl, Nat.mod_lt _ (by decide)⟩
      have hb : ((UInt8.ofNat (48 + r)).toNat : Int) = 48 + r := by
        have : r = 0 ∨ r = 1 ∨ r = 2 ∨ r = 3 ∨ r = 4 ∨ r = 5 ∨ r = 6 ∨ r = 7 ∨ r = 8 ∨ r = 9 := by omega
        rcases this with rfl | rfl | rfl | rfl | rfl | rfl | rfl | rfl | rfl | rfl <;> rfl
      rw [hr, hb]
      omega
def isDig (b : UInt8) : Bool := digB (b.toNat : Int)
theorem dec_dig (n : Nat) : ∀ b ∈ Lib.decDigits n, isDig b = true := by
  induction n using Nat.strongRecOn with
  | _ n ih =>
    rw [Lib.decDigits]
    split
    · rename_i h
      intro b hb
      simp only [List.mem_singleton] at hb
      subst hb
      have : n = 0 ∨ n = 1 ∨ n = 2 ∨ n = 3 ∨ n = 4 ∨ n = 5 ∨ n = 6 ∨ n = 7 ∨ n = 8 ∨ n = 9 := by omega
      rcases this with rfl | rfl | rfl | rfl | rfl | rfl | rfl | rfl | rfl | rfl <;> rfl
    · rename_i h
      intro b hb
      rcases List.mem_append.1 hb with g | g
      · exact ih (n / 10) (by omega) b g
      · simp only [List.mem_singleton] at g
        subst g
        obtain ⟨r, hr, hr2⟩ : ∃ r, n % 10 = r ∧ r < 10 := ⟨_, rfl, Nat.mod_lt _ (by decide)⟩
        rw [hr]
        have : r = 0 ∨ r = 1 ∨ r = 2 ∨ r = 3 ∨ r = 4 ∨ r = 5 ∨ r = 6 ∨ r = 7 ∨ r = 8 ∨ r = 9 := by omega
        rcases this with rfl | rfl | rfl | rfl | rfl | rfl | rfl | rfl | rfl | rfl <;> rfl
theorem dec_len (n : Nat) (h : n ≤ 9999999) : 1 ≤ (Lib.decDigits n).length ∧ (Lib.decDigits n).length ≤ 7 := by
  rw [Lib.decDigits_length]
  have key : ∀ m, ∀ n, n < 10 ^ (m + 1) → Lib.nDigits n ≤ m + 1 := by
    intro m
    induction m with
    | zero => intro n hn; rw [Lib.nDigits_small (by simpa using hn)]; omega
    | succ m ih =>
      intro n hn
      by_cases h10 : n < 10
      · rw [Lib.nDigits_small h10]; omega
      · rw [Lib.nDigits_big h10]
        have := ih (n / 10) (by rw [Nat.pow_succ] at hn; omega)
        omega
  refine ⟨?_, key 6 n (by omega)⟩
  by_cases h10 : n < 10
  · rw [Lib.nDigits_small h10]; omega
  · rw [Lib.nDigits_big h10]; omega
theorem dec_head (n : Nat) (h : 10 ≤ n) : ∃ b r, Lib.decDigits n = b :: r ∧ b ≠ 48 := by
  induction n using Nat.strongRecOn with
  | _ n ih =>
    rw [Lib.decDigits, dif_neg (by omega)]
    by_cases h2 : n / 10 < 10
    · rw [Lib.decDigits_one h2]
      refine ⟨_, _, rfl, ?_⟩
      have : n / 10 = 1 ∨ n / 10 = 2 ∨ n / 10 = 3 ∨ n / 10 = 4 ∨ n / 10 = 5 ∨ n / 10 = 6 ∨ n / 10 = 7 ∨ n / 10 = 8 ∨ n / 10 = 9 := by omega
      rcases this with e | e | e | e | e | e | e | e | e <;> rw [e] <;> decide
    · obtain ⟨b, r, e, hb⟩ := ih (n / 10) (by omega) (by omega)
      exact ⟨b, r ++ [UInt8.ofNat (48 + n % 10)], by rw [e]; rfl, hb⟩
theorem numOK_mk (L : Bts) : numOK (mkB L) = (decide (1 ≤ L.length ∧ L.length ≤ 7 ∧ ¬ (((L.getD 0 0).toNat : Int) = 48 ∧ 1 < L.length)) && L.all isDig) := by
  unfold numOK
  rw [show (mkB L).size = L.length by rw [← bl_len, bl_mk]]
  congr 1
  rw [Bool.eq_iff_iff, List.all_eq_true, List.all_eq_true]
  constructor
  · intro h x hx
    obtain ⟨i, hi, e⟩ := List.mem_iff_getElem.1 hx
    have := h i (by simpa using hi)
    rw [byteAt_bl, bl_mk] at this
    simp only [List.getD, List.getElem?_eq_getElem hi, Option.getD_some, e] at this
    exact this
  · intro h i hi
    have hi2 : i < L.length := by simpa using hi
    have := h L[i] (List.getElem_mem hi2)
    rw [byteAt_bl, bl_mk]
    simp only [List.getD, List.getElem?_eq_getElem hi2, Option.getD_some]
    exact this
theorem u8_ne {b : UInt8} (h : b ≠ 48) : ¬ ((b.toNat : Int) = 48) := fun e => h (UInt8.toNat_inj.1 (by show b.toNat = 48; omega))
theorem dec_ok (n : Nat) (h : n ≤ 9999999) : numOK (mkB (Lib.decDigits n)) = true := by
  rw [numOK_mk, Bool.and_eq_true]
  have hl := dec_len n h
  refine ⟨decide_eq_true ⟨hl.1, hl.2, fun ⟨h1, h2⟩ => ?_⟩, List.all_eq_true.2 (dec_dig n)⟩
  by_cases h10 : n < 10
  · rw [Lib.decDigits_one h10] at h2; simp at h2
  · obtain ⟨b, r, e, hb⟩ := dec_head n (by omega)
    rw [e] at h1
    exact u8_ne hb h1
theorem dec_num (n : Nat) (h : n ≤ 9999999) : numV (mkB (Lib.decDigits n)) = (n : Int) := by
  unfold numV
  rw [if_pos (dec_ok n h), show (mkB (Lib.decDigits n)).size = (Lib.decDigits n).length by rw [← bl_len, bl_mk], numN_mk _ _ (Nat.le_refl _), List.take_length, digN_dec]
theorem bad_nought (L : Bts) (h : 1 ≤ L.length) : numOK (mkB (48 :: L)) = false := by
  rw [numOK_mk, Bool.and_eq_false_iff]; left
  exact decide_eq_false (fun ⟨_, _, h3⟩ => h3 ⟨rfl, by simp; omega⟩)
theorem bad_sign (L : Bts) : numOK (mkB (45 :: L)) = false := by
  rw [numOK_mk, Bool.and_eq_false_iff]; right
  rw [List.all_eq_false]
  exact ⟨45, List.mem_cons_self, by decide⟩
theorem bad_long {L : Bts} (h : 7 < L.length) : numOK (mkB L) = false := by
  rw [numOK_mk, Bool.and_eq_false_iff]; left
  exact decide_eq_false (fun ⟨_, h2, _⟩ => by omega)
/-- a last byte instead of the last digit -/
theorem odd_ok {D : Bts} (hd : D.all isDig = true) (hl : D.length ≤ 6) (hh : 0 < D.length → ((D.getD 0 0).toNat : Int) ≠ 48) (c : UInt8) : numOK (mkB (D ++ [c])) = isDig c := by
  rw [numOK_mk]
  have hlen : (D ++ [c]).length = D.length + 1 := by simp
  rw [hlen, List.all_append, hd, Bool.true_and]
  have e : decide (1 ≤ D.length + 1 ∧ D.length + 1 ≤ 7 ∧ ¬ ((((D ++ [c]).getD 0 0).toNat : Int) = 48 ∧ 1 < D.length + 1)) = true := decide_eq_true ⟨by omega, by omega, fun ⟨h1, h2⟩ => by
    have h3 : 0 < D.length := by omega
    refine hh h3 ?_
    rw [← h1]
    simp [List.getD, h3]⟩
  rw [e]
  simp
end Go.Proofs.YthokicikehemaaaDoor
set_option maxHeartbeats 1000000
set_option maxRecDepth 100000
set_option linter.unusedSimpArgs false
namespace Go.Proofs.YthokicikehemaaaDoor.wordsNumbers
open Go.ChangeShapes Go.WideShapes Go.ChangeAt Go.RowKit
open Go.ChangeMaps (open_string shut_string)
set_option linter.unusedVariables false

/-- THE WALK: the Go text returns true, and writes nothing that was there. -/
theorem walk (a0 : Int) (a1 : Int) (w : World) (w0 : (Lit.int .u32 a0).wf = true) (w1 : (Lit.int .u8 a1).wf = true) (mMax : Int) (hMax : w.cell? ⟨0, 0, none⟩ = some (.int .i64 mMax)) (hTab : Go.Lib.TabIs Tryd.prog w "internal/strconv.uint64pow10" .u64 Go.Lib.pow10Tab) :
    Calls Tryd.prog 5 #[.int .u32 a0, .int .u8 a1] w fun e w' => e = .returned (.bool true) ∧ Below w.heap.size w w' := by
  have HX := hidp hMax
  have HT := hidp hTab
  have b1 : 0 ≤ a1 ∧ a1 ≤ 255 := by simp [Lit.wf, IntKind.min, IntKind.max, IntKind.signed, IntKind.bits] at w1; omega
  have b0 : 0 ≤ a0 ∧ a0 ≤ 4294967295 := by simp [Lit.wf, IntKind.min, IntKind.max, IntKind.signed, IntKind.bits] at w0; omega
  clear hMax hTab w0 w1
  obtain ⟨b0, b0'⟩ := b0
  obtain ⟨K, HK, hK⟩ : ∃ K : Nat, Hid (a0 % 10000000 = (K : Int)) ∧ K ≤ 9999999 := ⟨(a0 % 10000000).toNat, hidp (by omega), by omega⟩
  have wk : IntKind.i64.wrap (a0 % 10000000) = a0 % 10000000 := IntWalk.i64_in _ (by omega)
  obtain ⟨D, hD⟩ : ∃ D, Lib.decDigits K = D := ⟨_, rfl⟩
  have hl0 := dec_len K hK
  have hall : D.all isDig = true := by rw [← hD]; exact List.all_eq_true.2 (dec_dig K)
  have hhead : 1 < D.length → ((D.getD 0 0).toNat : Int) ≠ 48 := fun h => by
    by_cases h10 : K < 10
    · rw [← hD, Lib.decDigits_one h10] at h; simp at h
    · obtain ⟨b, r, e, hb⟩ := dec_head K (by omega)
      rw [← hD, e]; exact u8_ne hb
  have HTV : Hid (textV (K : Int) = mkB D) := hidp (by rw [textV_yes (by omega), Int.toNat_natCast, hD])
  have hV1 := dec_num K hK
  have hO1 := dec_ok K hK
  rw [hD] at hl0 hV1 hO1
  have HTB : Hid (textV (10000000 + (K : Int)) = ⟨#[]⟩) := hidp (textV_no (.inr (by omega)))
  have HKI : Hid (I64 (10000000 + (K : Int))) := hidp (by unfold I64; omega)
  have wK2 : IntKind.i64.wrap (10000000 + (K : Int)) = 10000000 + (K : Int) := IntWalk.i64_in _ (by omega)
  obtain ⟨S, hS⟩ : ∃ S, mkB D = S := ⟨_, rfl⟩
  obtain ⟨l, hl⟩ : ∃ l, S.size = l := ⟨_, rfl⟩
  have hDl : D.length = l := by rw [← hl, ← hS, ← bl_len, bl_mk]
  have hbS : bl S = D := by rw [← hS, bl_mk]
  rw [hS] at hV1 hO1 HTV
  obtain ⟨hl1, hl7⟩ : 1 ≤ l ∧ l ≤ 7 := by omega
  obtain ⟨q, hq⟩ : ∃ q : Nat, 7 - l = q := ⟨_, rfl⟩
  obtain ⟨c, hc⟩ : ∃ c : UInt8, (c.toNat : Int) = a1 := ⟨UInt8.ofNat a1.toNat, by rw [UInt8.toNat_ofNat']; omega⟩
  -- a nought ahead
  obtain ⟨X2, hX2⟩ : ∃ X, (⟨#[48]⟩ : ByteArray) ++ S = X := ⟨_, rfl⟩
  have HO2 : Hid (numOK X2 = false) := hidp (by
    have : X2 = mkB (48 :: D) := bl_inj (by rw [← hX2, bl_append, hbS, bl_mk]; rfl)
    rw [this]; exact bad_nought D (by omega))
  have HX2 : Hid (X2.size ≤ maxLen) := hidp (by rw [← hX2, ByteArray.size_append, hl]; show 1 + l ≤ maxLen; unfold maxLen; omega)
  -- a digit more
  obtain ⟨Z, hZ⟩ : ∃ Z, (⟨#[48, 48, 48, 48, 48, 48, 48]⟩ : ByteArray).extract 0 q = Z := ⟨_, rfl⟩
  have hZs : Z.size = q := by rw [← hZ, ByteArray.size_extract]; show min q 7 - 0 = q; omega
  obtain ⟨X3, hX3⟩ : ∃ X, ((⟨#[49]⟩ : ByteArray) ++ Z) ++ S = X := ⟨_, rfl⟩
  have h3s : X3.size = 8 := by rw [← hX3, ByteArray.size_append, ByteArray.size_append, hl, hZs]; show 1 + q + l = 8; omega
  have HO3 : Hid (numOK X3 = false) := hidp (numOK_len (by omega))
  have HX3 : Hid (X3.size ≤ maxLen) := hidp (by rw [h3s]; decide)
  -- a sign
  obtain ⟨X4, hX4⟩ : ∃ X, (⟨#[45]⟩ : ByteArray) ++ S = X := ⟨_, rfl⟩
  have HO4 : Hid (numOK X4 = false) := hidp (by
    have : X4 = mkB (45 :: D) := bl_inj (by rw [← hX4, bl_append, hbS, bl_mk]; rfl)
    rw [this]; exact bad_sign D)
  have HX4 : Hid (X4.size ≤ maxLen) := hidp (by rw [← hX4, ByteArray.size_append, hl]; show 1 + l ≤ maxLen; unfold maxLen; omega)
  -- another last byte
  obtain ⟨l2, hl2⟩ : ∃ l2 : Nat, l = l2 + 1 := ⟨l - 1, by omega⟩
  obtain ⟨Y, hY⟩ : ∃ Y, S.extract 0 l2 = Y := ⟨_, rfl⟩
  obtain ⟨C, hC⟩ : ∃ C, mkB [c] = C := ⟨_, rfl⟩
  have hYs : Y.size = l2 := by rw [← hY, ByteArray.size_extract, hl]; omega
  obtain ⟨X5, hX5⟩ : ∃ X, Y ++ C = X := ⟨_, rfl⟩
  have hbY : bl Y = D.take l2 := by rw [← hY, bl_extract, hbS]; simp
  have HX5 : Hid (X5.size ≤ maxLen) := hidp (by rw [← hX5, ← hC, ByteArray.size_append, hYs]; show l2 + 1 ≤ maxLen; unfold maxLen; omega)
  obtain ⟨N5, hN5⟩ : ∃ N, numOK X5 = N := ⟨_, rfl⟩
  have hN5x : N5 = isDig c := by
    have e : X5 = mkB (D.take l2 ++ [c]) := bl_inj (by rw [← hX5, ← hC, bl_append, hbY, bl_mk, bl_mk])
    rw [← hN5, e]
    refine odd_ok ?_ (by rw [List.length_take]; omega) (fun h => ?_) c
    · rw [List.all_eq_true] at hall ⊢
      exact fun x hx => hall x (List.mem_of_mem_take hx)
    · rw [List.length_take] at h
      have h2 : 0 < l2 := by omega
      have := hhead (by omega)
      rw [show (D.take l2).getD 0 0 = D.getD 0 0 by simp [List.getD, h2]]
      exact this
  have HN5 := hidp hN5
  have hcd : isDig c = digB a1 := by unfold isDig; rw [hc]
  have HN5a : Hid (a1 < 48 → N5 = false) := hidp (fun h => by rw [hN5x, hcd]; simp [digB]; omega)
  have HN5b : Hid (57 < a1 → N5 = false) := hidp (fun h => by rw [hN5x, hcd]; simp [digB]; omega)
  have HN5c : Hid (48 ≤ a1 → a1 ≤ 57 → N5 = true) := hidp (fun h h2 => by rw [hN5x, hcd]; simp [digB]; omega)
  have HC0 : Hid (l ≠ 1 → ∃ h : 0 < S.size, ∃ c0 : Int, (S[0].toNat : Int) = c0 ∧ c0 ≠ 48) := hidp (fun h => by
    have h0 : 0 < S.size := by omega
    refine ⟨h0, _, rfl, ?_⟩
    have := hhead (by omega)
    rw [← hbS, ← byteAt_bl, byteAt_is S 0 h0] at this
    exact this)
  have HV1 := hidp hV1
  have HO1 := hidp hO1
  have HSz : Hid (S.size ≤ maxLen) := hidp (by rw [hl]; unfold maxLen; omega)
  have z1 : ¬ 9223372036854775807 < 1 + l := by omega
  have z2 : ¬ 9223372036854775807 < 1 + q := by omega
  have z3 : ¬ 9223372036854775807 < 1 + q + l := by omega
  have z4 : ¬ 9223372036854775807 < l2 + C.size := by rw [← hC]; show ¬ 9223372036854775807 < l2 + 1; omega
  have lm : (l : Int) % 8 = (l : Int) := by omega
  have wq : IntKind.i64.wrap (7 - (l : Int)) = (q : Int) := by rw [IntWalk.i64_in _ (by omega)]; omega
  have wl : IntKind.i64.wrap ((l : Int) - 1) = (l2 : Int) := by rw [IntWalk.i64_in _ (by omega)]; omega
  have q0 : (0 : Int) ≤ (q : Int) := by omega
  have q7 : (q : Int) ≤ 7 := by omega
  have q7n : q ≤ 7 := by omega
  have l20 : (0 : Int) ≤ (l2 : Int) := by omega
  have l2l : (l2 : Int) ≤ (l : Int) := by omega
  have l2n : l2 ≤ l := by omega
  have eK : ((K : Int) == (K : Int)) = true := by simp
  have hcv : ∀ u : World, (convert 35 9 (.slice (some ⟨u.heap.size, 0, none⟩) 1 1)).run Tryd.prog (u.alloc (.cells #[.int .u8 a1] 5)) = .ok (.string C) (u.alloc (.cells #[.int .u8 a1] 5)) := fun u => by
    rw [← hC]
    refine run_convert_bytes_back (P := Tryd.prog) (u.alloc (.cells #[.int .u8 a1] 5)) 35 9 5 ⟨u.heap.size, 0, none⟩ 1 [c] Tryd.underlying35 Tryd.underlying5 Tryd.underlying9 (fun j hj => ?_)
    have hj0 : j = 0 := by simpa using hj
    subst hj0
    have e : ((⟨u.heap.size, 0, none⟩ : Addr).add 0) = ⟨u.heap.size, 0, none⟩ := by unfold Addr.add; rw [if_pos rfl]
    rw [e, (Bk.new u 5 #[.int .u8 a1]).cell 0, ← hc]
    rfl
  have HCV := hidp hcv
  have Hl2 := hidp hl2
  have Hq := hidp hq
  clear hD hl0 hall hhead hV1 hO1 hS hDl hbS h3s hbY hN5 hN5x hcd hc hC hcv hl2 hq
  go_enter Tryd.func5, Tryd.ntmps5
  go_wp2_with fail
  refine (known7_any w mMax HX.out HT.out).mono ?_
  rintro e w1 ⟨rfl, hb1⟩
  have HB := hidp hb1
  clear hb1
  go_upto_region 4 with fail
  rw [HK.out]
  clear wk
  go_wp2_with fail
  refine (text_any (K : Int) w1 (by unfold I64; omega) (tab_at HT.out HB.out)).mono ?_
  rintro e w2 ⟨rfl, hb⟩
  rw [HTV.out]
  replace HB := hidp (HB.out.trans (hb.mono HB.out.size))
  clear hb
  go_wp2_with fail
  with_reducible refine (num_any S w2 HSz.out).mono ?_
  rintro e u ⟨rfl, rfl⟩
  rw [HV1.out, HO1.out]
  go_wp2_with fail
  with_reducible refine (num_any X2 w2 HX2.out).mono ?_
  rintro e u ⟨rfl, rfl⟩
  rw [HO2.out]
  go_wp2_with fail
  with_reducible refine (num_any X3 w2 HX3.out).mono ?_
  rintro e u ⟨rfl, rfl⟩
  rw [HO3.out]
  go_wp2_with fail
  with_reducible refine (num_any X4 w2 HX4.out).mono ?_
  rintro e u ⟨rfl, rfl⟩
  rw [HO4.out]
  go_upto_region 9 with fail
  refine wp_region_held_drew (S := fun _ => True) (by kernel_rfl) ?_ (fun hHeld => ?_)
  · trivial
  obtain ⟨v, hv⟩ : ∃ v, w2.drew = v := ⟨_, rfl⟩
  have HB3 : Hid (Below w.heap.size w v) := hidp (hv ▸ below_drewN HB.out 1)
  rw [hv]
  clear hv
  have HBn := hidp (HB3.out.alloc HB3.out.size (.cells #[.int .u8 a1] 5))
  have hcb := HCV.out v
  refine wpAnyH_take (i := 0) (v := ?_) rfl (by kernel_rfl) (by kernel_rfl) (by kernel_rfl) (fun _ _ _ h => h) (Or.inl ⟨by rfl, ?_⟩) (by assumption) ?_
  rotate_left 1
  · ((intro w hSw; (try dsimp only at hSw); go_simp); (try with_reducible rfl))
  simp only [Act.put, List.setIfInBounds_toArray, List.set_cons_zero, List.set_cons_succ, List.getElem_toArray, List.getElem_cons_zero, List.getElem_cons_succ]
  refine wpAnyH_take (i := 1) (v := ?_) rfl (by kernel_rfl) (by kernel_rfl) (by kernel_rfl) (fun _ _ _ h => h) (Or.inl ⟨by rfl, ?_⟩) (by assumption) ?_
  rotate_left 1
  · ((intro w hSw; (try dsimp only at hSw); go_simp); (try with_reducible rfl))
  simp only [Act.put, List.setIfInBounds_toArray, List.set_cons_zero, List.set_cons_succ, List.getElem_toArray, List.getElem_cons_zero, List.getElem_cons_succ]
  refine wpAnyH_take (i := 2) (v := ?_) rfl (by kernel_rfl) (by kernel_rfl) (by kernel_rfl) (fun _ _ _ h => h) (Or.inl ⟨by rfl, ?_⟩) (by assumption) ?_
  rotate_left 1
  · ((intro w hSw; (try dsimp only at hSw); go_simp); (try with_reducible rfl))
  simp only [Act.put, List.setIfInBounds_toArray, List.set_cons_zero, List.set_cons_succ, List.getElem_toArray, List.getElem_cons_zero, List.getElem_cons_succ]
  refine wpAnyH_take (i := 3) (v := ?_) rfl (by kernel_rfl) (by kernel_rfl) (by kernel_rfl) (fun _ _ _ h => h) (Or.inl ⟨by rfl, ?_⟩) (by assumption) ?_
  rotate_left 1
  · ((intro w hSw; (try dsimp only at hSw); go_simp); (try with_reducible rfl))
  simp only [Act.put, List.setIfInBounds_toArray, List.set_cons_zero, List.set_cons_succ, List.getElem_toArray, List.getElem_cons_zero, List.getElem_cons_succ]
  refine wpAnyH_take (i := 5) (v := ?_) rfl (by kernel_rfl) (by kernel_rfl) (by kernel_rfl) (fun _ _ _ h => h) (Or.inl ⟨by rfl, ?_⟩) (by assumption) ?_
  rotate_left 1
  · ((intro w hSw; (try dsimp only at hSw); go_simp); (try with_reducible rfl))
  simp only [Act.put, List.setIfInBounds_toArray, List.set_cons_zero, List.set_cons_succ, List.getElem_toArray, List.getElem_cons_zero, List.getElem_cons_succ]
  refine wpAnyH_ready (rs := [4, 6]) (by kernel_rfl) (by simp) ?_
  refine AllReadyH.cons rfl (fun K hK => ?_) (AllReadyH.cons rfl (fun K hK => ?_) AllReadyH.nil)
  · go_simp
    clear hHeld
    go_wp2_with fail
    refine hK.out _ _ ?_ (fun hHeld => ?_)
    · exact trivial
    clear hK K
    try simp only [Act.put, List.setIfInBounds_toArray, List.set_cons_zero, List.set_cons_succ, List.getElem_toArray, List.getElem_cons_zero, List.getElem_cons_succ]
    refine wpAnyH_ready (rs := [6]) (by kernel_rfl) (by simp) ?_
    refine AllReadyH.cons rfl (fun K hK => ?_) AllReadyH.nil
    go_simp
    clear hHeld
    go_wp2_with fail
    refine hK.out _ _ ?_ (fun hHeld => ?_)
    · exact trivial
    clear hK K
    try simp only [Act.put, List.setIfInBounds_toArray, List.set_cons_zero, List.set_cons_succ, List.getElem_toArray, List.getElem_cons_zero, List.getElem_cons_succ]
    refine wpAnyH_ready (rs := [7]) (by kernel_rfl) (by simp) ?_
    refine AllReadyH.cons rfl (fun K hK => ?_) AllReadyH.nil
    go_simp
    clear hHeld
    go_wp2_with fail
    refine hK.out _ _ ?_ (fun hHeld => ?_)
    · exact trivial
    clear hK K
    try simp only [Act.put, List.setIfInBounds_toArray, List.set_cons_zero, List.set_cons_succ, List.getElem_toArray, List.getElem_cons_zero, List.getElem_cons_succ]
    refine wpAnyH_ready (rs := [8]) (by kernel_rfl) (by simp) ?_
    refine AllReadyH.cons rfl (fun K hK => ?_) AllReadyH.nil
    go_simp
    clear hHeld
    go_wp2_with fail
    refine hK.out _ _ ?_ (fun hHeld => ?_)
    · exact trivial
    clear hK K
    try simp only [Act.put, List.setIfInBounds_toArray, List.set_cons_zero, List.set_cons_succ, List.getElem_toArray, List.getElem_cons_zero, List.getElem_cons_succ]
    refine wpAnyH_ready (rs := [9]) (by kernel_rfl) (by simp) ?_
    refine AllReadyH.cons rfl (fun K hK => ?_) AllReadyH.nil
    go_simp
    with_reducible refine (num_any X5 _ HX5.out).mono ?_
    rintro e u5 ⟨rfl, rfl⟩
    rw [HN5.out]
    clear hHeld
    go_wp2_with fail
    refine hK.out _ _ ?_ (fun hHeld => ?_)
    · exact trivial
    clear hK K
    try simp only [Act.put, List.setIfInBounds_toArray, List.set_cons_zero, List.set_cons_succ, List.getElem_toArray, List.getElem_cons_zero, List.getElem_cons_succ]
    refine wpAnyH_take (i := 10) (v := ?_) rfl (by kernel_rfl) (by kernel_rfl) (by kernel_rfl) (fun _ _ _ h => h) (Or.inl ⟨by rfl, ?_⟩) (by assumption) ?_
    rotate_left 1
    · ((intro w hSw; (try dsimp only at hSw); go_simp); (try with_reducible rfl))
    simp only [Act.put, List.setIfInBounds_toArray, List.set_cons_zero, List.set_cons_succ, List.getElem_toArray, List.getElem_cons_zero, List.getElem_cons_succ]
    refine wpAnyH_take (i := 11) (v := ?_) rfl (by kernel_rfl) (by kernel_rfl) (by kernel_rfl) (fun _ _ _ h => h) (Or.inl ⟨by rfl, ?_⟩) (by assumption) ?_
    rotate_left 1
    · ((intro w hSw; (try dsimp only at hSw); go_simp); (try with_reducible rfl))
    simp only [Act.put, List.setIfInBounds_toArray, List.set_cons_zero, List.set_cons_succ, List.getElem_toArray, List.getElem_cons_zero, List.getElem_cons_succ]
    refine wpAnyH_take (i := 12) (v := ?_) rfl (by kernel_rfl) (by kernel_rfl) (by kernel_rfl) (fun _ _ _ h => h) (Or.inl ⟨by rfl, ?_⟩) (by assumption) ?_
    rotate_left 1
    · ((intro w hSw; (try dsimp only at hSw); go_simp); (try with_reducible rfl))
    simp only [Act.put, List.setIfInBounds_toArray, List.set_cons_zero, List.set_cons_succ, List.getElem_toArray, List.getElem_cons_zero, List.getElem_cons_succ]
    refine wpAnyH_take (i := 13) (v := ?_) rfl (by kernel_rfl) (by kernel_rfl) (by kernel_rfl) (fun _ _ _ h => h) (Or.inl ⟨by rfl, ?_⟩) (by assumption) ?_
    rotate_left 1
    · ((intro w hSw; (try dsimp only at hSw); go_simp); (try with_reducible rfl))
    simp only [Act.put, List.setIfInBounds_toArray, List.set_cons_zero, List.set_cons_succ, List.getElem_toArray, List.getElem_cons_zero, List.getElem_cons_succ]
    refine wpAnyH_take (i := 14) (v := ?_) rfl (by kernel_rfl) (by kernel_rfl) (by kernel_rfl) (fun _ _ _ h => h) (Or.inl ⟨by rfl, ?_⟩) (by assumption) ?_
    rotate_left 1
    · ((intro w hSw; (try dsimp only at hSw); go_simp); (try with_reducible rfl))
    simp only [Act.put, List.setIfInBounds_toArray, List.set_cons_zero, List.set_cons_succ, List.getElem_toArray, List.getElem_cons_zero, List.getElem_cons_succ]
    refine wpAnyH_done (by kernel_rfl) ?_ _
    clear hHeld
    by_cases d1 : a1 < 48
    · have n5 := HN5a.out d1
      subst n5
      have f1 : decide (48 ≤ a1) = false := by simp; omega
      go_wp2_with fail
      refine (text_any (10000000 + (K : Int)) _ HKI.out (tab_at HT.out HBn.out)).mono ?_
      rintro e w9 ⟨rfl, hb9⟩
      rw [HTB.out]
      have HB9 := hidp (HBn.out.trans (hb9.mono HBn.out.size))
      clear hb9
      go_wp2_with fail
      go_ret
      exact ⟨rfl, HB9.out⟩
    by_cases d2 : 57 < a1
    · have n5 := HN5b.out d2
      subst n5
      have f1 : decide (48 ≤ a1) = true := by simp; omega
      have f2 : decide (a1 ≤ 57) = false := by simp; omega
      go_wp2_with fail
      refine (text_any (10000000 + (K : Int)) _ HKI.out (tab_at HT.out HBn.out)).mono ?_
      rintro e w9 ⟨rfl, hb9⟩
      rw [HTB.out]
      have HB9 := hidp (HBn.out.trans (hb9.mono HBn.out.size))
      clear hb9
      go_wp2_with fail
      go_ret
      exact ⟨rfl, HB9.out⟩
    have n5 := HN5c.out (by omega) (by omega)
    subst n5
    have f1 : decide (48 ≤ a1) = true := by simp; omega
    have f2 : decide (a1 ≤ 57) = true := by simp; omega
    by_cases l1 : l = 1
    · have f3 : ((l : Int) == 1) = true := by rw [l1]; rfl
      clear l1
      go_wp2_with fail
      refine (text_any (10000000 + (K : Int)) _ HKI.out (tab_at HT.out HBn.out)).mono ?_
      rintro e w9 ⟨rfl, hb9⟩
      rw [HTB.out]
      have HB9 := hidp (HBn.out.trans (hb9.mono HBn.out.size))
      clear hb9
      go_wp2_with fail
      go_ret
      exact ⟨rfl, HB9.out⟩
    · have f3 : ((l : Int) == 1) = false := by rw [beq_eq_false_iff_ne]; omega
      obtain ⟨hs0, c0, hc0, hne⟩ := HC0.out l1
      have f4 : (c0 != 48) = true := by simpa using hne
      clear l1 hne
      go_wp2_with fail
      refine (text_any (10000000 + (K : Int)) _ HKI.out (tab_at HT.out HBn.out)).mono ?_
      rintro e w9 ⟨rfl, hb9⟩
      rw [HTB.out]
      have HB9 := hidp (HBn.out.trans (hb9.mono HBn.out.size))
      clear hb9
      go_wp2_with fail
      go_ret
      exact ⟨rfl, HB9.out⟩
  · go_simp
    clear hHeld
    go_wp2_with fail
    refine hK.out _ _ ?_ (fun hHeld => ?_)
    · exact trivial
    clear hK K
    try simp only [Act.put, List.setIfInBounds_toArray, List.set_cons_zero, List.set_cons_succ, List.getElem_toArray, List.getElem_cons_zero, List.getElem_cons_succ]
    refine wpAnyH_ready (rs := [4, 7]) (by kernel_rfl) (by simp) ?_
    refine AllReadyH.cons rfl (fun K hK => ?_) (AllReadyH.cons rfl (fun K hK => ?_) AllReadyH.nil)
    · go_simp
      clear hHeld
      go_wp2_with fail
      refine hK.out _ _ ?_ (fun hHeld => ?_)
      · exact trivial
      clear hK K
      try simp only [Act.put, List.setIfInBounds_toArray, List.set_cons_zero, List.set_cons_succ, List.getElem_toArray, List.getElem_cons_zero, List.getElem_cons_succ]
      refine wpAnyH_ready (rs := [7]) (by kernel_rfl) (by simp) ?_
      refine AllReadyH.cons rfl (fun K hK => ?_) AllReadyH.nil
      go_simp
      clear hHeld
      go_wp2_with fail
      refine hK.out _ _ ?_ (fun hHeld => ?_)
      · exact trivial
      clear hK K
      try simp only [Act.put, List.setIfInBounds_toArray, List.set_cons_zero, List.set_cons_succ, List.getElem_toArray, List.getElem_cons_zero, List.getElem_cons_succ]
      refine wpAnyH_ready (rs := [8]) (by kernel_rfl) (by simp) ?_
      refine AllReadyH.cons rfl (fun K hK => ?_) AllReadyH.nil
      go_simp
      clear hHeld
      go_wp2_with fail
      refine hK.out _ _ ?_ (fun hHeld => ?_)
      · exact trivial
      clear hK K
      try simp only [Act.put, List.setIfInBounds_toArray, List.set_cons_zero, List.set_cons_succ, List.getElem_toArray, List.getElem_cons_zero, List.getElem_cons_succ]
      refine wpAnyH_ready (rs := [9]) (by kernel_rfl) (by simp) ?_
      refine AllReadyH.cons rfl (fun K hK => ?_) AllReadyH.nil
      go_simp
      with_reducible refine (num_any X5 _ HX5.out).mono ?_
      rintro e u5 ⟨rfl, rfl⟩
      rw [HN5.out]
      clear hHeld
      go_wp2_with fail
      refine hK.out _ _ ?_ (fun hHeld => ?_)
      · exact trivial
      clear hK K
      try simp only [Act.put, List.setIfInBounds_toArray, List.set_cons_zero, List.set_cons_succ, List.getElem_toArray, List.getElem_cons_zero, List.getElem_cons_succ]
      refine wpAnyH_take (i := 10) (v := ?_) rfl (by kernel_rfl) (by kernel_rfl) (by kernel_rfl) (fun _ _ _ h => h) (Or.inl ⟨by rfl, ?_⟩) (by assumption) ?_
      rotate_left 1
      · ((intro w hSw; (try dsimp only at hSw); go_simp); (try with_reducible rfl))
      simp only [Act.put, List.setIfInBounds_toArray, List.set_cons_zero, List.set_cons_succ, List.getElem_toArray, List.getElem_cons_zero, List.getElem_cons_succ]
      refine wpAnyH_take (i := 11) (v := ?_) rfl (by kernel_rfl) (by kernel_rfl) (by kernel_rfl) (fun _ _ _ h => h) (Or.inl ⟨by rfl, ?_⟩) (by assumption) ?_
      rotate_left 1
      · ((intro w hSw; (try dsimp only at hSw); go_simp); (try with_reducible rfl))
      simp only [Act.put, List.setIfInBounds_toArray, List.set_cons_zero, List.set_cons_succ, List.getElem_toArray, List.getElem_cons_zero, List.getElem_cons_succ]
      refine wpAnyH_take (i := 12) (v := ?_) rfl (by kernel_rfl) (by kernel_rfl) (by kernel_rfl) (fun _ _ _ h => h) (Or.inl ⟨by rfl, ?_⟩) (by assumption) ?_
      rotate_left 1
      · ((intro w hSw; (try dsimp only at hSw); go_simp); (try with_reducible rfl))
      simp only [Act.put, List.setIfInBounds_toArray, List.set_cons_zero, List.set_cons_succ, List.getElem_toArray, List.getElem_cons_zero, List.getElem_cons_succ]
      refine wpAnyH_take (i := 13) (v := ?_) rfl (by kernel_rfl) (by kernel_rfl) (by kernel_rfl) (fun _ _ _ h => h) (Or.inl ⟨by rfl, ?_⟩) (by assumption) ?_
      rotate_left 1
      · ((intro w hSw; (try dsimp only at hSw); go_simp); (try with_reducible rfl))
      simp only [Act.put, List.setIfInBounds_toArray, List.set_cons_zero, List.set_cons_succ, List.getElem_toArray, List.getElem_cons_zero, List.getElem_cons_succ]
      refine wpAnyH_take (i := 14) (v := ?_) rfl (by kernel_rfl) (by kernel_rfl) (by kernel_rfl) (fun _ _ _ h => h) (Or.inl ⟨by rfl, ?_⟩) (by assumption) ?_
      rotate_left 1
      · ((intro w hSw; (try dsimp only at hSw); go_simp); (try with_reducible rfl))
      simp only [Act.put, List.setIfInBounds_toArray, List.set_cons_zero, List.set_cons_succ, List.getElem_toArray, List.getElem_cons_zero, List.getElem_cons_succ]
      refine wpAnyH_done (by kernel_rfl) ?_ _
      clear hHeld
      by_cases d1 : a1 < 48
      · have n5 := HN5a.out d1
        subst n5
        have f1 : decide (48 ≤ a1) = false := by simp; omega
        go_wp2_with fail
        refine (text_any (10000000 + (K : Int)) _ HKI.out (tab_at HT.out HBn.out)).mono ?_
        rintro e w9 ⟨rfl, hb9⟩
        rw [HTB.out]
        have HB9 := hidp (HBn.out.trans (hb9.mono HBn.out.size))
        clear hb9
        go_wp2_with fail
        go_ret
        exact ⟨rfl, HB9.out⟩
      by_cases d2 : 57 < a1
      · have n5 := HN5b.out d2
        subst n5
        have f1 : decide (48 ≤ a1) = true := by simp; omega
        have f2 : decide (a1 ≤ 57) = false := by simp; omega
        go_wp2_with fail
        refine (text_any (10000000 + (K : Int)) _ HKI.out (tab_at HT.out HBn.out)).mono ?_
        rintro e w9 ⟨rfl, hb9⟩
        rw [HTB.out]
        have HB9 := hidp (HBn.out.trans (hb9.mono HBn.out.size))
        clear hb9
        go_wp2_with fail
        go_ret
        exact ⟨rfl, HB9.out⟩
      have n5 := HN5c.out (by omega) (by omega)
      subst n5
      have f1 : decide (48 ≤ a1) = true := by simp; omega
      have f2 : decide (a1 ≤ 57) = true := by simp; omega
      by_cases l1 : l = 1
      · have f3 : ((l : Int) == 1) = true := by rw [l1]; rfl
        clear l1
        go_wp2_with fail
        refine (text_any (10000000 + (K : Int)) _ HKI.out (tab_at HT.out HBn.out)).mono ?_
        rintro e w9 ⟨rfl, hb9⟩
        rw [HTB.out]
        have HB9 := hidp (HBn.out.trans (hb9.mono HBn.out.size))
        clear hb9
        go_wp2_with fail
        go_ret
        exact ⟨rfl, HB9.out⟩
      · have f3 : ((l : Int) == 1) = false := by rw [beq_eq_false_iff_ne]; omega
        obtain ⟨hs0, c0, hc0, hne⟩ := HC0.out l1
        have f4 : (c0 != 48) = true := by simpa using hne
        clear l1 hne
        go_wp2_with fail
        refine (text_any (10000000 + (K : Int)) _ HKI.out (tab_at HT.out HBn.out)).mono ?_
        rintro e w9 ⟨rfl, hb9⟩
        rw [HTB.out]
        have HB9 := hidp (HBn.out.trans (hb9.mono HBn.out.size))
        clear hb9
        go_wp2_with fail
        go_ret
        exact ⟨rfl, HB9.out⟩
    · go_simp
      clear hHeld
      go_wp2_with fail
      refine hK.out _ _ ?_ (fun hHeld => ?_)
      · exact trivial
      clear hK K
      try simp only [Act.put, List.setIfInBounds_toArray, List.set_cons_zero, List.set_cons_succ, List.getElem_toArray, List.getElem_cons_zero, List.getElem_cons_succ]
      refine wpAnyH_ready (rs := [4]) (by kernel_rfl) (by simp) ?_
      refine AllReadyH.cons rfl (fun K hK => ?_) AllReadyH.nil
      go_simp
      clear hHeld
      go_wp2_with fail
      refine hK.out _ _ ?_ (fun hHeld => ?_)
      · exact trivial
      clear hK K
      try simp only [Act.put, List.setIfInBounds_toArray, List.set_cons_zero, List.set_cons_succ, List.getElem_toArray, List.getElem_cons_zero, List.getElem_cons_succ]
      refine wpAnyH_ready (rs := [8]) (by kernel_rfl) (by simp) ?_
      refine AllReadyH.cons rfl (fun K hK => ?_) AllReadyH.nil
      go_simp
      clear hHeld
      go_wp2_with fail
      refine hK.out _ _ ?_ (fun hHeld => ?_)
      · exact trivial
      clear hK K
      try simp only [Act.put, List.setIfInBounds_toArray, List.set_cons_zero, List.set_cons_succ, List.getElem_toArray, List.getElem_cons_zero, List.getElem_cons_succ]
      refine wpAnyH_ready (rs := [9]) (by kernel_rfl) (by simp) ?_
      refine AllReadyH.cons rfl (fun K hK => ?_) AllReadyH.nil
      go_simp
      with_reducible refine (num_any X5 _ HX5.out).mono ?_
      rintro e u5 ⟨rfl, rfl⟩
      rw [HN5.out]
      clear hHeld
      go_wp2_with fail
      refine hK.out _ _ ?_ (fun hHeld => ?_)
      · exact trivial
      clear hK K
      try simp only [Act.put, List.setIfInBounds_toArray, List.set_cons_zero, List.set_cons_succ, List.getElem_toArray, List.getElem_cons_zero, List.getElem_cons_succ]
      refine wpAnyH_take (i := 10) (v := ?_) rfl (by kernel_rfl) (by kernel_rfl) (by kernel_rfl) (fun _ _ _ h => h) (Or.inl ⟨by rfl, ?_⟩) (by assumption) ?_
      rotate_left 1
      · ((intro w hSw; (try dsimp only at hSw); go_simp); (try with_reducible rfl))
      simp only [Act.put, List.setIfInBounds_toArray, List.set_cons_zero, List.set_cons_succ, List.getElem_toArray, List.getElem_cons_zero, List.getElem_cons_succ]
      refine wpAnyH_take (i := 11) (v := ?_) rfl (by kernel_rfl) (by kernel_rfl) (by kernel_rfl) (fun _ _ _ h => h) (Or.inl ⟨by rfl, ?_⟩) (by assumption) ?_
      rotate_left 1
      · ((intro w hSw; (try dsimp only at hSw); go_simp); (try with_reducible rfl))
      simp only [Act.put, List.setIfInBounds_toArray, List.set_cons_zero, List.set_cons_succ, List.getElem_toArray, List.getElem_cons_zero, List.getElem_cons_succ]
      refine wpAnyH_take (i := 12) (v := ?_) rfl (by kernel_rfl) (by kernel_rfl) (by kernel_rfl) (fun _ _ _ h => h) (Or.inl ⟨by rfl, ?_⟩) (by assumption) ?_
      rotate_left 1
      · ((intro w hSw; (try dsimp only at hSw); go_simp); (try with_reducible rfl))
      simp only [Act.put, List.setIfInBounds_toArray, List.set_cons_zero, List.set_cons_succ, List.getElem_toArray, List.getElem_cons_zero, List.getElem_cons_succ]
      refine wpAnyH_take (i := 13) (v := ?_) rfl (by kernel_rfl) (by kernel_rfl) (by kernel_rfl) (fun _ _ _ h => h) (Or.inl ⟨by rfl, ?_⟩) (by assumption) ?_
      rotate_left 1
      · ((intro w hSw; (try dsimp only at hSw); go_simp); (try with_reducible rfl))
      simp only [Act.put, List.setIfInBounds_toArray, List.set_cons_zero, List.set_cons_succ, List.getElem_toArray, List.getElem_cons_zero, List.getElem_cons_succ]
      refine wpAnyH_take (i := 14) (v := ?_) rfl (by kernel_rfl) (by kernel_rfl) (by kernel_rfl) (fun _ _ _ h => h) (Or.inl ⟨by rfl, ?_⟩) (by assumption) ?_
      rotate_left 1
      · ((intro w hSw; (try dsimp only at hSw); go_simp); (try with_reducible rfl))
      simp only [Act.put, List.setIfInBounds_toArray, List.set_cons_zero, List.set_cons_succ, List.getElem_toArray, List.getElem_cons_zero, List.getElem_cons_succ]
      refine wpAnyH_done (by kernel_rfl) ?_ _
      clear hHeld
      by_cases d1 : a1 < 48
      · have n5 := HN5a.out d1
        subst n5
        have f1 : decide (48 ≤ a1) = false := by simp; omega
        go_wp2_with fail
        refine (text_any (10000000 + (K : Int)) _ HKI.out (tab_at HT.out HBn.out)).mono ?_
        rintro e w9 ⟨rfl, hb9⟩
        rw [HTB.out]
        have HB9 := hidp (HBn.out.trans (hb9.mono HBn.out.size))
        clear hb9
        go_wp2_with fail
        go_ret
        exact ⟨rfl, HB9.out⟩
      by_cases d2 : 57 < a1
      · have n5 := HN5b.out d2
        subst n5
        have f1 : decide (48 ≤ a1) = true := by simp; omega
        have f2 : decide (a1 ≤ 57) = false := by simp; omega
        go_wp2_with fail
        refine (text_any (10000000 + (K : Int)) _ HKI.out (tab_at HT.out HBn.out)).mono ?_
        rintro e w9 ⟨rfl, hb9⟩
        rw [HTB.out]
        have HB9 := hidp (HBn.out.trans (hb9.mono HBn.out.size))
        clear hb9
        go_wp2_with fail
        go_ret
        exact ⟨rfl, HB9.out⟩
      have n5 := HN5c.out (by omega) (by omega)
      subst n5
      have f1 : decide (48 ≤ a1) = true := by simp; omega
      have f2 : decide (a1 ≤ 57) = true := by simp; omega
      by_cases l1 : l = 1
      · have f3 : ((l : Int) == 1) = true := by rw [l1]; rfl
        clear l1
        go_wp2_with fail
        refine (text_any (10000000 + (K : Int)) _ HKI.out (tab_at HT.out HBn.out)).mono ?_
        rintro e w9 ⟨rfl, hb9⟩
        rw [HTB.out]
        have HB9 := hidp (HBn.out.trans (hb9.mono HBn.out.size))
        clear hb9
        go_wp2_with fail
        go_ret
        exact ⟨rfl, HB9.out⟩
      · have f3 : ((l : Int) == 1) = false := by rw [beq_eq_false_iff_ne]; omega
        obtain ⟨hs0, c0, hc0, hne⟩ := HC0.out l1
        have f4 : (c0 != 48) = true := by simpa using hne
        clear l1 hne
        go_wp2_with fail
        refine (text_any (10000000 + (K : Int)) _ HKI.out (tab_at HT.out HBn.out)).mono ?_
        rintro e w9 ⟨rfl, hb9⟩
        rw [HTB.out]
        have HB9 := hidp (HBn.out.trans (hb9.mono HBn.out.size))
        clear hb9
        go_wp2_with fail
        go_ret
        exact ⟨rfl, HB9.out⟩

theorem own : ownKnob Tryd.prog.godebug = none := by kernel_rfl
theorem laidOut : laidOutB Tryd.prog = true := by kernel_rfl
def cellsD : DataW Unit → List Value
  | .agg ds => ds.flatMap fun
    | .lit (.int k z) => [Value.int k z]
    | .agg es => es.flatMap fun
      | .lit (.int k z) => [Value.int k z]
      | _ => []
    | _ => []
  | _ => []
def layTab (d : DataW Unit) : Obj → Obj
  | .cells _ t frozen => .cells (cellsD d).toArray t frozen
  | o => o
/-- a world in which the listed tables lie: the witness -/
noncomputable def laidWorld (os : Os) : World := { World.holding Tryd.prog os ⟨#[], #[], []⟩ with heap := ((((((World.holding Tryd.prog os ⟨#[], #[], []⟩).heap.modify 4 (layTab Rows.laid_math_bits_deBruijn32tab)).modify 5 (layTab Rows.laid_math_bits_deBruijn64tab)).modify 1 (layTab Rows.laid_internal_strconv_uint64pow10)).modify 3 (layTab Rows.laid_unicode_utf8_acceptRanges)).modify 2 (layTab Rows.laid_unicode_utf8_first)) }
theorem laid_met (os : Os) (args : Array Value) : laidMetH Tryd.prog Rows.wordsNumbersRow.laid ((laidWorld os).forCall (fun _ _ => 0) ⟨#[], args, []⟩).memory :=
  laidMet_of_run' 8 (by kernel_rfl) (by kernel_rfl)
theorem witness_row (os : Os) {H : Type} (enc : TypeId × Value → H) :
    (OpenSpec.ofChange Rows.wordsNumbersSpec).preRow enc Tryd.prog Tryd.f5 Rows.wordsNumbersRow.domain false Rows.wordsNumbersRow.laid ((laidWorld os).forCall (fun _ _ => 0) ⟨#[], #[.int .u32 0, .int .u8 0], []⟩).memory #[.int .u32 0, .int .u8 0] := by
  have hw : (DataW.whole enc Tryd.prog ((laidWorld os).forCall (fun _ _ => 0) ⟨#[], #[.int .u32 0, .int .u8 0], []⟩).memory Tryd.f5.params.toList (OpenSpec.ofChange Rows.wordsNumbersSpec).vars false (#[.int .u32 0, .int .u8 0] : Array Value).toList 8).map (fun x => (x.1, x.2.1)) =
      some ([.lit (.int .u32 0), .lit (.int .u8 0)], []) := by kernel_rfl
  obtain ⟨⟨x1, x2, x3⟩, hx, hx1⟩ := Option.map_eq_some_iff.1 hw
  simp only [Prod.mk.injEq] at hx1
  obtain ⟨rfl, rfl⟩ := hx1
  exact OpenSpec.preRow_of_cond 8 hx (by kernel_rfl) (fun k hk => by cases hk) (by kernel_rfl) (laid_met os _)

set_option maxRecDepth 100000 in
theorem lifted (os : Os) (started : os.Started) (H : Type) (enc : TypeId × Value → H) (F0 : Stop.Interp) :
    ReturnsInHanded {} Tryd.checked os 5 .any ((OpenSpec.ofChange Rows.wordsNumbersSpec).preRow enc Tryd.prog Tryd.f5 Rows.wordsNumbersRow.domain false Rows.wordsNumbersRow.laid) (((OpenSpec.ofChange Rows.wordsNumbersSpec).at F0).post enc Tryd.prog Tryd.f5 false true false false) := by
  refine returnsInHanded_of_row (C := Tryd.checked) (s := OpenSpec.ofChange Rows.wordsNumbersSpec) own started (by kernel_rfl) Tryd.func5
    (witness_row_at (enc := enc) (C := Tryd.checked) false (laidWorld os) #[.int .u32 0, .int .u8 0] rfl (by kernel_rfl) (by kernel_rfl) (by kernel_rfl) (witness_row os enc)) ?_
  intro W base args ds gs before hval0 hW _ _ _ hL hsh _
  obtain ⟨mMax, hMax⟩ : ∃ m, W.cell? ⟨0, 0, none⟩ = some (.int .i64 m) := Tryd.laysM146.s1_3 W hsh
  have hTab : Go.Lib.TabIs Tryd.prog W "internal/strconv.uint64pow10" .u64 Go.Lib.pow10Tab := tabPow hL
  have hval : ∀ (j : Nat) t v, Tryd.f5.params[j]? = some t → args[j]? = some v → Value.okWide Tryd.prog W .any base t v := hval0
  have hW' := hW
  obtain ⟨p, q, hA0, hV, rfl, hfz, hnd⟩ := hW
  have hA : DataW.TrodAll enc Tryd.prog W 0 (fun _ => true) true Tryd.f5.params.toList args.toList ds p := hA0
  rw [Tryd.params5] at hA hval
  obtain ⟨v0, vs0, d0, ds0, p0, q0, hargs, rfl, rfl, h0, r0⟩ := trodAll_cons hA
  obtain ⟨v1, vs1, d1, ds1, p1, q1, rfl, rfl, rfl, h1, r1⟩ := trodAll_cons r0
  obtain ⟨rfl, rfl, rfl⟩ := trodAll_nil r1
  obtain rfl : args = #[v0, v1] := by cases args; simp_all
  obtain ⟨rfl, rfl⟩ := trodVars_none hV
  obtain ⟨a0, rfl, rfl, rfl, w0⟩ := open_int Tryd.underlying34 (hval 0 34 v0 rfl rfl) h0
  obtain ⟨a1, rfl, rfl, rfl, w1⟩ := open_int Tryd.underlying5 (hval 1 5 v1 rfl rfl) h1
  clear hA0 hval0
  refine (walk a0 a1  W w0 w1 mMax hMax hTab).mono fun e W' ⟨he, bel⟩ => ?_
  subst he
  exact ⟨_, rfl, _, _, _, [], _, [], hW', trodAll_mk1 (shut_bool Tryd.underlying4 _), (trodAll_cons_mk (shut_int Tryd.underlying34 w0) (trodAll_cons_mk (shut_int Tryd.underlying5 w1) trodAll_mk0)), rfl, bel.frame _, fun h => by cases h⟩

theorem over : Rows.WordsNumbersSaid :=
  OpenClaim.holds_of_cond 5 Tryd.f5 rfl rfl rfl rfl rfl rfl rfl ⟨rfl, rfl, rfl, rfl, rfl⟩ rfl rfl rfl rfl rfl (by kernel_rfl) Tryd.func5 (by kernel_rfl)
    (of_decide_eq_true (by kernel_rfl)) (by unfold Func.isWrapper; first | (rw [if_pos (by decide +kernel)]; kernel_rfl) | (rw [if_neg (by decide +kernel)]; exact ⟨rfl, rfl⟩))
    (fun os started H enc _ F0 => by rw [OpenClaim.pre_eq_preRow]; exact lifted os started H enc F0)

/-- THE STATEMENT: the tied card -/
theorem proved : Rows.WordsNumbersCardSaid :=
  Claim7.holds_tied_plain_at .later [] [.data, .data, .data, .data, .pinned] true (true, "db598113370d98e2309149c1441c3a179ae62143bb3dcc12fee36e4b95f3bc1e") false
    over (fun _ h => by cases h) (by kernel_rfl) (fun _ h => by cases h) wordsNumbers_row_tie rfl ⟨rfl, rfl⟩ (by kernel_rfl) rfl
    (fun f fn hf hfn => by
      obtain rfl : f = 5 := Option.some.inj ((show Tryd.prog.funcNamed Rows.wordsNumbersRow.func = some 5 by kernel_rfl).symm.trans hf) |>.symm
      obtain rfl : fn = Tryd.f5 := (Option.some.inj (Tryd.func5.symm.trans hfn)).symm
      refine ⟨by kernel_rfl, fun j t ht => ?_⟩
      rw [Tryd.params5] at ht
      exact standIns _ (by kernel_rfl) j t ht)
    (by kernel_rfl)
#print axioms proved
end Go.Proofs.YthokicikehemaaaDoor.wordsNumbers

