/- Digits of a number, and what Num reads of them. Plain laws. -/
import Derived.Test.YtlmliefkhidpnaaGreatDoorWdText
import Derived.Test.YtlmliefkhidpnaaGreatDoorWdNum
namespace Go.Proofs.YtlmliefkhidpnaaGreatDoor
open Go.ChangeShapes Go.WideShapes Go.ChangeAt Go.RowKit
set_option linter.unusedVariables false
set_option linter.unusedSimpArgs false
/-- what a row of digits is as a number -/
def digN : Bts → Int
  | l => l.foldl (fun n b => n * 10 + ((b.toNat : Int) - 48)) 0
theorem numN_mk (L : Bts) : ∀ k, k ≤ L.length → numN (mkB L) k = digN (L.take k) := by
  intro k
  induction k with
  | zero => intro _; rfl
  | succ k ih =>
    intro hk
    rw [numN, ih (by omega), List.take_succ_eq_append_getElem (by omega)]
    unfold digN
    rw [List.foldl_append]
    simp only [List.foldl_cons, List.foldl_nil]
    congr 2
    rw [byteAt_bl, bl_mk]
    simp [List.getD, show k < L.length by omega]
theorem digN_dec (n : Nat) : digN (Lib.decDigits n) = (n : Int) := by
  induction n using Nat.strongRecOn with
  | _ n ih =>
    rw [Lib.decDigits]
    split
    · rename_i h
      have : n = 0 ∨ n = 1 ∨ n = 2 ∨ n = 3 ∨ n = 4 ∨ n = 5 ∨ n = 6 ∨ n = 7 ∨ n = 8 ∨ n = 9 := by omega
      rcases this with rfl | rfl | rfl | rfl | rfl | rfl | rfl | rfl | rfl | rfl <;> rfl
    · rename_i h
      have e := ih (n / 10) (by omega)
      unfold digN at e ⊢
      rw [List.foldl_append, e]
      simp only [List.foldl_cons, List.foldl_nil]
      obtain ⟨r, hr, hr2⟩ : ∃ r, n % 10 = r ∧ r < 10 := ⟨_, rfl, Nat.mod_lt _ (by decide)⟩
      have hb : ((UInt8.ofNat (48 + r)).toNat : Int) = 48 + r := by
        have : r = 0 ∨ r = 1 ∨ r = 2 ∨ r = 3 ∨ r = 4 ∨ r = 5 ∨ r = 6 ∨ r = 7 ∨ r = 8 ∨ r = 9 := by omega
        rcases this with rfl | rfl | rfl | rfl | rfl | rfl | rfl | rfl | rfl | rfl <;> rfl
      rw [hr, hb]
      omega
def isDig (b : UInt8) : Bool := digB (b.toNat : Int)
theorem dec_dig (n : Nat) : ∀ b ∈ Lib.decDigits n, isDig b = true := by
  induction n using Nat.strongRecOn with
  | _ n ih =>
    rw [Lib.decDigits]
    split
    · rename_i h
      intro b hb
      simp only [List.mem_singleton] at hb
      subst hb
      have : n = 0 ∨ n = 1 ∨ n = 2 ∨ n = 3 ∨ n = 4 ∨ n = 5 ∨ n = 6 ∨ n = 7 ∨ n = 8 ∨ n = 9 := by omega
      rcases this with rfl | rfl | rfl | rfl | rfl | rfl | rfl | rfl | rfl | rfl <;> rfl
    · rename_i h
      intro b hb
      rcases List.mem_append.1 hb with g | g
      · exact ih (n / 10) (by omega) b g
      · simp only [List.mem_singleton] at g
        subst g
        obtain ⟨r, hr, hr2⟩ : ∃ r, n % 10 = r ∧ r < 10 := ⟨_, rfl, Nat.mod_lt _ (by decide)⟩
        rw [hr]
        have : r = 0 ∨ r = 1 ∨ r = 2 ∨ r = 3 ∨ r = 4 ∨ r = 5 ∨ r = 6 ∨ r = 7 ∨ r = 8 ∨ r = 9 := by omega
        rcases this with rfl | rfl | rfl | rfl | rfl | rfl | rfl | rfl | rfl | rfl <;> rfl
theorem dec_len (n : Nat) (h : n ≤ 9999999) : 1 ≤ (Lib.decDigits n).length ∧ (Lib.decDigits n).length ≤ 7 := by
  rw [Lib.decDigits_length]
  have key : ∀ m, ∀ n, n < 10 ^ (m + 1) → Lib.nDigits n ≤ m + 1 := by
    intro m
    induction m with
    | zero => intro n hn; rw [Lib.nDigits_small (by simpa using hn)]; omega
    | succ m ih =>
      intro n hn
      by_cases h10 : n < 10
      · rw [Lib.nDigits_small h10]; omega
      · rw [Lib.nDigits_big h10]
        have := ih (n / 10) (by rw [Nat.pow_succ] at hn; omega)
        omega
  refine ⟨?_, key 6 n (by omega)⟩
  by_cases h10 : n < 10
  · rw [Lib.nDigits_small h10]; omega
  · rw [Lib.nDigits_big h10]; omega
theorem dec_head (n : Nat) (h : 10 ≤ n) : ∃ b r, Lib.decDigits n = b :: r ∧ b ≠ 48 := by
  induction n using Nat.strongRecOn with
  | _ n ih =>
    rw [Lib.decDigits, dif_neg (by omega)]
    by_cases h2 : n / 10 < 10
    · rw [Lib.decDigits_one h2]
      refine ⟨_, _, rfl, ?_⟩
      have : n / 10 = 1 ∨ n / 10 = 2 ∨ n / 10 = 3 ∨ n / 10 = 4 ∨ n / 10 = 5 ∨ n / 10 = 6 ∨ n / 10 = 7 ∨ n / 10 = 8 ∨ n / 10 = 9 := by omega
      rcases this with e | e | e | e | e | e | e | e | e <;> rw [e] <;> decide
    · obtain ⟨b, r, e, hb⟩ := ih (n / 10) (by omega) (by omega)
      exact ⟨b, r ++ [UInt8.ofNat (48 + n % 10)], by rw [e]; rfl, hb⟩
theorem numOK_mk (L : Bts) : numOK (mkB L) = (decide (1 ≤ L.length ∧ L.length ≤ 7 ∧ ¬ (((L.getD 0 0).toNat : Int) = 48 ∧ 1 < L.length)) && L.all isDig) := by
  unfold numOK
  rw [show (mkB L).size = L.length by rw [← bl_len, bl_mk]]
  congr 1
  rw [Bool.eq_iff_iff, List.all_eq_true, List.all_eq_true]
  constructor
  · intro h x hx
    obtain ⟨i, hi, e⟩ := List.mem_iff_getElem.1 hx
    have := h i (by simpa using hi)
    rw [byteAt_bl, bl_mk] at this
    simp only [List.getD, List.getElem?_eq_getElem hi, Option.getD_some, e] at this
    exact this
  · intro h i hi
    have hi2 : i < L.length := by simpa using hi
    have := h L[i] (List.getElem_mem hi2)
    rw [byteAt_bl, bl_mk]
    simp only [List.getD, List.getElem?_eq_getElem hi2, Option.getD_some]
    exact this
theorem u8_ne {b : UInt8} (h : b ≠ 48) : ¬ ((b.toNat : Int) = 48) := fun e => h (UInt8.toNat_inj.1 (by show b.toNat = 48; omega))
theorem dec_ok (n : Nat) (h : n ≤ 9999999) : numOK (mkB (Lib.decDigits n)) = true := by
  rw [numOK_mk, Bool.and_eq_true]
  have hl := dec_len n h
  refine ⟨decide_eq_true ⟨hl.1, hl.2, fun ⟨h1, h2⟩ => ?_⟩, List.all_eq_true.2 (dec_dig n)⟩
  by_cases h10 : n < 10
  · rw [Lib.decDigits_one h10] at h2; simp at h2
  · obtain ⟨b, r, e, hb⟩ := dec_head n (by omega)
    rw [e] at h1
    exact u8_ne hb h1
theorem dec_num (n : Nat) (h : n ≤ 9999999) : numV (mkB (Lib.decDigits n)) = (n : Int) := by
  unfold numV
  rw [if_pos (dec_ok n h), show (mkB (Lib.decDigits n)).size = (Lib.decDigits n).length by rw [← bl_len, bl_mk], numN_mk _ _ (Nat.le_refl _), List.take_length, digN_dec]
theorem bad_nought (L : Bts) (h : 1 ≤ L.length) : numOK (mkB (48 :: L)) = false := by
  rw [numOK_mk, Bool.and_eq_false_iff]; left
  exact decide_eq_false (fun ⟨_, _, h3⟩ => h3 ⟨rfl, by simp; omega⟩)
theorem bad_sign (L : Bts) : numOK (mkB (45 :: L)) = false := by
  rw [numOK_mk, Bool.and_eq_false_iff]; right
  rw [List.all_eq_false]
  exact ⟨45, List.mem_cons_self, by decide⟩
theorem bad_long {L : Bts} (h : 7 < L.length) : numOK (mkB L) = false := by
  rw [numOK_mk, Bool.and_eq_false_iff]; left
  exact decide_eq_false (fun ⟨_, h2, _⟩ => by omega)
/-- a last byte instead of the last digit -/
theorem odd_ok {D : Bts} (hd : D.all isDig = true) (hl : D.length ≤ 6) (hh : 0 < D.length → ((D.getD 0 0).toNat : Int) ≠ 48) (c : UInt8) : numOK (mkB (D ++ [c])) = isDig c := by
  rw [numOK_mk]
  have hlen : (D ++ [c]).length = D.length + 1 := by simp
  rw [hlen, List.all_append, hd, Bool.true_and]
  have e : decide (1 ≤ D.length + 1 ∧ D.length + 1 ≤ 7 ∧ ¬ ((((D ++ [c]).getD 0 0).toNat : Int) = 48 ∧ 1 < D.length + 1)) = true := decide_eq_true ⟨by omega, by omega, fun ⟨h1, h2⟩ => by
    have h3 : 0 < D.length := by omega
    refine hh h3 ?_
    rw [← h1]
    simp [List.getD, h3]⟩
  rw [e]
  simp
end Go.Proofs.YtlmliefkhidpnaaGreatDoor
