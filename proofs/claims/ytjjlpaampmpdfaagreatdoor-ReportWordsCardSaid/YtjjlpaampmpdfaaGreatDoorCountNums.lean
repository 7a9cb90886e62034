/- Plain numbers of layer 12: how many jobs at most, how much work at most. Imports nothing of the dump's functions. -/
import Derived.Test.YtjjlpaampmpdfaaGreatDoorBase
namespace Go.Proofs.YtjjlpaampmpdfaaGreatDoor
open Go.ChangeShapes Go.WideShapes Go.ChangeAt Go.RowKit

/-- how many jobs at most: window and bound together by the period, rounded up; at most a million -/
def jobV (w b p : Int) : Int := if w < 1 ∨ b < 0 ∨ p < 1 then 0 else min ((w + b + p - 1) / p) 1000000
def workV (w b p e : Int) : Int := min (jobV w b p * max e 0) 1000000
/-- what is told of these jobs and this rest -/
def oneMore (r : Int) : Int := if 0 < r then 1 else 0

theorem div_is {a p q : Int} (hp : 0 < p) (h1 : q * p ≤ a) (h2 : a < q * p + p) : a / p = q := by
  have e1 : q ≤ a / p := (Int.le_ediv_iff_mul_le hp).2 h1
  have e2 : a / p < q + 1 := (Int.ediv_lt_iff_lt_mul hp).2 (by rw [Int.add_mul]; omega)
  omega
theorem split_is (w p : Int) : w / p * p + w % p = w := by
  have := Int.mul_ediv_add_emod w p
  rw [Int.mul_comm] at this; exact this
theorem mod_bd (w : Int) {p : Int} (hp : 0 < p) : 0 ≤ w % p ∧ w % p < p := ⟨Int.emod_nonneg _ (by omega), Int.emod_lt_of_pos _ hp⟩

theorem jobV_out {w b p : Int} (h : w < 1 ∨ b < 0 ∨ p < 1) : jobV w b p = 0 := if_pos h
theorem jobV_in {w b p : Int} (h : ¬ (w < 1 ∨ b < 0 ∨ p < 1)) : jobV w b p = min ((w + b + p - 1) / p) 1000000 := if_neg h
/-- window and bound, by their quotients and rests -/
theorem jobV_is {w b p q r : Int} (h : ¬ (w < 1 ∨ b < 0 ∨ p < 1)) (e : w + b = q * p + r) (h0 : 0 ≤ r) (h1 : r ≤ p) : jobV w b p = min (q + oneMore r) 1000000 := by
  rw [jobV_in h]
  congr 1
  unfold oneMore
  split
  · exact div_is (by omega) (by rw [Int.add_mul]; omega) (by rw [Int.add_mul]; omega)
  · exact div_is (by omega) (by simp; omega) (by simp; omega)
theorem jobs_first {w b p : Int} (h : ¬ (w < 1 ∨ b < 0 ∨ p < 1)) (hm : 1000000 ≤ w / p) : jobV w b p = 1000000 := by
  rw [jobV_in h]
  have : w / p ≤ (w + b + p - 1) / p := Int.ediv_le_ediv (by omega) (by omega)
  omega
theorem jobs_plain {w b p : Int} (h : ¬ (w < 1 ∨ b < 0 ∨ p < 1)) (hc : w % p + b % p ≤ p) : jobV w b p = min (w / p + b / p + oneMore (w % p + b % p)) 1000000 := by
  have h1 := split_is w p
  have h2 := split_is b p
  have h3 := mod_bd w (show 0 < p by omega)
  have h4 := mod_bd b (show 0 < p by omega)
  exact jobV_is h (by rw [Int.add_mul]; omega) (by omega) hc
theorem jobs_carry {w b p : Int} (h : ¬ (w < 1 ∨ b < 0 ∨ p < 1)) (hc : p < w % p + b % p) : jobV w b p = min (w / p + (b / p + 1) + oneMore (w % p + b % p - p)) 1000000 := by
  have h1 := split_is w p
  have h2 := split_is b p
  have h3 := mod_bd w (show 0 < p by omega)
  have h4 := mod_bd b (show 0 < p by omega)
  exact jobV_is h (by rw [Int.add_mul, Int.add_mul]; omega) (by omega) (by omega)
theorem oneMore_bd (r : Int) : 0 ≤ oneMore r ∧ oneMore r ≤ 1 := by unfold oneMore; split <;> omega
theorem quot_bd {w p : Int} (h0 : 0 ≤ w) (hp : 0 < p) : 0 ≤ w / p ∧ w / p ≤ w := ⟨Int.ediv_nonneg h0 (by omega), Int.ediv_le_self _ h0⟩
/-- a quotient that is as great as its number leaves no rest -/
theorem quot_one {w p : Int} (h0 : 0 ≤ w) (hp : 0 < p) (hw : w ≤ 9223372036854775807) (hr : 0 < w % p) : w / p ≤ 4611686018427387903 := by
  have h1 := split_is w p
  have h2 := mod_bd w hp
  have : 2 ≤ p := by omega
  have : w / p * 2 ≤ w / p * p := Int.mul_le_mul_of_nonneg_left this (quot_bd h0 hp).1
  omega

theorem jobV_bd (w b p : Int) : 0 ≤ jobV w b p ∧ jobV w b p ≤ 1000000 := by
  by_cases h : w < 1 ∨ b < 0 ∨ p < 1
  · rw [jobV_out h]; omega
  · rw [jobV_in h]
    have : 0 ≤ (w + b + p - 1) / p := Int.ediv_nonneg (by omega) (by omega)
    omega
theorem jobV_pos {w b p : Int} (h : ¬ (w < 1 ∨ b < 0 ∨ p < 1)) : 1 ≤ jobV w b p := by
  rw [jobV_in h]
  have : 1 ≤ (w + b + p - 1) / p := (Int.le_ediv_iff_mul_le (by omega)).2 (by omega)
  omega
theorem workV_bd (w b p e : Int) : 0 ≤ workV w b p e ∧ workV w b p e ≤ 1000000 := by
  unfold workV
  have : 0 ≤ jobV w b p * max e 0 := Int.mul_nonneg (jobV_bd w b p).1 (by omega)
  omega
theorem jobV_mono {w b p w' b' p' : Int} (h1 : w ≤ w') (h2 : b ≤ b') (h3 : p' ≤ p) (hp : 0 < p') : jobV w b p ≤ jobV w' b' p' := by
  by_cases h : w < 1 ∨ b < 0 ∨ p < 1
  · rw [jobV_out h]; exact (jobV_bd _ _ _).1
  · rw [jobV_in h, jobV_in (by omega)]
    have : (w + b + p - 1) / p ≤ (w' + b' + p' - 1) / p' := by
      have e1 := split_is (w + b + p - 1) p
      have e2 := mod_bd (w + b + p - 1) (show 0 < p by omega)
      have e3 := split_is (w' + b' + p' - 1) p'
      have e4 := mod_bd (w' + b' + p' - 1) hp
      have k1 : 1 ≤ (w + b + p - 1) / p := (Int.le_ediv_iff_mul_le (by omega)).2 (by omega)
      -- the quotient less one, times p, is less than w + b
      have k2 : ((w + b + p - 1) / p - 1) * p' ≤ ((w + b + p - 1) / p - 1) * p := Int.mul_le_mul_of_nonneg_left h3 (by omega)
      have k3 : ((w + b + p - 1) / p - 1) * p = (w + b + p - 1) / p * p - p := by rw [Int.sub_mul]; omega
      have k4 : ((w + b + p - 1) / p - 1) * p' = (w + b + p - 1) / p * p' - p' := by rw [Int.sub_mul]; omega
      refine (Int.le_ediv_iff_mul_le hp).2 ?_
      omega
    omega
theorem workV_mono {w b p e w' b' p' e' : Int} (h1 : w ≤ w') (h2 : b ≤ b') (h3 : p' ≤ p) (hp : 0 < p') (he : e ≤ e') : workV w b p e ≤ workV w' b' p' e' := by
  unfold workV
  have : jobV w b p * max e 0 ≤ jobV w' b' p' * max e' 0 := Int.mul_le_mul (jobV_mono h1 h2 h3 hp) (by omega) (by omega) (jobV_bd _ _ _).1
  omega
end Go.Proofs.YtjjlpaampmpdfaaGreatDoor
