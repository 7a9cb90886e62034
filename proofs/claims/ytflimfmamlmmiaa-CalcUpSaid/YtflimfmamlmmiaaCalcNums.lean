/- Plain numbers: what is rounded up is the least that is enough; sums and products either way round. -/
import Derived.Test.YtflimfmamlmmiaaCalc
namespace Go.Proofs.Ytflimfmamlmmiaa
open Go.ChangeShapes Go.WideShapes Go.ChangeAt Go.RowKit

theorem upV_enough {p q : Int} (hq : 0 < q) : p ≤ upV p q * q ∧ (upV p q - 1) * q < p := by
  have e := Int.tdiv_mul_add_tmod p q
  have h1 := Int.tmod_lt_of_pos p hq
  have h2 : -q < p.tmod q := by
    have : ((-p).tmod q) < q := Int.tmod_lt_of_pos (-p) hq
    rw [Int.neg_tmod] at this; omega
  have h3 : 0 < p ∨ p.tmod q ≤ 0 := by
    by_cases x : 0 < p
    · exact .inl x
    · right; have := Int.tmod_nonneg q (show 0 ≤ -p by omega); rw [Int.neg_tmod] at this; omega
  have h4 : p.tmod q < 0 → p < 0 := by
    intro x
    by_cases y : 0 ≤ p
    · have := Int.tmod_nonneg q y; omega
    · omega
  unfold upV
  split
  · rename_i g
    have : 0 < p := by omega
    have : 0 ≤ p.tmod q := Int.tmod_nonneg q (by omega)
    rw [Int.add_sub_cancel, Int.add_mul]; omega
  · rename_i g
    have : p.tmod q ≤ 0 := by
      by_cases z : p.tmod q = 0
      · omega
      · rcases h3 with h3 | h3
        · exact absurd ⟨z, by omega⟩ g
        · exact h3
    rw [Int.add_zero, Int.sub_mul]; omega
theorem least_one {p q m n : Int} (hq : 0 < q) (h1 : p ≤ m * q) (h2 : (m - 1) * q < p) (h3 : p ≤ n * q) (h4 : (n - 1) * q < p) : m = n := by
  by_cases a : m ≤ n - 1
  · have := Int.mul_le_mul_of_nonneg_right a (Int.le_of_lt hq); omega
  · by_cases b : n ≤ m - 1
    · have := Int.mul_le_mul_of_nonneg_right b (Int.le_of_lt hq); omega
    · omega
theorem upV_neg {a b : Int} (hb : b ≠ 0) : upV (-a) (-b) = upV a b := by
  unfold upV
  rw [Int.neg_tdiv_neg, Int.neg_tmod, Int.tmod_neg]
  by_cases h : a.tmod b = 0
  · simp [h]
  · have ha : a ≠ 0 := by rintro rfl; simp at h
    have e : (-a.tmod b ≠ 0 ∧ (0 < -a ↔ 0 < -b)) ↔ (a.tmod b ≠ 0 ∧ (0 < a ↔ 0 < b)) := by omega
    simp only [e]
theorem upV_small {p q : Int} (hp : -2147483648 ≤ p ∧ p ≤ 2147483647) (hq : 0 < q ∧ q ≤ 2147483647) : -2147483648 ≤ upV p q ∧ upV p q ≤ 2147483648 := by
  have h := tdiv_abs p q
  have : p.natAbs / q.natAbs ≤ p.natAbs := Nat.div_le_self _ _
  unfold upV; split <;> omega
theorem upV_mul_small {p q : Int} (hp : -2147483648 ≤ p ∧ p ≤ 2147483647) (hq : 0 < q ∧ q ≤ 2147483647) : I64 (upV p q * q) ∧ I64 ((upV p q - 1) * q) := by
  have h := upV_enough (p := p) hq.1
  rw [Int.sub_mul] at *
  unfold I64; omega

theorem add_flip (a b : Int) (w : World) (ha : I64 a) (hb : I64 b) :
    Calls Try.prog 11 #[.int .i64 b, .int .i64 a] w fun e w' => e = .returned (.tuple #[.int .i64 (fitR (a + b)), .bool (fitK (a + b))]) ∧ w = w' := by
  rw [Int.add_comm a b]; exact add_any b a w hb ha
theorem mul_flip (a b : Int) (w : World) (ha : I64 a) (hb : I64 b) :
    Calls Try.prog 12 #[.int .i64 b, .int .i64 a] w fun e w' => e = .returned (.tuple #[.int .i64 (fitR (a * b)), .bool (fitK (a * b))]) ∧ w = w' := by
  rw [Int.mul_comm a b]; exact mul_any b a w hb ha
end Go.Proofs.Ytflimfmamlmmiaa
