/- Small words and the plain numbers of layer 1: what fits 64 bits; the sum, the product, the quotient rounded up, the clipped number. Imports nothing of the dump's functions. -/
import Derived.Test.YtppgameimddimaaGreatRows
import Derived.WalkKit
import Derived.ProofKit
import Derived.OpenShut
import Derived.WalkLawsBesides
namespace Go.Proofs.YtppgameimddimaaGreat
open Go.ChangeShapes Go.WideShapes Go.ChangeAt Go.RowKit

theorem ret_int {k : IntKind} {a b : Int} (h : a = b) : Ending.returned (.int k a) = .returned (.int k b) := by rw [h]
theorem ret_bool {a b : Bool} (h : a = b) : Ending.returned (.bool a) = .returned (.bool b) := by rw [h]
theorem ret_ib {k : IntKind} {a b : Int} {c d : Bool} (h : a = b) (g : c = d) : Ending.returned (.tuple #[.int k a, .bool c]) = .returned (.tuple #[.int k b, .bool d]) := by rw [h, g]
theorem hidp {p : Prop} (h : p) : Hid p := h

def I64 (a : Int) : Prop := -9223372036854775808 ≤ a ∧ a ≤ 9223372036854775807
instance (a : Int) : Decidable (I64 a) := by unfold I64; infer_instance
theorem i64_of {a : Int} (h : (Lit.int .i64 a).wf = true) : I64 a := by
  simp [Lit.wf, IntKind.min, IntKind.max, IntKind.signed, IntKind.bits] at h; unfold I64; omega
theorem wf_of {a : Int} (h : I64 a) : (Lit.int .i64 a).wf = true := WalkArith.wf_i64 (by unfold I64 at h; omega)

def wUp (a b : Int) : Bool := decide (9223372036854775807 < a + b)
def wDown (a b : Int) : Bool := decide (a + b < -9223372036854775808)
/-- the number, if it fits, and whether it does -/
def fitR (a : Int) : Int := if I64 a then a else 0
def fitK (a : Int) : Bool := decide (I64 a)
theorem fitR_in {a : Int} (h : I64 a) : fitR a = a := if_pos h
theorem fitK_in {a : Int} (h : I64 a) : fitK a = true := decide_eq_true h
theorem fitR_out {a : Int} (h : ¬ I64 a) : fitR a = 0 := if_neg h
theorem fitK_out {a : Int} (h : ¬ I64 a) : fitK a = false := decide_eq_false h
theorem fitR_i64 (a : Int) : I64 (fitR a) := by unfold fitR; split; assumption; (unfold I64; omega)
def clipV (n lo hi : Int) : Int := if n < lo ∨ hi < lo then lo else if hi < n then hi else n
/-- a by b, rounded towards greater numbers (b not 0) -/
def upV (a b : Int) : Int := a.tdiv b + if a.tmod b ≠ 0 ∧ (0 < a ↔ 0 < b) then 1 else 0
def upR (a b : Int) : Int := if b = 0 then 0 else fitR (upV a b)
def upK (a b : Int) : Bool := if b = 0 then false else fitK (upV a b)

theorem tdiv_abs (a b : Int) : (a.tdiv b).natAbs = a.natAbs / b.natAbs := Int.natAbs_tdiv a b
theorem tdiv_in {a b : Int} (ha : I64 a) (hb : b ≠ 0) (h : ¬ (a = -9223372036854775808 ∧ b = -1)) : I64 (a.tdiv b) := by
  have e := tdiv_abs a b
  unfold I64 at *
  by_cases h1 : b.natAbs = 1
  · rcases (show b = 1 ∨ b = -1 by omega) with rfl | rfl
    · simp; omega
    · simp [Int.tdiv_neg]; omega
  · have : a.natAbs / b.natAbs ≤ 9223372036854775808 / 2 := Nat.le_trans (Nat.div_le_div_left (show 2 ≤ b.natAbs by omega) (by omega)) (Nat.div_le_div_right (by omega))
    omega
theorem tdiv_up {a b : Int} (ha : I64 a) (hb : b ≠ 0) (h : a.tmod b ≠ 0) : I64 (a.tdiv b) ∧ I64 (a.tdiv b + 1) := by
  have e := tdiv_abs a b
  unfold I64 at *
  have h1 : ¬ b.natAbs = 1 := by
    intro h1
    rcases (show b = 1 ∨ b = -1 by omega) with rfl | rfl <;> simp [Int.tmod_neg] at h
  have : a.natAbs / b.natAbs ≤ 9223372036854775808 / 2 := Nat.le_trans (Nat.div_le_div_left (show 2 ≤ b.natAbs by omega) (by omega)) (Nat.div_le_div_right (by omega))
  omega
theorem upV_in {a b : Int} (ha : I64 a) (hb : b ≠ 0) (h : ¬ (a = -9223372036854775808 ∧ b = -1)) : I64 (upV a b) := by
  unfold upV
  split
  · rename_i g; exact (tdiv_up ha hb g.1).2
  · simpa using tdiv_in ha hb h
theorem upV_out : ¬ I64 (upV (-9223372036854775808) (-1)) := by decide
end Go.Proofs.YtppgameimddimaaGreat
