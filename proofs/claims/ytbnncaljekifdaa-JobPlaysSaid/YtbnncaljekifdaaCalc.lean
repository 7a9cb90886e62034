/- What calc's Add, Mul, Up and Clip answer, as the model runs them. -/
import Derived.Test.YtbnncaljekifdaaBase
import Derived.Deep.QuietTactic
import Derived.BigQuiet
namespace Go.Proofs.Ytbnncaljekifdaa
open Go.ChangeShapes Go.WideShapes Go.ChangeAt Go.RowKit
set_option linter.unusedVariables false

theorem clip_any (n lo hi : Int) (w : World) :
    Calls Try.prog 40 #[.int .i64 n, .int .i64 lo, .int .i64 hi] w fun e w' => e = .returned (.int .i64 (clipV n lo hi)) ∧ w = w' := by
  by_cases h1 : n < lo
  · have H : Hid (clipV n lo hi = lo) := hidp (by simp [clipV, h1])
    go_enter Try.func40, Try.ntmps40
    go_wp2
    go_ret
    exact ⟨ret_int (by rw [H.out]), rfl⟩
  · by_cases h2 : hi < lo
    · have H : Hid (clipV n lo hi = lo) := hidp (by simp [clipV, h2])
      go_enter Try.func40, Try.ntmps40
      go_wp2
      go_ret
      exact ⟨ret_int (by rw [H.out]), rfl⟩
    · by_cases h3 : hi < n
      · have H : Hid (clipV n lo hi = hi) := hidp (by simp [clipV, h1, h2, h3])
        go_enter Try.func40, Try.ntmps40
        go_wp2
        go_ret
        exact ⟨ret_int (by rw [H.out]), rfl⟩
      · have H : Hid (clipV n lo hi = n) := hidp (by simp [clipV, h1, h2, h3])
        go_enter Try.func40, Try.ntmps40
        go_wp2
        go_ret
        exact ⟨ret_int (by rw [H.out]), rfl⟩

/-- the product as the machine has it tells, by its quotient, whether it went round -/
theorem mul_tells {a b : Int} (ha : I64 a) (hb : I64 b) (h0 : b ≠ 0) (h1 : ¬ (a = -9223372036854775808 ∧ b = -1)) : I64 (a * b) ↔ (wrap64 (a * b)).tdiv b = a := by
  constructor
  · intro h
    rw [IntWalk.wrap64_in _ h, Int.mul_tdiv_cancel _ h0]
  · intro h
    have hw := wrap64_wf (a * b)
    have hi := i64_of hw
    have e := Int.tmod_add_mul_tdiv (wrap64 (a * b)) b
    rw [h] at e
    have hl : ((wrap64 (a * b)).tmod b).natAbs < b.natAbs := by
      rw [Int.natAbs_tmod]; exact Nat.mod_lt _ (by omega)
    have hk : ∃ k : Int, a * b = wrap64 (a * b) + k * 18446744073709551616 := ⟨(a * b + 9223372036854775808) / 18446744073709551616, by unfold wrap64; omega⟩
    obtain ⟨k, hk⟩ := hk
    rw [Int.mul_comm b a] at e
    have : k = 0 := by unfold I64 at *; omega
    subst this
    have : a * b = wrap64 (a * b) := by omega
    rw [this]; exact hi

end Go.Proofs.Ytbnncaljekifdaa
