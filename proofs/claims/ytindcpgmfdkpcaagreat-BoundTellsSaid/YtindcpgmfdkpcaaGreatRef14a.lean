/- swingbridgeref11: Jobs, Work, At. -/
import Derived.Test.YtindcpgmfdkpcaaGreatAgent3
import Derived.Test.YtindcpgmfdkpcaaGreatRef11a
namespace Go.Proofs.YtindcpgmfdkpcaaGreat
open Go.ChangeShapes Go.WideShapes Go.ChangeAt Go.RowKit
set_option linter.unusedVariables false
set_option linter.unusedSimpArgs false

set_option maxHeartbeats 1000000 in
theorem rjobs_any (w0 b p : Int) (w : World) (i0 : I64 w0) (i1 : I64 b) (i2 : I64 p) :
    Calls Tryz.prog 67 #[.int .i64 w0, .int .i64 b, .int .i64 p] w fun e w' => e = .returned (.int .i64 (jobV w0 b p)) ∧ Qt w w' := by
  by_cases h : w0 < 1 ∨ b < 0 ∨ p < 1
  · have H := hidp (jobV_out h)
    have h' : w0 < 1 ∨ ¬ w0 < 1 ∧ b < 0 ∨ ¬ w0 < 1 ∧ ¬ b < 0 ∧ p < 1 := by omega
    clear h
    rcases h' with h | ⟨h, g⟩ | ⟨h, g, f⟩
    · go_enter Tryz.func67, Tryz.ntmps67
      go_wp2
      go_ret
      exact ⟨ret_int H.out.symm, Qt.refl _⟩
    · go_enter Tryz.func67, Tryz.ntmps67
      go_wp2
      go_ret
      exact ⟨ret_int H.out.symm, Qt.refl _⟩
    · go_enter Tryz.func67, Tryz.ntmps67
      go_wp2
      go_ret
      exact ⟨ret_int H.out.symm, Qt.refl _⟩
  · have a1 : ¬ w0 < 1 := by omega
    have a2 : ¬ b < 0 := by omega
    have a3 : ¬ p < 1 := by omega
    have b1 : 1 ≤ w0 := by omega
    have b2 : 0 ≤ b := by omega
    have b3 : 1 ≤ p := by omega
    have u1 : w0 ≤ 9223372036854775807 := i0.2
    have u2 : b ≤ 9223372036854775807 := i1.2
    have u3 : p ≤ 9223372036854775807 := i2.2
    have H := hidp h
    clear h i0 i1 i2
    have c0 : (p == 0) = false := by simp; omega
    have c1 : (p == -1) = false := by simp; omega
    obtain ⟨q, Hq⟩ : ∃ q, Hid (w0 / p = q) := ⟨_, rfl⟩
    obtain ⟨r, Hr⟩ : ∃ r, Hid (w0 % p = r) := ⟨_, rfl⟩
    obtain ⟨q1, q2⟩ := Hq.out ▸ quot_bd (w := w0) (p := p) (by omega) (by omega)
    obtain ⟨r1, r2⟩ := Hr.out ▸ mod_bd w0 (show 0 < p by omega)
    obtain ⟨q', Hq'⟩ : ∃ q, Hid (b / p = q) := ⟨_, rfl⟩
    obtain ⟨r', Hr'⟩ : ∃ r, Hid (b % p = r) := ⟨_, rfl⟩
    obtain ⟨q1', q2'⟩ := Hq'.out ▸ quot_bd (w := b) (p := p) (by omega) (by omega)
    obtain ⟨r1', r2'⟩ := Hr'.out ▸ mod_bd b (show 0 < p by omega)
    have d1 : w0.tdiv p = q := by rw [Int.tdiv_eq_ediv_of_nonneg (by omega), Hq.out]
    have d2 : w0.tmod p = r := by rw [Int.tmod_eq_emod_of_nonneg (by omega), Hr.out]
    have d1' : b.tdiv p = q' := by rw [Int.tdiv_eq_ediv_of_nonneg (by omega), Hq'.out]
    have d2' : b.tmod p = r' := by rw [Int.tmod_eq_emod_of_nonneg (by omega), Hr'.out]
    by_cases hc : p - r' < r
    · obtain ⟨x, hx⟩ : ∃ x, min (min q 1000000 + min q' 1000000 + 2) 1000000 = x := ⟨_, rfl⟩
      have Hx : Hid (x = jobV w0 b p) := hidp (by
        rw [jobs_carry H.out (by rw [Hr.out, Hr'.out]; omega), Hq.out, Hq'.out, Hr.out, Hr'.out, ← hx, show oneMore (r + r' - p) = 1 by unfold oneMore; rw [if_pos (by omega)]]
        omega)
      go_enter Tryz.func67, Tryz.ntmps67
      go_wp2
      go_quiet (fail)
      go_wp2
      go_quiet (fail)
      go_wp2
      go_ret
      exact ⟨ret_int Hx.out, (Qt.refl _).add _⟩
    · by_cases h0 : 0 < r ∨ 0 < r'
      · obtain ⟨x, hx⟩ : ∃ x, min (min q 1000000 + min q' 1000000 + 1) 1000000 = x := ⟨_, rfl⟩
        have Hx : Hid (x = jobV w0 b p) := hidp (by
          rw [jobs_plain H.out (by rw [Hr.out, Hr'.out]; omega), Hq.out, Hq'.out, Hr.out, Hr'.out, ← hx, show oneMore (r + r') = 1 by unfold oneMore; rw [if_pos (by omega)]]
          omega)
        have h0' : 0 < r ∨ ¬ 0 < r ∧ 0 < r' := by omega
        clear h0
        rcases h0' with h0 | ⟨h0, g0⟩
        · go_enter Tryz.func67, Tryz.ntmps67
          go_wp2
          go_quiet (fail)
          go_wp2
          go_quiet (fail)
          go_wp2
          go_ret
          exact ⟨ret_int Hx.out, (Qt.refl _).add _⟩
        · go_enter Tryz.func67, Tryz.ntmps67
          go_wp2
          go_quiet (fail)
          go_wp2
          go_quiet (fail)
          go_wp2
          go_ret
          exact ⟨ret_int Hx.out, (Qt.refl _).add _⟩
      · obtain ⟨x, hx⟩ : ∃ x, min (min q 1000000 + min q' 1000000) 1000000 = x := ⟨_, rfl⟩
        have Hx : Hid (x = jobV w0 b p) := hidp (by
          rw [jobs_plain H.out (by rw [Hr.out, Hr'.out]; omega), Hq.out, Hq'.out, Hr.out, Hr'.out, ← hx, show oneMore (r + r') = 0 by unfold oneMore; rw [if_neg (by omega)]]
          omega)
        have h1 : ¬ 0 < r := by omega
        have h2 : ¬ 0 < r' := by omega
        clear h0
        go_enter Tryz.func67, Tryz.ntmps67
        go_wp2
        go_quiet (fail)
        go_wp2
        go_quiet (fail)
        go_wp2
        go_ret
        exact ⟨ret_int Hx.out, (Qt.refl _).add _⟩

theorem rwork_any (w0 b p e : Int) (w : World) (i0 : I64 w0) (i1 : I64 b) (i2 : I64 p) (i3 : I64 e) :
    Calls Tryz.prog 39 #[.int .i64 w0, .int .i64 b, .int .i64 p, .int .i64 e] w fun r w' => r = .returned (.int .i64 (workV w0 b p e)) ∧ Qt w w' := by
  have hj := jobV_bd w0 b p
  obtain ⟨j, Hj⟩ : ∃ j, Hid (jobV w0 b p = j) := ⟨_, rfl⟩
  rw [Hj.out] at hj
  obtain ⟨j0, j1⟩ := hj
  obtain ⟨v, hv⟩ : ∃ v, max 0 (min e 1073741824) = v := ⟨_, rfl⟩
  have v0 : 0 ≤ v := by rw [← hv]; omega
  have v1 : v ≤ 1073741824 := by rw [← hv]; omega
  have p0 : 0 ≤ j * v := Int.mul_nonneg j0 v0
  have p1 : j * v ≤ 1000000 * 1073741824 := Int.mul_le_mul j1 v1 v0 (by omega)
  obtain ⟨x, hx⟩ : ∃ x, min (j * v) 1000000 = x := ⟨_, rfl⟩
  have Hx : Hid (x = workV w0 b p e) := hidp (by
    unfold workV
    rw [Hj.out, ← hx]
    have hve : v = max e 0 ∨ (e > 1073741824 ∧ v = 1073741824) := by rw [← hv]; omega
    rcases hve with hve | ⟨he, hve⟩
    · rw [hve]
    · have hm : max e 0 = e := by omega
      rw [hve, hm]
      by_cases hj0 : j = 0
      · subst hj0; simp only [Int.zero_mul]
      · have h1 : 1 * 1073741824 ≤ j * 1073741824 := Int.mul_le_mul_of_nonneg_right (by omega) (by omega)
        have h2 : 1 * e ≤ j * e := Int.mul_le_mul_of_nonneg_right (by omega) (by omega)
        omega)
  go_enter Tryz.func39, Tryz.ntmps39
  go_wp2_with fail
  refine (rjobs_any _ _ _ _ i0 i1 i2).mono ?_
  rintro e2 w' ⟨rfl, hq⟩
  rw [Hj.out]
  go_wp2_with fail
  go_ret
  exact ⟨ret_int Hx.out, hq⟩
end Go.Proofs.YtindcpgmfdkpcaaGreat
