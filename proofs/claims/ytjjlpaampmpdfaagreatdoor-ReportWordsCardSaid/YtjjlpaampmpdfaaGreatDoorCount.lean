/- What count's Jobs and Work answer, as the model runs them. -/
import Derived.Test.YtjjlpaampmpdfaaGreatDoorCalc
import Derived.Test.YtjjlpaampmpdfaaGreatDoorCountNums
import Derived.Test.YtjjlpaampmpdfaaGreatDoorRows2
import Derived.Deep.LoopGhost
namespace Go.Proofs.YtjjlpaampmpdfaaGreatDoor
open Go.ChangeShapes Go.WideShapes Go.ChangeAt Go.RowKit
set_option linter.unusedVariables false

theorem jobs_out (w0 b p : Int) (w : World) (h : w0 < 1 ∨ b < 0 ∨ p < 1) :
    Calls Tryz.prog 136 #[.int .i64 w0, .int .i64 b, .int .i64 p] w fun e w' => e = .returned (.int .i64 (jobV w0 b p)) ∧ Qt w w' := by
  have H := hidp (jobV_out h)
  by_cases h1 : w0 < 1
  · clear h
    go_enter Tryz.func136, Tryz.ntmps136
    go_wp2
    go_step3
    go_wp2
    rw [Exit.noGoto_ret]
    go_ret
    exact ⟨ret_int H.out.symm, Qt.refl _⟩
  · by_cases h2 : b < 0
    · clear h
      go_enter Tryz.func136, Tryz.ntmps136
      go_wp2
      go_step3
      go_wp2
      rw [Exit.noGoto_ret]
      go_ret
      exact ⟨ret_int H.out.symm, Qt.refl _⟩
    · have h3 : p < 1 := by omega
      clear h
      go_enter Tryz.func136, Tryz.ntmps136
      go_wp2
      go_step3
      go_wp2
      rw [Exit.noGoto_ret]
      go_ret
      exact ⟨ret_int H.out.symm, Qt.refl _⟩

/-- the loop's state behind k rounds -/
def JobSt (w0 b p : Int) (k : Nat) (x y : Int) : Prop :=
  (k = 0 ∧ x = 0 ∧ y = 0) ∨ (k = 1 ∧ x = w0 / p ∧ y = w0 % p) ∨ (k = 2 ∧ jobV w0 b p = x + oneMore y)

set_option maxHeartbeats 400000 in
theorem jobs_in (w0 b p : Int) (w : World) (i0 : I64 w0) (i1 : I64 b) (i2 : I64 p) (h : ¬ (w0 < 1 ∨ b < 0 ∨ p < 1)) :
    Calls Tryz.prog 136 #[.int .i64 w0, .int .i64 b, .int .i64 p] w fun e w' => e = .returned (.int .i64 (jobV w0 b p)) ∧ Qt w w' := by
  have a1 : 1 ≤ w0 := by omega
  have a2 : 0 ≤ b := by omega
  have a3 : 1 ≤ p := by omega
  have u1 : w0 ≤ 9223372036854775807 := i0.2
  have u2 : b ≤ 9223372036854775807 := i1.2
  have u3 : p ≤ 9223372036854775807 := i2.2
  have H := hidp h
  clear h i0 i1 i2
  have c0 : (p == 0) = false := by simp; omega
  have c1 : (p == -1) = false := by simp; omega
  have x0 : ∀ w, (Instr.index 146 (.agg #[.int .i64 w0, .int .i64 b]) (.int .i64 0)).run Tryz.prog w = .ok (.int .i64 w0) w := fun _ => by kernel_rfl
  have x1 : ∀ w, (Instr.index 146 (.agg #[.int .i64 w0, .int .i64 b]) (.int .i64 1)).run Tryz.prog w = .ok (.int .i64 b) w := fun _ => by kernel_rfl
  go_enter Tryz.func136, Tryz.ntmps136
  go_wp2
  go_step3
  go_wp2
  go_step3
  go_wp2
  go_loopg [7, 8, 27] 2 (fun g j r i wr => ∃ (k : Nat) (x y : Int), k + g = 2 ∧ i = .int .i64 k ∧ j = .int .i64 x ∧ r = .int .i64 y ∧ 0 ≤ x ∧ x < 1000000 ∧ 0 ≤ y ∧ y ≤ p ∧ JobSt w0 b p k x y ∧ Qt w wr)
  case atStart => exact ⟨0, 0, 0, rfl, rfl, rfl, rfl, by omega, by omega, by omega, by omega, .inl ⟨rfl, rfl, rfl⟩, Qt.refl _⟩
  case round =>
    obtain ⟨k, x, y, hk, rfl, rfl, rfl, hx1, hx2, hy1, hy2, hs, hb⟩ := hrel
    rcases hs with ⟨rfl, rfl, rfl⟩ | ⟨rfl, ex, ey⟩ | ⟨rfl, ej⟩
    · obtain ⟨q, Hq⟩ : ∃ q, Hid (w0 / p = q) := ⟨_, rfl⟩
      obtain ⟨r, Hr⟩ : ∃ r, Hid (w0 % p = r) := ⟨_, rfl⟩
      obtain ⟨q1, q2⟩ := Hq.out ▸ quot_bd (w := w0) (p := p) (by omega) (by omega)
      obtain ⟨r1, r2⟩ := Hr.out ▸ mod_bd w0 (show 0 < p by omega)
      have d1 : w0.tdiv p = q := by rw [Int.tdiv_eq_ediv_of_nonneg (by omega), Hq.out]
      have d2 : w0.tmod p = r := by rw [Int.tmod_eq_emod_of_nonneg (by omega), Hr.out]
      have r3 : r ≤ p := by omega
      obtain ⟨m, hm⟩ : ∃ m, (if 1000000 < q then 1000000 else q) = m := ⟨_, rfl⟩
      by_cases hq : 1000000 ≤ q
      · have Hj : Hid (jobV w0 b p = 1000000) := hidp (jobs_first H.out (by rw [Hq.out]; exact hq))
        have m1 : 1000000 ≤ m := by rw [← hm]; split <;> omega
        have m2 : m ≤ 1000000 := by rw [← hm]; split <;> omega
        clear hq
        go_wp2
        go_quiet (fail)
        go_wp2
        try rw [Exit.noGoto_ret]
        go_ret
        exact ⟨ret_int Hj.out.symm, hb.add _⟩
      · have m1 : m < 1000000 := by rw [← hm]; split <;> omega
        have Hm : Hid (m = q) := hidp (by rw [← hm]; split <;> omega)
        have m2 : 0 ≤ m := by rw [Hm.out]; omega
        clear hq
        go_wp2
        go_quiet (fail)
        go_wp2
        go_roundg 1
        case measure => omega
        case rel => exact ⟨1, m, r, by omega, rfl, rfl, rfl, m2, m1, r1, r3, .inr (.inl ⟨rfl, by rw [Hm.out, Hq.out], Hr.out.symm⟩), hb.add _⟩
    · obtain ⟨q, Hq⟩ : ∃ q, Hid (b / p = q) := ⟨_, rfl⟩
      obtain ⟨r, Hr⟩ : ∃ r, Hid (b % p = r) := ⟨_, rfl⟩
      obtain ⟨q1, q2⟩ := Hq.out ▸ quot_bd (w := b) (p := p) (by omega) (by omega)
      obtain ⟨r1, r2⟩ := Hr.out ▸ mod_bd b (show 0 < p by omega)
      have d1 : b.tdiv p = q := by rw [Int.tdiv_eq_ediv_of_nonneg (by omega), Hq.out]
      have d2 : b.tmod p = r := by rw [Int.tmod_eq_emod_of_nonneg (by omega), Hr.out]
      have Hx := hidp ex
      have Hy := hidp ey
      clear ex ey
      by_cases hc : p - y < r
      · have q3 : q ≤ 4611686018427387903 := Hq.out ▸ quot_one a2 (by omega) u2 (by rw [Hr.out]; omega)
        have Hj : Hid (jobV w0 b p = min (x + (q + 1) + oneMore (y + r - p)) 1000000) := hidp (by
          rw [jobs_carry H.out (by rw [Hr.out, ← Hy.out]; omega), Hq.out, Hr.out, ← Hy.out, ← Hx.out])
        have Hb := hidp (oneMore_bd (y + r - p))
        obtain ⟨m, hm⟩ : ∃ m, (if 1000000 < q + 1 then 1000000 else q + 1) = m := ⟨_, rfl⟩
        have m2 : 0 ≤ m := by rw [← hm]; split <;> omega
        have m3 : m ≤ 1000000 := by rw [← hm]; split <;> omega
        have Hm : Hid (m = min (q + 1) 1000000) := hidp (by rw [← hm]; split <;> omega)
        by_cases hq : 1000000 ≤ x + m
        · go_wp2
          go_quiet (fail)
          go_wp2
          try rw [Exit.noGoto_ret]
          go_ret
          exact ⟨ret_int (by have := Hj.out; have := Hb.out; have := Hm.out; omega), hb.add _⟩
        · go_wp2
          go_quiet (fail)
          go_wp2
          go_roundg 0
          case measure => omega
          case rel => exact ⟨2, x + m, r - (p - y), by omega, rfl, congrArg (Value.int .i64) (by have := Hm.out; omega), rfl, by omega, by omega, by omega, by omega, .inr (.inr ⟨rfl, by
            have e : y + r - p = r - (p - y) := by omega
            have := Hj.out; have := Hb.out; have := Hm.out; rw [e] at *; omega⟩), hb.add _⟩
      · have Hj : Hid (jobV w0 b p = min (x + q + oneMore (y + r)) 1000000) := hidp (by
          rw [jobs_plain H.out (by rw [Hr.out, ← Hy.out]; omega), Hq.out, Hr.out, ← Hy.out, ← Hx.out])
        have Hb := hidp (oneMore_bd (y + r))
        obtain ⟨m, hm⟩ : ∃ m, (if 1000000 < q then 1000000 else q) = m := ⟨_, rfl⟩
        have m2 : 0 ≤ m := by rw [← hm]; split <;> omega
        have m3 : m ≤ 1000000 := by rw [← hm]; split <;> omega
        have Hm : Hid (m = min q 1000000) := hidp (by rw [← hm]; split <;> omega)
        by_cases hq : 1000000 ≤ x + m
        · go_wp2
          go_quiet (fail)
          go_wp2
          try rw [Exit.noGoto_ret]
          go_ret
          exact ⟨ret_int (by have := Hj.out; have := Hb.out; have := Hm.out; omega), hb.add _⟩
        · go_wp2
          go_quiet (fail)
          go_wp2
          go_roundg 0
          case measure => omega
          case rel => exact ⟨2, x + m, y + r, by omega, rfl, congrArg (Value.int .i64) (by have := Hm.out; omega), rfl, by omega, by omega, by omega, by omega, .inr (.inr ⟨rfl, by
            have := Hj.out; have := Hb.out; have := Hm.out; omega⟩), hb.add _⟩
    · have Hj := hidp ej
      clear ej
      by_cases h0 : 0 < y
      · have Ho : Hid (oneMore y = 1) := hidp (by simp [oneMore, h0])
        go_wp2
        try rw [Exit.noGoto_ret]
        go_ret
        exact ⟨ret_int (by rw [Hj.out, Ho.out]), hb⟩
      · have Ho : Hid (oneMore y = 0) := hidp (by simp [oneMore, h0])
        go_wp2
        try rw [Exit.noGoto_ret]
        go_ret
        exact ⟨ret_int (by rw [Hj.out, Ho.out]; omega), hb⟩

theorem jobs_any (w0 b p : Int) (w : World) (i0 : I64 w0) (i1 : I64 b) (i2 : I64 p) :
    Calls Tryz.prog 136 #[.int .i64 w0, .int .i64 b, .int .i64 p] w fun e w' => e = .returned (.int .i64 (jobV w0 b p)) ∧ Qt w w' := by
  by_cases h : w0 < 1 ∨ b < 0 ∨ p < 1
  · exact jobs_out w0 b p w h
  · exact jobs_in w0 b p w i0 i1 i2 h

theorem work_any (w0 b p e : Int) (w : World) (i0 : I64 w0) (i1 : I64 b) (i2 : I64 p) (i3 : I64 e) :
    Calls Tryz.prog 111 #[.int .i64 w0, .int .i64 b, .int .i64 p, .int .i64 e] w fun r w' => r = .returned (.int .i64 (workV w0 b p e)) ∧ Qt w w' := by
  have hj := jobV_bd w0 b p
  obtain ⟨v, hv⟩ : ∃ v, (if e < 0 then 0 else e) = v := ⟨_, rfl⟩
  have v0 : 0 ≤ v := by rw [← hv]; split <;> omega
  have Hv : Hid (v = max e 0) := hidp (by rw [← hv]; split <;> omega)
  have iv : I64 v := by unfold I64 at *; rw [← hv]; split <;> omega
  have ij : I64 (jobV w0 b p) := by unfold I64; omega
  have hp : 0 ≤ jobV w0 b p * v := Int.mul_nonneg hj.1 v0
  clear i3
  by_cases hf : I64 (jobV w0 b p * v)
  · have k1 := fitK_in hf
    have Hf := hidp (fitR_in hf)
    have Hw : Hid (clipV (fitR (jobV w0 b p * v)) 0 1000000 = workV w0 b p e) := hidp (by
      rw [Hf.out]; unfold workV clipV; rw [← Hv.out]; split
      · omega
      · split <;> omega)
    clear hf hp hj
    go_enter Tryz.func111, Tryz.ntmps111
    go_wp2_with (first | (go_at_call 136; (with_reducible refine (jobs_any _ _ _ _ i0 i1 i2).mono ?_); rintro e w' ⟨rfl, hq⟩) | (go_at_call 135; (with_reducible refine (mul_any _ _ _ ij iv).mono ?_); rintro e w' ⟨rfl, rfl⟩) | (go_at_call 137; (with_reducible refine (clip_any _ _ _ _).mono ?_); rintro e w' ⟨rfl, rfl⟩))
    go_ret
    exact ⟨ret_int Hw.out, hq⟩
  · have k1 := fitK_out hf
    have Hw : Hid (1000000 = workV w0 b p e) := hidp (by
      unfold workV; rw [← Hv.out]; unfold I64 at hf; omega)
    clear hf hp hj
    go_enter Tryz.func111, Tryz.ntmps111
    go_wp2_with (first | (go_at_call 136; (with_reducible refine (jobs_any _ _ _ _ i0 i1 i2).mono ?_); rintro e w' ⟨rfl, hq⟩) | (go_at_call 135; (with_reducible refine (mul_any _ _ _ ij iv).mono ?_); rintro e w' ⟨rfl, rfl⟩) | (go_at_call 137; (with_reducible refine (clip_any _ _ _ _).mono ?_); rintro e w' ⟨rfl, rfl⟩))
    go_ret
    exact ⟨ret_int Hw.out, hq⟩
end Go.Proofs.YtjjlpaampmpdfaaGreatDoor
