/- calc.Sum tells the total of a row, if it fits. -/
import Derived.Test.YtflimfmamlmmiaaCalc
import Derived.Test.YtflimfmamlmmiaaRows2
import Derived.Deep.LoopGhost
namespace Go.Proofs.Ytflimfmamlmmiaa
open Go.ChangeShapes Go.WideShapes Go.ChangeAt Go.RowKit
set_option linter.unusedVariables false

theorem sum_nil (a : Option Addr) (cap : Nat) (w : World) :
    Calls Try.prog 19 #[.slice a 0 cap] w fun e w' => e = .returned (.tuple #[.int .i64 (fitR 0), .bool (fitK 0)]) ∧ w = w' := by
  have H1 : Hid (fitR 0 = 0) := hidp (by decide)
  have H2 : Hid (fitK 0 = true) := hidp (by decide)
  go_enter Try.func19, Try.ntmps19
  go_wp2
  go_step3
  go_wp2
  go_step3
  go_wp2
  go_loopg [4, 5, 11] 0 (fun _ t m i wr => t = .int .i64 0 ∧ m = .int .i64 0 ∧ i = .int .i64 0 ∧ w = wr)
  case atStart => exact ⟨rfl, rfl, rfl, rfl⟩
  case round =>
    obtain ⟨rfl, rfl, rfl, rfl⟩ := hrel
    go_wp2
    try rw [Exit.noGoto_ret]
    go_ret2
    exact ⟨ret_ib H1.out.symm H2.out.symm, rfl⟩

theorem wrap_up {x n : Int} (hx : I64 x) (hn : I64 n) (h : wUp x n = true) : wrap64 (x + n) = x + n - 18446744073709551616 := by
  unfold I64 at *; simp [wUp] at h; unfold wrap64; omega
theorem wrap_down {x n : Int} (hx : I64 x) (hn : I64 n) (h : wDown x n = true) : wrap64 (x + n) = x + n + 18446744073709551616 := by
  unfold I64 at *; simp [wDown] at h; unfold wrap64; omega
theorem wrap_not {x n : Int} (h1 : wUp x n = false) (h2 : wDown x n = false) : wrap64 (x + n) = x + n := by
  simp [wUp] at h1; simp [wDown] at h2; unfold wrap64; omega
theorem up_not_down {x n : Int} (h : wUp x n = true) : wDown x n = false := by simp [wUp] at h; simp [wDown]; omega
/-- what is left can't take so many wraps back -/
theorem sum_out {zs : List Int} {k : Nat} {t m : Int} (hz : ∀ n ∈ zs, I64 n) (hk : k ≤ zs.length) (ht : I64 t) (hs : tot (zs.take k) = t + m * 18446744073709551616) (hm : (zs.length : Int) - k < m ∨ (zs.length : Int) - k < -m) : ¬ I64 (tot zs) := by
  have h1 := tot_bd (zs.drop k) (fun n hn => hz n (List.mem_of_mem_drop hn))
  rw [List.length_drop] at h1
  rw [tot_drop zs k, hs]
  unfold I64 at *; omega

def SumRel (zs : List Int) (k : Nat) (t m : Int) : Prop := tot (zs.take k) = t + m * 18446744073709551616

theorem sum_row (b off cap : Nat) (zs : List Int) (w : World) (hc : ∀ j, j < zs.length → w.cell? ⟨b, off + j, none⟩ = some (.int .i64 (zs.getD j 0))) (hz : ∀ n ∈ zs, I64 n) (hl : zs.length ≤ 9223372036854775807) :
    Calls Try.prog 19 #[.slice (some ⟨b, off, none⟩) zs.length cap] w fun e w' => e = .returned (.tuple #[.int .i64 (fitR (tot zs)), .bool (fitK (tot zs))]) ∧ w = w' := by
  have Hc := hidp hc
  clear hc
  go_enter Try.func19, Try.ntmps19
  go_wp2
  go_step3
  go_wp2
  go_step3
  go_wp2
  go_loopg [4, 5, 11] zs.length (fun g t m i wr => ∃ k : Nat, ∃ x y : Int, k + g = zs.length ∧ t = .int .i64 x ∧ m = .int .i64 y ∧ i = .int .i64 k ∧ I64 x ∧ -(k : Int) ≤ y ∧ y ≤ k ∧ SumRel zs k x y ∧ w = wr)
  case atStart => exact ⟨0, 0, 0, by omega, rfl, rfl, rfl, by decide, by omega, by omega, by simp [SumRel, tot], rfl⟩
  case round =>
    obtain ⟨k, x, y, hk, rfl, rfl, rfl, hx, hy1, hy2, hs, rfl⟩ := hrel
    by_cases hlt : k < zs.length
    · obtain ⟨n, HN⟩ : ∃ n, Hid (zs.getD k 0 = n) := ⟨_, rfl⟩
      have hn : I64 n := HN.out ▸ getD_i64 hz k
      have hcell : w.cell? ⟨b, off + k, none⟩ = some (.int .i64 n) := HN.out ▸ Hc.out k hlt
      have Hs1 : Hid (tot (zs.take (k + 1)) = x + y * 18446744073709551616 + n) := hidp (by rw [tot_snoc zs k hlt, hs, HN.out])
      clear hs
      by_cases hu : wUp x n = true
      · have Hw := hidp (wrap_up hx hn hu)
        have hd := up_not_down hu
        by_cases hb : (zs.length : Int) - 1 - k < y + 1
        · have hne : (y + 1 != 0) = true := by simp; omega
          have Ho : Hid (¬ I64 (tot zs)) := hidp (sum_out (k := k + 1) hz (by omega) (i64_of (wrap64_wf (x + n))) (m := y + 1) (by rw [Hs1.out, Hw.out]; omega) (by omega))
          have H1 := hidp (fitR_out Ho.out)
          have H2 := hidp (fitK_out Ho.out)
          go_wp2_with (first | (go_at_call 21; refine (wUp_any _ _ _ hx hn).mono ?_; rintro e w' ⟨rfl, rfl⟩) | (go_at_call 22; refine (wDown_any _ _ _ hx hn).mono ?_; rintro e w' ⟨rfl, rfl⟩))
          try rw [Exit.noGoto_ret]
          go_ret2
          exact ⟨ret_ib H1.out.symm H2.out.symm, rfl⟩
        · go_wp2_with (first | (go_at_call 21; refine (wUp_any _ _ _ hx hn).mono ?_; rintro e w' ⟨rfl, rfl⟩) | (go_at_call 22; refine (wDown_any _ _ _ hx hn).mono ?_; rintro e w' ⟨rfl, rfl⟩))
          go_roundg (gk - 1)
          case measure => omega
          case rel => exact ⟨k + 1, wrap64 (x + n), y + 1, by omega, rfl, rfl, by go_num, i64_of (wrap64_wf (x + n)), by omega, by omega, by unfold SumRel; rw [Hs1.out, Hw.out]; omega, rfl⟩
      · have hu : wUp x n = false := by simpa using hu
        by_cases hd : wDown x n = true
        · have Hw := hidp (wrap_down hx hn hd)
          by_cases hb : (zs.length : Int) - 1 - k < -(y - 1)
          · have hne : (y - 1 != 0) = true := by simp; omega
            have Ho : Hid (¬ I64 (tot zs)) := hidp (sum_out (k := k + 1) hz (by omega) (i64_of (wrap64_wf (x + n))) (m := y - 1) (by rw [Hs1.out, Hw.out]; omega) (by omega))
            have H1 := hidp (fitR_out Ho.out)
            have H2 := hidp (fitK_out Ho.out)
            go_wp2_with (first | (go_at_call 21; refine (wUp_any _ _ _ hx hn).mono ?_; rintro e w' ⟨rfl, rfl⟩) | (go_at_call 22; refine (wDown_any _ _ _ hx hn).mono ?_; rintro e w' ⟨rfl, rfl⟩))
            try rw [Exit.noGoto_ret]
            go_ret2
            exact ⟨ret_ib H1.out.symm H2.out.symm, rfl⟩
          · go_wp2_with (first | (go_at_call 21; refine (wUp_any _ _ _ hx hn).mono ?_; rintro e w' ⟨rfl, rfl⟩) | (go_at_call 22; refine (wDown_any _ _ _ hx hn).mono ?_; rintro e w' ⟨rfl, rfl⟩))
            go_roundg (gk - 1)
            case measure => omega
            case rel => exact ⟨k + 1, wrap64 (x + n), y - 1, by omega, rfl, rfl, by go_num, i64_of (wrap64_wf (x + n)), by omega, by omega, by unfold SumRel; rw [Hs1.out, Hw.out]; omega, rfl⟩
        · have hd : wDown x n = false := by simpa using hd
          have Hw := hidp (wrap_not hu hd)
          go_wp2_with (first | (go_at_call 21; refine (wUp_any _ _ _ hx hn).mono ?_; rintro e w' ⟨rfl, rfl⟩) | (go_at_call 22; refine (wDown_any _ _ _ hx hn).mono ?_; rintro e w' ⟨rfl, rfl⟩))
          go_roundg (gk - 1)
          case measure => omega
          case rel => exact ⟨k + 1, wrap64 (x + n), y, by omega, rfl, rfl, by go_num, i64_of (wrap64_wf (x + n)), by omega, by omega, by unfold SumRel; rw [Hs1.out, Hw.out]; omega, rfl⟩
    · obtain rfl : k = zs.length := by omega
      have Hs : Hid (tot zs = x + y * 18446744073709551616) := hidp (by rw [← hs, List.take_length])
      clear hs
      by_cases h0 : y = 0
      · subst h0
        have e0 : Hid (tot zs = x) := hidp (by rw [Hs.out]; omega)
        have H1 : Hid (fitR (tot zs) = x) := hidp (by rw [e0.out, fitR_in hx])
        have H2 : Hid (fitK (tot zs) = true) := hidp (by rw [e0.out, fitK_in hx])
        go_wp2
        try rw [Exit.noGoto_ret]
        go_ret2
        exact ⟨ret_ib H1.out.symm H2.out.symm, rfl⟩
      · have hne : (y != 0) = true := by simpa using h0
        have Ho : Hid (¬ I64 (tot zs)) := hidp (by rw [Hs.out]; unfold I64 at *; omega)
        have H1 := hidp (fitR_out Ho.out)
        have H2 := hidp (fitK_out Ho.out)
        clear h0
        go_wp2
        try rw [Exit.noGoto_ret]
        go_ret2
        exact ⟨ret_ib H1.out.symm H2.out.symm, rfl⟩

theorem sum_any (a : Option Addr) (cap : Nat) (zs : List Int) (w : World) (hr : Row w .i64 a zs) (hz : ∀ n ∈ zs, I64 n) (hl : zs.length ≤ 9223372036854775807) :
    Calls Try.prog 19 #[.slice a zs.length cap] w fun e w' => e = .returned (.tuple #[.int .i64 (fitR (tot zs)), .bool (fitK (tot zs))]) ∧ w = w' := by
  rcases hr with rfl | ⟨b, off, rfl, hc⟩
  · exact sum_nil a cap w
  · exact sum_row b off cap zs w hc hz hl
end Go.Proofs.Ytflimfmamlmmiaa
