/- rank: order: cmp's Compare, Or. -/
import Derived.Test.YtppgameimddimaaGreatRankM
import Derived.Test.YtppgameimddimaaGreatReg
import Derived.Test.YtppgameimddimaaGreatUp
import Derived.Deep.LoopGhost
import Derived.Deep.QuietTactic
import Derived.BigQuiet
import Derived.Deep.CutBlock
namespace Go.Proofs.YtppgameimddimaaGreat
open Go.ChangeShapes Go.WideShapes Go.ChangeAt Go.RowKit
set_option linter.unusedVariables false
set_option linter.unusedSimpArgs false
theorem isnan_any (x : Int) (w : World) : Calls Tryz.prog 112 #[.int .i64 x] w fun e w' => e = .returned (.bool false) ∧ w = w' := by
  have e0 : (x != x) = false := by simp
  go_enter Tryz.func112, Tryz.ntmps112
  go_wp2
  go_ret
  exact ⟨rfl, rfl⟩
theorem cmpc_any (x y : Int) (w : World) : Calls Tryz.prog 85 #[.int .i64 x, .int .i64 y] w fun e w' => e = .returned (.int .i64 (cmpV x y)) ∧ w = w' := by
  obtain ⟨V, HV⟩ : ∃ V, Hid (cmpV x y = V) := ⟨_, hidp rfl⟩
  rw [HV.out]
  have H1 : Hid (x < y → V = -1) := hidp (fun h => by rw [← HV.out]; unfold cmpV; rw [if_pos h])
  have H2 : Hid (¬ x < y → y < x → V = 1) := hidp (fun h g => by rw [← HV.out]; unfold cmpV; rw [if_neg h, if_pos g])
  have H3 : Hid (¬ x < y → ¬ y < x → V = 0) := hidp (fun h g => by rw [← HV.out]; unfold cmpV; rw [if_neg h, if_neg g])
  clear HV
  by_cases h1 : x < y
  · have f1 : decide (x < y) = true := by simpa using h1
    go_enter Tryz.func85, Tryz.ntmps85
    go_wp2_with (first | (go_at_call 112; (with_reducible refine (isnan_any _ _).mono ?_); rintro e w' ⟨rfl, rfl⟩))
    go_ret
    exact ⟨by rw [H1.out h1]; rfl, rfl⟩
  · have f1 : decide (x < y) = false := by simpa using h1
    by_cases h2 : y < x
    · have f2 : decide (y < x) = true := by simpa using h2
      go_enter Tryz.func85, Tryz.ntmps85
      go_wp2_with (first | (go_at_call 112; (with_reducible refine (isnan_any _ _).mono ?_); rintro e w' ⟨rfl, rfl⟩))
      go_ret
      exact ⟨by rw [H2.out h1 h2]; rfl, rfl⟩
    · have f2 : decide (y < x) = false := by simpa using h2
      go_enter Tryz.func85, Tryz.ntmps85
      go_wp2_with (first | (go_at_call 112; (with_reducible refine (isnan_any _ _).mono ?_); rintro e w' ⟨rfl, rfl⟩))
      go_ret
      exact ⟨by rw [H3.out h1 h2]; rfl, rfl⟩
def orV (x y : Int) : Int := if x ≠ 0 then x else y
theorem cmpor_any (x y : Int) (w : World) (g : Nat) (h0 : w.cell? ⟨g, 0, none⟩ = some (.int .i64 x)) (h1 : w.cell? ⟨g, 1, none⟩ = some (.int .i64 y)) : Calls Tryz.prog 84 #[.slice (some ⟨g, 0, none⟩) 2 2] w fun e w' => e = .returned (.int .i64 (orV x y)) ∧ w = w' := by
  obtain ⟨V, HV⟩ : ∃ V, Hid (orV x y = V) := ⟨_, hidp rfl⟩
  rw [HV.out]
  have H1 := hidp (show x ≠ 0 → V = x from fun h => by rw [← HV.out]; unfold orV; rw [if_pos h])
  have H2 := hidp (show x = 0 → V = y from fun h => by rw [← HV.out]; unfold orV; rw [if_neg (by simpa using h)])
  have H0 := hidp h0
  have HY := hidp h1
  clear HV h0 h1
  go_enter Tryz.func84, Tryz.ntmps84
  go_wp2
  go_loopg [5, 8] 2 (fun gg v i wr => ∃ k : Nat, k + gg = 2 ∧ i = .int .i64 k ∧ Hid (0 < k → x = 0) ∧ Hid (1 < k → y = 0) ∧ w = wr)
  case atStart => exact ⟨0, by omega, rfl, hidp (fun h => by omega), hidp (fun h => by omega), rfl⟩
  case round =>
    obtain ⟨k, hk, rfl, Hx, Hy, rfl⟩ := hrel
    have hk3 : k = 0 ∨ k = 1 ∨ k = 2 := by omega
    rcases hk3 with rfl | rfl | rfl
    · have c0 := H0.out
      by_cases hx : x = 0
      · have f1 : (x != 0) = false := by simpa using hx
        have Hx0 := hidp hx
        clear hx
        go_wp2
        go_roundg (gk - 1)
        case measure => omega
        case rel => exact ⟨1, by omega, rfl, hidp (fun _ => Hx0.out), hidp (fun h => by omega), rfl⟩
      · have f1 : (x != 0) = true := by simpa using hx
        have HV := hidp (H1.out hx)
        clear hx
        go_wp2
        try rw [Exit.noGoto_ret]
        go_ret
        exact ⟨by rw [HV.out]; rfl, rfl⟩
    · have c0 := HY.out
      by_cases hy : y = 0
      · have f1 : (y != 0) = false := by simpa using hy
        have Hy0 := hidp hy
        clear hy
        go_wp2
        go_roundg (gk - 1)
        case measure => omega
        case rel => exact ⟨2, by omega, rfl, hidp (fun _ => Hx.out (by omega)), hidp (fun h => Hy0.out), rfl⟩
      · have f1 : (y != 0) = true := by simpa using hy
        have HV := hidp (H2.out (Hx.out (by omega)))
        clear hy
        go_wp2
        try rw [Exit.noGoto_ret]
        go_ret
        exact ⟨by rw [HV.out]; rfl, rfl⟩
    · have HV := hidp ((H2.out (Hx.out (by omega))).trans (Hy.out (by omega)))
      go_wp2
      try rw [Exit.noGoto_ret]
      go_ret
      exact ⟨by rw [HV.out]; rfl, rfl⟩
end Go.Proofs.YtppgameimddimaaGreat
