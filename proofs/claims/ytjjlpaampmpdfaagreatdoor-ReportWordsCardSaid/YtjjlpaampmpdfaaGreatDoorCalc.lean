/- What calc's Add, Mul, Up and Clip answer, as the model runs them. -/
import Derived.Test.YtjjlpaampmpdfaaGreatDoorBase
import Derived.Deep.QuietTactic
import Derived.BigQuiet
namespace Go.Proofs.YtjjlpaampmpdfaaGreatDoor
open Go.ChangeShapes Go.WideShapes Go.ChangeAt Go.RowKit
set_option linter.unusedVariables false

theorem clip_any (n lo hi : Int) (w : World) :
    Calls Tryz.prog 137 #[.int .i64 n, .int .i64 lo, .int .i64 hi] w fun e w' => e = .returned (.int .i64 (clipV n lo hi)) ∧ w = w' := by
  by_cases h1 : n < lo
  · have H : Hid (clipV n lo hi = lo) := hidp (by simp [clipV, h1])
    go_enter Tryz.func137, Tryz.ntmps137
    go_wp2
    go_ret
    exact ⟨ret_int (by rw [H.out]), rfl⟩
  · by_cases h2 : hi < lo
    · have H : Hid (clipV n lo hi = lo) := hidp (by simp [clipV, h2])
      go_enter Tryz.func137, Tryz.ntmps137
      go_wp2
      go_ret
      exact ⟨ret_int (by rw [H.out]), rfl⟩
    · by_cases h3 : hi < n
      · have H : Hid (clipV n lo hi = hi) := hidp (by simp [clipV, h1, h2, h3])
        go_enter Tryz.func137, Tryz.ntmps137
        go_wp2
        go_ret
        exact ⟨ret_int (by rw [H.out]), rfl⟩
      · have H : Hid (clipV n lo hi = n) := hidp (by simp [clipV, h1, h2, h3])
        go_enter Tryz.func137, Tryz.ntmps137
        go_wp2
        go_ret
        exact ⟨ret_int (by rw [H.out]), rfl⟩

/-- the product as the machine has it tells, by its quotient, whether it went round -/
theorem mul_tells {a b : Int} (ha : I64 a) (hb : I64 b) (h0 : b ≠ 0) (h1 : ¬ (a = -9223372036854775808 ∧ b = -1)) : I64 (a * b) ↔ (wrap64 (a * b)).tdiv b = a := by
  constructor
  · intro h
    rw [IntWalk.wrap64_in _ h, Int.mul_tdiv_cancel _ h0]
  · intro h
    have hw := wrap64_wf (a * b)
    have hi := i64_of hw
    have e := Int.tmod_add_mul_tdiv (wrap64 (a * b)) b
    rw [h] at e
    have hl : ((wrap64 (a * b)).tmod b).natAbs < b.natAbs := by
      rw [Int.natAbs_tmod]; exact Nat.mod_lt _ (by omega)
    have hk : ∃ k : Int, a * b = wrap64 (a * b) + k * 18446744073709551616 := ⟨(a * b + 9223372036854775808) / 18446744073709551616, by unfold wrap64; omega⟩
    obtain ⟨k, hk⟩ := hk
    rw [Int.mul_comm b a] at e
    have : k = 0 := by unfold I64 at *; omega
    subst this
    have : a * b = wrap64 (a * b) := by omega
    rw [this]; exact hi

theorem mul_any (a b : Int) (w : World) (ha : I64 a) (hb : I64 b) :
    Calls Tryz.prog 135 #[.int .i64 a, .int .i64 b] w fun e w' => e = .returned (.tuple #[.int .i64 (fitR (a * b)), .bool (fitK (a * b))]) ∧ w = w' := by
  by_cases h0 : b = 0
  · subst h0
    have H1 : Hid (fitR (a * 0) = 0) := hidp (by simp [fitR])
    have H2 : Hid (fitK (a * 0) = true) := hidp (by simp [fitK]; decide)
    go_enter Tryz.func135, Tryz.ntmps135
    go_wp2
    go_ret2
    exact ⟨ret_ib H1.out.symm H2.out.symm, rfl⟩
  · have c0 : (b == 0) = false := by simpa using h0
    by_cases h1 : a = -9223372036854775808 ∧ b = -1
    · obtain ⟨rfl, rfl⟩ := h1
      have H1 : Hid (fitR (-9223372036854775808 * -1) = 0) := hidp (by decide)
      have H2 : Hid (fitK (-9223372036854775808 * -1) = false) := hidp (by decide)
      clear h0 c0 ha hb
      go_enter Tryz.func135, Tryz.ntmps135
      go_wp2
      go_ret2
      exact ⟨ret_ib H1.out.symm H2.out.symm, rfl⟩
    · have ht := mul_tells ha hb h0 h1
      have hw : Hid (wrap64 ((wrap64 (a * b)).tdiv b) = (wrap64 (a * b)).tdiv b) := by
        refine hidp (IntWalk.wrap64_in _ (tdiv_in (i64_of (wrap64_wf _)) h0 ?_))
        rintro ⟨g, rfl⟩
        apply h1; refine ⟨?_, rfl⟩
        unfold wrap64 at g; unfold I64 at ha; omega
      have c1 : ¬ (a = -9223372036854775808) ∨ ¬ (b = -1) := by omega
      by_cases hf : I64 (a * b)
      · have G : (wrap64 ((wrap64 (a * b)).tdiv b) != a) = false := by rw [hw.out, bne_eq_false_iff_eq]; exact ht.1 hf
        have H1 : Hid (fitR (a * b) = wrap64 (a * b)) := hidp (by rw [fitR_in hf, IntWalk.wrap64_in _ hf])
        have H2 := hidp (fitK_in hf)
        clear hf ht hw ha hb
        by_cases g1 : a = -9223372036854775808
        · subst g1
          have g2 : (b == -1) = false := by simp; omega
          clear c1 h1
          go_enter Tryz.func135, Tryz.ntmps135
          go_wp2
          go_ret2
          exact ⟨ret_ib H1.out.symm H2.out.symm, rfl⟩
        · have g2 : (a == -9223372036854775808) = false := by simp; omega
          clear c1 h1
          go_enter Tryz.func135, Tryz.ntmps135
          go_wp2
          go_ret2
          exact ⟨ret_ib H1.out.symm H2.out.symm, rfl⟩
      · have G : (wrap64 ((wrap64 (a * b)).tdiv b) != a) = true := by rw [hw.out, bne_iff_ne]; exact fun g => hf (ht.2 g)
        have H1 := hidp (fitR_out hf)
        have H2 := hidp (fitK_out hf)
        clear hf ht hw ha hb
        by_cases g1 : a = -9223372036854775808
        · subst g1
          have g2 : (b == -1) = false := by simp; omega
          clear c1 h1
          go_enter Tryz.func135, Tryz.ntmps135
          go_wp2
          go_ret2
          exact ⟨ret_ib H1.out.symm H2.out.symm, rfl⟩
        · have g2 : (a == -9223372036854775808) = false := by simp; omega
          clear c1 h1
          go_enter Tryz.func135, Tryz.ntmps135
          go_wp2
          go_ret2
          exact ⟨ret_ib H1.out.symm H2.out.symm, rfl⟩

/-! Up: the test behind the quotient, in the walk's spelling -/
theorem up_any (a b : Int) (w : World) (ha : I64 a) (hb : I64 b) :
    Calls Tryz.prog 145 #[.int .i64 a, .int .i64 b] w fun e w' => e = .returned (.tuple #[.int .i64 (upR a b), .bool (upK a b)]) ∧ ∃ n, w' = w.drewN n := by
  by_cases h0 : b = 0
  · subst h0
    have H1 : Hid (upR a 0 = 0) := hidp rfl
    have H2 : Hid (upK a 0 = false) := hidp rfl
    go_enter Tryz.func145, Tryz.ntmps145
    go_wp2
    go_ret2
    exact ⟨ret_ib H1.out.symm H2.out.symm, 0, rfl⟩
  · have c0 : (b == 0) = false := by simpa using h0
    by_cases h1 : a = -9223372036854775808 ∧ b = -1
    · obtain ⟨rfl, rfl⟩ := h1
      have H1 : Hid (upR (-9223372036854775808) (-1) = 0) := hidp (by decide)
      have H2 : Hid (upK (-9223372036854775808) (-1) = false) := hidp (by decide)
      clear h0 c0 ha hb
      go_enter Tryz.func145, Tryz.ntmps145
      go_wp2
      go_ret2
      exact ⟨ret_ib H1.out.symm H2.out.symm, 0, rfl⟩
    · have hin := upV_in ha h0 h1
      have hw : Hid (wrap64 (a.tdiv b) = a.tdiv b) := hidp (IntWalk.wrap64_in _ (tdiv_in ha h0 h1))
      have H1 : Hid (upR a b = upV a b) := hidp (by rw [upR, if_neg h0, fitR_in hin])
      have H2 : Hid (upK a b = true) := hidp (by rw [upK, if_neg h0, fitK_in hin])
      have hg : (a == -9223372036854775808) = true ∧ (b == -1) = false ∨ (a == -9223372036854775808) = false := by
        by_cases g1 : a = -9223372036854775808
        · exact .inl ⟨by simpa using g1, by simp; omega⟩
        · exact .inr (by simpa using g1)
      by_cases r0 : a.tmod b = 0
      · have G : (a.tmod b != 0) = false := by simp [r0]
        have H3 : Hid (wrap64 (a.tdiv b) = upV a b) := hidp (by rw [hw.out]; simp [upV, r0])
        clear r0 hw hin h1 ha hb
        rcases hg with ⟨g1, g2⟩ | g1
        all_goals
          go_enter Tryz.func145, Tryz.ntmps145
          go_wp2
          go_quiet (fail)
          go_wp2
          go_ret2
          exact ⟨ret_ib (by rw [H1.out, H3.out]) H2.out.symm, _, rfl⟩
      · have G : (a.tmod b != 0) = true := by simp [r0]
        have hs := tdiv_up ha h0 r0
        by_cases s1 : 0 < a.tmod b
        · have t1 : 0 < a := by
            by_cases x : 0 ≤ a
            · by_cases y : a = 0
              · subst y; simp at s1
              · omega
            · have := Int.tmod_nonneg b (show 0 ≤ -a by omega); rw [Int.neg_tmod] at this; omega
          by_cases s2 : 0 < b
          · have H3 : Hid (wrap64 (wrap64 (a.tdiv b) + 1) = upV a b) := hidp (by rw [hw.out, IntWalk.wrap64_in _ hs.2, upV, if_pos ⟨r0, by omega⟩])
            clear r0 hw hin h1 ha hb t1 hs
            rcases hg with ⟨g1, g2⟩ | g1
            all_goals
              go_enter Tryz.func145, Tryz.ntmps145
              go_wp2
              go_quiet (fail)
              go_wp2
              go_ret2
              exact ⟨ret_ib (by rw [H1.out, H3.out]) H2.out.symm, _, rfl⟩
          · have H3 : Hid (wrap64 (a.tdiv b) = upV a b) := hidp (by rw [hw.out, upV, if_neg (by omega)]; omega)
            clear r0 hw hin h1 ha hb t1 hs
            rcases hg with ⟨g1, g2⟩ | g1
            all_goals
              go_enter Tryz.func145, Tryz.ntmps145
              go_wp2
              go_quiet (fail)
              go_wp2
              go_ret2
              exact ⟨ret_ib (by rw [H1.out, H3.out]) H2.out.symm, _, rfl⟩
        · have t1 : a < 0 := by
            by_cases x : 0 ≤ a
            · have := Int.tmod_nonneg b x; omega
            · omega
          by_cases s2 : 0 < b
          · have H3 : Hid (wrap64 (a.tdiv b) = upV a b) := hidp (by rw [hw.out, upV, if_neg (by omega)]; omega)
            clear r0 hw hin h1 ha hb t1 hs
            rcases hg with ⟨g1, g2⟩ | g1
            all_goals
              go_enter Tryz.func145, Tryz.ntmps145
              go_wp2
              go_quiet (fail)
              go_wp2
              go_ret2
              exact ⟨ret_ib (by rw [H1.out, H3.out]) H2.out.symm, _, rfl⟩
          · have H3 : Hid (wrap64 (wrap64 (a.tdiv b) + 1) = upV a b) := hidp (by rw [hw.out, IntWalk.wrap64_in _ hs.2, upV, if_pos ⟨r0, by omega⟩])
            have G2 : (decide (0 < a.tmod b) == decide (0 < b)) = true := by simp [s1, s2]
            clear r0 hw hin h1 ha hb t1 hs
            rcases hg with ⟨g1, g2⟩ | g1
            all_goals
              go_enter Tryz.func145, Tryz.ntmps145
              go_wp2
              go_quiet (fail)
              go_wp2
              go_ret2
              exact ⟨ret_ib (by rw [H1.out, H3.out]) H2.out.symm, _, rfl⟩
end Go.Proofs.YtjjlpaampmpdfaaGreatDoor
