/- What the document's numbers (swingbridgeref1) answer: Add, Mul, Up, Clip. -/
import Derived.Test.YtflimfmamlmmiaaCalc
namespace Go.Proofs.Ytflimfmamlmmiaa
open Go.ChangeShapes Go.WideShapes Go.ChangeAt Go.RowKit
set_option linter.unusedVariables false

theorem refClip_any (n lo hi : Int) (w : World) :
    Calls Try.prog 18 #[.int .i64 n, .int .i64 lo, .int .i64 hi] w fun e w' => e = .returned (.int .i64 (clipV n lo hi)) ∧ w = w' := by
  by_cases h1 : n < lo
  · have H : Hid (clipV n lo hi = lo) := hidp (by simp [clipV, h1])
    go_enter Try.func18, Try.ntmps18
    go_wp2
    go_ret
    exact ⟨ret_int (by rw [H.out]), rfl⟩
  · by_cases h2 : hi < lo
    · have H : Hid (clipV n lo hi = lo) := hidp (by simp [clipV, h2])
      go_enter Try.func18, Try.ntmps18
      go_wp2
      go_ret
      exact ⟨ret_int (by rw [H.out]), rfl⟩
    · have H : Hid (clipV n lo hi = min n hi) := hidp (by simp [clipV, h1, h2]; omega)
      go_enter Try.func18, Try.ntmps18
      go_wp2
      all_goals
        go_ret
        exact ⟨ret_int (by rw [H.out]; omega), rfl⟩

theorem refAdd_any (a b : Int) (w : World) (ha : I64 a) (hb : I64 b) :
    Calls Try.prog 14 #[.int .i64 a, .int .i64 b] w fun e w' => e = .returned (.tuple #[.int .i64 (fitR (a + b)), .bool (fitK (a + b))]) ∧ w = w' := by
  obtain ⟨a1, a2⟩ := ha
  obtain ⟨b1, b2⟩ := hb
  by_cases h1 : 0 < b
  · by_cases h2 : 9223372036854775807 - b < a
    · have h : ¬ I64 (a + b) := by unfold I64; omega
      have H1 := hidp (fitR_out h)
      have H2 := hidp (fitK_out h)
      clear h
      go_enter Try.func14, Try.ntmps14
      go_wp2
      go_ret2
      exact ⟨ret_ib H1.out.symm H2.out.symm, rfl⟩
    · have h : I64 (a + b) := by unfold I64; omega
      have H1 := hidp (fitR_in h)
      have H2 := hidp (fitK_in h)
      clear h
      go_enter Try.func14, Try.ntmps14
      go_wp2
      go_ret2
      exact ⟨ret_ib H1.out.symm H2.out.symm, rfl⟩
  · by_cases h3 : b < 0
    · by_cases h2 : a < -9223372036854775808 - b
      · have h : ¬ I64 (a + b) := by unfold I64; omega
        have H1 := hidp (fitR_out h)
        have H2 := hidp (fitK_out h)
        clear h
        go_enter Try.func14, Try.ntmps14
        go_wp2
        go_ret2
        exact ⟨ret_ib H1.out.symm H2.out.symm, rfl⟩
      · have h : I64 (a + b) := by unfold I64; omega
        have H1 := hidp (fitR_in h)
        have H2 := hidp (fitK_in h)
        clear h
        go_enter Try.func14, Try.ntmps14
        go_wp2
        go_ret2
        exact ⟨ret_ib H1.out.symm H2.out.symm, rfl⟩
    · have h : I64 (a + b) := by unfold I64; omega
      have H1 := hidp (fitR_in h)
      have H2 := hidp (fitK_in h)
      clear h
      go_enter Try.func14, Try.ntmps14
      go_wp2
      go_ret2
      exact ⟨ret_ib H1.out.symm H2.out.symm, rfl⟩

theorem refMul_any (a b : Int) (w : World) (ha : I64 a) (hb : I64 b) :
    Calls Try.prog 15 #[.int .i64 a, .int .i64 b] w fun e w' => e = .returned (.tuple #[.int .i64 (fitR (a * b)), .bool (fitK (a * b))]) ∧ w = w' := by
  by_cases h0 : a = 0 ∨ b = 0
  · have H1 : Hid (fitR (a * b) = 0) := hidp (by rcases h0 with rfl | rfl <;> simp [fitR])
    have H2 : Hid (fitK (a * b) = true) := hidp (by rcases h0 with rfl | rfl <;> simp [fitK] <;> decide)
    by_cases c0 : a = 0
    · have c1 : (a == 0) = true := by simpa using c0
      clear c0 h0
      go_enter Try.func15, Try.ntmps15
      go_wp2
      go_ret2
      exact ⟨ret_ib H1.out.symm H2.out.symm, rfl⟩
    · have c1 : (a == 0) = false := by simpa using c0
      have c2 : (b == 0) = true := by simp; omega
      clear c0 h0
      go_enter Try.func15, Try.ntmps15
      go_wp2
      go_ret2
      exact ⟨ret_ib H1.out.symm H2.out.symm, rfl⟩
  · have c0 : (a == 0) = false := by simp; omega
    have c1 : (b == 0) = false := by simp; omega
    have hb0 : ¬ b = 0 := by omega
    by_cases x1 : a = -1 ∧ b = -9223372036854775808
    · obtain ⟨rfl, rfl⟩ := x1
      have H1 : Hid (fitR (-1 * -9223372036854775808) = 0) := hidp (by decide)
      have H2 : Hid (fitK (-1 * -9223372036854775808) = false) := hidp (by decide)
      clear h0 c0 c1 hb0 ha hb
      go_enter Try.func15, Try.ntmps15
      go_wp2
      go_ret2
      exact ⟨ret_ib H1.out.symm H2.out.symm, rfl⟩
    · by_cases x2 : b = -1 ∧ a = -9223372036854775808
      · obtain ⟨rfl, rfl⟩ := x2
        have H1 : Hid (fitR (-9223372036854775808 * -1) = 0) := hidp (by decide)
        have H2 : Hid (fitK (-9223372036854775808 * -1) = false) := hidp (by decide)
        clear h0 c0 c1 hb0 ha hb x1
        go_enter Try.func15, Try.ntmps15
        go_wp2
        go_ret2
        exact ⟨ret_ib H1.out.symm H2.out.symm, rfl⟩
      · have ht := mul_tells ha hb hb0 (by omega)
        have hw : Hid (wrap64 ((wrap64 (a * b)).tdiv b) = (wrap64 (a * b)).tdiv b) := by
          refine hidp (IntWalk.wrap64_in _ (tdiv_in (i64_of (wrap64_wf _)) hb0 ?_))
          rintro ⟨g, rfl⟩
          apply x2; refine ⟨rfl, ?_⟩
          unfold wrap64 at g; unfold I64 at ha; omega
        have s1 : (a == -1) = true ∧ (b == -9223372036854775808) = false ∨ (a == -1) = false := by
          by_cases g1 : a = -1
          · exact .inl ⟨by simpa using g1, by simp; omega⟩
          · exact .inr (by simpa using g1)
        have s2 : (b == -1) = true ∧ (a == -9223372036854775808) = false ∨ (b == -1) = false := by
          by_cases g1 : b = -1
          · exact .inl ⟨by simpa using g1, by simp; omega⟩
          · exact .inr (by simpa using g1)
        by_cases hf : I64 (a * b)
        · have G : (wrap64 ((wrap64 (a * b)).tdiv b) != a) = false := by rw [hw.out, bne_eq_false_iff_eq]; exact ht.1 hf
          have H1 : Hid (fitR (a * b) = wrap64 (a * b)) := hidp (by rw [fitR_in hf, IntWalk.wrap64_in _ hf])
          have H2 := hidp (fitK_in hf)
          clear hf ht hw ha hb h0 x1 x2
          rcases s1 with ⟨s1, s3⟩ | s1 <;> rcases s2 with ⟨s2, s4⟩ | s2
          all_goals
            go_enter Try.func15, Try.ntmps15
            go_wp2
            go_ret2
            exact ⟨ret_ib H1.out.symm H2.out.symm, rfl⟩
        · have G : (wrap64 ((wrap64 (a * b)).tdiv b) != a) = true := by rw [hw.out, bne_iff_ne]; exact fun g => hf (ht.2 g)
          have H1 := hidp (fitR_out hf)
          have H2 := hidp (fitK_out hf)
          clear hf ht hw ha hb h0 x1 x2
          rcases s1 with ⟨s1, s3⟩ | s1 <;> rcases s2 with ⟨s2, s4⟩ | s2
          all_goals
            go_enter Try.func15, Try.ntmps15
            go_wp2
            go_ret2
            exact ⟨ret_ib H1.out.symm H2.out.symm, rfl⟩

theorem refUp_any (a b : Int) (w : World) (ha : I64 a) (hb : I64 b) :
    Calls Try.prog 16 #[.int .i64 a, .int .i64 b] w fun e w' => e = .returned (.tuple #[.int .i64 (upR a b), .bool (upK a b)]) ∧ w = w' := by
  by_cases h0 : b = 0
  · subst h0
    have H1 : Hid (upR a 0 = 0) := hidp rfl
    have H2 : Hid (upK a 0 = false) := hidp rfl
    go_enter Try.func16, Try.ntmps16
    go_wp2
    go_ret2
    exact ⟨ret_ib H1.out.symm H2.out.symm, rfl⟩
  · have c0 : (b == 0) = false := by simpa using h0
    by_cases h1 : a = -9223372036854775808 ∧ b = -1
    · obtain ⟨rfl, rfl⟩ := h1
      have H1 : Hid (upR (-9223372036854775808) (-1) = 0) := hidp (by decide)
      have H2 : Hid (upK (-9223372036854775808) (-1) = false) := hidp (by decide)
      clear h0 c0 ha hb
      go_enter Try.func16, Try.ntmps16
      go_wp2
      go_ret2
      exact ⟨ret_ib H1.out.symm H2.out.symm, rfl⟩
    · have hin := upV_in ha h0 h1
      have hw : Hid (wrap64 (a.tdiv b) = a.tdiv b) := hidp (IntWalk.wrap64_in _ (tdiv_in ha h0 h1))
      have H1 : Hid (upR a b = upV a b) := hidp (by rw [upR, if_neg h0, fitR_in hin])
      have H2 : Hid (upK a b = true) := hidp (by rw [upK, if_neg h0, fitK_in hin])
      have hg : (a == -9223372036854775808) = true ∧ (b == -1) = false ∨ (a == -9223372036854775808) = false := by
        by_cases g1 : a = -9223372036854775808
        · exact .inl ⟨by simpa using g1, by simp; omega⟩
        · exact .inr (by simpa using g1)
      by_cases r0 : a.tmod b = 0
      · have G : (a.tmod b != 0) = false := by simp [r0]
        have H3 : Hid (wrap64 (a.tdiv b) = upV a b) := hidp (by rw [hw.out]; simp [upV, r0])
        clear r0 hw hin h1 ha hb
        rcases hg with ⟨g1, g2⟩ | g1
        all_goals
          go_enter Try.func16, Try.ntmps16
          go_wp2
          go_ret2
          exact ⟨ret_ib (by rw [H1.out, H3.out]) H2.out.symm, rfl⟩
      · have G : (a.tmod b != 0) = true := by simp [r0]
        have hs := tdiv_up ha h0 r0
        by_cases s : (0 < a ↔ 0 < b)
        · have H3 : Hid (wrap64 (wrap64 (a.tdiv b) + 1) = upV a b) := hidp (by rw [hw.out, IntWalk.wrap64_in _ hs.2, upV, if_pos ⟨r0, s⟩])
          have G2 : (decide (0 < a) == decide (0 < b)) = true := by simpa [decide_eq_decide] using s
          clear r0 hw hin h1 ha hb hs s
          rcases hg with ⟨g1, g2⟩ | g1
          all_goals
            go_enter Try.func16, Try.ntmps16
            go_wp2
            go_ret2
            exact ⟨ret_ib (by rw [H1.out, H3.out]) H2.out.symm, rfl⟩
        · have H3 : Hid (wrap64 (a.tdiv b) = upV a b) := hidp (by rw [hw.out, upV, if_neg (fun x => s x.2)]; omega)
          have G2 : (decide (0 < a) == decide (0 < b)) = false := by simpa [decide_eq_decide] using s
          clear r0 hw hin h1 ha hb hs s
          rcases hg with ⟨g1, g2⟩ | g1
          all_goals
            go_enter Try.func16, Try.ntmps16
            go_wp2
            go_ret2
            exact ⟨ret_ib (by rw [H1.out, H3.out]) H2.out.symm, rfl⟩
end Go.Proofs.Ytflimfmamlmmiaa
