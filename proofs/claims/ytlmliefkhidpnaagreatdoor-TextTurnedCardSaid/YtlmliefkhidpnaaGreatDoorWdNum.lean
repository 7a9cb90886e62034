/- words.Num, and the document's: the number that a text is. -/
import Derived.Test.YtlmliefkhidpnaaGreatDoorWordsName
import Derived.IntWalk
namespace Go.Proofs.YtlmliefkhidpnaaGreatDoor
open Go.ChangeShapes Go.WideShapes Go.ChangeAt Go.RowKit
set_option linter.unusedVariables false
set_option linter.unusedSimpArgs false
def numN (s : ByteArray) : Nat → Int
  | 0 => 0
  | k + 1 => numN s k * 10 + (byteAt s k - 48)
def numOK (s : ByteArray) : Bool := decide (1 ≤ s.size ∧ s.size ≤ 7 ∧ ¬ (byteAt s 0 = 48 ∧ 1 < s.size)) && (List.range s.size).all fun i => digB (byteAt s i)
def numV (s : ByteArray) : Int := if numOK s = true then numN s s.size else 0
theorem numN_bd (s : ByteArray) (k : Nat) (h : ∀ j, j < k → digB (byteAt s j) = true) : 0 ≤ numN s k ∧ numN s k < 10 ^ k := by
  induction k with
  | zero => simp [numN]
  | succ k ih =>
    have := ih (fun j hj => h j (by omega))
    have hd := h k (by omega)
    simp only [digB, Bool.and_eq_true, decide_eq_true_iff] at hd
    simp only [numN]
    rw [Int.pow_succ]
    omega
theorem numN_le (s : ByteArray) (k : Nat) (hk : k ≤ 6) (h : ∀ j, j < k → digB (byteAt s j) = true) : 0 ≤ numN s k ∧ numN s k ≤ 999999 := by
  have h1 := numN_bd s k h
  have h2 : (10 : Int) ^ k ≤ 10 ^ 6 := by
    have : k = 0 ∨ k = 1 ∨ k = 2 ∨ k = 3 ∨ k = 4 ∨ k = 5 ∨ k = 6 := by omega
    rcases this with rfl | rfl | rfl | rfl | rfl | rfl | rfl <;> decide
  have h3 : (10 : Int) ^ 6 = 1000000 := by decide
  omega
theorem numOK_len {s : ByteArray} (h : ¬ (1 ≤ s.size ∧ s.size ≤ 7)) : numOK s = false := by
  unfold numOK
  rw [Bool.and_eq_false_iff]; left
  exact decide_eq_false (fun g => h ⟨g.1, g.2.1⟩)
theorem numOK_nought {s : ByteArray} (h : byteAt s 0 = 48) (h1 : 1 < s.size) : numOK s = false := by
  unfold numOK
  rw [Bool.and_eq_false_iff]; left
  exact decide_eq_false (fun g => g.2.2 ⟨h, h1⟩)
theorem numOK_not {s : ByteArray} {k : Nat} (h : k < s.size) (g : digB (byteAt s k) = false) : numOK s = false := by
  unfold numOK
  rw [Bool.and_eq_false_iff]; right
  rw [List.all_eq_false]
  exact ⟨k, by simpa using h, by simp [g]⟩
theorem numOK_all {s : ByteArray} (h : 1 ≤ s.size ∧ s.size ≤ 7 ∧ ¬ (byteAt s 0 = 48 ∧ 1 < s.size)) (g : ∀ j, j < s.size → digB (byteAt s j) = true) : numOK s = true := by
  unfold numOK
  rw [Bool.and_eq_true]
  exact ⟨decide_eq_true h, by rw [List.all_eq_true]; intro x hx; exact g x (by simpa using hx)⟩
theorem numV_no {s : ByteArray} (h : numOK s = false) : numV s = 0 := by unfold numV; rw [h]; rfl
theorem ret_num {x y : Int} {a b : Bool} (h : x = y) (g : a = b) : Ending.returned (.tuple #[.int .i64 x, .bool a]) = Ending.returned (.tuple #[.int .i64 y, .bool b]) := by rw [h, g]
theorem byte0 {s : ByteArray} (h : 0 < s.size) : ∃ c : Int, (s[0].toNat : Int) = c ∧ byteAt s 0 = c ∧ 0 ≤ c ∧ c ≤ 255 := ⟨_, rfl, byteAt_is s 0 h, by rw [← byteAt_is s 0 h]; exact (byte_bd s 0).1, by rw [← byteAt_is s 0 h]; exact (byte_bd s 0).2⟩
set_option maxHeartbeats 1000000 in
theorem num_any (s : ByteArray) (w : World) (hs : s.size ≤ maxLen) : Calls Tryz.prog 85 #[.string s] w fun e w' => e = .returned (.tuple #[.int .i64 (numV s), .bool (numOK s)]) ∧ w = w' := by
  unfold maxLen at hs
  by_cases h1 : s.size < 1
  · have H := hidp (numOK_len (s := s) (by omega))
    have f1 : decide ((s.size : Int) < 1) = true := by simp; omega
    go_enter Tryz.func85, Tryz.ntmps85
    go_wp2
    go_step3
    go_wp2
    try rw [Exit.noGoto_ret]
    go_ret2
    exact ⟨ret_num (numV_no H.out).symm H.out.symm, rfl⟩
  by_cases h2 : 7 < s.size
  · have H := hidp (numOK_len (s := s) (by omega))
    have f1 : decide ((s.size : Int) < 1) = false := by simp; omega
    have f2 : decide ((7 : Int) < (s.size : Int)) = true := by simp; omega
    go_enter Tryz.func85, Tryz.ntmps85
    go_wp2
    go_step3
    go_wp2
    try rw [Exit.noGoto_ret]
    go_ret2
    exact ⟨ret_num (numV_no H.out).symm H.out.symm, rfl⟩
  have f1 : decide ((s.size : Int) < 1) = false := by simp; omega
  have f2 : decide ((7 : Int) < (s.size : Int)) = false := by simp; omega
  have h0 : 0 < s.size := by omega
  obtain ⟨c0, hc0, Hc0, b0, b1⟩ := byte0 h0
  have HC0 := hidp Hc0
  clear Hc0
  by_cases h3 : c0 = 48 ∧ 1 < s.size
  · obtain ⟨e0, e1⟩ := h3
    have H := hidp (numOK_nought (s := s) (by rw [HC0.out]; exact e0) e1)
    have f3 : (c0 == 48) = true := by simpa using e0
    have f4 : decide ((1 : Int) < (s.size : Int)) = true := by simp; omega
    clear e0
    go_enter Tryz.func85, Tryz.ntmps85
    go_wp2
    go_step3
    go_wp2
    try rw [Exit.noGoto_ret]
    go_ret2
    exact ⟨ret_num (numV_no H.out).symm H.out.symm, rfl⟩
  have HX := hidp (show ¬ (byteAt s 0 = 48 ∧ 1 < s.size) by rw [HC0.out]; exact h3)
  have f5 : (c0 == 48) = false ∨ ((c0 == 48) = true ∧ decide ((1 : Int) < (s.size : Int)) = false) := by
    by_cases e : c0 = 48
    · right; exact ⟨by simpa using e, by simp; omega⟩
    · left; simpa using e
  have main : ∀ (P : Prop), P → (P → True) → True := fun _ _ _ => trivial
  clear h3 main
  go_enter Tryz.func85, Tryz.ntmps85
  go_wp2
  go_step3
  rcases f5 with f3 | ⟨f3, f4⟩
  all_goals
    go_wp2
    go_step3
    go_wp2
    go_loopg [4, 27] s.size (fun g n i wr => ∃ k : Nat, k + g = s.size ∧ i = .int .i64 k ∧ n = .int .i64 (numN s k) ∧ Hid (∀ j, j < k → digB (byteAt s j) = true) ∧ w = wr)
    case atStart => exact ⟨0, by omega, rfl, rfl, hidp (by omega), rfl⟩
    case round =>
      clear hc0 f3
      obtain ⟨k, hk, rfl, rfl, Ho, rfl⟩ := hrel
      by_cases hlt : k < s.size
      · obtain ⟨c, hc⟩ : ∃ c : Int, (s[k].toNat : Int) = c := ⟨_, rfl⟩
        have Hc : Hid (byteAt s k = c) := hidp (by rw [byteAt_is s k hlt, hc])
        have bd := byte_bd s k
        rw [Hc.out] at bd
        obtain ⟨c1, c2⟩ := bd
        obtain ⟨x1, x2⟩ := numN_le s k (by omega) Ho.out
        have Hs : Hid (numN s (k + 1) = numN s k * 10 + (c - 48)) := hidp (by rw [← Hc.out]; rfl)
        obtain ⟨x, HX2⟩ : ∃ x, Hid (numN s k = x) := ⟨_, hidp rfl⟩
        rw [HX2.out] at x1 x2 Hs ⊢
        by_cases d : digB c = true
        · have hd : 48 ≤ c ∧ c ≤ 57 := by simpa [digB] using d
          have wu : IntKind.u8.wrap (c - 48) = c - 48 := IntWalk.u8_in _ (by omega)
          have wi : IntKind.i64.wrap (c - 48) = c - 48 := IntWalk.i64_in _ (by omega)
          have w1 : IntKind.i64.wrap (x * 10) = x * 10 := IntWalk.i64_in _ (by omega)
          have w2 : IntKind.i64.wrap (x * 10 + (c - 48)) = x * 10 + (c - 48) := IntWalk.i64_in _ (by omega)
          have Hn : Hid (∀ j, j < k + 1 → digB (byteAt s j) = true) := hidp (fun j hj => by
            by_cases e : j = k
            · subst e; rw [Hc.out]; exact d
            · exact Ho.out j (by omega))
          go_wp2_with (first | (go_at_call 76; (with_reducible refine (digit_any _ _).mono ?_); rintro e w' ⟨rfl, rfl⟩))
          go_roundg (gk - 1)
          case measure => omega
          case rel => exact ⟨k + 1, by omega, by go_num, by rw [Hs.out], Hn, rfl⟩
        · have d : digB c = false := by simpa using d
          have H := hidp (numOK_not hlt (by rw [Hc.out]; exact d))
          go_wp2_with (first | (go_at_call 76; (with_reducible refine (digit_any _ _).mono ?_); rintro e w' ⟨rfl, rfl⟩))
          try rw [Exit.noGoto_ret]
          go_ret2
          exact ⟨ret_num (numV_no H.out).symm H.out.symm, rfl⟩
      · have hks : k = s.size := by omega
        have H := hidp (numOK_all (s := s) ⟨by omega, by omega, HX.out⟩ (fun j hj => Ho.out j (by omega)))
        have HV : Hid (numV s = numN s k) := hidp (by unfold numV; rw [if_pos H.out, hks])
        clear hks
        go_wp2
        try rw [Exit.noGoto_ret]
        go_ret2
        exact ⟨ret_num HV.out.symm H.out.symm, rfl⟩
set_option maxHeartbeats 1000000 in
theorem rnum_any (s : ByteArray) (w : World) (hs : s.size ≤ maxLen) : Calls Tryz.prog 42 #[.string s] w fun e w' => e = .returned (.tuple #[.int .i64 (numV s), .bool (numOK s)]) ∧ w = w' := by
  unfold maxLen at hs
  by_cases h1 : s.size < 1
  · have H := hidp (numOK_len (s := s) (by omega))
    have f1 : decide ((s.size : Int) < 1) = true := by simp; omega
    go_enter Tryz.func42, Tryz.ntmps42
    go_wp2
    go_ret2
    exact ⟨ret_num (numV_no H.out).symm H.out.symm, rfl⟩
  by_cases h2 : 7 < s.size
  · have H := hidp (numOK_len (s := s) (by omega))
    have f1 : decide ((s.size : Int) < 1) = false := by simp; omega
    have f2 : decide ((7 : Int) < (s.size : Int)) = true := by simp; omega
    go_enter Tryz.func42, Tryz.ntmps42
    go_wp2
    go_ret2
    exact ⟨ret_num (numV_no H.out).symm H.out.symm, rfl⟩
  have f1 : decide ((s.size : Int) < 1) = false := by simp; omega
  have f2 : decide ((7 : Int) < (s.size : Int)) = false := by simp; omega
  have h0 : 0 < s.size := by omega
  obtain ⟨c0, hc0, Hc0, b0, b1⟩ := byte0 h0
  have HC0 := hidp Hc0
  clear Hc0
  by_cases h3 : c0 = 48 ∧ 1 < s.size
  · obtain ⟨e0, e1⟩ := h3
    have H := hidp (numOK_nought (s := s) (by rw [HC0.out]; exact e0) e1)
    have f3 : (c0 == 48) = true := by simpa using e0
    have f4 : decide ((1 : Int) < (s.size : Int)) = true := by simp; omega
    clear e0
    go_enter Tryz.func42, Tryz.ntmps42
    go_wp2
    go_ret2
    exact ⟨ret_num (numV_no H.out).symm H.out.symm, rfl⟩
  have HX := hidp (show ¬ (byteAt s 0 = 48 ∧ 1 < s.size) by rw [HC0.out]; exact h3)
  have f5 : (c0 == 48) = false ∨ ((c0 == 48) = true ∧ decide ((1 : Int) < (s.size : Int)) = false) := by
    by_cases e : c0 = 48
    · right; exact ⟨by simpa using e, by simp; omega⟩
    · left; simpa using e
  clear h3
  go_enter Tryz.func42, Tryz.ntmps42
  rcases f5 with f3 | ⟨f3, f4⟩
  all_goals
    go_wp2
    go_loopg [4, 5] s.size (fun g n i wr => ∃ k : Nat, k + g = s.size ∧ i = .int .i64 k ∧ n = .int .i64 (numN s k) ∧ Hid (∀ j, j < k → digB (byteAt s j) = true) ∧ w = wr)
    case atStart => exact ⟨0, by omega, rfl, rfl, hidp (by omega), rfl⟩
    case round =>
      clear hc0 f3
      obtain ⟨k, hk, rfl, rfl, Ho, rfl⟩ := hrel
      by_cases hlt : k < s.size
      · obtain ⟨c, hc⟩ : ∃ c : Int, (s[k].toNat : Int) = c := ⟨_, rfl⟩
        have Hc : Hid (byteAt s k = c) := hidp (by rw [byteAt_is s k hlt, hc])
        have bd := byte_bd s k
        rw [Hc.out] at bd
        obtain ⟨c1, c2⟩ := bd
        obtain ⟨x1, x2⟩ := numN_le s k (by omega) Ho.out
        have Hs : Hid (numN s (k + 1) = numN s k * 10 + (c - 48)) := hidp (by rw [← Hc.out]; rfl)
        obtain ⟨x, HX2⟩ : ∃ x, Hid (numN s k = x) := ⟨_, hidp rfl⟩
        rw [HX2.out] at x1 x2 Hs ⊢
        by_cases d1 : c < 48
        · have H := hidp (numOK_not hlt (by rw [Hc.out]; simp [digB]; omega))
          have g1 : decide (c < 48) = true := by simpa using d1
          go_wp2
          go_ret2
          exact ⟨ret_num (numV_no H.out).symm H.out.symm, rfl⟩
        by_cases d2 : 57 < c
        · have H := hidp (numOK_not hlt (by rw [Hc.out]; simp [digB]; omega))
          have g1 : decide (c < 48) = false := by simpa using d1
          have g2 : decide (57 < c) = true := by simpa using d2
          go_wp2
          go_ret2
          exact ⟨ret_num (numV_no H.out).symm H.out.symm, rfl⟩
        have g1 : decide (c < 48) = false := by simpa using d1
        have g2 : decide (57 < c) = false := by simpa using d2
        have wu : IntKind.u8.wrap (c - 48) = c - 48 := IntWalk.u8_in _ (by omega)
        have wi : IntKind.i64.wrap (c - 48) = c - 48 := IntWalk.i64_in _ (by omega)
        have w1 : IntKind.i64.wrap (10 * x) = 10 * x := IntWalk.i64_in _ (by omega)
        have w2 : IntKind.i64.wrap (10 * x + (c - 48)) = 10 * x + (c - 48) := IntWalk.i64_in _ (by omega)
        have Hn : Hid (∀ j, j < k + 1 → digB (byteAt s j) = true) := hidp (fun j hj => by
          by_cases e : j = k
          · subst e; rw [Hc.out]; simp [digB]; omega
          · exact Ho.out j (by omega))
        go_wp2
        go_roundg (gk - 1)
        case measure => omega
        case rel => exact ⟨k + 1, by omega, by go_num, by rw [Hs.out]; congr 1; omega, Hn, rfl⟩
      · have hks : k = s.size := by omega
        have H := hidp (numOK_all (s := s) ⟨by omega, by omega, HX.out⟩ (fun j hj => Ho.out j (by omega)))
        have HV : Hid (numV s = numN s k) := hidp (by unfold numV; rw [if_pos H.out, hks])
        clear hks
        go_wp2
        go_ret2
        exact ⟨ret_num HV.out.symm H.out.symm, rfl⟩
end Go.Proofs.YtlmliefkhidpnaaGreatDoor
