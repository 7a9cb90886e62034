/- words.Name: whether a string may be a name. -/
import Derived.Test.YtjjlpaampmpdfaaGreatDoorRows2
import Derived.Deep.LoopGhost
import Derived.Deep.QuietTactic
import Derived.BigQuiet
namespace Go.Proofs.YtjjlpaampmpdfaaGreatDoor
open Go.ChangeShapes Go.WideShapes Go.ChangeAt Go.RowKit
set_option linter.unusedVariables false

/-- a byte of a name: a small letter, or, not the first, a digit -/
def okB (i : Nat) (c : Int) : Bool := decide (97 ≤ c ∧ c ≤ 122) || (decide (48 ≤ c ∧ c ≤ 57) && decide (0 < i))
def digB (c : Int) : Bool := decide (48 ≤ c) && decide (c ≤ 57)
def byteAt (s : ByteArray) (i : Nat) : Int := ((s.data.toList.getD i 0).toNat : Int)
def nameB (s : ByteArray) : Bool := decide (1 ≤ s.size ∧ s.size ≤ 8) && (List.range s.size).all fun i => okB i (byteAt s i)

theorem digit_any (c : Int) (w : World) : Calls Tryz.prog 76 #[.int .u8 c] w fun e w' => e = .returned (.bool (digB c)) ∧ w = w' := by
  by_cases h : 48 ≤ c
  · have H : Hid (digB c = decide (c ≤ 57)) := hidp (by simp [digB, h])
    go_enter Tryz.func76, Tryz.ntmps76
    go_wp2
    go_ret
    exact ⟨ret_bool H.out.symm, rfl⟩
  · have H : Hid (digB c = false) := hidp (by simp [digB, h])
    go_enter Tryz.func76, Tryz.ntmps76
    go_wp2
    go_ret
    exact ⟨ret_bool H.out.symm, rfl⟩

theorem byteAt_is (s : ByteArray) (k : Nat) (h : k < s.size) : byteAt s k = (s[k].toNat : Int) := by
  unfold byteAt
  have e : s.data.toList.getD k 0 = s[k] := by
    have hk : k < s.data.toList.length := by simpa using h
    rw [List.getD_eq_getElem?_getD, List.getElem?_eq_getElem hk]; rfl
  rw [e]
theorem nameB_long {s : ByteArray} (h : ¬ (1 ≤ s.size ∧ s.size ≤ 8)) : nameB s = false := by simp [nameB]; intro a b; exact absurd ⟨a, b⟩ h
theorem nameB_all {s : ByteArray} (h : 1 ≤ s.size ∧ s.size ≤ 8) (g : ∀ j, j < s.size → okB j (byteAt s j) = true) : nameB s = true := by
  simp [nameB, h]; exact g
theorem nameB_not {s : ByteArray} {k : Nat} (h : k < s.size) (g : okB k (byteAt s k) = false) : nameB s = false := by
  unfold nameB
  rw [Bool.and_eq_false_iff]
  right
  rw [List.all_eq_false]
  exact ⟨k, by simpa using h, by simp [g]⟩
theorem byte_bd (s : ByteArray) (k : Nat) : 0 ≤ byteAt s k ∧ byteAt s k ≤ 255 := by
  unfold byteAt; have := (s.data.toList.getD k 0).toNat_lt; omega

set_option maxHeartbeats 400000 in
theorem name_any (s : ByteArray) (w : World) (hs : s.size ≤ maxLen) : Calls Tryz.prog 57 #[.string s] w fun e w' => e = .returned (.bool (nameB s)) ∧ w = w' := by
  unfold maxLen at hs
  by_cases h1 : s.size < 1
  · have H := hidp (nameB_long (s := s) (by omega))
    go_enter Tryz.func57, Tryz.ntmps57
    go_wp2
    go_step3
    go_wp2
    try rw [Exit.noGoto_ret]
    go_ret
    exact ⟨ret_bool H.out.symm, rfl⟩
  · by_cases h2 : 8 < s.size
    · have H := hidp (nameB_long (s := s) (by omega))
      go_enter Tryz.func57, Tryz.ntmps57
      go_wp2
      go_step3
      go_wp2
      try rw [Exit.noGoto_ret]
      go_ret
      exact ⟨ret_bool H.out.symm, rfl⟩
    · go_enter Tryz.func57, Tryz.ntmps57
      go_wp2
      go_step3
      go_wp2
      go_step3
      go_wp2
      go_loopg [15] s.size (fun g i wr => ∃ k : Nat, k + g = s.size ∧ i = .int .i64 k ∧ Hid (∀ j, j < k → okB j (byteAt s j) = true) ∧ w = wr)
      case atStart => exact ⟨0, by omega, rfl, hidp (by omega), rfl⟩
      case round =>
        obtain ⟨k, hk, rfl, Ho, rfl⟩ := hrel
        by_cases hlt : k < s.size
        · obtain ⟨c, hc⟩ : ∃ c : Int, (s[k].toNat : Int) = c := ⟨_, rfl⟩
          have Hc : Hid (byteAt s k = c) := hidp (by rw [byteAt_is s k hlt, hc])
          have Hn : Hid (okB k c = true → ∀ j, j < k + 1 → okB j (byteAt s j) = true) := hidp (fun h j hj => by
            by_cases e : j = k
            · subst e; rw [Hc.out]; exact h
            · exact Ho.out j (by omega))
          have Hx : Hid (okB k c = false → nameB s = false) := hidp (fun h => nameB_not hlt (by rw [Hc.out]; exact h))
          have bd := byte_bd s k
          rw [Hc.out] at bd
          obtain ⟨b0, b1⟩ := bd
          by_cases g1 : 97 ≤ c ∧ c ≤ 122
          · obtain ⟨g1, g2⟩ := g1
            have Hy : Hid (okB k c = true) := hidp (by simp [okB, g1, g2])
            go_wp2
            go_roundg (gk - 1)
            case measure => omega
            case rel => exact ⟨k + 1, by omega, by go_num, hidp (Hn.out Hy.out), rfl⟩
          · have g3 : 97 ≤ c ∧ 122 < c ∨ c < 97 := by omega
            clear g1
            rcases g3 with ⟨g1, g2⟩ | g1
            · have d : digB c = false := by simp [digB]; omega
              have Hy : Hid (okB k c = false) := hidp (by simp [okB]; omega)
              go_wp2_with (first | (go_at_call 76; (with_reducible refine (digit_any _ _).mono ?_); rintro e w' ⟨rfl, rfl⟩))
              try rw [Exit.noGoto_ret]
              go_ret
              exact ⟨ret_bool (Hx.out Hy.out).symm, rfl⟩
            · by_cases d : digB c = true
              · have hd : 48 ≤ c ∧ c ≤ 57 := by simpa [digB] using d
                have Hd := hidp hd
                clear hd
                by_cases k0 : k = 0
                · subst k0
                  have Hy : Hid (okB 0 c = false) := hidp (by simp [okB]; omega)
                  go_wp2_with (first | (go_at_call 76; (with_reducible refine (digit_any _ _).mono ?_); rintro e w' ⟨rfl, rfl⟩))
                  try rw [Exit.noGoto_ret]
                  go_ret
                  exact ⟨ret_bool (Hx.out Hy.out).symm, rfl⟩
                · have kp : 0 < k := by omega
                  have Hy : Hid (okB k c = true) := hidp (by simp [okB, Hd.out.1, Hd.out.2, kp])
                  clear k0
                  go_wp2_with (first | (go_at_call 76; (with_reducible refine (digit_any _ _).mono ?_); rintro e w' ⟨rfl, rfl⟩))
                  go_roundg (gk - 1)
                  case measure => omega
                  case rel => exact ⟨k + 1, by omega, by go_num, hidp (Hn.out Hy.out), rfl⟩
              · have d : digB c = false := by simpa using d
                have Hy : Hid (okB k c = false) := hidp (by simp [okB]; simp [digB] at d; omega)
                go_wp2_with (first | (go_at_call 76; (with_reducible refine (digit_any _ _).mono ?_); rintro e w' ⟨rfl, rfl⟩))
                try rw [Exit.noGoto_ret]
                go_ret
                exact ⟨ret_bool (Hx.out Hy.out).symm, rfl⟩
        · have H := hidp (nameB_all (s := s) (by omega) (fun j hj => Ho.out j (by omega)))
          go_wp2
          try rw [Exit.noGoto_ret]
          go_ret
          exact ⟨ret_bool H.out.symm, rfl⟩
end Go.Proofs.YtjjlpaampmpdfaaGreatDoor
