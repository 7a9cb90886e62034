/- The document's Name. -/
import Derived.Test.YthokicikehemaaaDoorWordsName
namespace Go.Proofs.YthokicikehemaaaDoor
open Go.ChangeShapes Go.WideShapes Go.ChangeAt Go.RowKit
set_option linter.unusedVariables false
set_option maxHeartbeats 1000000 in
theorem rname_any (s : ByteArray) (w : World) (hs : s.size ≤ maxLen) : Calls Tryd.prog 17 #[.string s] w fun e w' => e = .returned (.bool (nameB s)) ∧ w = w' := by
  unfold maxLen at hs
  go_enter Tryd.func17, Tryd.ntmps17
  go_wp2
  go_loopg [3] s.size (fun g i wr => ∃ k : Nat, k + g = s.size ∧ i = .int .i64 k ∧ Hid (∀ j, j < k → okB j (byteAt s j) = true) ∧ w = wr)
  case atStart => exact ⟨0, by omega, rfl, hidp (by omega), rfl⟩
  case round =>
    obtain ⟨k, hk, rfl, Ho, rfl⟩ := hrel
    by_cases hlt : k < s.size
    · obtain ⟨c, hc⟩ : ∃ c : Int, (s[k].toNat : Int) = c := ⟨_, rfl⟩
      have Hc : Hid (byteAt s k = c) := hidp (by rw [byteAt_is s k hlt, hc])
      have Hn : Hid (okB k c = true → ∀ j, j < k + 1 → okB j (byteAt s j) = true) := hidp (fun h j hj => by
        by_cases e : j = k
        · subst e; rw [Hc.out]; exact h
        · exact Ho.out j (by omega))
      have Hx : Hid (okB k c = false → nameB s = false) := hidp (fun h => nameB_not hlt (by rw [Hc.out]; exact h))
      have bd := byte_bd s k
      rw [Hc.out] at bd
      obtain ⟨b0, b1⟩ := bd
      have hcase : (97 ≤ c ∧ c ≤ 122) ∨ (c < 97 ∧ c < 48) ∨ (c < 97 ∧ 57 < c) ∨ (122 < c ∧ 97 ≤ c ∧ 57 < c) ∨ (c < 97 ∧ 48 ≤ c ∧ c ≤ 57 ∧ k = 0) ∨ (c < 97 ∧ 48 ≤ c ∧ c ≤ 57 ∧ 0 < k) := by omega
      rcases hcase with ⟨g1, g2⟩ | ⟨g1, g2⟩ | ⟨g1, g2⟩ | ⟨g1, g2, g3⟩ | ⟨g1, g2, g3, g4⟩ | ⟨g1, g2, g3, g4⟩
      · have Hy : Hid (okB k c = true) := hidp (by simp [okB, g1, g2])
        go_wp2
        go_roundg (gk - 1)
        case measure => omega
        case rel => exact ⟨k + 1, by omega, by go_num, hidp (Hn.out Hy.out), rfl⟩
      · have Hy : Hid (okB k c = false) := hidp (by simp [okB]; omega)
        go_wp2
        go_ret
        exact ⟨ret_bool (Hx.out Hy.out).symm, rfl⟩
      · have Hy : Hid (okB k c = false) := hidp (by simp [okB]; omega)
        go_wp2
        go_ret
        exact ⟨ret_bool (Hx.out Hy.out).symm, rfl⟩
      · have Hy : Hid (okB k c = false) := hidp (by simp [okB]; omega)
        go_wp2
        go_ret
        exact ⟨ret_bool (Hx.out Hy.out).symm, rfl⟩
      · subst g4
        have Hy : Hid (okB 0 c = false) := hidp (by simp [okB]; omega)
        go_wp2
        go_ret
        exact ⟨ret_bool (Hx.out Hy.out).symm, rfl⟩
      · have Hy : Hid (okB k c = true) := hidp (by simp [okB, g2, g3, g4])
        have kb : ((k : Int) == 0) = false := by simp; omega
        go_wp2
        go_roundg (gk - 1)
        case measure => omega
        case rel => exact ⟨k + 1, by omega, by go_num, hidp (Hn.out Hy.out), rfl⟩
    · by_cases h1 : 1 ≤ s.size
      · by_cases h8 : s.size ≤ 8
        · have H := hidp (nameB_all (s := s) (by omega) (fun j hj => Ho.out j (by omega)))
          go_wp2
          go_ret
          exact ⟨ret_bool (by rw [H.out]; simp; try omega), rfl⟩
        · have H := hidp (nameB_long (s := s) (by omega))
          have h9 : decide (s.size ≤ 8) = false := by simpa using h8
          go_wp2
          go_ret
          exact ⟨ret_bool (by rw [H.out]; simp; try omega), rfl⟩
      · have H := hidp (nameB_long (s := s) (by omega))
        have h9 : decide (1 ≤ s.size) = false := by simpa using h1
        go_wp2
        go_ret
        exact ⟨ret_bool H.out.symm, rfl⟩
end Go.Proofs.YthokicikehemaaaDoor
