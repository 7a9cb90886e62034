/- swingbridgeref7: Name, part, places. -/
import Derived.Test.YtjjlpaampmpdfaaGreatDoorTask5
namespace Go.Proofs.YtjjlpaampmpdfaaGreatDoor
open Go.ChangeShapes Go.WideShapes Go.ChangeAt Go.RowKit
set_option linter.unusedVariables false

set_option maxHeartbeats 1000000 in
theorem rname_any (s : ByteArray) (w : World) (hs : s.size ≤ maxLen) : Calls Tryz.prog 49 #[.string s] w fun e w' => e = .returned (.bool (nameB s)) ∧ w = w' := by
  unfold maxLen at hs
  go_enter Tryz.func49, Tryz.ntmps49
  go_wp2
  go_loopg [3] s.size (fun g i wr => ∃ k : Nat, k + g = s.size ∧ i = .int .i64 k ∧ Hid (∀ j, j < k → okB j (byteAt s j) = true) ∧ w = wr)
  case atStart => exact ⟨0, by omega, rfl, hidp (by omega), rfl⟩
  case round =>
    obtain ⟨k, hk, rfl, Ho, rfl⟩ := hrel
    by_cases hlt : k < s.size
    · obtain ⟨c, hc⟩ : ∃ c : Int, (s[k].toNat : Int) = c := ⟨_, rfl⟩
      have Hc : Hid (byteAt s k = c) := hidp (by rw [byteAt_is s k hlt, hc])
      have Hn : Hid (okB k c = true → ∀ j, j < k + 1 → okB j (byteAt s j) = true) := hidp (fun h j hj => by
        by_cases e : j = k
        · subst e; rw [Hc.out]; exact h
        · exact Ho.out j (by omega))
      have Hx : Hid (okB k c = false → nameB s = false) := hidp (fun h => nameB_not hlt (by rw [Hc.out]; exact h))
      have bd := byte_bd s k
      rw [Hc.out] at bd
      obtain ⟨b0, b1⟩ := bd
      have hcase : (97 ≤ c ∧ c ≤ 122) ∨ (c < 97 ∧ c < 48) ∨ (c < 97 ∧ 57 < c) ∨ (122 < c ∧ 97 ≤ c ∧ 57 < c) ∨ (c < 97 ∧ 48 ≤ c ∧ c ≤ 57 ∧ k = 0) ∨ (c < 97 ∧ 48 ≤ c ∧ c ≤ 57 ∧ 0 < k) := by omega
      rcases hcase with ⟨g1, g2⟩ | ⟨g1, g2⟩ | ⟨g1, g2⟩ | ⟨g1, g2, g3⟩ | ⟨g1, g2, g3, g4⟩ | ⟨g1, g2, g3, g4⟩
      · have Hy : Hid (okB k c = true) := hidp (by simp [okB, g1, g2])
        go_wp2
        go_roundg (gk - 1)
        case measure => omega
        case rel => exact ⟨k + 1, by omega, by go_num, hidp (Hn.out Hy.out), rfl⟩
      · have Hy : Hid (okB k c = false) := hidp (by simp [okB]; omega)
        go_wp2
        go_ret
        exact ⟨ret_bool (Hx.out Hy.out).symm, rfl⟩
      · have Hy : Hid (okB k c = false) := hidp (by simp [okB]; omega)
        go_wp2
        go_ret
        exact ⟨ret_bool (Hx.out Hy.out).symm, rfl⟩
      · have Hy : Hid (okB k c = false) := hidp (by simp [okB]; omega)
        go_wp2
        go_ret
        exact ⟨ret_bool (Hx.out Hy.out).symm, rfl⟩
      · subst g4
        have Hy : Hid (okB 0 c = false) := hidp (by simp [okB]; omega)
        go_wp2
        go_ret
        exact ⟨ret_bool (Hx.out Hy.out).symm, rfl⟩
      · have Hy : Hid (okB k c = true) := hidp (by simp [okB, g2, g3, g4])
        have kb : ((k : Int) == 0) = false := by simp; omega
        go_wp2
        go_roundg (gk - 1)
        case measure => omega
        case rel => exact ⟨k + 1, by omega, by go_num, hidp (Hn.out Hy.out), rfl⟩
    · by_cases h1 : 1 ≤ s.size
      · by_cases h8 : s.size ≤ 8
        · have H := hidp (nameB_all (s := s) (by omega) (fun j hj => Ho.out j (by omega)))
          go_wp2
          go_ret
          exact ⟨ret_bool (by rw [H.out]; simp; try omega), rfl⟩
        · have H := hidp (nameB_long (s := s) (by omega))
          have h9 : decide (s.size ≤ 8) = false := by simpa using h8
          go_wp2
          go_ret
          exact ⟨ret_bool (by rw [H.out]; simp; try omega), rfl⟩
      · have H := hidp (nameB_long (s := s) (by omega))
        have h9 : decide (1 ≤ s.size) = false := by simpa using h1
        go_wp2
        go_ret
        exact ⟨ret_bool H.out.symm, rfl⟩

/-- a set's box, read by the reference -/
theorem rpart_any (s : SetR) (p : PartM) (w : World) (l : s.homes.length ≤ maxLen) : Calls Tryz.prog 50 #[.agg #[.int .i64 s.proto, .slice s.ca s.cores.length s.cc, .slice s.ha s.homes.length s.hc, .slice s.ta s.tasks.length s.tc], .agg #[.int .i64 p.kind, .int .i64 p.len, .int .i64 p.res]] w fun e w' => e = .returned (.bool (partB p s.homes.length)) ∧ Below w.heap.size w w' := by
  unfold maxLen at l
  obtain ⟨kd, ln, rs⟩ := p
  have sc := ((SetCells.new w s 25).keep (Keeps.alloc _ (.cells #[.int .i64 kd, .int .i64 ln, .int .i64 rs] 38)))
  obtain ⟨c0, c1, c2, c3⟩ := sc
  have hb := ((Below.refl w.heap.size w).alloc (Nat.le_refl _) (.cells #[.int .i64 s.proto, .slice s.ca s.cores.length s.cc, .slice s.ha s.homes.length s.hc, .slice s.ta s.tasks.length s.tc] 25)).alloc (by simp) (.cells #[.int .i64 kd, .int .i64 ln, .int .i64 rs] 38)
  have hcase : (kd < 1) ∨ (1 ≤ kd ∧ 3 < kd) ∨ (1 ≤ kd ∧ kd ≤ 3 ∧ ln < 1) ∨ (1 ≤ kd ∧ kd ≤ 3 ∧ 1 ≤ ln ∧ 60 < ln) ∨ (1 ≤ kd ∧ kd ≤ 3 ∧ 1 ≤ ln ∧ ln ≤ 60) := by omega
  rcases hcase with g | ⟨g, g1⟩ | ⟨g, g1, g2⟩ | ⟨g, g1, g2, g3⟩ | ⟨g, g1, g2, g3⟩
  · have H : Hid (partB ⟨kd, ln, rs⟩ s.homes.length = false) := hidp (by unfold partB; dsimp only; rw [if_neg (by omega), if_neg (by omega)])
    go_enter Tryz.func50, Tryz.ntmps50
    go_wp2
    go_ret
    exact ⟨ret_bool H.out.symm, hb⟩
  · have H : Hid (partB ⟨kd, ln, rs⟩ s.homes.length = false) := hidp (by unfold partB; dsimp only; rw [if_neg (by omega), if_neg (by omega)])
    go_enter Tryz.func50, Tryz.ntmps50
    go_wp2
    go_ret
    exact ⟨ret_bool H.out.symm, hb⟩
  · have H : Hid (partB ⟨kd, ln, rs⟩ s.homes.length = false) := hidp (by
      have e : inB ln 1 60 = false := inB_false.2 (by omega)
      unfold partB; dsimp only; rw [e]; split; rfl; split <;> rfl)
    go_enter Tryz.func50, Tryz.ntmps50
    go_wp2
    go_ret
    exact ⟨ret_bool H.out.symm, hb⟩
  · have H : Hid (partB ⟨kd, ln, rs⟩ s.homes.length = false) := hidp (by
      have e : inB ln 1 60 = false := inB_false.2 (by omega)
      unfold partB; dsimp only; rw [e]; split; rfl; split <;> rfl)
    go_enter Tryz.func50, Tryz.ntmps50
    go_wp2
    go_ret
    exact ⟨ret_bool H.out.symm, hb⟩
  · have e : inB ln 1 60 = true := inB_true.2 ⟨g2, g3⟩
    by_cases k3 : kd = 3
    · subst k3
      have hc2 : (rs < 0) ∨ (0 ≤ rs ∧ (s.homes.length : Int) ≤ rs) ∨ (0 ≤ rs ∧ rs < (s.homes.length : Int)) := by omega
      rcases hc2 with h | ⟨h, h2⟩ | ⟨h, h2⟩
      · have H : Hid (partB ⟨3, ln, rs⟩ s.homes.length = false) := hidp (by
          have e2 : inB rs 0 ((s.homes.length : Int) - 1) = false := inB_false.2 (by omega)
          unfold partB; simp [e, e2])
        go_enter Tryz.func50, Tryz.ntmps50
        go_wp2
        go_ret
        exact ⟨ret_bool H.out.symm, hb⟩
      · have H : Hid (partB ⟨3, ln, rs⟩ s.homes.length = false) := hidp (by
          have e2 : inB rs 0 ((s.homes.length : Int) - 1) = false := inB_false.2 (by omega)
          unfold partB; simp [e, e2])
        go_enter Tryz.func50, Tryz.ntmps50
        go_wp2
        go_ret
        exact ⟨ret_bool (by rw [H.out]; simp; try omega), hb⟩
      · have H : Hid (partB ⟨3, ln, rs⟩ s.homes.length = true) := hidp (by
          have e2 : inB rs 0 ((s.homes.length : Int) - 1) = true := inB_true.2 (by omega)
          unfold partB; simp [e, e2])
        go_enter Tryz.func50, Tryz.ntmps50
        go_wp2
        go_ret
        exact ⟨ret_bool H.out.symm, hb⟩
    · have k4 : (kd == 3) = false := by simpa using k3
      have k5 : (kd != 3) = true := by simpa using k3
      have k6 : kd = 1 ∨ kd = 2 := by omega
      have H : Hid (partB ⟨kd, ln, rs⟩ s.homes.length = (rs == 0)) := hidp (by
        unfold partB; dsimp only; rw [if_neg k3, if_pos k6, e, Bool.true_and]
        by_cases z : rs = 0
        · subst z; decide
        · have : inB rs 0 0 = false := inB_false.2 (by omega)
          rw [this]; symm; simpa using z)
      clear k3 k6
      go_enter Tryz.func50, Tryz.ntmps50
      go_wp2
      go_ret
      exact ⟨ret_bool H.out.symm, hb⟩
end Go.Proofs.YtjjlpaampmpdfaaGreatDoor
