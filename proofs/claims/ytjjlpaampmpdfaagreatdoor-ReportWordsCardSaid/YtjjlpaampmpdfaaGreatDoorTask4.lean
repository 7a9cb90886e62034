/- task's frame: the first error of a set that is of no task. -/
import Derived.Test.YtjjlpaampmpdfaaGreatDoorTask3
import Derived.Deep.RegionHeld3
set_option linter.unusedSimpArgs false
namespace Go.Proofs.YtjjlpaampmpdfaaGreatDoor
open Go.ChangeShapes Go.WideShapes Go.ChangeAt Go.RowKit
set_option linter.unusedVariables false

/-- at block b lie the four cells of a set -/
def SetCells (w : World) (b : Nat) (s : SetR) : Prop :=
  w.cell? ⟨b, 0, none⟩ = some (.int .i64 s.proto) ∧ w.cell? ⟨b, 1, none⟩ = some (.slice s.ca s.cores.length s.cc) ∧ w.cell? ⟨b, 2, none⟩ = some (.slice s.ha s.homes.length s.hc) ∧ w.cell? ⟨b, 3, none⟩ = some (.slice s.ta s.tasks.length s.tc)
theorem SetCells.keep {w w' : World} {b : Nat} {s : SetR} (h : SetCells w b s) (k : Keeps w w') : SetCells w' b s := ⟨k _ _ h.1, k _ _ h.2.1, k _ _ h.2.2.1, k _ _ h.2.2.2⟩
theorem SetCells.mk {w : World} {b : Nat} {s : SetR} (h0 : w.cell? ⟨b, 0, none⟩ = some (.int .i64 s.proto)) (h1 : w.cell? ⟨b, 1, none⟩ = some (.slice s.ca s.cores.length s.cc)) (h2 : w.cell? ⟨b, 2, none⟩ = some (.slice s.ha s.homes.length s.hc)) (h3 : w.cell? ⟨b, 3, none⟩ = some (.slice s.ta s.tasks.length s.tc)) : SetCells w b s := ⟨h0, h1, h2, h3⟩
theorem SetCells.new (w : World) (s : SetR) (T : TypeId) : SetCells (w.alloc (.cells #[.int .i64 s.proto, .slice s.ca s.cores.length s.cc, .slice s.ha s.homes.length s.hc, .slice s.ta s.tasks.length s.tc] T)) w.heap.size s := by
  refine ⟨?_, ?_, ?_, ?_⟩ <;> simp
def frameV (s : SetR) : Int :=
  if inB s.proto 1 3 = false then 10 else
  if inB s.cores.length 1 3 = false then 16 else
  if allB s.cores 1 3 = false then 16 else
  if 4 < s.homes.length then 16 else
  if allB s.homes 0 ((s.cores.length : Int) - 1) = false then 16 else
  if 6 < s.tasks.length then 11 else
  if s.tasks.length = 0 then 14 else 0

set_option maxHeartbeats 1000000 in
theorem frame_any (s : SetR) (w : World) (hs : SetOk w s) : Calls Tryz.prog 35 #[.agg #[.int .i64 s.proto, .slice s.ca s.cores.length s.cc, .slice s.ha s.homes.length s.hc, .slice s.ta s.tasks.length s.tc]] w fun e w' => e = .returned (.int .i64 (frameV s)) ∧ Below w.heap.size w w' := by
  have l1 : s.cores.length ≤ maxLen := Nat.le_trans hs.cores.sl.2.1 hs.cores.sl.2.2
  have l2 : s.homes.length ≤ maxLen := Nat.le_trans hs.homes.sl.2.1 hs.homes.sl.2.2
  have l3 : s.tasks.length ≤ maxLen := Nat.le_trans hs.tasks.sl.2.1 hs.tasks.sl.2.2
  unfold maxLen at l1 l2 l3
  have CB := hidp (SetCells.new w s 25)
  have HB := hidp ((Below.refl w.heap.size w).alloc (Nat.le_refl _) (.cells #[.int .i64 s.proto, .slice s.ca s.cores.length s.cc, .slice s.ha s.homes.length s.hc, .slice s.ta s.tasks.length s.tc] 25))
  by_cases h0 : inB s.proto 1 3 = true
  · skip
    by_cases h1 : inB s.cores.length 1 3 = true
    · skip
      by_cases h2 : allB s.cores 1 3 = true
      · skip
        by_cases h3 : 4 < s.homes.length
        · skip
          have H : Hid (frameV s = 16) := hidp (by simp [frameV, h0, h1, h2, h3])
          obtain ⟨c0, c1, c2, c3⟩ := CB.out
          have hb := HB.out
          go_enter Tryz.func35, Tryz.ntmps35
          go_wp2_with (first | (go_at_call 37; (with_reducible refine (within_any _ _ _ _).mono ?_); rintro e w' ⟨rfl, rfl⟩) | (go_at_call 56; (first | (with_reducible refine (all_any _ _ _ 1 3 _ (hs.cores.keep (Keeps.of_below hb))).mono ?_) | (with_reducible refine (all_any _ _ _ 0 _ _ (hs.homes.keep (Keeps.of_below hb))).mono ?_)); rintro e w2 ⟨rfl, hb2⟩; replace hb := hb.trans (hb2.mono hb.size); have CB2 := (SetCells.mk c0 c1 c2 c3).keep (Keeps.of_below hb2); clear c0 c1 c2 c3 hb2; obtain ⟨c0, c1, c2, c3⟩ := CB2))
          go_ret
          exact ⟨ret_int H.out.symm, hb⟩
        · skip
          by_cases h4 : allB s.homes 0 ((s.cores.length : Int) - 1) = true
          · skip
            by_cases h5 : 6 < s.tasks.length
            · skip
              have H : Hid (frameV s = 11) := hidp (by simp [frameV, h0, h1, h2, h3, h4, h5])
              obtain ⟨c0, c1, c2, c3⟩ := CB.out
              have hb := HB.out
              go_enter Tryz.func35, Tryz.ntmps35
              go_wp2_with (first | (go_at_call 37; (with_reducible refine (within_any _ _ _ _).mono ?_); rintro e w' ⟨rfl, rfl⟩) | (go_at_call 56; (first | (with_reducible refine (all_any _ _ _ 1 3 _ (hs.cores.keep (Keeps.of_below hb))).mono ?_) | (with_reducible refine (all_any _ _ _ 0 _ _ (hs.homes.keep (Keeps.of_below hb))).mono ?_)); rintro e w2 ⟨rfl, hb2⟩; replace hb := hb.trans (hb2.mono hb.size); have CB2 := (SetCells.mk c0 c1 c2 c3).keep (Keeps.of_below hb2); clear c0 c1 c2 c3 hb2; obtain ⟨c0, c1, c2, c3⟩ := CB2))
              go_ret
              exact ⟨ret_int H.out.symm, hb⟩
            · skip
              by_cases h6 : s.tasks.length = 0
              · have z : ((s.tasks.length : Int) == 0) = true := by simp [h6]
                have H6 := hidp h6
                have H : Hid (frameV s = 14) := hidp (by simp [frameV, h0, h1, h2, h3, h4, h5, h6])
                clear h6
                obtain ⟨c0, c1, c2, c3⟩ := CB.out
                have hb := HB.out
                go_enter Tryz.func35, Tryz.ntmps35
                go_wp2_with (first | (go_at_call 37; (with_reducible refine (within_any _ _ _ _).mono ?_); rintro e w' ⟨rfl, rfl⟩) | (go_at_call 56; (first | (with_reducible refine (all_any _ _ _ 1 3 _ (hs.cores.keep (Keeps.of_below hb))).mono ?_) | (with_reducible refine (all_any _ _ _ 0 _ _ (hs.homes.keep (Keeps.of_below hb))).mono ?_)); rintro e w2 ⟨rfl, hb2⟩; replace hb := hb.trans (hb2.mono hb.size); have CB2 := (SetCells.mk c0 c1 c2 c3).keep (Keeps.of_below hb2); clear c0 c1 c2 c3 hb2; obtain ⟨c0, c1, c2, c3⟩ := CB2))
                go_ret
                exact ⟨ret_int H.out.symm, hb⟩
              · have z : ((s.tasks.length : Int) == 0) = false := by simp; intro e; exact h6 (by simp [e])
                have H : Hid (frameV s = 0) := hidp (by simp [frameV, h0, h1, h2, h3, h4, h5, h6])
                obtain ⟨c0, c1, c2, c3⟩ := CB.out
                have hb := HB.out
                go_enter Tryz.func35, Tryz.ntmps35
                go_wp2_with (first | (go_at_call 37; (with_reducible refine (within_any _ _ _ _).mono ?_); rintro e w' ⟨rfl, rfl⟩) | (go_at_call 56; (first | (with_reducible refine (all_any _ _ _ 1 3 _ (hs.cores.keep (Keeps.of_below hb))).mono ?_) | (with_reducible refine (all_any _ _ _ 0 _ _ (hs.homes.keep (Keeps.of_below hb))).mono ?_)); rintro e w2 ⟨rfl, hb2⟩; replace hb := hb.trans (hb2.mono hb.size); have CB2 := (SetCells.mk c0 c1 c2 c3).keep (Keeps.of_below hb2); clear c0 c1 c2 c3 hb2; obtain ⟨c0, c1, c2, c3⟩ := CB2))
                go_ret
                exact ⟨ret_int H.out.symm, hb⟩
          · have h4 : allB s.homes 0 ((s.cores.length : Int) - 1) = false := by simpa using h4
            have H : Hid (frameV s = 16) := hidp (by simp [frameV, h0, h1, h2, h3, h4])
            obtain ⟨c0, c1, c2, c3⟩ := CB.out
            have hb := HB.out
            go_enter Tryz.func35, Tryz.ntmps35
            go_wp2_with (first | (go_at_call 37; (with_reducible refine (within_any _ _ _ _).mono ?_); rintro e w' ⟨rfl, rfl⟩) | (go_at_call 56; (first | (with_reducible refine (all_any _ _ _ 1 3 _ (hs.cores.keep (Keeps.of_below hb))).mono ?_) | (with_reducible refine (all_any _ _ _ 0 _ _ (hs.homes.keep (Keeps.of_below hb))).mono ?_)); rintro e w2 ⟨rfl, hb2⟩; replace hb := hb.trans (hb2.mono hb.size); have CB2 := (SetCells.mk c0 c1 c2 c3).keep (Keeps.of_below hb2); clear c0 c1 c2 c3 hb2; obtain ⟨c0, c1, c2, c3⟩ := CB2))
            go_ret
            exact ⟨ret_int H.out.symm, hb⟩
      · have h2 : allB s.cores 1 3 = false := by simpa using h2
        have H : Hid (frameV s = 16) := hidp (by simp [frameV, h0, h1, h2])
        obtain ⟨c0, c1, c2, c3⟩ := CB.out
        have hb := HB.out
        go_enter Tryz.func35, Tryz.ntmps35
        go_wp2_with (first | (go_at_call 37; (with_reducible refine (within_any _ _ _ _).mono ?_); rintro e w' ⟨rfl, rfl⟩) | (go_at_call 56; (first | (with_reducible refine (all_any _ _ _ 1 3 _ (hs.cores.keep (Keeps.of_below hb))).mono ?_) | (with_reducible refine (all_any _ _ _ 0 _ _ (hs.homes.keep (Keeps.of_below hb))).mono ?_)); rintro e w2 ⟨rfl, hb2⟩; replace hb := hb.trans (hb2.mono hb.size); have CB2 := (SetCells.mk c0 c1 c2 c3).keep (Keeps.of_below hb2); clear c0 c1 c2 c3 hb2; obtain ⟨c0, c1, c2, c3⟩ := CB2))
        go_ret
        exact ⟨ret_int H.out.symm, hb⟩
    · have h1 : inB s.cores.length 1 3 = false := by simpa using h1
      have H : Hid (frameV s = 16) := hidp (by simp [frameV, h0, h1])
      obtain ⟨c0, c1, c2, c3⟩ := CB.out
      have hb := HB.out
      go_enter Tryz.func35, Tryz.ntmps35
      go_wp2_with (first | (go_at_call 37; (with_reducible refine (within_any _ _ _ _).mono ?_); rintro e w' ⟨rfl, rfl⟩) | (go_at_call 56; (first | (with_reducible refine (all_any _ _ _ 1 3 _ (hs.cores.keep (Keeps.of_below hb))).mono ?_) | (with_reducible refine (all_any _ _ _ 0 _ _ (hs.homes.keep (Keeps.of_below hb))).mono ?_)); rintro e w2 ⟨rfl, hb2⟩; replace hb := hb.trans (hb2.mono hb.size); have CB2 := (SetCells.mk c0 c1 c2 c3).keep (Keeps.of_below hb2); clear c0 c1 c2 c3 hb2; obtain ⟨c0, c1, c2, c3⟩ := CB2))
      go_ret
      exact ⟨ret_int H.out.symm, hb⟩
  · have h0 : inB s.proto 1 3 = false := by simpa using h0
    have H : Hid (frameV s = 10) := hidp (by simp [frameV, h0])
    obtain ⟨c0, c1, c2, c3⟩ := CB.out
    have hb := HB.out
    go_enter Tryz.func35, Tryz.ntmps35
    go_wp2_with (first | (go_at_call 37; (with_reducible refine (within_any _ _ _ _).mono ?_); rintro e w' ⟨rfl, rfl⟩) | (go_at_call 56; (first | (with_reducible refine (all_any _ _ _ 1 3 _ (hs.cores.keep (Keeps.of_below hb))).mono ?_) | (with_reducible refine (all_any _ _ _ 0 _ _ (hs.homes.keep (Keeps.of_below hb))).mono ?_)); rintro e w2 ⟨rfl, hb2⟩; replace hb := hb.trans (hb2.mono hb.size); have CB2 := (SetCells.mk c0 c1 c2 c3).keep (Keeps.of_below hb2); clear c0 c1 c2 c3 hb2; obtain ⟨c0, c1, c2, c3⟩ := CB2))
    go_ret
    exact ⟨ret_int H.out.symm, hb⟩
end Go.Proofs.YtjjlpaampmpdfaaGreatDoor
