/- swingbridgeref7: places. -/
import Derived.Test.YtjjlpaampmpdfaaGreatDoorRef7a
namespace Go.Proofs.YtjjlpaampmpdfaaGreatDoor
open Go.ChangeShapes Go.WideShapes Go.ChangeAt Go.RowKit
set_option linter.unusedVariables false

def placesB (s : SetR) : Bool := inB s.cores.length 1 3 && (decide (s.homes.length ≤ 4) && (allB s.cores 1 3 && allB s.homes 0 ((s.cores.length : Int) - 1)))
theorem allB_not {zs : List Int} {lo hi : Int} {k : Nat} {n : Int} (hk : k < zs.length) (hn : zs.getD k 0 = n) (h : inB n lo hi = false) : allB zs lo hi = false := by
  unfold allB
  rw [List.all_eq_false]
  refine ⟨n, ?_, by simp [h]⟩
  rw [← hn]; simp [List.getD, hk]
theorem allB_all {zs : List Int} {lo hi : Int} (h : ∀ j, j < zs.length → inB (zs.getD j 0) lo hi = true) : allB zs lo hi = true := by
  unfold allB
  rw [List.all_eq_true]
  intro x hx
  obtain ⟨j, hj, rfl⟩ := List.mem_iff_getElem.1 hx
  have := h j hj
  simpa [List.getD, hj] using this
theorem inB_next {zs : List Int} {lo hi : Int} {k : Nat} {n : Int} (hn : zs.getD k 0 = n) (h : inB n lo hi = true) (g : ∀ j, j < k → inB (zs.getD j 0) lo hi = true) : ∀ j, j < k + 1 → inB (zs.getD j 0) lo hi = true := fun j hj => by
  by_cases e : j = k
  · subst e; rw [hn]; exact h
  · exact g j (by omega)

set_option maxHeartbeats 2000000 in
theorem places_any (s : SetR) (w : World) (hs : SetOk w s) : Calls Tryz.prog 29 #[.agg #[.int .i64 s.proto, .slice s.ca s.cores.length s.cc, .slice s.ha s.homes.length s.hc, .slice s.ta s.tasks.length s.tc]] w fun e w' => e = .returned (.bool (placesB s)) ∧ Below w.heap.size w w' := by
  have l1 : s.cores.length ≤ maxLen := Nat.le_trans hs.cores.sl.2.1 hs.cores.sl.2.2
  have l2 : s.homes.length ≤ maxLen := Nat.le_trans hs.homes.sl.2.1 hs.homes.sl.2.2
  unfold maxLen at l1 l2
  have SC := SetCells.new w s 25
  have hb := ((Below.refl w.heap.size w).alloc (Nat.le_refl _) (.cells #[.int .i64 s.proto, .slice s.ca s.cores.length s.cc, .slice s.ha s.homes.length s.hc, .slice s.ta s.tasks.length s.tc] 25))
  have RC := hidp hs.cores.at_
  have RH := hidp hs.homes.at_
  clear hs
  obtain ⟨proto, ca, cc, cores, ha, hc, homes, ta, tc, tasks⟩ := s
  dsimp only at RC RH l1 l2 hb ⊢
  have PB : ∀ b : Bool, (inB cores.length 1 3 && (decide (homes.length ≤ 4) && (allB cores 1 3 && allB homes 0 ((cores.length : Int) - 1)))) = b → placesB ⟨proto, ca, cc, cores, ha, hc, homes, ta, tc, tasks⟩ = b := fun b h => h
  have HB := hidp PB
  clear PB
  have hcase : ((cores.length : Int) < 1) ∨ (1 ≤ (cores.length : Int) ∧ 3 < (cores.length : Int)) ∨ (1 ≤ (cores.length : Int) ∧ (cores.length : Int) ≤ 3 ∧ 4 < (homes.length : Int)) ∨ (1 ≤ (cores.length : Int) ∧ (cores.length : Int) ≤ 3 ∧ (homes.length : Int) ≤ 4) := by omega
  rcases hcase with g | ⟨g, g1⟩ | ⟨g, g1, g2⟩ | ⟨g, g1, g2⟩
  · have H := hidp (HB.out false (by rw [show inB cores.length 1 3 = false from inB_false.2 (by omega)]; rfl))
    obtain ⟨c0, c1, c2, c3⟩ := SC
    go_enter Tryz.func29, Tryz.ntmps29
    go_wp2
    go_ret
    exact ⟨ret_bool H.out.symm, hb⟩
  · have H := hidp (HB.out false (by rw [show inB cores.length 1 3 = false from inB_false.2 (by omega)]; rfl))
    obtain ⟨c0, c1, c2, c3⟩ := SC
    go_enter Tryz.func29, Tryz.ntmps29
    go_wp2
    go_ret
    exact ⟨ret_bool H.out.symm, hb⟩
  · have H := hidp (HB.out false (by rw [show decide (homes.length ≤ 4) = false by simp; omega]; simp))
    obtain ⟨c0, c1, c2, c3⟩ := SC
    go_enter Tryz.func29, Tryz.ntmps29
    go_wp2
    go_ret
    exact ⟨ret_bool H.out.symm, hb⟩
  · have e1 : inB cores.length 1 3 = true := inB_true.2 ⟨g, g1⟩
    have e2 : decide (homes.length ≤ 4) = true := by simp; omega
    have E1 := hidp e1
    have E2 := hidp e2
    clear e1 e2
    have SC2 := SC
    obtain ⟨c0, c1, c2, c3⟩ := SC2
    go_enter Tryz.func29, Tryz.ntmps29
    go_wp2
    go_loopg [3] cores.length (fun gg i wr => ∃ k : Nat, k + gg = cores.length ∧ i = .int .i64 k ∧ Hid (∀ j, j < k → inB (cores.getD j 0) 1 3 = true) ∧ SetCells wr w.heap.size ⟨proto, ca, cc, cores, ha, hc, homes, ta, tc, tasks⟩ ∧ Below w.heap.size w wr)
    case atStart => exact ⟨0, by omega, rfl, hidp (by omega), SC, hb⟩
    case round =>
      obtain ⟨k, hk, rfl, Ho, sc, hw⟩ := hrel
      clear c0 c1 c2 c3
      have sc2 := sc
      obtain ⟨c0, c1, c2, c3⟩ := sc2
      dsimp only at c0 c1 c2 c3
      by_cases hlt : k < cores.length
      · obtain ⟨gg, off, hA, hcl⟩ := RC.out.resolve_left (by intro e; rw [e] at hlt; simp at hlt)
        subst hA
        obtain ⟨n, HN⟩ : ∃ n, Hid (cores.getD k 0 = n) := ⟨_, rfl⟩
        have cn := Keeps.of_below hw _ _ (HN.out ▸ hcl k hlt)
        clear hcl
        have hcase : n < 1 ∨ (1 ≤ n ∧ 3 < n) ∨ (1 ≤ n ∧ n ≤ 3) := by omega
        rcases hcase with h | ⟨h, h2⟩ | ⟨h, h2⟩
        · have H := hidp (HB.out false (by rw [allB_not hlt HN.out (inB_false.2 (by omega))]; simp))
          go_wp2
          go_ret
          exact ⟨ret_bool H.out.symm, hw⟩
        · have H := hidp (HB.out false (by rw [allB_not hlt HN.out (inB_false.2 (by omega))]; simp))
          go_wp2
          go_ret
          exact ⟨ret_bool H.out.symm, hw⟩
        · have Hn := hidp (inB_next HN.out (inB_true.2 ⟨h, h2⟩) Ho.out)
          go_wp2
          go_roundg (gk - 1)
          case measure => omega
          case rel => exact ⟨k + 1, by omega, by go_num, Hn, sc, hw⟩
      · have E3 : Hid (allB cores 1 3 = true) := hidp (allB_all (fun j hj => Ho.out j (by omega)))
        go_wp2
        obtain ⟨wo, rfl⟩ : ∃ wo : World, wo = wr := ⟨_, rfl⟩
        go_loopg [4] homes.length (fun gg i wr => ∃ k : Nat, k + gg = homes.length ∧ i = .int .i64 k ∧ Hid (∀ j, j < k → inB (homes.getD j 0) 0 ((cores.length : Int) - 1) = true) ∧ SetCells wr w.heap.size ⟨proto, ca, cc, cores, ha, hc, homes, ta, tc, tasks⟩ ∧ Below w.heap.size w wr)
        case atStart => exact ⟨0, by omega, rfl, hidp (by omega), sc, hw⟩
        case round =>
          obtain ⟨k, hk, rfl, Ho, sc, hw⟩ := hrel
          clear c0 c1 c2 c3
          have sc2 := sc
          obtain ⟨c0, c1, c2, c3⟩ := sc2
          dsimp only at c0 c1 c2 c3
          by_cases hlt : k < homes.length
          · obtain ⟨gg, off, hA, hcl⟩ := RH.out.resolve_left (by intro e; rw [e] at hlt; simp at hlt)
            subst hA
            obtain ⟨n, HN⟩ : ∃ n, Hid (homes.getD k 0 = n) := ⟨_, rfl⟩
            have cn := Keeps.of_below hw _ _ (HN.out ▸ hcl k hlt)
            clear hcl
            have hcase : n < 0 ∨ (0 ≤ n ∧ (cores.length : Int) ≤ n) ∨ (0 ≤ n ∧ n < (cores.length : Int)) := by omega
            rcases hcase with h | ⟨h, h2⟩ | ⟨h, h2⟩
            · have H := hidp (HB.out false (by rw [allB_not hlt HN.out (inB_false.2 (by omega))]; simp))
              have d : decide (n < 0) = true := by simpa using h
              go_wp2
              go_quiet (fail)
              go_wp2
              go_ret
              exact ⟨ret_bool H.out.symm, below_drewN hw _⟩
            · have H := hidp (HB.out false (by rw [allB_not hlt HN.out (inB_false.2 (by omega))]; simp))
              have d : decide (n < 0) = false := by simpa using h
              go_wp2
              go_quiet (fail)
              go_wp2
              go_ret
              exact ⟨ret_bool H.out.symm, below_drewN hw _⟩
            · have Hn := hidp (inB_next HN.out (inB_true.2 ⟨h, by omega⟩) Ho.out)
              have d : decide (n < 0) = false := by simpa using h
              go_wp2
              go_quiet (fail)
              go_wp2
              go_roundg (gk - 1)
              case measure => omega
              case rel => exact ⟨k + 1, by omega, by go_num, Hn, sc.keep (Keeps.drewN _ _), below_drewN hw _⟩
          · have E4 : Hid (allB homes 0 ((cores.length : Int) - 1) = true) := hidp (allB_all (fun j hj => Ho.out j (by omega)))
            have H := hidp (HB.out true (by rw [E1.out, E2.out, E3.out, E4.out]; rfl))
            go_wp2
            go_ret
            exact ⟨ret_bool H.out.symm, hw⟩
end Go.Proofs.YtjjlpaampmpdfaaGreatDoor
