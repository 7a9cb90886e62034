/- turn: the library's swapRange and rotate, at rows of who runs. Printed by tools/turn/turn7.py. -/
import Derived.Test.YtonodmoklbmfkaaTurn3
import Derived.Test.YtonodmoklbmfkaaTurn6
namespace Go.Proofs.Ytonodmoklbmfkaa
open Go.ChangeShapes Go.WideShapes Go.ChangeAt Go.RowKit
set_option linter.unusedVariables false
set_option linter.unusedSimpArgs false
set_option maxHeartbeats 4000000 in
theorem swr_any (B : Nat) (g n c : Nat) (P X M Y Q : List WhoM) (w : World) (ho : OwnW B w (some ⟨g, 0, none⟩) n c (P ++ X ++ M ++ Y ++ Q)) (hxy : X.length = Y.length) (hn : n ≤ 1000) (a b k : Nat) (ha : a = P.length) (hb : b = P.length + X.length + M.length) (hk : k = X.length) :
    Calls Try.prog 18 #[.slice (some ⟨g, 0, none⟩) n c, .int .i64 a, .int .i64 b, .int .i64 k, .func (Fn.func 13) #[] #[]] w (InsPost w B g n c (P ++ Y ++ M ++ X ++ Q)) := by
  have HXY := hidp hxy
  have HA := hidp ha
  have HBb := hidp hb
  have HK := hidp hk
  have HN : Hid (n = P.length + X.length + M.length + Y.length + Q.length) := hidp (by have := ho.len; simp at this; omega)
  have Hn := hidp hn
  rw [← swR_zero] at ho
  obtain ⟨T, HT⟩ : ∃ T, Hid (P ++ Y ++ M ++ X ++ Q = T) := ⟨_, hidp rfl⟩
  rw [HT.out]
  clear hxy ha hb hk hn
  go_enter Try.func18, Try.ntmps18
  go_wp2
  go_loopg [10] k (fun gg i wr => ∃ m : Nat, i = .int .i64 m ∧ m + gg = k ∧ OwnW B wr (some ⟨g, 0, none⟩) n c (swR P X M Y Q m) ∧ Turned [g] w wr)
  case atStart => exact ⟨0, rfl, by omega, ho, Turned.refl _ _⟩
  case round =>
    clear ho
    obtain ⟨m, rfl, hmk, ho1, ht1⟩ := hrel
    by_cases hlt : m < k
    · obtain ⟨I, hI⟩ : ∃ I, I = a + m := ⟨_, rfl⟩
      obtain ⟨J, hJ⟩ : ∃ J, J = b + m := ⟨_, rfl⟩
      obtain ⟨e1, e2, e3⟩ := swR_next P X M Y Q (k := m) (i := I) (j := J) HXY.out (by have := HK.out; omega) (by have := HA.out; omega) (by have := HBb.out; omega)
      have hw1 : IntKind.i64.wrap ((a : Int) + (m : Int)) = (I : Int) := by rw [IntWalk.i64_in _ (by have := HA.out; have := HN.out; have := Hn.out; have := HK.out; omega)]; omega
      have hw2 : IntKind.i64.wrap ((b : Int) + (m : Int)) = (J : Int) := by rw [IntWalk.i64_in _ (by have := HBb.out; have := HN.out; have := Hn.out; have := HK.out; have := HXY.out; omega)]; omega
      have hw3 : IntKind.i64.wrap ((m : Int) + 1) = (m : Int) + 1 := IntWalk.i64_in _ (by have := HN.out; have := Hn.out; have := HK.out; omega)
      have hIn : I < n := by have := HA.out; have := HN.out; have := HK.out; omega
      have hJn : J < n := by have := HBb.out; have := HN.out; have := HK.out; have := HXY.out; omega
      have HI : I < (swR P X M Y Q m).length := by rw [← ho1.len]; exact hIn
      have HJ : J < (swR P X M Y Q m).length := by rw [← ho1.len]; exact hJn
      have hne : I ≠ J := by have := HA.out; have := HBb.out; have := HK.out; omega
      have HSW := hidp e3
      obtain ⟨x, hx⟩ : ∃ x, X.getD m default = x := ⟨_, rfl⟩
      obtain ⟨y, hy⟩ : ∃ y, Y.getD m default = y := ⟨_, rfl⟩
      rw [hx] at e1
      rw [hy] at e2
      have k0 : (0 : Int) ≤ (I : Int) := by omega
      have k1 : (I : Int) < (n : Int) := by omega
      have k2 : (0 : Int) ≤ (J : Int) := by omega
      have k3 : (J : Int) < (n : Int) := by omega
      have hmi : (m : Int) < (k : Int) := by omega
      clear hI hJ e3 hx hy
      have cx := ho1.at_ HI
      rw [e1] at cx
      have cy := ho1.at_ HJ
      rw [e2] at cy
      obtain ⟨x0, x1, x2⟩ := id cx
      obtain ⟨y0, y1, y2⟩ := id cy
      have f0 := ho1.free (I * 3)
      have f1 := ho1.free (I * 3 + 1)
      have f2 := ho1.free (I * 3 + 2)
      have f3 := ho1.free (J * 3)
      have f4 := ho1.free (J * 3 + 1)
      have f5 := ho1.free (J * 3 + 2)
      have ho2 := ho1.set HI y
      have ho3 := ho2.set (i := J) (by rw [List.length_set]; exact HJ) x
      have Hsw : Hid (((swR P X M Y Q m).set I y).set J x = swR P X M Y Q (m + 1)) := hidp (by have := HSW.out; unfold swp at this; rw [e1, e2] at this; exact this)
      have e9 : ((swR P X M Y Q m).set I y).getD J default = y := by
        simp only [List.getD, List.getElem?_set, hne, if_false] at e2 ⊢
        exact e2
      have cz := ho2.at_ (i := J) (by rw [List.length_set]; exact HJ)
      rw [e9] at cz
      have z0 : (((wr.setCell ⟨g, I * 3, none⟩ (.int .i64 y.task)).setCell ⟨g, I * 3 + 1, none⟩ (.int .i64 y.prio)).setCell ⟨g, I * 3 + 2, none⟩ (.int .i64 y.boost)).drew.cell? ⟨g, J * 3, none⟩ = some (.int .i64 y.task) := cz.1
      have z1 : (((wr.setCell ⟨g, I * 3, none⟩ (.int .i64 y.task)).setCell ⟨g, I * 3 + 1, none⟩ (.int .i64 y.prio)).setCell ⟨g, I * 3 + 2, none⟩ (.int .i64 y.boost)).drew.cell? ⟨g, J * 3 + 1, none⟩ = some (.int .i64 y.prio) := cz.2.1
      have z2 : (((wr.setCell ⟨g, I * 3, none⟩ (.int .i64 y.task)).setCell ⟨g, I * 3 + 1, none⟩ (.int .i64 y.prio)).setCell ⟨g, I * 3 + 2, none⟩ (.int .i64 y.boost)).drew.cell? ⟨g, J * 3 + 2, none⟩ = some (.int .i64 y.boost) := cz.2.2
      have g3 : (((wr.setCell ⟨g, I * 3, none⟩ (.int .i64 y.task)).setCell ⟨g, I * 3 + 1, none⟩ (.int .i64 y.prio)).setCell ⟨g, I * 3 + 2, none⟩ (.int .i64 y.boost)).drew.frozen? ⟨g, J * 3, none⟩ = false := ho2.free (J * 3)
      have g4 : (((wr.setCell ⟨g, I * 3, none⟩ (.int .i64 y.task)).setCell ⟨g, I * 3 + 1, none⟩ (.int .i64 y.prio)).setCell ⟨g, I * 3 + 2, none⟩ (.int .i64 y.boost)).drew.frozen? ⟨g, J * 3 + 1, none⟩ = false := ho2.free (J * 3 + 1)
      have g5 : (((wr.setCell ⟨g, I * 3, none⟩ (.int .i64 y.task)).setCell ⟨g, I * 3 + 1, none⟩ (.int .i64 y.prio)).setCell ⟨g, I * 3 + 2, none⟩ (.int .i64 y.boost)).drew.frozen? ⟨g, J * 3 + 2, none⟩ = false := ho2.free (J * 3 + 2)
      have n0 : ¬ I = J := hne
      have n1 : ¬ I * 3 + 1 = J * 3 := by omega
      have n2 : ¬ I * 3 + 2 = J * 3 := by omega
      have n3 : ¬ I * 3 = J * 3 + 1 := by omega
      have n4 : ¬ I * 3 = J * 3 + 2 := by omega
      have n5 : ¬ J = I := fun e => n0 e.symm
      have n6 : ¬ J * 3 + 1 = I * 3 := fun e => n3 e.symm
      have n7 : ¬ J * 3 + 2 = I * 3 := fun e => n4 e.symm
      have n8 : ¬ J * 3 = I * 3 + 1 := fun e => n1 e.symm
      have n9 : ¬ J * 3 = I * 3 + 2 := fun e => n2 e.symm
      have ho4 := ho3.turned (Turned.refl [] _).drew (by simp)
      rw [Hsw.out] at ho4
      have ht4 := ((ht1.trans (put3w_turned wr g (I * 3) y) (by simp)).trans (put3w_turned _ g (J * 3) x) (by simp)).drew
      clear e9 cz cx cy hne e1 e2 ho1 ho2 ho3 ht1 Hsw HSW
      go_wp2
      refine wp_region_held_drew (S := fun _ => True) (by kernel_rfl) trivial (fun hHeld => ?_)
      refine wpAnyH_take (i := 0) (v := ?_) rfl (by kernel_rfl) (by kernel_rfl) (by kernel_rfl) (fun _ _ _ h => h) (Or.inl ⟨by rfl, ?_⟩) (by assumption) ?_
      rotate_left 1
      · ((intro w hSw; (try dsimp only at hSw); go_simp); (try with_reducible rfl))
      simp only [Act.put, List.setIfInBounds_toArray, List.set_cons_zero, List.set_cons_succ, List.getElem_toArray, List.getElem_cons_zero, List.getElem_cons_succ]
      refine wpAnyH_take (i := 1) (v := ?_) rfl (by kernel_rfl) (by kernel_rfl) (by kernel_rfl) (fun _ _ _ h => h) (Or.inl ⟨by rfl, ?_⟩) (by assumption) ?_
      rotate_left 1
      · ((intro w hSw; (try dsimp only at hSw); go_simp); (try with_reducible rfl))
      simp only [Act.put, List.setIfInBounds_toArray, List.set_cons_zero, List.set_cons_succ, List.getElem_toArray, List.getElem_cons_zero, List.getElem_cons_succ]
      refine wpAnyH_take (i := 2) (v := ?_) rfl (by kernel_rfl) (by kernel_rfl) (by kernel_rfl) (fun _ _ _ h => h) (Or.inl ⟨by rfl, ?_⟩) (by assumption) ?_
      rotate_left 1
      · ((intro w hSw; (try dsimp only at hSw); go_simp); (try with_reducible rfl))
      simp only [Act.put, List.setIfInBounds_toArray, List.set_cons_zero, List.set_cons_succ, List.getElem_toArray, List.getElem_cons_zero, List.getElem_cons_succ]
      refine wpAnyH_take (i := 3) (v := ?_) rfl (by kernel_rfl) (by kernel_rfl) (by kernel_rfl) (fun _ _ _ h => h) (Or.inl ⟨by rfl, ?_⟩) (by assumption) ?_
      rotate_left 1
      · ((intro w hSw; (try dsimp only at hSw); go_simp); (try with_reducible rfl))
      simp only [Act.put, List.setIfInBounds_toArray, List.set_cons_zero, List.set_cons_succ, List.getElem_toArray, List.getElem_cons_zero, List.getElem_cons_succ]
      refine wpAnyH_take (i := 4) (v := ?_) rfl (by kernel_rfl) (by kernel_rfl) (by kernel_rfl) (fun _ _ _ h => h) (Or.inl ⟨by rfl, ?_⟩) (by assumption) ?_
      rotate_left 1
      · ((intro w hSw; (try dsimp only at hSw); go_simp); (try with_reducible rfl))
      simp only [Act.put, List.setIfInBounds_toArray, List.set_cons_zero, List.set_cons_succ, List.getElem_toArray, List.getElem_cons_zero, List.getElem_cons_succ]
      refine wpAnyH_take (i := 5) (v := ?_) rfl (by kernel_rfl) (by kernel_rfl) (by kernel_rfl) (fun _ _ _ h => h) (Or.inl ⟨by rfl, ?_⟩) (by assumption) ?_
      rotate_left 1
      · ((intro w hSw; (try dsimp only at hSw); go_simp); (try with_reducible rfl))
      simp only [Act.put, List.setIfInBounds_toArray, List.set_cons_zero, List.set_cons_succ, List.getElem_toArray, List.getElem_cons_zero, List.getElem_cons_succ]
      refine wpAnyH_take (i := 6) (v := ?_) rfl (by kernel_rfl) (by kernel_rfl) (by kernel_rfl) (fun _ _ _ h => h) (Or.inl ⟨by rfl, ?_⟩) (by assumption) ?_
      rotate_left 1
      · ((intro w hSw; (try dsimp only at hSw); go_simp); (try with_reducible rfl))
      simp only [Act.put, List.setIfInBounds_toArray, List.set_cons_zero, List.set_cons_succ, List.getElem_toArray, List.getElem_cons_zero, List.getElem_cons_succ]
      refine wpAnyH_take (i := 7) (v := ?_) rfl (by kernel_rfl) (by kernel_rfl) (by kernel_rfl) (fun _ _ _ h => h) (Or.inl ⟨by rfl, ?_⟩) (by assumption) ?_
      rotate_left 1
      · ((intro w hSw; (try dsimp only at hSw); go_simp); (try with_reducible rfl))
      simp only [Act.put, List.setIfInBounds_toArray, List.set_cons_zero, List.set_cons_succ, List.getElem_toArray, List.getElem_cons_zero, List.getElem_cons_succ]
      refine wpAnyH_take (i := 8) (v := ?_) rfl (by kernel_rfl) (by kernel_rfl) (by kernel_rfl) (fun _ _ _ h => h) (Or.inl ⟨by rfl, ?_⟩) (by assumption) ?_
      rotate_left 1
      · ((intro w hSw; (try dsimp only at hSw); go_simp); (try with_reducible rfl))
      simp only [Act.put, List.setIfInBounds_toArray, List.set_cons_zero, List.set_cons_succ, List.getElem_toArray, List.getElem_cons_zero, List.getElem_cons_succ]
      refine wpAnyH_take (i := 9) (v := ?_) rfl (by kernel_rfl) (by kernel_rfl) (by kernel_rfl) (fun _ _ _ h => h) (Or.inl ⟨by rfl, ?_⟩) (by assumption) ?_
      rotate_left 1
      · ((intro w hSw; (try dsimp only at hSw); go_simp); (try with_reducible rfl))
      simp only [Act.put, List.setIfInBounds_toArray, List.set_cons_zero, List.set_cons_succ, List.getElem_toArray, List.getElem_cons_zero, List.getElem_cons_succ]
      refine wpAnyH_take (i := 10) (v := ?_) rfl (by kernel_rfl) (by kernel_rfl) (by kernel_rfl) (fun _ _ _ h => h) (Or.inl ⟨by rfl, ?_⟩) (by assumption) ?_
      rotate_left 1
      · ((intro w hSw; (try dsimp only at hSw); go_simp); (try with_reducible rfl))
      simp only [Act.put, List.setIfInBounds_toArray, List.set_cons_zero, List.set_cons_succ, List.getElem_toArray, List.getElem_cons_zero, List.getElem_cons_succ]
      refine wpAnyH_take (i := 11) (v := ?_) rfl (by kernel_rfl) (by kernel_rfl) (by kernel_rfl) (fun _ _ _ h => h) (Or.inl ⟨by rfl, ?_⟩) (by assumption) ?_
      rotate_left 1
      · ((intro w hSw; (try dsimp only at hSw); go_simp); (try with_reducible rfl))
      simp only [Act.put, List.setIfInBounds_toArray, List.set_cons_zero, List.set_cons_succ, List.getElem_toArray, List.getElem_cons_zero, List.getElem_cons_succ]
      refine wpAnyH_take (i := 12) (v := ?_) rfl (by kernel_rfl) (by kernel_rfl) (by kernel_rfl) (fun _ _ _ h => h) (Or.inl ⟨by rfl, ?_⟩) (by assumption) ?_
      rotate_left 1
      · ((intro w hSw; (try dsimp only at hSw); go_simp); (try with_reducible rfl))
      simp only [Act.put, List.setIfInBounds_toArray, List.set_cons_zero, List.set_cons_succ, List.getElem_toArray, List.getElem_cons_zero, List.getElem_cons_succ]
      refine wpAnyH_take (i := 14) (v := ?_) rfl (by kernel_rfl) (by kernel_rfl) (by kernel_rfl) (fun _ _ _ h => h) (Or.inl ⟨by rfl, ?_⟩) (by assumption) ?_
      rotate_left 1
      · ((intro w hSw; (try dsimp only at hSw); go_simp); (try with_reducible rfl))
      simp only [Act.put, List.setIfInBounds_toArray, List.set_cons_zero, List.set_cons_succ, List.getElem_toArray, List.getElem_cons_zero, List.getElem_cons_succ]
      refine wpAnyH_take (i := 15) (v := ?_) rfl (by kernel_rfl) (by kernel_rfl) (by kernel_rfl) (fun _ _ _ h => h) (Or.inl ⟨by rfl, ?_⟩) (by assumption) ?_
      rotate_left 1
      · ((intro w hSw; (try dsimp only at hSw); go_simp); (try with_reducible rfl))
      simp only [Act.put, List.setIfInBounds_toArray, List.set_cons_zero, List.set_cons_succ, List.getElem_toArray, List.getElem_cons_zero, List.getElem_cons_succ]
      refine wpAnyH_take (i := 16) (v := ?_) rfl (by kernel_rfl) (by kernel_rfl) (by kernel_rfl) (fun _ _ _ h => h) (Or.inl ⟨by rfl, ?_⟩) (by assumption) ?_
      rotate_left 1
      · ((intro w hSw; (try dsimp only at hSw); go_simp); (try with_reducible rfl))
      simp only [Act.put, List.setIfInBounds_toArray, List.set_cons_zero, List.set_cons_succ, List.getElem_toArray, List.getElem_cons_zero, List.getElem_cons_succ]
      refine wpAnyH_take (i := 17) (v := ?_) rfl (by kernel_rfl) (by kernel_rfl) (by kernel_rfl) (fun _ _ _ h => h) (Or.inl ⟨by rfl, ?_⟩) (by assumption) ?_
      rotate_left 1
      · ((intro w hSw; (try dsimp only at hSw); go_simp); (try with_reducible rfl))
      simp only [Act.put, List.setIfInBounds_toArray, List.set_cons_zero, List.set_cons_succ, List.getElem_toArray, List.getElem_cons_zero, List.getElem_cons_succ]
      refine wpAnyH_take (i := 18) (v := ?_) rfl (by kernel_rfl) (by kernel_rfl) (by kernel_rfl) (fun _ _ _ h => h) (Or.inl ⟨by rfl, ?_⟩) (by assumption) ?_
      rotate_left 1
      · ((intro w hSw; (try dsimp only at hSw); go_simp); (try with_reducible rfl))
      simp only [Act.put, List.setIfInBounds_toArray, List.set_cons_zero, List.set_cons_succ, List.getElem_toArray, List.getElem_cons_zero, List.getElem_cons_succ]
      refine wpAnyH_ready (rs := [13, 19]) (by kernel_rfl) (by simp) ?_
      refine AllReadyH.cons rfl (fun K hK => ?_) (AllReadyH.cons rfl (fun K hK => ?_) AllReadyH.nil)
      go_simp
      refine hK.out _ _ trivial (fun hHeld => ?_)
      clear hK K
      try simp only [Act.put, List.setIfInBounds_toArray, List.set_cons_zero, List.set_cons_succ, List.getElem_toArray, List.getElem_cons_zero, List.getElem_cons_succ]
      refine wpAnyH_ready (rs := [19]) (by kernel_rfl) (by simp) ?_
      refine AllReadyH.cons rfl (fun K hK => ?_) AllReadyH.nil
      go_simp
      refine hK.out _ _ trivial (fun hHeld => ?_)
      clear hK K
      try simp only [Act.put, List.setIfInBounds_toArray, List.set_cons_zero, List.set_cons_succ, List.getElem_toArray, List.getElem_cons_zero, List.getElem_cons_succ]
      rotate_left 1
      go_simp
      refine hK.out _ _ trivial (fun hHeld => ?_)
      clear hK K
      try simp only [Act.put, List.setIfInBounds_toArray, List.set_cons_zero, List.set_cons_succ, List.getElem_toArray, List.getElem_cons_zero, List.getElem_cons_succ]
      refine wpAnyH_ready (rs := [13]) (by kernel_rfl) (by simp) ?_
      refine AllReadyH.cons rfl (fun K hK => ?_) AllReadyH.nil
      go_simp
      refine hK.out _ _ trivial (fun hHeld => ?_)
      clear hK K
      try simp only [Act.put, List.setIfInBounds_toArray, List.set_cons_zero, List.set_cons_succ, List.getElem_toArray, List.getElem_cons_zero, List.getElem_cons_succ]
      all_goals
        skip
        refine wpAnyH_take (i := 20) (v := ?_) rfl (by kernel_rfl) (by kernel_rfl) (by kernel_rfl) (fun _ _ _ h => h) (Or.inl ⟨by rfl, ?_⟩) (by assumption) ?_
        rotate_left 1
        · ((intro w hSw; (try dsimp only at hSw); go_simp); (try with_reducible rfl))
        simp only [Act.put, List.setIfInBounds_toArray, List.set_cons_zero, List.set_cons_succ, List.getElem_toArray, List.getElem_cons_zero, List.getElem_cons_succ]
        refine wpAnyH_ready (rs := [21]) (by kernel_rfl) (by simp) ?_
        refine AllReadyH.cons rfl (fun K hK => ?_) AllReadyH.nil
        go_simp
        refine hK.out _ _ trivial (fun hHeld => ?_)
        clear hK K
        try simp only [Act.put, List.setIfInBounds_toArray, List.set_cons_zero, List.set_cons_succ, List.getElem_toArray, List.getElem_cons_zero, List.getElem_cons_succ]
        refine wpAnyH_take (i := 22) (v := ?_) rfl (by kernel_rfl) (by kernel_rfl) (by kernel_rfl) (fun _ _ _ h => h) (Or.inl ⟨by rfl, ?_⟩) (by assumption) ?_
        rotate_left 1
        · ((intro w hSw; (try dsimp only at hSw); go_simp); (try with_reducible rfl))
        simp only [Act.put, List.setIfInBounds_toArray, List.set_cons_zero, List.set_cons_succ, List.getElem_toArray, List.getElem_cons_zero, List.getElem_cons_succ]
        refine wpAnyH_ready (rs := [23]) (by kernel_rfl) (by simp) ?_
        refine AllReadyH.cons rfl (fun K hK => ?_) AllReadyH.nil
        go_simp
        refine hK.out _ _ trivial (fun hHeld => ?_)
        clear hK K
        try simp only [Act.put, List.setIfInBounds_toArray, List.set_cons_zero, List.set_cons_succ, List.getElem_toArray, List.getElem_cons_zero, List.getElem_cons_succ]
        refine wpAnyH_done (by kernel_rfl) ?_ _
        go_wp2
        go_roundg (gk - 1)
        case measure => omega
        case rel => exact ⟨m + 1, by go_num, by omega, ho4, ht4⟩
    · obtain rfl : m = k := by omega
      have hmi : ¬ (m : Int) < (m : Int) := by omega
      rw [HK.out, swR_all P X M Y Q HXY.out, HT.out] at ho1
      go_wp2
      refine bodyPost_ret (v := .tuple #[]) (by simp [results, Try.results18, go_sem]) rfl ⟨rfl, ho1, ht1⟩
set_option maxHeartbeats 4000000 in
theorem rot_any (B : Nat) (g n c : Nat) (P X Y Q : List WhoM) (w : World) (ho : OwnW B w (some ⟨g, 0, none⟩) n c (P ++ X ++ Y ++ Q)) (hn : n ≤ 1000) (a m b : Nat) (ha : a = P.length) (hm : m = P.length + X.length) (hb : b = P.length + X.length + Y.length) (hx0 : 0 < X.length) (hy0 : 0 < Y.length) :
    Calls Try.prog 17 #[.slice (some ⟨g, 0, none⟩) n c, .int .i64 a, .int .i64 m, .int .i64 b, .func (Fn.func 13) #[] #[]] w (InsPost w B g n c (P ++ Y ++ X ++ Q)) := by
  have HN : Hid (n = P.length + X.length + Y.length + Q.length) := hidp (by have := ho.len; simp at this; omega)
  have hN := HN.out
  obtain ⟨T, HT⟩ : ∃ T, Hid (P ++ Y ++ X ++ Q = T) := ⟨_, hidp rfl⟩
  rw [HT.out]
  obtain ⟨i0, hi0⟩ : ∃ i, i = X.length := ⟨_, rfl⟩
  obtain ⟨j0, hj0⟩ : ∃ j, j = Y.length := ⟨_, rfl⟩
  have w1 : IntKind.i64.wrap ((m : Int) - (a : Int)) = (i0 : Int) := by rw [IntWalk.i64_in _ (by omega)]; omega
  have w2 : IntKind.i64.wrap ((b : Int) - (m : Int)) = (j0 : Int) := by rw [IntWalk.i64_in _ (by omega)]; omega
  have HS : Hid (i0 = X.length ∧ j0 = Y.length ∧ 0 < i0 ∧ 0 < j0 ∧ P.length + i0 = m ∧ m ≤ 1000) := hidp ⟨hi0, hj0, by omega, by omega, by omega, by omega⟩
  clear ha hm hb hi0 hj0 hx0 hy0 hN
  have Hn := hidp hn
  clear hn
  go_enter Try.func17, Try.ntmps17
  go_wp2
  go_loopg [10, 11] (i0 + j0) (fun gg u v wr => ∃ (P' X' Y' Q' : List WhoM) (i j : Nat), u = .int .i64 i ∧ v = .int .i64 j ∧ i + j = gg ∧ Hid (i = X'.length ∧ j = Y'.length ∧ 0 < i ∧ 0 < j ∧ P'.length + i = m ∧ m ≤ 1000) ∧ Hid (P' ++ Y' ++ X' ++ Q' = T) ∧ OwnW B wr (some ⟨g, 0, none⟩) n c (P' ++ X' ++ Y' ++ Q') ∧ Turned [g] w wr)
  case atStart => exact ⟨P, X, Y, Q, i0, j0, rfl, rfl, rfl, HS, HT, ho, Turned.refl _ _⟩
  case round =>
    clear ho HS
    obtain ⟨P', X', Y', Q', i, j, rfl, rfl, hgg, HS, HT1, ho1, ht1⟩ := hrel
    have HN1 : Hid (n = P'.length + X'.length + Y'.length + Q'.length) := hidp (by have := ho1.len; simp at this; omega)
    obtain ⟨h1, h2, h3, h4, h5, h6⟩ := HS.out
    have hN1 := HN1.out
    have hn := Hn.out
    obtain ⟨A', hA⟩ : ∃ A', A' = P'.length := ⟨_, rfl⟩
    have w3 : IntKind.i64.wrap ((m : Int) - (i : Int)) = (A' : Int) := by rw [IntWalk.i64_in _ (by omega)]; omega
    by_cases e : i = j
    · subst e
      have C := swr_any B g n c P' X' [] Y' Q' wr (by simpa using ho1) (by omega) hn A' m i hA (by simp; omega) h1
      rw [show P' ++ Y' ++ [] ++ X' ++ Q' = T by rw [← HT1.out]; simp] at C
      have HC := hidp C
      have Hgg := hidp hgg
      have hq : (i != i) = false := by simp
      clear C h1 h2 h3 h4 h5 h6 hN1 hn hA hgg w1 w2 ho1
      go_wp2_with fail
      refine HC.out.mono ?_
      rintro e w2 ⟨rfl, ho2, ht2⟩
      go_wp2_with fail
      refine bodyPost_ret (v := .tuple #[]) (by simp [results, Try.results17, go_sem]) rfl ⟨rfl, ho2, ht1.trans ht2 (by simp)⟩
    · have hq : ((i : Int) != (j : Int)) = true := by simp; omega
      by_cases e2 : j < i
      · have hlt : (j : Int) < (i : Int) := by omega
        have hX : X' = X'.take j ++ X'.drop j := (List.take_append_drop _ _).symm
        have l1 : (X'.take j).length = j := by rw [List.length_take]; omega
        have l2 : (X'.drop j).length = i - j := by rw [List.length_drop]; omega
        obtain ⟨X1, hX1⟩ : ∃ X1, X'.take j = X1 := ⟨_, rfl⟩
        obtain ⟨X2, hX2⟩ : ∃ X2, X'.drop j = X2 := ⟨_, rfl⟩
        rw [hX1] at l1 hX
        rw [hX2] at l2 hX
        subst hX
        have C := swr_any B g n c P' X1 X2 Y' Q' wr (by simpa using ho1) (by omega) hn A' m j hA (by simp at h1; omega) l1.symm
        obtain ⟨d, hd⟩ : ∃ d, d = i - j := ⟨_, rfl⟩
        have w4 : IntKind.i64.wrap ((i : Int) - (j : Int)) = (d : Int) := by rw [IntWalk.i64_in _ (by omega)]; omega
        have HS2 : Hid (d = X2.length ∧ j = X1.length ∧ 0 < d ∧ 0 < j ∧ (P' ++ Y').length + d = m ∧ m ≤ 1000) := hidp ⟨by omega, by omega, by omega, by omega, by simp; omega, h6⟩
        have HG : Hid (d + j < gk ∧ d + j = i) := hidp ⟨by omega, by omega⟩
        have HC := hidp C
        clear C h1 h2 h3 h4 h5 h6 hN1 hn hA hgg w1 w2 ho1 l1 l2 hX1 hX2 hd e e2
        go_wp2_with fail
        refine HC.out.mono ?_
        rintro e w2 ⟨rfl, ho2, ht2⟩
        go_wp2_with fail
        go_roundg (d + j)
        case measure => have := HG.out; omega
        case rel => exact ⟨P' ++ Y', X2, X1, Q', d, j, rfl, rfl, rfl, HS2, hidp (by rw [← HT1.out]; simp), ho2, ht1.trans ht2 (by simp)⟩
      · have hlt : ¬ (j : Int) < (i : Int) := by omega
        have hY : Y' = Y'.take (j - i) ++ Y'.drop (j - i) := (List.take_append_drop _ _).symm
        have l1 : (Y'.take (j - i)).length = j - i := by rw [List.length_take]; omega
        have l2 : (Y'.drop (j - i)).length = i := by rw [List.length_drop]; omega
        obtain ⟨Y1, hY1⟩ : ∃ Y1, Y'.take (j - i) = Y1 := ⟨_, rfl⟩
        obtain ⟨Y2, hY2⟩ : ∃ Y2, Y'.drop (j - i) = Y2 := ⟨_, rfl⟩
        rw [hY1] at l1 hY
        rw [hY2] at l2 hY
        subst hY
        obtain ⟨d, hd⟩ : ∃ d, d = j - i := ⟨_, rfl⟩
        obtain ⟨M', hM⟩ : ∃ M', M' = m + d := ⟨_, rfl⟩
        simp only [List.length_append] at h2 hN1
        have C := swr_any B g n c P' X' Y1 Y2 Q' wr (by simpa using ho1) (by omega) hn A' M' i hA (by omega) h1
        have w4 : IntKind.i64.wrap ((j : Int) - (i : Int)) = (d : Int) := by rw [IntWalk.i64_in _ (by omega)]; omega
        have w5 : IntKind.i64.wrap ((m : Int) + (j : Int)) = (m : Int) + (j : Int) := IntWalk.i64_in _ (by omega)
        have w6 : IntKind.i64.wrap ((m : Int) + (j : Int) - (i : Int)) = (M' : Int) := by rw [IntWalk.i64_in _ (by omega)]; omega
        have HS2 : Hid (i = Y2.length ∧ d = Y1.length ∧ 0 < i ∧ 0 < d ∧ P'.length + i = m ∧ m ≤ 1000) := hidp ⟨by omega, by omega, by omega, by omega, by omega, h6⟩
        have HG : Hid (i + d < gk) := hidp (by omega)
        have HC := hidp C
        clear C h1 h2 h3 h4 h5 h6 hN1 hn hA hgg w1 w2 ho1 l1 l2 hY1 hY2 hd hM e e2
        go_wp2_with fail
        refine HC.out.mono ?_
        rintro e w2 ⟨rfl, ho2, ht2⟩
        go_wp2_with fail
        go_roundg (i + d)
        case measure => have := HG.out; omega
        case rel => exact ⟨P', Y2, Y1, X' ++ Q', i, d, rfl, rfl, rfl, HS2, hidp (by rw [← HT1.out]; simp), by simpa using ho2, ht1.trans ht2 (by simp)⟩
end Go.Proofs.Ytonodmoklbmfkaa
