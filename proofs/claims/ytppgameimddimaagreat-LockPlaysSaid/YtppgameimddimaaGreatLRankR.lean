/- rank: rise. -/
import Derived.Test.YtppgameimddimaaGreatLRankQ
import Derived.Test.YtppgameimddimaaGreatRegD
namespace Go.Proofs.YtppgameimddimaaGreat
open Go.ChangeShapes Go.WideShapes Go.ChangeAt Go.RowKit
set_option linter.unusedVariables false
set_option linter.unusedSimpArgs false
set_option maxHeartbeats 4000000 in
set_option maxRecDepth 100000 in
theorem rise_any {w : World} {b ofs : Nat} {KT : TypeId} {kcs : Array Value} {R P : Int} {l : List EntM} {A : Option Addr} {c : Nat} (h : Rk w b ofs KT kcs R P l A c) (k : Nat) (hk : k < l.length) (hl : l.length ≤ 64) : Calls Tryz.prog 59 #[.pointer (some ⟨b, ofs, none⟩), .int .i64 k] w fun e w' => e = .returned (.tuple #[]) ∧ Rk w' b ofs KT kcs R P (riseL l k) A c ∧ Turned (fp A) w w' := by
  obtain ⟨g, rfl, _, _⟩ := h.own.at_ (by omega)
  obtain ⟨V, HV⟩ : ∃ V, Hid (riseL l k = V) := ⟨_, hidp rfl⟩
  rw [HV.out]
  have H := hidp h
  have HT0 : Hid (Turned (fp (some ⟨g, 0, none⟩)) w w) := hidp (Turned.refl _ w)
  clear h
  go_enter Tryz.func59, Tryz.ntmps59
  go_wp2_with fail
  try go_step3
  go_wp2_with fail
  try go_step3
  go_wp2_with fail
  go_loopg [1, 4, 8] k (fun gg a u t wr => ∃ (k' : Nat) (l' : List EntM), a = .int .i64 k' ∧ gg = k' ∧ k' < l'.length ∧ Hid (l'.length = l.length) ∧ Hid (riseL l' k' = V) ∧ Hid (Rk wr b ofs KT kcs R P l' (some ⟨g, 0, none⟩) c) ∧ Hid (Turned (fp (some ⟨g, 0, none⟩)) w wr))
  case atStart => exact ⟨k, l, rfl, rfl, hk, hidp rfl, HV, H, HT0⟩
  case round =>
    obtain ⟨k', l', rfl, hg, hk', Hll, Hv, HR, HT⟩ := hrel
    have hl2 : l'.length ≤ 64 := by rw [Hll.out]; exact hl
    clear HV H HT0 hk
    by_cases h0 : k' = 0
    · have Hz : Hid (l' = V) := hidp (by have := Hv.out; rw [h0, riseL] at this; simpa using this)
      subst h0
      go_wp2_with fail
      rw [Exit.noGoto_normal]
      go_end0
      refine ⟨rfl, ?_, HT.out⟩
      rw [← Hz.out]; exact HR.out
    · obtain ⟨m, hm⟩ : ∃ m : Nat, k' = m + 1 := ⟨k' - 1, by omega⟩
      obtain ⟨u, hu⟩ : ∃ u : Nat, (m : Int) / 2 = u := ⟨m / 2, by omega⟩
      have huk : u < k' := by omega
      have hul : u < l'.length := by omega
      have hue : (k' - 1) / 2 = u := by omega
      have wk : IntKind.i64.wrap ((k' : Int) - 1) = (m : Int) := by rw [show (k' : Int) - 1 = (m : Int) by omega]; exact IntWalk.i64_in _ (by omega)
      have wk2 : IntKind.i64.wrap (u : Int) = (u : Int) := IntWalk.i64_in _ (by omega)
      have e0 : ((k' : Int) == 0) = false := by simp; omega
      have du : decide (l'.length ≤ u) = false := by simp; omega
      have dk : decide (l'.length ≤ k') = false := by simp; omega
      have iu : (u : Int) < (l'.length : Int) := by omega
      have ik : (k' : Int) < (l'.length : Int) := by omega
      obtain ⟨x, Hx⟩ : ∃ x, Hid (l'.getD u default = x) := ⟨_, hidp rfl⟩
      obtain ⟨y, Hy⟩ : ∃ y, Hid (l'.getD k' default = y) := ⟨_, hidp rfl⟩
      have HV2 : Hid (V = if lessE x y = true then l' else riseL ((l'.set u y).set k' x) u) := hidp (by
        rw [← Hv.out, riseL, dif_neg h0, hue, Hx.out, Hy.out]; unfold swapE; rw [Hx.out, Hy.out])
      obtain ⟨O, HO⟩ : ∃ O, Hid (ordV x y = O) := ⟨_, hidp rfl⟩
      have hO : Hid (O < 0 ↔ lessE x y = true) := hidp (by rw [← HO.out]; exact ordV_neg x y)
      have Cx := HR.out.own.cells hul
      have Cy := HR.out.own.cells hk'
      rw [Hx.out] at Cx
      rw [Hy.out] at Cy
      have ch : wr.cell? ⟨b, ofs + 2, none⟩ = some (.slice (some ⟨g, 0, none⟩) l'.length c) := HR.out.cell2
      have Hm := hidp hm
      clear hm h0 Hv hue
      obtain ⟨xk, xt, xi⟩ := x
      obtain ⟨yk, yt, yi⟩ := y
      dsimp only at Cx Cy
      go_upto_region 2 with fail
      refine wp_region_held_drew (S := fun w' => w'.cell? ⟨b, ofs + 2, none⟩ = some (.slice (some ⟨g, 0, none⟩) l'.length c) ∧ w'.cell? ⟨g, u * 3, none⟩ = some (.int .i64 xk) ∧ w'.cell? ⟨g, u * 3 + 1, none⟩ = some (.int .i64 xt) ∧ w'.cell? ⟨g, u * 3 + 2, none⟩ = some (.int .i64 xi) ∧ w'.cell? ⟨g, k' * 3, none⟩ = some (.int .i64 yk) ∧ w'.cell? ⟨g, k' * 3 + 1, none⟩ = some (.int .i64 yt) ∧ w'.cell? ⟨g, k' * 3 + 2, none⟩ = some (.int .i64 yi)) (by kernel_rfl) ?_ (fun hHeld => ?_)
      · exact ⟨ch, Cx.1, Cx.2.1, Cx.2.2, Cy.1, Cy.2.1, Cy.2.2⟩
      obtain ⟨v, hv⟩ : ∃ v, wr.drew = v := ⟨_, rfl⟩
      replace HR := hidp (HR.out.drewN 1)
      replace HT := hidp (HT.out.drewN 1)
      change Hid (Rk wr.drew _ _ _ _ _ _ _ _ _) at HR
      change Hid (Turned _ _ wr.drew) at HT
      rw [hv] at HR HT hHeld ⊢
      clear hv ch Cx Cy
      refine wpAnyH_take (i := 0) (v := ?_) rfl (by kernel_rfl) (by kernel_rfl) (by kernel_rfl) (fun _ _ _ h => h) (Or.inl ⟨by rfl, ?_⟩) (by assumption) ?_
      rotate_left 1
      · ((intro w hSw; (try dsimp only at hSw); go_simp); (try with_reducible rfl))
      simp only [Act.put, List.setIfInBounds_toArray, List.set_cons_zero, List.set_cons_succ, List.getElem_toArray, List.getElem_cons_zero, List.getElem_cons_succ]
      refine wpAnyH_take (i := 1) (v := ?_) rfl (by kernel_rfl) (by kernel_rfl) (by kernel_rfl) (fun _ _ _ h => h) (Or.inl ⟨by rfl, ?_⟩) (by assumption) ?_
      rotate_left 1
      · ((intro w hSw; (try dsimp only at hSw); go_simp); (try with_reducible rfl))
      simp only [Act.put, List.setIfInBounds_toArray, List.set_cons_zero, List.set_cons_succ, List.getElem_toArray, List.getElem_cons_zero, List.getElem_cons_succ]
      refine wpAnyH_take (i := 2) (v := ?_) rfl (by kernel_rfl) (by kernel_rfl) (by kernel_rfl) (fun _ _ _ h => h) (Or.inl ⟨by rfl, ?_⟩) (by assumption) ?_
      rotate_left 1
      · ((intro w hSw; (try dsimp only at hSw); go_simp); (try with_reducible rfl))
      simp only [Act.put, List.setIfInBounds_toArray, List.set_cons_zero, List.set_cons_succ, List.getElem_toArray, List.getElem_cons_zero, List.getElem_cons_succ]
      refine wpAnyH_take (i := 3) (v := ?_) rfl (by kernel_rfl) (by kernel_rfl) (by kernel_rfl) (fun _ _ _ h => h) (Or.inl ⟨by rfl, ?_⟩) (by assumption) ?_
      rotate_left 1
      · ((intro w hSw; (try dsimp only at hSw); go_simp); (try with_reducible rfl))
      simp only [Act.put, List.setIfInBounds_toArray, List.set_cons_zero, List.set_cons_succ, List.getElem_toArray, List.getElem_cons_zero, List.getElem_cons_succ]
      refine wpAnyH_take (i := 4) (v := ?_) rfl (by kernel_rfl) (by kernel_rfl) (by kernel_rfl) (fun _ _ _ h => h) (Or.inl ⟨by rfl, ?_⟩) (by assumption) ?_
      rotate_left 1
      · ((intro w hSw; (try dsimp only at hSw); go_simp); (try with_reducible rfl))
      simp only [Act.put, List.setIfInBounds_toArray, List.set_cons_zero, List.set_cons_succ, List.getElem_toArray, List.getElem_cons_zero, List.getElem_cons_succ]
      refine wpAnyH_take (i := 5) (v := ?_) rfl (by kernel_rfl) (by kernel_rfl) (by kernel_rfl) (fun _ _ _ h => h) (Or.inl ⟨by rfl, ?_⟩) (by assumption) ?_
      rotate_left 1
      · ((intro w hSw; (try dsimp only at hSw); go_simp); (try with_reducible rfl))
      simp only [Act.put, List.setIfInBounds_toArray, List.set_cons_zero, List.set_cons_succ, List.getElem_toArray, List.getElem_cons_zero, List.getElem_cons_succ]
      refine wpAnyH_take (i := 6) (v := ?_) rfl (by kernel_rfl) (by kernel_rfl) (by kernel_rfl) (fun _ _ _ h => h) (Or.inl ⟨by rfl, ?_⟩) (by assumption) ?_
      rotate_left 1
      · ((intro w hSw; (try dsimp only at hSw); go_simp); (try with_reducible rfl))
      simp only [Act.put, List.setIfInBounds_toArray, List.set_cons_zero, List.set_cons_succ, List.getElem_toArray, List.getElem_cons_zero, List.getElem_cons_succ]
      refine wpAnyH_take (i := 7) (v := ?_) rfl (by kernel_rfl) (by kernel_rfl) (by kernel_rfl) (fun _ _ _ h => h) (Or.inl ⟨by rfl, ?_⟩) (by assumption) ?_
      rotate_left 1
      · ((intro w hSw; (try dsimp only at hSw); go_simp); (try with_reducible rfl))
      simp only [Act.put, List.setIfInBounds_toArray, List.set_cons_zero, List.set_cons_succ, List.getElem_toArray, List.getElem_cons_zero, List.getElem_cons_succ]
      refine wpAnyH_take (i := 8) (v := ?_) rfl (by kernel_rfl) (by kernel_rfl) (by kernel_rfl) (fun _ _ _ h => h) (Or.inl ⟨by rfl, ?_⟩) (by assumption) ?_
      rotate_left 1
      · ((intro w hSw; (try dsimp only at hSw); go_simp); (try with_reducible rfl))
      simp only [Act.put, List.setIfInBounds_toArray, List.set_cons_zero, List.set_cons_succ, List.getElem_toArray, List.getElem_cons_zero, List.getElem_cons_succ]
      refine wpAnyH_take (i := 9) (v := ?_) rfl (by kernel_rfl) (by kernel_rfl) (by kernel_rfl) (fun _ _ _ h => h) (Or.inl ⟨by rfl, ?_⟩) (by assumption) ?_
      rotate_left 1
      · ((intro w hSw; (try dsimp only at hSw); go_simp); (try with_reducible rfl))
      simp only [Act.put, List.setIfInBounds_toArray, List.set_cons_zero, List.set_cons_succ, List.getElem_toArray, List.getElem_cons_zero, List.getElem_cons_succ]
      refine wpAnyH_take (i := 10) (v := ?_) rfl (by kernel_rfl) (by kernel_rfl) (by kernel_rfl) (fun _ _ _ h => h) (Or.inl ⟨by rfl, ?_⟩) (by assumption) ?_
      rotate_left 1
      · ((intro w hSw; (try dsimp only at hSw); go_simp); (try with_reducible rfl))
      simp only [Act.put, List.setIfInBounds_toArray, List.set_cons_zero, List.set_cons_succ, List.getElem_toArray, List.getElem_cons_zero, List.getElem_cons_succ]
      refine wpAnyH_take (i := 11) (v := ?_) rfl (by kernel_rfl) (by kernel_rfl) (by kernel_rfl) (fun _ _ _ h => h) (Or.inl ⟨by rfl, ?_⟩) (by assumption) ?_
      rotate_left 1
      · ((intro w hSw; (try dsimp only at hSw); go_simp); (try with_reducible rfl))
      simp only [Act.put, List.setIfInBounds_toArray, List.set_cons_zero, List.set_cons_succ, List.getElem_toArray, List.getElem_cons_zero, List.getElem_cons_succ]
      refine wpAnyH_take (i := 12) (v := ?_) rfl (by kernel_rfl) (by kernel_rfl) (by kernel_rfl) (fun _ _ _ h => h) (Or.inl ⟨by rfl, ?_⟩) (by assumption) ?_
      rotate_left 1
      · ((intro w hSw; (try dsimp only at hSw); go_simp); (try with_reducible rfl))
      simp only [Act.put, List.setIfInBounds_toArray, List.set_cons_zero, List.set_cons_succ, List.getElem_toArray, List.getElem_cons_zero, List.getElem_cons_succ]
      refine wpAnyH_take (i := 13) (v := ?_) rfl (by kernel_rfl) (by kernel_rfl) (by kernel_rfl) (fun _ _ _ h => h) (Or.inl ⟨by rfl, ?_⟩) (by assumption) ?_
      rotate_left 1
      · ((intro w hSw; (try dsimp only at hSw); go_simp); (try with_reducible rfl))
      simp only [Act.put, List.setIfInBounds_toArray, List.set_cons_zero, List.set_cons_succ, List.getElem_toArray, List.getElem_cons_zero, List.getElem_cons_succ]
      refine wpAnyH_ready (rs := [14]) (by kernel_rfl) (by simp) ?_
      refine AllReadyH.cons rfl (fun K hK => ?_) AllReadyH.nil
      go_simp
      refine (order_any ⟨xk, xt, xi⟩ ⟨yk, yt, yi⟩ _).mono ?_
      rintro e v2 ⟨rfl, hb2⟩
      rw [HO.out]
      replace HR := hidp (HR.out.turned (Turned.of_below hb2 []) (by simp) (by simp))
      replace HT := hidp (HT.out.trans (Turned.of_below hb2 []) (by simp))
      have Cx := HR.out.own.cells hul
      have Cy := HR.out.own.cells hk'
      rw [Hx.out] at Cx
      rw [Hy.out] at Cy
      have ch : v2.cell? ⟨b, ofs + 2, none⟩ = some (.slice (some ⟨g, 0, none⟩) l'.length c) := HR.out.cell2
      dsimp only at Cx Cy
      clear hHeld hb2
      go_wp2_with fail
      refine hK.out _ _ ?_ (fun hHeld => ?_)
      · exact ⟨ch, Cx.1, Cx.2.1, Cx.2.2, Cy.1, Cy.2.1, Cy.2.2⟩
      clear hK K
      try simp only [Act.put, List.setIfInBounds_toArray, List.set_cons_zero, List.set_cons_succ, List.getElem_toArray, List.getElem_cons_zero, List.getElem_cons_succ]
      by_cases hO0 : O < 0
      · have f1 : decide (O < 0) = true := by simpa using hO0
        have Hz : Hid (l' = V) := hidp (by rw [HV2.out, if_pos (hO.out.1 hO0)])
        refine wpAnyH_take (i := 15) (v := ?_) rfl (by kernel_rfl) (by kernel_rfl) (by kernel_rfl) (fun _ _ _ h => h) (Or.inl ⟨by rfl, ?_⟩) (by assumption) ?_
        rotate_left 1
        · ((intro w hSw; (try dsimp only at hSw); go_simp); (try with_reducible rfl))
        simp only [Act.put, List.setIfInBounds_toArray, List.set_cons_zero, List.set_cons_succ, List.getElem_toArray, List.getElem_cons_zero, List.getElem_cons_succ]
        refine wpAnyH_take (i := 16) (v := ?_) rfl (by kernel_rfl) (by kernel_rfl) (by kernel_rfl) (fun _ _ _ h => h) (Or.inl ⟨by rfl, ?_⟩) (by assumption) ?_
        rotate_left 1
        · ((intro w hSw; (try dsimp only at hSw); go_simp); (try with_reducible rfl))
        simp only [Act.put, List.setIfInBounds_toArray, List.set_cons_zero, List.set_cons_succ, List.getElem_toArray, List.getElem_cons_zero, List.getElem_cons_succ]
        refine wpAnyH_done (by kernel_rfl) ?_ _
        go_wp2_with fail
        rw [Exit.noGoto_normal]
        go_end0
        refine ⟨rfl, ?_, HT.out⟩
        rw [← Hz.out]; exact HR.out
      · have f1 : decide (O < 0) = false := by simpa using hO0
        have Hz : Hid (riseL ((l'.set u ⟨yk, yt, yi⟩).set k' ⟨xk, xt, xi⟩) u = V) := hidp (by rw [HV2.out, if_neg (fun h => hO0 (hO.out.2 h))])
        refine wpAnyH_take (i := 15) (v := ?_) rfl (by kernel_rfl) (by kernel_rfl) (by kernel_rfl) (fun _ _ _ h => h) (Or.inl ⟨by rfl, ?_⟩) (by assumption) ?_
        rotate_left 1
        · ((intro w hSw; (try dsimp only at hSw); go_simp); (try with_reducible rfl))
        simp only [Act.put, List.setIfInBounds_toArray, List.set_cons_zero, List.set_cons_succ, List.getElem_toArray, List.getElem_cons_zero, List.getElem_cons_succ]
        refine wpAnyH_take (i := 16) (v := ?_) rfl (by kernel_rfl) (by kernel_rfl) (by kernel_rfl) (fun _ _ _ h => h) (Or.inl ⟨by rfl, ?_⟩) (by assumption) ?_
        rotate_left 1
        · ((intro w hSw; (try dsimp only at hSw); go_simp); (try with_reducible rfl))
        simp only [Act.put, List.setIfInBounds_toArray, List.set_cons_zero, List.set_cons_succ, List.getElem_toArray, List.getElem_cons_zero, List.getElem_cons_succ]
        refine wpAnyH_done (by kernel_rfl) ?_ _
        clear hHeld hO hO0 f1 HV2
        go_upto_region 3 with fail
        refine wp_region_d_drew [25, 26, 27] (S0 := (fun w' => w'.cell? ⟨b, ofs + 2, none⟩ = some (.slice (some ⟨g, 0, none⟩) l'.length c))) (S := (fun w' => w'.cell? ⟨g, u * 3, none⟩ = some (.int .i64 xk) ∧ w'.cell? ⟨g, u * 3 + 1, none⟩ = some (.int .i64 xt) ∧ w'.cell? ⟨g, u * 3 + 2, none⟩ = some (.int .i64 xi) ∧ w'.cell? ⟨g, k' * 3, none⟩ = some (.int .i64 yk) ∧ w'.cell? ⟨g, k' * 3 + 1, none⟩ = some (.int .i64 yt) ∧ w'.cell? ⟨g, k' * 3 + 2, none⟩ = some (.int .i64 yi))) (by kernel_rfl) ?_ ?_ (fun hHeld0 hHeld => ?_)
        · exact ch
        · exact ⟨Cx.1, Cx.2.1, Cx.2.2, Cy.1, Cy.2.1, Cy.2.2⟩
        obtain ⟨v, hv⟩ : ∃ v, v2.drew = v := ⟨_, rfl⟩
        replace HR := hidp (HR.out.drewN 1)
        replace HT := hidp (HT.out.drewN 1)
        change Hid (Rk v2.drew _ _ _ _ _ _ _ _ _) at HR
        change Hid (Turned _ _ v2.drew) at HT
        rw [hv] at HR HT hHeld0 hHeld ⊢
        clear hv ch Cx Cy
        refine wpAnyD_take0 (i := 0) (v := ?_) rfl (by decide) (by kernel_rfl) (by kernel_rfl) (by kernel_rfl) (fun _ _ _ h => h) (Or.inl ⟨by rfl, ?_⟩) (by assumption) (by assumption) ?_
        rotate_left 1
        · ((intro w hSw; (try dsimp only at hSw); go_simp); (try with_reducible rfl))
        simp only [Act.put, List.setIfInBounds_toArray, List.set_cons_zero, List.set_cons_succ, List.getElem_toArray, List.getElem_cons_zero, List.getElem_cons_succ]
        refine wpAnyD_take0 (i := 1) (v := ?_) rfl (by decide) (by kernel_rfl) (by kernel_rfl) (by kernel_rfl) (fun _ _ _ h => h) (Or.inl ⟨by rfl, ?_⟩) (by assumption) (by assumption) ?_
        rotate_left 1
        · ((intro w hSw; (try dsimp only at hSw); go_simp); (try with_reducible rfl))
        simp only [Act.put, List.setIfInBounds_toArray, List.set_cons_zero, List.set_cons_succ, List.getElem_toArray, List.getElem_cons_zero, List.getElem_cons_succ]
        refine wpAnyD_take0 (i := 2) (v := ?_) rfl (by decide) (by kernel_rfl) (by kernel_rfl) (by kernel_rfl) (fun _ _ _ h => h) (Or.inl ⟨by rfl, ?_⟩) (by assumption) (by assumption) ?_
        rotate_left 1
        · ((intro w hSw; (try dsimp only at hSw); go_simp); (try with_reducible rfl))
        simp only [Act.put, List.setIfInBounds_toArray, List.set_cons_zero, List.set_cons_succ, List.getElem_toArray, List.getElem_cons_zero, List.getElem_cons_succ]
        refine wpAnyD_take0 (i := 3) (v := ?_) rfl (by decide) (by kernel_rfl) (by kernel_rfl) (by kernel_rfl) (fun _ _ _ h => h) (Or.inl ⟨by rfl, ?_⟩) (by assumption) (by assumption) ?_
        rotate_left 1
        · ((intro w hSw; (try dsimp only at hSw); go_simp); (try with_reducible rfl))
        simp only [Act.put, List.setIfInBounds_toArray, List.set_cons_zero, List.set_cons_succ, List.getElem_toArray, List.getElem_cons_zero, List.getElem_cons_succ]
        refine wpAnyD_take0 (i := 4) (v := ?_) rfl (by decide) (by kernel_rfl) (by kernel_rfl) (by kernel_rfl) (fun _ _ _ h => h) (Or.inl ⟨by rfl, ?_⟩) (by assumption) (by assumption) ?_
        rotate_left 1
        · ((intro w hSw; (try dsimp only at hSw); go_simp); (try with_reducible rfl))
        simp only [Act.put, List.setIfInBounds_toArray, List.set_cons_zero, List.set_cons_succ, List.getElem_toArray, List.getElem_cons_zero, List.getElem_cons_succ]
        refine wpAnyD_take0 (i := 5) (v := ?_) rfl (by decide) (by kernel_rfl) (by kernel_rfl) (by kernel_rfl) (fun _ _ _ h => h) (Or.inl ⟨by rfl, ?_⟩) (by assumption) (by assumption) ?_
        rotate_left 1
        · ((intro w hSw; (try dsimp only at hSw); go_simp); (try with_reducible rfl))
        simp only [Act.put, List.setIfInBounds_toArray, List.set_cons_zero, List.set_cons_succ, List.getElem_toArray, List.getElem_cons_zero, List.getElem_cons_succ]
        refine wpAnyD_take0 (i := 6) (v := ?_) rfl (by decide) (by kernel_rfl) (by kernel_rfl) (by kernel_rfl) (fun _ _ _ h => h) (Or.inl ⟨by rfl, ?_⟩) (by assumption) (by assumption) ?_
        rotate_left 1
        · ((intro w hSw; (try dsimp only at hSw); go_simp); (try with_reducible rfl))
        simp only [Act.put, List.setIfInBounds_toArray, List.set_cons_zero, List.set_cons_succ, List.getElem_toArray, List.getElem_cons_zero, List.getElem_cons_succ]
        refine wpAnyD_take0 (i := 7) (v := ?_) rfl (by decide) (by kernel_rfl) (by kernel_rfl) (by kernel_rfl) (fun _ _ _ h => h) (Or.inl ⟨by rfl, ?_⟩) (by assumption) (by assumption) ?_
        rotate_left 1
        · ((intro w hSw; (try dsimp only at hSw); go_simp); (try with_reducible rfl))
        simp only [Act.put, List.setIfInBounds_toArray, List.set_cons_zero, List.set_cons_succ, List.getElem_toArray, List.getElem_cons_zero, List.getElem_cons_succ]
        refine wpAnyD_take0 (i := 8) (v := ?_) rfl (by decide) (by kernel_rfl) (by kernel_rfl) (by kernel_rfl) (fun _ _ _ h => h) (Or.inl ⟨by rfl, ?_⟩) (by assumption) (by assumption) ?_
        rotate_left 1
        · ((intro w hSw; (try dsimp only at hSw); go_simp); (try with_reducible rfl))
        simp only [Act.put, List.setIfInBounds_toArray, List.set_cons_zero, List.set_cons_succ, List.getElem_toArray, List.getElem_cons_zero, List.getElem_cons_succ]
        refine wpAnyD_take0 (i := 9) (v := ?_) rfl (by decide) (by kernel_rfl) (by kernel_rfl) (by kernel_rfl) (fun _ _ _ h => h) (Or.inl ⟨by rfl, ?_⟩) (by assumption) (by assumption) ?_
        rotate_left 1
        · ((intro w hSw; (try dsimp only at hSw); go_simp); (try with_reducible rfl))
        simp only [Act.put, List.setIfInBounds_toArray, List.set_cons_zero, List.set_cons_succ, List.getElem_toArray, List.getElem_cons_zero, List.getElem_cons_succ]
        refine wpAnyD_take0 (i := 10) (v := ?_) rfl (by decide) (by kernel_rfl) (by kernel_rfl) (by kernel_rfl) (fun _ _ _ h => h) (Or.inl ⟨by rfl, ?_⟩) (by assumption) (by assumption) ?_
        rotate_left 1
        · ((intro w hSw; (try dsimp only at hSw); go_simp); (try with_reducible rfl))
        simp only [Act.put, List.setIfInBounds_toArray, List.set_cons_zero, List.set_cons_succ, List.getElem_toArray, List.getElem_cons_zero, List.getElem_cons_succ]
        refine wpAnyD_take0 (i := 11) (v := ?_) rfl (by decide) (by kernel_rfl) (by kernel_rfl) (by kernel_rfl) (fun _ _ _ h => h) (Or.inl ⟨by rfl, ?_⟩) (by assumption) (by assumption) ?_
        rotate_left 1
        · ((intro w hSw; (try dsimp only at hSw); go_simp); (try with_reducible rfl))
        simp only [Act.put, List.setIfInBounds_toArray, List.set_cons_zero, List.set_cons_succ, List.getElem_toArray, List.getElem_cons_zero, List.getElem_cons_succ]
        refine wpAnyD_take0 (i := 12) (v := ?_) rfl (by decide) (by kernel_rfl) (by kernel_rfl) (by kernel_rfl) (fun _ _ _ h => h) (Or.inl ⟨by rfl, ?_⟩) (by assumption) (by assumption) ?_
        rotate_left 1
        · ((intro w hSw; (try dsimp only at hSw); go_simp); (try with_reducible rfl))
        simp only [Act.put, List.setIfInBounds_toArray, List.set_cons_zero, List.set_cons_succ, List.getElem_toArray, List.getElem_cons_zero, List.getElem_cons_succ]
        refine wpAnyD_take0 (i := 13) (v := ?_) rfl (by decide) (by kernel_rfl) (by kernel_rfl) (by kernel_rfl) (fun _ _ _ h => h) (Or.inl ⟨by rfl, ?_⟩) (by assumption) (by assumption) ?_
        rotate_left 1
        · ((intro w hSw; (try dsimp only at hSw); go_simp); (try with_reducible rfl))
        simp only [Act.put, List.setIfInBounds_toArray, List.set_cons_zero, List.set_cons_succ, List.getElem_toArray, List.getElem_cons_zero, List.getElem_cons_succ]
        refine wpAnyD_take0 (i := 14) (v := ?_) rfl (by decide) (by kernel_rfl) (by kernel_rfl) (by kernel_rfl) (fun _ _ _ h => h) (Or.inl ⟨by rfl, ?_⟩) (by assumption) (by assumption) ?_
        rotate_left 1
        · ((intro w hSw; (try dsimp only at hSw); go_simp); (try with_reducible rfl))
        simp only [Act.put, List.setIfInBounds_toArray, List.set_cons_zero, List.set_cons_succ, List.getElem_toArray, List.getElem_cons_zero, List.getElem_cons_succ]
        refine wpAnyD_take0 (i := 15) (v := ?_) rfl (by decide) (by kernel_rfl) (by kernel_rfl) (by kernel_rfl) (fun _ _ _ h => h) (Or.inl ⟨by rfl, ?_⟩) (by assumption) (by assumption) ?_
        rotate_left 1
        · ((intro w hSw; (try dsimp only at hSw); go_simp); (try with_reducible rfl))
        simp only [Act.put, List.setIfInBounds_toArray, List.set_cons_zero, List.set_cons_succ, List.getElem_toArray, List.getElem_cons_zero, List.getElem_cons_succ]
        refine wpAnyD_take (i := 16) (v := ?_) rfl (by kernel_rfl) (by kernel_rfl) (by kernel_rfl) (by kernel_rfl) (by kernel_rfl) (fun _ _ _ h => h) (Or.inl ⟨by rfl, ?_⟩) (by assumption) (by assumption) ?_
        rotate_left 1
        · ((intro w hSw; (try dsimp only at hSw); go_simp); (try with_reducible rfl))
        simp only [Act.put, List.setIfInBounds_toArray, List.set_cons_zero, List.set_cons_succ, List.getElem_toArray, List.getElem_cons_zero, List.getElem_cons_succ]
        refine wpAnyD_take0 (i := 17) (v := ?_) rfl (by decide) (by kernel_rfl) (by kernel_rfl) (by kernel_rfl) (fun _ _ _ h => h) (Or.inl ⟨by rfl, ?_⟩) (by assumption) (by assumption) ?_
        rotate_left 1
        · ((intro w hSw; (try dsimp only at hSw); go_simp); (try with_reducible rfl))
        simp only [Act.put, List.setIfInBounds_toArray, List.set_cons_zero, List.set_cons_succ, List.getElem_toArray, List.getElem_cons_zero, List.getElem_cons_succ]
        refine wpAnyD_take0 (i := 18) (v := ?_) rfl (by decide) (by kernel_rfl) (by kernel_rfl) (by kernel_rfl) (fun _ _ _ h => h) (Or.inl ⟨by rfl, ?_⟩) (by assumption) (by assumption) ?_
        rotate_left 1
        · ((intro w hSw; (try dsimp only at hSw); go_simp); (try with_reducible rfl))
        simp only [Act.put, List.setIfInBounds_toArray, List.set_cons_zero, List.set_cons_succ, List.getElem_toArray, List.getElem_cons_zero, List.getElem_cons_succ]
        refine wpAnyD_take0 (i := 19) (v := ?_) rfl (by decide) (by kernel_rfl) (by kernel_rfl) (by kernel_rfl) (fun _ _ _ h => h) (Or.inl ⟨by rfl, ?_⟩) (by assumption) (by assumption) ?_
        rotate_left 1
        · ((intro w hSw; (try dsimp only at hSw); go_simp); (try with_reducible rfl))
        simp only [Act.put, List.setIfInBounds_toArray, List.set_cons_zero, List.set_cons_succ, List.getElem_toArray, List.getElem_cons_zero, List.getElem_cons_succ]
        refine wpAnyD_take0 (i := 20) (v := ?_) rfl (by decide) (by kernel_rfl) (by kernel_rfl) (by kernel_rfl) (fun _ _ _ h => h) (Or.inl ⟨by rfl, ?_⟩) (by assumption) (by assumption) ?_
        rotate_left 1
        · ((intro w hSw; (try dsimp only at hSw); go_simp); (try with_reducible rfl))
        simp only [Act.put, List.setIfInBounds_toArray, List.set_cons_zero, List.set_cons_succ, List.getElem_toArray, List.getElem_cons_zero, List.getElem_cons_succ]
        refine wpAnyD_take0 (i := 21) (v := ?_) rfl (by decide) (by kernel_rfl) (by kernel_rfl) (by kernel_rfl) (fun _ _ _ h => h) (Or.inl ⟨by rfl, ?_⟩) (by assumption) (by assumption) ?_
        rotate_left 1
        · ((intro w hSw; (try dsimp only at hSw); go_simp); (try with_reducible rfl))
        simp only [Act.put, List.setIfInBounds_toArray, List.set_cons_zero, List.set_cons_succ, List.getElem_toArray, List.getElem_cons_zero, List.getElem_cons_succ]
        refine wpAnyD_take0 (i := 22) (v := ?_) rfl (by decide) (by kernel_rfl) (by kernel_rfl) (by kernel_rfl) (fun _ _ _ h => h) (Or.inl ⟨by rfl, ?_⟩) (by assumption) (by assumption) ?_
        rotate_left 1
        · ((intro w hSw; (try dsimp only at hSw); go_simp); (try with_reducible rfl))
        simp only [Act.put, List.setIfInBounds_toArray, List.set_cons_zero, List.set_cons_succ, List.getElem_toArray, List.getElem_cons_zero, List.getElem_cons_succ]
        refine wpAnyD_take (i := 23) (v := ?_) rfl (by kernel_rfl) (by kernel_rfl) (by kernel_rfl) (by kernel_rfl) (by kernel_rfl) (fun _ _ _ h => h) (Or.inl ⟨by rfl, ?_⟩) (by assumption) (by assumption) ?_
        rotate_left 1
        · ((intro w hSw; (try dsimp only at hSw); go_simp); (try with_reducible rfl))
        simp only [Act.put, List.setIfInBounds_toArray, List.set_cons_zero, List.set_cons_succ, List.getElem_toArray, List.getElem_cons_zero, List.getElem_cons_succ]
        refine wpAnyD_take0 (i := 24) (v := ?_) rfl (by decide) (by kernel_rfl) (by kernel_rfl) (by kernel_rfl) (fun _ _ _ h => h) (Or.inl ⟨by rfl, ?_⟩) (by assumption) (by assumption) ?_
        rotate_left 1
        · ((intro w hSw; (try dsimp only at hSw); go_simp); (try with_reducible rfl))
        simp only [Act.put, List.setIfInBounds_toArray, List.set_cons_zero, List.set_cons_succ, List.getElem_toArray, List.getElem_cons_zero, List.getElem_cons_succ]
        obtain ⟨y0, y1, y2, z0, z1, z2⟩ := hHeld
        have m0 := ownE_frozen HR.out.own.own (u * 3)
        have m1 := ownE_frozen HR.out.own.own (u * 3 + 1)
        have m2 := ownE_frozen HR.out.own.own (u * 3 + 2)
        have HR1 := hidp (HR.out.put3 hul ⟨yk, yt, yi⟩)
        have HT1 := hidp (((HT.out.setCell (p := ⟨g, u * 3, none⟩) (.inl (by simp [fp])) (.int .i64 yk)).setCell (p := ⟨g, u * 3 + 1, none⟩) (.inl (by simp [fp])) (.int .i64 yt)).setCell (p := ⟨g, u * 3 + 2, none⟩) (.inl (by simp [fp])) (.int .i64 yi))
        dsimp only at HR1
        have hk2 : k' < (l'.set u ⟨yk, yt, yi⟩).length := by simpa using hk'
        have D := HR1.out.own.cells hk2
        rw [setE_get hul, if_neg (by omega), Hy.out] at D
        have q0 := ownE_frozen HR1.out.own.own (k' * 3)
        have q1 := ownE_frozen HR1.out.own.own (k' * 3 + 1)
        have q2 := ownE_frozen HR1.out.own.own (k' * 3 + 2)
        have HR2 := hidp (HR1.out.put3 hk2 ⟨xk, xt, xi⟩)
        have HT2 := hidp (((HT1.out.setCell (p := ⟨g, k' * 3, none⟩) (.inl (by simp [fp])) (.int .i64 xk)).setCell (p := ⟨g, k' * 3 + 1, none⟩) (.inl (by simp [fp])) (.int .i64 xt)).setCell (p := ⟨g, k' * 3 + 2, none⟩) (.inl (by simp [fp])) (.int .i64 xi))
        dsimp only at HR2 D
        have ch1 := HR1.out.cell2
        have ch2 := HR2.out.cell2
        rw [List.length_set] at ch1
        rw [List.length_set, List.length_set] at ch2
        have S1 := hidp ch1
        have S2 := hidp ch2
        obtain ⟨p0, p1, p2⟩ := D
        clear hHeld0 ch1 ch2 HR HT
        refine wpAnyD_ready (rs := [25]) (by kernel_rfl) (by simp) ?_
        refine AllReadyD.last (by kernel_rfl) rfl (fun K hK => ?_)
        go_simp
        refine hK.out _ _ ?_ ?_
        · exact S1.out
        clear hK K
        try simp only [Act.put, List.setIfInBounds_toArray, List.set_cons_zero, List.set_cons_succ, List.getElem_toArray, List.getElem_cons_zero, List.getElem_cons_succ]
        refine wpAnyD_ready (rs := [26]) (by kernel_rfl) (by simp) ?_
        refine AllReadyD.last (by kernel_rfl) rfl (fun K hK => ?_)
        go_simp
        refine hK.out _ _ ?_ ?_
        · exact S1.out
        clear hK K
        try simp only [Act.put, List.setIfInBounds_toArray, List.set_cons_zero, List.set_cons_succ, List.getElem_toArray, List.getElem_cons_zero, List.getElem_cons_succ]
        refine wpAnyD_ready (rs := [27]) (by kernel_rfl) (by simp) ?_
        refine AllReadyD.last (by kernel_rfl) rfl (fun K hK => ?_)
        go_simp
        refine hK.out _ _ ?_ ?_
        · exact S2.out
        clear hK K
        try simp only [Act.put, List.setIfInBounds_toArray, List.set_cons_zero, List.set_cons_succ, List.getElem_toArray, List.getElem_cons_zero, List.getElem_cons_succ]
        refine wpAnyD_done (by kernel_rfl) ?_ _
        clear y0 y1 y2 z0 z1 z2 m0 m1 m2 q0 q1 q2 p0 p1 p2
        go_wp2_with fail
        go_roundg u
        case measure => omega
        case rel => exact ⟨u, _, rfl, rfl, by simpa using hul, hidp (by rw [List.length_set, List.length_set]; exact Hll.out), Hz, HR2, HT2⟩
end Go.Proofs.YtppgameimddimaaGreat
