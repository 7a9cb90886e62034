/- rank: remove, Take. -/
import Derived.Test.YtppgameimddimaaGreatLRankS
import Derived.Test.YtppgameimddimaaGreatLRankT
namespace Go.Proofs.YtppgameimddimaaGreat
open Go.ChangeShapes Go.WideShapes Go.ChangeAt Go.RowKit
set_option linter.unusedVariables false
set_option linter.unusedSimpArgs false
theorem etc__take (l : List EntM) (m : Nat) (hm : m ≤ l.length) : (etc_ l).take (m * 3) = etc_ (l.take m) := by
  have e : etc_ l = etc_ (l.take m) ++ etc_ (l.drop m) := by rw [← etc__append, List.take_append_drop]
  rw [e, List.take_left' (by rw [etc__len, List.length_take]; omega)]
theorem OwnE.take {B : Nat} {w : World} {g n c : Nat} {l : List EntM} (h : OwnE B w (some ⟨g, 0, none⟩) n c l) {m : Nat} (hm : m ≤ n) : OwnE B w (some ⟨g, 0, none⟩) m c (l.take m) := by
  have hl := h.len
  refine ⟨?_, by rw [List.length_take]; omega, ⟨by have := h.cap.1; omega, h.cap.2⟩, fun e => by cases e⟩
  obtain ⟨h1, h2⟩ := h.own
  refine ⟨by rw [etc__len, List.length_take]; congr 1; omega, ?_⟩
  rcases h2 with ⟨hv, _⟩ | ⟨g', cap, cur, hv, hb, hg, h3, h4, h5, h6⟩
  · cases hv
  · injection hv with e1 e2 e3
    injection e1 with e1
    injection e1 with e1
    subst e1; subst e3
    refine .inr ⟨g, c, cur, rfl, hb, hg, by omega, h4, h5, ?_⟩
    rw [← etc__take l m (by omega), ← h6, List.take_take]
    congr 1
    omega
def cutL (l : List EntM) (k : Nat) : List EntM := (l.set k (l.getD (l.length - 1) default)).take (l.length - 1)
def removeL (l : List EntM) (k : Nat) : List EntM := if k < l.length - 1 then riseL (sinkL (cutL l k) k) k else cutL l k
theorem cutL_len (l : List EntM) (k : Nat) : (cutL l k).length = l.length - 1 := by unfold cutL; rw [List.length_take, List.length_set]; omega
theorem removeL_len {l : List EntM} {k : Nat} (hk : k < l.length) : (removeL l k).length = l.length - 1 := by
  unfold removeL
  split
  · rename_i h
    rw [riseL_len _ _ (by rw [sinkL_len, cutL_len]; exact h), sinkL_len, cutL_len]
  · exact cutL_len l k
set_option maxHeartbeats 4000000 in
set_option maxRecDepth 100000 in
theorem remove_any {w : World} {b ofs : Nat} {KT : TypeId} {kcs : Array Value} {R P : Int} {l : List EntM} {A : Option Addr} {c : Nat} (h : Rk w b ofs KT kcs R P l A c) (k : Nat) (hk : k < l.length) (hl : l.length ≤ 64) : Calls Tryz.prog 65 #[.pointer (some ⟨b, ofs, none⟩), .int .i64 k] w fun e w' => e = .returned (.tuple #[]) ∧ Rk w' b ofs KT (rkCs kcs ofs P A (l.length - 1) c) R P (removeL l k) A c ∧ Turned (b :: fp A) w w' := by
  obtain ⟨g, rfl, _, _⟩ := h.own.at_ (by omega)
  obtain ⟨z, hz⟩ : ∃ z, l.length - 1 = z := ⟨_, rfl⟩
  obtain ⟨x, Hx⟩ : ∃ x, Hid (l.getD z default = x) := ⟨_, hidp rfl⟩
  obtain ⟨V, HV⟩ : ∃ V, Hid (removeL l k = V) := ⟨_, hidp rfl⟩
  rw [HV.out]
  obtain ⟨l1, Hl1⟩ : ∃ l1, Hid ((l.set k x).take z = l1) := ⟨_, hidp rfl⟩
  have HV2 : Hid (V = if k < z then riseL (sinkL l1 k) k else l1) := hidp (by rw [← HV.out]; unfold removeL cutL; rw [hz, Hx.out, Hl1.out])
  have hzl : z < l.length := by omega
  have Hz : Hid (l.length = z + 1) := hidp (by omega)
  have Hlen1 : Hid (l1.length = z) := hidp (by rw [← Hl1.out, List.length_take, List.length_set]; omega)
  have iz : (z : Int) < (l.length : Int) := by omega
  have ik : (k : Int) < (l.length : Int) := by omega
  have wn : IntKind.i64.wrap ((l.length : Int) - 1) = (z : Int) := by rw [show ((l.length : Int) - 1) = (z : Int) by omega]; exact IntWalk.i64_in _ (by omega)
  have hzc : z ≤ c := by have := h.own.cap.1; omega
  have izc : (z : Int) ≤ (c : Int) := by omega
  have HR := hidp h
  have hbg : b ≠ g := fun e => h.ne (by simp [fp, e])
  have Cx := h.own.cells hzl
  rw [Hx.out] at Cx
  have ch : w.cell? ⟨b, ofs + 2, none⟩ = some (.slice (some ⟨g, 0, none⟩) l.length c) := h.cell2
  clear h HV
  have Hzn := hidp hz
  clear hz
  obtain ⟨xk, xt, xi⟩ := x
  dsimp only at Cx
  go_enter Tryz.func65, Tryz.ntmps65
  go_upto_region 1 with fail
  refine wp_region_d_drew [13] (S0 := (fun w' => w'.cell? ⟨b, ofs + 2, none⟩ = some (.slice (some ⟨g, 0, none⟩) l.length c))) (S := (fun w' => w'.cell? ⟨g, z * 3, none⟩ = some (.int .i64 xk) ∧ w'.cell? ⟨g, z * 3 + 1, none⟩ = some (.int .i64 xt) ∧ w'.cell? ⟨g, z * 3 + 2, none⟩ = some (.int .i64 xi))) (by kernel_rfl) ?_ ?_ (fun hHeld0 hHeld => ?_)
  · exact ch
  · exact Cx
  obtain ⟨v, hv⟩ : ∃ v, w.drew = v := ⟨_, rfl⟩
  have HT : Hid (Turned (fp (some ⟨g, 0, none⟩)) w v) := hidp (hv ▸ (Turned.refl _ w).drew)
  replace HR := hidp (HR.out.drewN 1)
  change Hid (Rk w.drew _ _ _ _ _ _ _ _ _) at HR
  rw [hv] at HR hHeld0 hHeld ⊢
  clear hv ch Cx
  refine wpAnyD_take0 (i := 0) (v := ?_) rfl (by decide) (by kernel_rfl) (by kernel_rfl) (by kernel_rfl) (fun _ _ _ h => h) (Or.inl ⟨by rfl, ?_⟩) (by assumption) (by assumption) ?_
  rotate_left 1
  · ((intro w hSw; (try dsimp only at hSw); go_simp); (try with_reducible rfl))
  simp only [Act.put, List.setIfInBounds_toArray, List.set_cons_zero, List.set_cons_succ, List.getElem_toArray, List.getElem_cons_zero, List.getElem_cons_succ]
  refine wpAnyD_take0 (i := 1) (v := ?_) rfl (by decide) (by kernel_rfl) (by kernel_rfl) (by kernel_rfl) (fun _ _ _ h => h) (Or.inl ⟨by rfl, ?_⟩) (by assumption) (by assumption) ?_
  rotate_left 1
  · ((intro w hSw; (try dsimp only at hSw); go_simp); (try with_reducible rfl))
  simp only [Act.put, List.setIfInBounds_toArray, List.set_cons_zero, List.set_cons_succ, List.getElem_toArray, List.getElem_cons_zero, List.getElem_cons_succ]
  refine wpAnyD_take0 (i := 2) (v := ?_) rfl (by decide) (by kernel_rfl) (by kernel_rfl) (by kernel_rfl) (fun _ _ _ h => h) (Or.inl ⟨by rfl, ?_⟩) (by assumption) (by assumption) ?_
  rotate_left 1
  · ((intro w hSw; (try dsimp only at hSw); go_simp); (try with_reducible rfl))
  simp only [Act.put, List.setIfInBounds_toArray, List.set_cons_zero, List.set_cons_succ, List.getElem_toArray, List.getElem_cons_zero, List.getElem_cons_succ]
  refine wpAnyD_take0 (i := 3) (v := ?_) rfl (by decide) (by kernel_rfl) (by kernel_rfl) (by kernel_rfl) (fun _ _ _ h => h) (Or.inl ⟨by rfl, ?_⟩) (by assumption) (by assumption) ?_
  rotate_left 1
  · ((intro w hSw; (try dsimp only at hSw); go_simp); (try with_reducible rfl))
  simp only [Act.put, List.setIfInBounds_toArray, List.set_cons_zero, List.set_cons_succ, List.getElem_toArray, List.getElem_cons_zero, List.getElem_cons_succ]
  refine wpAnyD_take0 (i := 4) (v := ?_) rfl (by decide) (by kernel_rfl) (by kernel_rfl) (by kernel_rfl) (fun _ _ _ h => h) (Or.inl ⟨by rfl, ?_⟩) (by assumption) (by assumption) ?_
  rotate_left 1
  · ((intro w hSw; (try dsimp only at hSw); go_simp); (try with_reducible rfl))
  simp only [Act.put, List.setIfInBounds_toArray, List.set_cons_zero, List.set_cons_succ, List.getElem_toArray, List.getElem_cons_zero, List.getElem_cons_succ]
  refine wpAnyD_take0 (i := 5) (v := ?_) rfl (by decide) (by kernel_rfl) (by kernel_rfl) (by kernel_rfl) (fun _ _ _ h => h) (Or.inl ⟨by rfl, ?_⟩) (by assumption) (by assumption) ?_
  rotate_left 1
  · ((intro w hSw; (try dsimp only at hSw); go_simp); (try with_reducible rfl))
  simp only [Act.put, List.setIfInBounds_toArray, List.set_cons_zero, List.set_cons_succ, List.getElem_toArray, List.getElem_cons_zero, List.getElem_cons_succ]
  refine wpAnyD_take0 (i := 6) (v := ?_) rfl (by decide) (by kernel_rfl) (by kernel_rfl) (by kernel_rfl) (fun _ _ _ h => h) (Or.inl ⟨by rfl, ?_⟩) (by assumption) (by assumption) ?_
  rotate_left 1
  · ((intro w hSw; (try dsimp only at hSw); go_simp); (try with_reducible rfl))
  simp only [Act.put, List.setIfInBounds_toArray, List.set_cons_zero, List.set_cons_succ, List.getElem_toArray, List.getElem_cons_zero, List.getElem_cons_succ]
  refine wpAnyD_take0 (i := 7) (v := ?_) rfl (by decide) (by kernel_rfl) (by kernel_rfl) (by kernel_rfl) (fun _ _ _ h => h) (Or.inl ⟨by rfl, ?_⟩) (by assumption) (by assumption) ?_
  rotate_left 1
  · ((intro w hSw; (try dsimp only at hSw); go_simp); (try with_reducible rfl))
  simp only [Act.put, List.setIfInBounds_toArray, List.set_cons_zero, List.set_cons_succ, List.getElem_toArray, List.getElem_cons_zero, List.getElem_cons_succ]
  refine wpAnyD_take0 (i := 8) (v := ?_) rfl (by decide) (by kernel_rfl) (by kernel_rfl) (by kernel_rfl) (fun _ _ _ h => h) (Or.inl ⟨by rfl, ?_⟩) (by assumption) (by assumption) ?_
  rotate_left 1
  · ((intro w hSw; (try dsimp only at hSw); go_simp); (try with_reducible rfl))
  simp only [Act.put, List.setIfInBounds_toArray, List.set_cons_zero, List.set_cons_succ, List.getElem_toArray, List.getElem_cons_zero, List.getElem_cons_succ]
  refine wpAnyD_take0 (i := 9) (v := ?_) rfl (by decide) (by kernel_rfl) (by kernel_rfl) (by kernel_rfl) (fun _ _ _ h => h) (Or.inl ⟨by rfl, ?_⟩) (by assumption) (by assumption) ?_
  rotate_left 1
  · ((intro w hSw; (try dsimp only at hSw); go_simp); (try with_reducible rfl))
  simp only [Act.put, List.setIfInBounds_toArray, List.set_cons_zero, List.set_cons_succ, List.getElem_toArray, List.getElem_cons_zero, List.getElem_cons_succ]
  refine wpAnyD_take0 (i := 10) (v := ?_) rfl (by decide) (by kernel_rfl) (by kernel_rfl) (by kernel_rfl) (fun _ _ _ h => h) (Or.inl ⟨by rfl, ?_⟩) (by assumption) (by assumption) ?_
  rotate_left 1
  · ((intro w hSw; (try dsimp only at hSw); go_simp); (try with_reducible rfl))
  simp only [Act.put, List.setIfInBounds_toArray, List.set_cons_zero, List.set_cons_succ, List.getElem_toArray, List.getElem_cons_zero, List.getElem_cons_succ]
  refine wpAnyD_take (i := 11) (v := ?_) rfl (by kernel_rfl) (by kernel_rfl) (by kernel_rfl) (by kernel_rfl) (by kernel_rfl) (fun _ _ _ h => h) (Or.inl ⟨by rfl, ?_⟩) (by assumption) (by assumption) ?_
  rotate_left 1
  · ((intro w hSw; (try dsimp only at hSw); go_simp); (try with_reducible rfl))
  simp only [Act.put, List.setIfInBounds_toArray, List.set_cons_zero, List.set_cons_succ, List.getElem_toArray, List.getElem_cons_zero, List.getElem_cons_succ]
  refine wpAnyD_take0 (i := 12) (v := ?_) rfl (by decide) (by kernel_rfl) (by kernel_rfl) (by kernel_rfl) (fun _ _ _ h => h) (Or.inl ⟨by rfl, ?_⟩) (by assumption) (by assumption) ?_
  rotate_left 1
  · ((intro w hSw; (try dsimp only at hSw); go_simp); (try with_reducible rfl))
  simp only [Act.put, List.setIfInBounds_toArray, List.set_cons_zero, List.set_cons_succ, List.getElem_toArray, List.getElem_cons_zero, List.getElem_cons_succ]
  have D := HR.out.own.cells hk
  obtain ⟨y, Hy⟩ : ∃ y, Hid (l.getD k default = y) := ⟨_, hidp rfl⟩
  rw [Hy.out] at D
  obtain ⟨yk, yt, yi⟩ := y
  dsimp only at D
  obtain ⟨p0, p1, p2⟩ := D
  have m0 := ownE_frozen HR.out.own.own (k * 3)
  have m1 := ownE_frozen HR.out.own.own (k * 3 + 1)
  have m2 := ownE_frozen HR.out.own.own (k * 3 + 2)
  have HR1 := hidp (HR.out.put3 hk ⟨xk, xt, xi⟩)
  have HT1 := hidp (((HT.out.setCell (p := ⟨g, k * 3, none⟩) (.inl (by simp [fp])) (.int .i64 xk)).setCell (p := ⟨g, k * 3 + 1, none⟩) (.inl (by simp [fp])) (.int .i64 xt)).setCell (p := ⟨g, k * 3 + 2, none⟩) (.inl (by simp [fp])) (.int .i64 xi))
  dsimp only at HR1
  have ch1 := HR1.out.cell2
  rw [List.length_set] at ch1
  have S1 := hidp ch1
  clear hHeld0 hHeld HR HT ch1
  refine wpAnyD_ready (rs := [13]) (by kernel_rfl) (by simp) ?_
  refine AllReadyD.last (by kernel_rfl) rfl (fun K hK => ?_)
  go_simp
  refine hK.out _ _ ?_ ?_
  · exact S1.out
  clear hK K
  try simp only [Act.put, List.setIfInBounds_toArray, List.set_cons_zero, List.set_cons_succ, List.getElem_toArray, List.getElem_cons_zero, List.getElem_cons_succ]
  refine wpAnyD_done (by kernel_rfl) ?_ _
  go_upto_region 2 with fail
  clear p0 p1 p2 m0 m1 m2
  obtain ⟨v1, hv1⟩ : ∃ v1, ((v.setCell ⟨g, k * 3, none⟩ (.int .i64 xk)).setCell ⟨g, k * 3 + 1, none⟩ (.int .i64 xt)).setCell ⟨g, k * 3 + 2, none⟩ (.int .i64 xi) = v1 := ⟨_, rfl⟩
  rw [hv1] at HR1 HT1 S1 ⊢
  clear hv1
  have ch1 := S1.out
  have f2 := HR1.out.blk.frozen (ofs + 2)
  have HR2 : Hid (Rk (v1.setCell ⟨b, ofs + 2, none⟩ (.slice (some ⟨g, 0, none⟩) z c)) b ofs KT (rkCs kcs ofs P (some ⟨g, 0, none⟩) (l.length - 1) c) R P l1 (some ⟨g, 0, none⟩) c) := hidp (by
    have o := HR1.out.own.take (m := z) (by rw [List.length_set]; omega)
    rw [Hl1.out] at o
    have := HR1.out.hdr_ (l' := l1) HR1.out.blk (by rw [Hlen1.out]; exact o) HR1.out.ne
    rw [Hlen1.out] at this
    rw [Hzn.out]
    exact this)
  have HT2 : Hid (Turned (b :: fp (some ⟨g, 0, none⟩)) w (v1.setCell ⟨b, ofs + 2, none⟩ (.slice (some ⟨g, 0, none⟩) z c))) := hidp ((HT1.out.mono (G := b :: fp (some ⟨g, 0, none⟩)) (fun j hj => .inl (List.mem_cons_of_mem _ hj))).setCell (p := ⟨b, ofs + 2, none⟩) (.inl List.mem_cons_self) _)
  clear HR1 HT1 S1
  by_cases hkz : k < z
  · have ikz : (k : Int) < (z : Int) := by omega
    have fkz : decide ((k : Int) < (z : Int)) = true := by simpa using ikz
    go_upto_region 4 with fail
    obtain ⟨v2, hv2⟩ : ∃ v2, v1.setCell ⟨b, ofs + 2, none⟩ (.slice (some ⟨g, 0, none⟩) z c) = v2 := ⟨_, rfl⟩
    rw [hv2] at HR2 HT2 ⊢
    clear hv2 ch1 f2
    go_wp2_with fail
    refine (sink_any HR2.out k (by rw [Hlen1.out]; exact hkz) (by rw [Hlen1.out]; omega)).mono ?_
    rintro e v3 ⟨rfl, HR3, T3⟩
    have HR3 := hidp HR3
    have HT3 := hidp (HT2.out.trans T3 (fun j hj => .inl (List.mem_cons_of_mem _ hj)))
    clear T3 HR2 HT2
    go_wp2_with fail
    refine (rise_any HR3.out k (by rw [sinkL_len, Hlen1.out]; exact hkz) (by rw [sinkL_len, Hlen1.out]; omega)).mono ?_
    rintro e v4 ⟨rfl, HR4, T4⟩
    have HR4 := hidp HR4
    have HT4 := hidp (HT3.out.trans T4 (fun j hj => .inl (List.mem_cons_of_mem _ hj)))
    clear T4 HR3 HT3
    go_wp2_with fail
    go_end0
    refine ⟨rfl, ?_, HT4.out⟩
    rw [HV2.out, if_pos hkz]
    exact HR4.out
  · have ikz : ¬ (k : Int) < (z : Int) := by omega
    have fkz : decide ((k : Int) < (z : Int)) = false := by simpa using ikz
    go_wp2_with fail
    go_end0
    refine ⟨rfl, ?_, HT2.out⟩
    rw [HV2.out, if_neg hkz]
    exact HR2.out
end Go.Proofs.YtppgameimddimaaGreat
