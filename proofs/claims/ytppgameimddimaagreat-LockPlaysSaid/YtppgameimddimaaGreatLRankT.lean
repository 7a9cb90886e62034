/- rank: New, Len, First, Put. -/
import Derived.Test.YtppgameimddimaaGreatLRankR
import Derived.Test.YtppgameimddimaaGreatRegC
namespace Go.Proofs.YtppgameimddimaaGreat
open Go.ChangeShapes Go.WideShapes Go.ChangeAt Go.RowKit
set_option linter.unusedVariables false
set_option linter.unusedSimpArgs false
/-- a number held from 0 to 64 -/
def roomR (n : Int) : Int := if n ≤ 0 then 0 else if 64 < n then 64 else n
theorem roomR_bd (n : Int) : 0 ≤ roomR n ∧ roomR n ≤ 64 := by unfold roomR; (split; omega); split <;> omega
theorem Rk.new (w : World) (R : Int) : Rk (w.alloc (.cells #[.int .i64 R, .int .i64 0, .slice none 0 0] 65)) w.heap.size 0 65 #[.int .i64 R, .int .i64 0, .slice none 0 0] R 0 [] none 0 := ⟨Bk.new _ _ _, rfl, rfl, rfl, OwnE.empty _ _, by simp [fp]⟩
theorem rnew_any (n : Int) (w : World) (hn : I64 n) : Calls Tryz.prog 30 #[.int .i64 n] w fun e w' => e = .returned (.pointer (some ⟨w.heap.size, 0, none⟩)) ∧ w' = w.alloc (.cells #[.int .i64 (roomR n), .int .i64 0, .slice none 0 0] 65) := by
  unfold I64 at hn
  have H1 := hidp (show 64 < n → roomR n = 64 by intro h; unfold roomR; rw [if_neg (by omega), if_pos h])
  have H2 := hidp (show n ≤ 64 → 0 < n → roomR n = n by intro h g; unfold roomR; rw [if_neg (by omega), if_neg (by omega)])
  have H3 := hidp (show n ≤ 0 → roomR n = 0 by intro h; unfold roomR; rw [if_pos h])
  go_enter Tryz.func30, Tryz.ntmps30
  go_wp2
  · go_ret; exact ⟨rfl, by rw [H1.out (by assumption)]⟩
  · go_ret; exact ⟨rfl, by rw [H2.out (by assumption) (by assumption)]⟩
  · go_ret; exact ⟨rfl, by rw [H3.out (by assumption)]⟩
section
variable {w : World} {b ofs : Nat} {KT : TypeId} {kcs : Array Value} {R P : Int} {l : List EntM} {A : Option Addr} {c : Nat}
theorem rput_full {k i : Int} (h : Rk w b ofs KT kcs R P l A c) (hf : (l.length : Int) = R) : Calls Tryz.prog 34 #[.pointer (some ⟨b, ofs, none⟩), .int .i64 k, .int .i64 i] w fun e w' => e = .returned (.int .i64 12) ∧ Qt w w' := by
  have c1 : w.cell? ⟨b, ofs + 2, none⟩ = some (.slice A l.length c) := h.cell2
  have c0 : w.cell? ⟨b, ofs, none⟩ = some (.int .i64 R) := h.cell0
  have e0 : ((l.length : Int) == R) = true := by simpa using hf
  clear hf h
  go_enter Tryz.func34, Tryz.ntmps34
  go_wp2_with fail
  go_quiet (fail)
  go_wp2_with fail
  go_ret
  exact ⟨rfl, ⟨_, rfl⟩⟩
theorem Lies.newE (w : World) (cs : List Value) (T : TypeId) : Lies (w.heap.size + 1) (w.alloc (.cells cs.toArray T)) (some ⟨w.heap.size, 0, none⟩) cs := by
  refine .inr ⟨_, 0, rfl, by omega, fun j v hj => ?_⟩
  have := (Bk.new w T cs.toArray).cell j
  rw [Nat.zero_add, this]
  simpa using hj
def RkPost (w : World) (b ofs : Nat) (KT : TypeId) (kcs : Array Value) (R P : Int) (l : List EntM) (A : Option Addr) (r : Ending) (e : Ending) (w' : World) : Prop := e = r ∧ ∃ A' c', Rk w' b ofs KT (rkCs kcs ofs P A' l.length c') R P l A' c' ∧ Turned (b :: fp A) w w' ∧ ∀ k ∈ fp A', k ∈ fp A ∨ w.heap.size ≤ k
set_option maxHeartbeats 4000000 in
set_option maxRecDepth 100000 in
theorem rput_any {k i : Int} (h : Rk w b ofs KT kcs R P l A c) (hf : (l.length : Int) < R) (hR : R ≤ 64) (hP : 0 ≤ P ∧ P < 1000000) : Calls Tryz.prog 34 #[.pointer (some ⟨b, ofs, none⟩), .int .i64 k, .int .i64 i] w (RkPost w b ofs KT kcs R (P + 1) (riseL (l ++ [⟨k, P, i⟩]) l.length) A (.returned (.int .i64 0))) := by
  obtain ⟨i0, hi0, hy0, hy1, hy2⟩ := info_parts infoEnt
  obtain ⟨n, hn⟩ : ∃ n, l.length = n := ⟨_, rfl⟩
  have Hn := hidp hn
  obtain ⟨m, Hm⟩ : ∃ m, Hid (l ++ [(⟨k, P, i⟩ : EntM)] = m) := ⟨_, hidp rfl⟩
  have Hml : Hid (m.length = n + 1) := hidp (by rw [← Hm.out, ← hn]; simp)
  rw [Hm.out, hn]
  rw [hn] at hf
  have HRk := hidp h
  have HB : Hid (Bk w b KT kcs) := hidp h.blk
  have Hhdr : Hid (kcs[ofs + 2]? = some (.slice A n c)) := hidp (hn ▸ h.hdr)
  have Hput : Hid (kcs[ofs + 1]? = some (.int .i64 P)) := hidp h.puts
  have HO : Hid (OwnE 0 w A n c l) := hidp (hn ▸ h.own)
  have HN := hidp h.ne
  have h0c := h.cell0
  clear h hn
  have c1 : w.cell? ⟨b, ofs + 2, none⟩ = some (.slice A n c) := (HB.out.cell _).trans Hhdr.out
  have c0 : w.cell? ⟨b, ofs, none⟩ = some (.int .i64 R) := h0c
  have e0 : ((n : Int) == R) = false := by simp; omega
  go_enter Tryz.func34, Tryz.ntmps34
  go_wp2_with fail
  go_quiet (fail)
  go_wp2_with fail
  go_upto_region 3 with fail
  refine wp_region_c_drew 16 (S := fun w' => w'.cell? ⟨b, ofs + 2, none⟩ = some (.slice A n c) ∧ w'.cell? ⟨b, ofs + 1, none⟩ = some (.int .i64 P)) (by kernel_rfl) ?_ (fun hHeld => ?_)
  · exact ⟨(HB.out.cell _).trans Hhdr.out, (HB.out.cell _).trans Hput.out⟩
  obtain ⟨u, hu⟩ : ∃ u, (w.drewN nq).drew = u := ⟨_, rfl⟩
  have tu : Turned [] w u := hu ▸ ((Turned.refl [] w).drewN nq).drew
  rw [hu] at hHeld ⊢
  clear hu c0 c1 e0 h0c
  have TL : Turned [] u (u.alloc (.cells #[.int .i64 k, .int .i64 P, .int .i64 i] 105)) := (Turned.refl [] u).alloc _
  have oa := (HO.out.turned tu (by simp)).turned TL (by simp)
  have ba := (HB.out.turned tu (by simp)).turned TL (by simp)
  have hs1 : (u.alloc (.cells #[.int .i64 k, .int .i64 P, .int .i64 i] 105)).cell? ⟨b, ofs + 2, none⟩ = some (.slice A n c) ∧ (u.alloc (.cells #[.int .i64 k, .int .i64 P, .int .i64 i] 105)).cell? ⟨b, ofs + 1, none⟩ = some (.int .i64 P) := ⟨(ba.cell _).trans Hhdr.out, (ba.cell _).trans Hput.out⟩
  have S2 := hidp (Lies.newE u (etc_ [⟨k, P, i⟩]) 105)
  have O2 := hidp (etc__one [⟨k, P, i⟩])
  have L2 : Hid ((etc_ [⟨k, P, i⟩]).length = 1 * 3) := hidp rfl
  have N2 : Hid (n + 1 ≤ maxLen) := hidp (by unfold maxLen; omega)
  have T2 : Hid ((n + 1) * 24 ≤ 140737488355328) := hidp (by omega)
  have Z2 : Hid (0 ≤ (u.alloc (.cells #[.int .i64 k, .int .i64 P, .int .i64 i] 105)).heap.size) := hidp (Nat.zero_le _)
  have TD := hidp (tu.trans TL (by simp))
  have hblt : b < w.heap.size := HB.out.lt
  have hoa := hidp oa
  have hba := hidp ba
  have hown := oa.own
  clear tu TL oa ba HB HO
  refine wpAnyC_take (i := 0) (v := ?_) rfl rfl (by kernel_rfl) (by decide) (by kernel_rfl) (by kernel_rfl) (by kernel_rfl) (fun _ _ _ h => h) (Or.inl ⟨by rfl, ?_⟩) (by assumption) ?_
  rotate_left 1
  · ((intro w hSw; (try dsimp only at hSw); go_simp); (try with_reducible rfl))
  simp only [Act.put, List.setIfInBounds_toArray, List.set_cons_zero, List.set_cons_succ, List.getElem_toArray, List.getElem_cons_zero, List.getElem_cons_succ]
  refine wpAnyC_take (i := 1) (v := ?_) rfl rfl (by kernel_rfl) (by decide) (by kernel_rfl) (by kernel_rfl) (by kernel_rfl) (fun _ _ _ h => h) (Or.inl ⟨by rfl, ?_⟩) (by assumption) ?_
  rotate_left 1
  · ((intro w hSw; (try dsimp only at hSw); go_simp); (try with_reducible rfl))
  simp only [Act.put, List.setIfInBounds_toArray, List.set_cons_zero, List.set_cons_succ, List.getElem_toArray, List.getElem_cons_zero, List.getElem_cons_succ]
  refine wpAnyC_take (i := 2) (v := ?_) rfl rfl (by kernel_rfl) (by decide) (by kernel_rfl) (by kernel_rfl) (by kernel_rfl) (fun _ _ _ h => h) (Or.inl ⟨by rfl, ?_⟩) (by assumption) ?_
  rotate_left 1
  · ((intro w hSw; (try dsimp only at hSw); go_simp); (try with_reducible rfl))
  simp only [Act.put, List.setIfInBounds_toArray, List.set_cons_zero, List.set_cons_succ, List.getElem_toArray, List.getElem_cons_zero, List.getElem_cons_succ]
  refine wpAnyC_take (i := 3) (v := ?_) rfl rfl (by kernel_rfl) (by decide) (by kernel_rfl) (by kernel_rfl) (by kernel_rfl) (fun _ _ _ h => h) (Or.inl ⟨by rfl, ?_⟩) (by assumption) ?_
  rotate_left 1
  · ((intro w hSw; (try dsimp only at hSw); go_simp); (try with_reducible rfl))
  simp only [Act.put, List.setIfInBounds_toArray, List.set_cons_zero, List.set_cons_succ, List.getElem_toArray, List.getElem_cons_zero, List.getElem_cons_succ]
  refine wpAnyC_take (i := 4) (v := ?_) rfl rfl (by kernel_rfl) (by decide) (by kernel_rfl) (by kernel_rfl) (by kernel_rfl) (fun _ _ _ h => h) (Or.inl ⟨by rfl, ?_⟩) (by assumption) ?_
  rotate_left 1
  · ((intro w hSw; (try dsimp only at hSw); go_simp); (try with_reducible rfl))
  simp only [Act.put, List.setIfInBounds_toArray, List.set_cons_zero, List.set_cons_succ, List.getElem_toArray, List.getElem_cons_zero, List.getElem_cons_succ]
  refine wpAnyC_take (i := 5) (v := ?_) rfl rfl (by kernel_rfl) (by decide) (by kernel_rfl) (by kernel_rfl) (by kernel_rfl) (fun _ _ _ h => h) (Or.inl ⟨by rfl, ?_⟩) (by assumption) ?_
  rotate_left 1
  · ((intro w hSw; (try dsimp only at hSw); go_simp); (try with_reducible rfl))
  simp only [Act.put, List.setIfInBounds_toArray, List.set_cons_zero, List.set_cons_succ, List.getElem_toArray, List.getElem_cons_zero, List.getElem_cons_succ]
  refine wpAnyC_take (i := 6) (v := ?_) rfl rfl (by kernel_rfl) (by decide) (by kernel_rfl) (by kernel_rfl) (by kernel_rfl) (fun _ _ _ h => h) (Or.inl ⟨by rfl, ?_⟩) (by assumption) ?_
  rotate_left 1
  · ((intro w hSw; (try dsimp only at hSw); go_simp); (try with_reducible rfl))
  simp only [Act.put, List.setIfInBounds_toArray, List.set_cons_zero, List.set_cons_succ, List.getElem_toArray, List.getElem_cons_zero, List.getElem_cons_succ]
  refine wpAnyC_take (i := 7) (v := ?_) rfl rfl (by kernel_rfl) (by decide) (by kernel_rfl) (by kernel_rfl) (by kernel_rfl) (fun _ _ _ h => h) (Or.inl ⟨by rfl, ?_⟩) (by assumption) ?_
  rotate_left 1
  · ((intro w hSw; (try dsimp only at hSw); go_simp); (try with_reducible rfl))
  simp only [Act.put, List.setIfInBounds_toArray, List.set_cons_zero, List.set_cons_succ, List.getElem_toArray, List.getElem_cons_zero, List.getElem_cons_succ]
  refine wpAnyC_take (i := 8) (v := ?_) rfl rfl (by kernel_rfl) (by decide) (by kernel_rfl) (by kernel_rfl) (by kernel_rfl) (fun _ _ _ h => h) (Or.inl ⟨by rfl, ?_⟩) (by assumption) ?_
  rotate_left 1
  · ((intro w hSw; (try dsimp only at hSw); go_simp); (try with_reducible rfl))
  simp only [Act.put, List.setIfInBounds_toArray, List.set_cons_zero, List.set_cons_succ, List.getElem_toArray, List.getElem_cons_zero, List.getElem_cons_succ]
  refine wpAnyC_take (i := 9) (v := ?_) rfl rfl (by kernel_rfl) (by decide) (by kernel_rfl) (by kernel_rfl) (by kernel_rfl) (fun _ _ _ h => h) (Or.inl ⟨by rfl, ?_⟩) (by assumption) ?_
  rotate_left 1
  · ((intro w hSw; (try dsimp only at hSw); go_simp); (try with_reducible rfl))
  simp only [Act.put, List.setIfInBounds_toArray, List.set_cons_zero, List.set_cons_succ, List.getElem_toArray, List.getElem_cons_zero, List.getElem_cons_succ]
  refine wpAnyC_take (i := 10) (v := ?_) rfl rfl (by kernel_rfl) (by decide) (by kernel_rfl) (by kernel_rfl) (by kernel_rfl) (fun _ _ _ h => h) (Or.inl ⟨by rfl, ?_⟩) (by assumption) ?_
  rotate_left 1
  · ((intro w hSw; (try dsimp only at hSw); go_simp); (try with_reducible rfl))
  simp only [Act.put, List.setIfInBounds_toArray, List.set_cons_zero, List.set_cons_succ, List.getElem_toArray, List.getElem_cons_zero, List.getElem_cons_succ]
  refine wpAnyC_take (i := 11) (v := ?_) rfl rfl (by kernel_rfl) (by decide) (by kernel_rfl) (by kernel_rfl) (by kernel_rfl) (fun _ _ _ h => h) (Or.inl ⟨by rfl, ?_⟩) (by assumption) ?_
  rotate_left 1
  · ((intro w hSw; (try dsimp only at hSw); go_simp); (try with_reducible rfl))
  simp only [Act.put, List.setIfInBounds_toArray, List.set_cons_zero, List.set_cons_succ, List.getElem_toArray, List.getElem_cons_zero, List.getElem_cons_succ]
  refine wpAnyC_ready (rs := [12]) (by kernel_rfl) (by simp) ?_
  refine AllReadyC.cons rfl (fun K hK => ?_) AllReadyC.nil
  go_simp
  refine hK.out _ _ ?_ (fun hHeld => ?_)
  · exact hs1
  clear hK K
  try simp only [Act.put, List.setIfInBounds_toArray, List.set_cons_zero, List.set_cons_succ, List.getElem_toArray, List.getElem_cons_zero, List.getElem_cons_succ]
  refine wpAnyC_ready (rs := [13]) (by kernel_rfl) (by simp) ?_
  refine AllReadyC.cons rfl (fun K hK => ?_) AllReadyC.nil
  refine step_app2 (u.alloc (.cells (etc_ [⟨k, P, i⟩]).toArray 105)) rfl (.tmp 21) (.tmp 29) 63 rfl 0 105 i0 _ 3 24 Tryz.underlying63 hi0 hy0 hy1 hy2 rfl (by decide) A n c _ rfl hown _ _ 1 1 (etc_ [⟨k, P, i⟩]) rfl (by simp) L2.out S2.out O2.out N2.out T2.out Z2.out ?_
  intro A' c' w1 happ
  have bb := hba.out.turned happ.turned HN.out
  have hs2 : w1.cell? ⟨b, ofs + 2, none⟩ = some (.slice A n c) ∧ w1.cell? ⟨b, ofs + 1, none⟩ = some (.int .i64 P) := ⟨(bb.cell _).trans Hhdr.out, (bb.cell _).trans Hput.out⟩
  have fz := bb.frozen (ofs + 2)
  have HA := hidp happ
  have Hbb := hidp bb
  clear hown hs1 bb
  refine hK.out _ _ ?_ (fun hHeld => ?_)
  · exact hs2
  clear hK K
  try simp only [Act.put, List.setIfInBounds_toArray, List.set_cons_zero, List.set_cons_succ, List.getElem_toArray, List.getElem_cons_zero, List.getElem_cons_succ]
  refine wpAnyC_ready (rs := [14]) (by kernel_rfl) (by simp) ?_
  refine AllReadyC.cons rfl (fun K hK => ?_) AllReadyC.nil
  go_simp
  refine hK.out _ _ ?_ (fun hHeld => ?_)
  · exact hs2
  clear hK K
  try simp only [Act.put, List.setIfInBounds_toArray, List.set_cons_zero, List.set_cons_succ, List.getElem_toArray, List.getElem_cons_zero, List.getElem_cons_succ]
  refine wpAnyC_take (i := 15) (v := ?_) rfl rfl (by kernel_rfl) (by decide) (by kernel_rfl) (by kernel_rfl) (by kernel_rfl) (fun _ _ _ h => h) (Or.inl ⟨by rfl, ?_⟩) (by assumption) ?_
  rotate_left 1
  · ((intro w hSw; (try dsimp only at hSw); go_simp); (try with_reducible rfl))
  simp only [Act.put, List.setIfInBounds_toArray, List.set_cons_zero, List.set_cons_succ, List.getElem_toArray, List.getElem_cons_zero, List.getElem_cons_succ]
  have cz := hs2.1
  clear hHeld
  refine wpAnyC_ready (rs := [16]) (by kernel_rfl) (by simp) ?_
  refine AllReadyC.last rfl (fun K hK => ?_)
  go_simp
  refine hK.out _ _ ?_
  clear hK K
  refine wpAnyC_done (by kernel_rfl) ?_ _
  have hnA : b ∉ fp A' := fun h => by
    rcases HA.out.fps b h with g | g
    · exact HN.out g
    · exact absurd (Nat.le_trans TD.out.size g) (by omega)
  have o2 := hoa.out.app (ps := [⟨k, P, i⟩]) HA.out rfl
  rw [Hm.out] at o2
  have R3 : Rk (w1.setCell ⟨b, ofs + 2, none⟩ (.slice A' m.length c')) b ofs KT (rkCs kcs ofs P A' m.length c') R P m A' c' := HRk.out.hdr_ (l' := m) Hbb.out (by rw [Hml.out]; exact o2) hnA
  rw [Hml.out] at R3
  have T3 : Turned [b] w1 (w1.setCell ⟨b, ofs + 2, none⟩ (.slice A' (n + 1) c')) := (Turned.refl [b] w1).setCell (p := ⟨b, ofs + 2, none⟩) (.inl (by simp)) _
  have o3 := o2.turned T3 (fun j hj hm => by simp at hm; subst hm; exact hnA hj)
  have TW := hidp (((TD.out.mono (G := b :: fp A) (by simp)).trans HA.out.turned (fun j hj => .inl (List.mem_cons_of_mem _ hj))).trans T3 (fun j hj => .inl (by simp only [List.mem_singleton] at hj; rw [hj]; exact List.mem_cons_self)))
  have HFs : Hid (∀ j ∈ fp A', j ∈ fp A ∨ w.heap.size ≤ j) := hidp (fun j hj => (HA.out.fps j hj).imp id (Nat.le_trans TD.out.size))
  have HR3 := hidp R3
  clear HA T3 o2 o3 cz hs2 fz Hbb hoa hba R3
  go_upto_region 4 with fail
  obtain ⟨z, hz⟩ : ∃ z, w1.setCell ⟨b, ofs + 2, none⟩ (.slice A' (n + 1) c') = z := ⟨_, rfl⟩
  rw [hz] at HR3 TW ⊢
  clear hz
  have d1 : z.cell? ⟨b, ofs + 1, none⟩ = some (.int .i64 P) := HR3.out.cell1
  have f1 := HR3.out.blk.frozen (ofs + 1)
  have wp1 : IntKind.i64.wrap (P + 1) = P + 1 := IntWalk.i64_in _ (by omega)
  have R4 := HR3.out
  rw [← Hml.out] at R4
  replace R4 := R4.puts_ (P + 1)
  rw [Hml.out] at R4
  have d2 : (z.setCell ⟨b, ofs + 1, none⟩ (.int .i64 (P + 1))).cell? ⟨b, ofs + 2, none⟩ = some (.slice A' (n + 1) c') := by rw [← Hml.out]; exact R4.cell2
  have T4 : Turned [b] z (z.setCell ⟨b, ofs + 1, none⟩ (.int .i64 (P + 1))) := (Turned.refl [b] z).setCell (p := ⟨b, ofs + 1, none⟩) (.inl (by simp)) _
  have wn : IntKind.i64.wrap (((n + 1 : Nat) : Int) - 1) = (n : Int) := by rw [show (((n + 1 : Nat) : Int) - 1) = (n : Int) by omega]; exact IntWalk.i64_in _ (by omega)
  have H4 := hidp R4
  have TW2 := hidp (TW.out.trans T4 (fun j hj => .inl (by simp only [List.mem_singleton] at hj; rw [hj]; exact List.mem_cons_self)))
  clear T4 HR3 TW R4
  go_wp2_with fail
  refine (rise_any H4.out n (by rw [Hml.out]; omega) (by rw [Hml.out]; omega)).mono ?_
  rintro e v ⟨rfl, HR5, T5⟩
  clear d1 f1 wp1 d2 wn
  go_wp2_with fail
  go_ret
  exact ⟨rfl, A', c', by rw [riseL_len _ _ (by rw [Hml.out]; omega), Hml.out]; exact HR5, TW2.out.trans T5 (fun j hj => (HFs.out j hj).imp (List.mem_cons_of_mem _) id), HFs.out⟩
end
end Go.Proofs.YtppgameimddimaaGreat
