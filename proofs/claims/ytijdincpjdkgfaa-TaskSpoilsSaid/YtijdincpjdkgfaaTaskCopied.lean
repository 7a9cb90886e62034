/- swingbridgelaw8.copied: a set that is alike, with slices of its own. -/
import Derived.Test.YtijdincpjdkgfaaTaskCopy
import Derived.Deep.Cut
namespace Go.Proofs.Ytijdincpjdkgfaa
open Go.ChangeShapes Go.WideShapes Go.ChangeAt Go.RowKit
set_option linter.unusedVariables false
set_option linter.unusedSimpArgs false
set_option maxHeartbeats 4000000 in
theorem copied_any (s : SetR) (w : World) (hs : SetOk w s) (hf : FewS s) : Calls Try.prog 24 #[.agg #[.int .i64 s.proto, .slice s.ca s.cores.length s.cc, .slice s.ha s.homes.length s.hc, .slice s.ta s.tasks.length s.tc]] w (CopyPost w s) := by
  obtain ⟨i0, hi0, hy0, hy1, hy2⟩ := info_parts infoC
  obtain ⟨j0, hj0, hk0, hk1, hk2⟩ := info_parts infoTask
  obtain ⟨q0, hq0, hr0, hr1, hr2⟩ := info_parts infoPart
  obtain ⟨proto, ca, cc, cores, ha, hc, homes, ta, tc, tasks⟩ := s
  obtain ⟨f1, f2, f3, f4⟩ := hf
  dsimp only at f1 f2 f3 f4
  obtain ⟨n1, HN1⟩ : ∃ n, Hid (cores.length = n) := ⟨_, rfl⟩
  obtain ⟨n2, HN2⟩ : ∃ n, Hid (homes.length = n) := ⟨_, rfl⟩
  obtain ⟨n3, HN3⟩ : ∃ n, Hid (tasks.length = n) := ⟨_, rfl⟩
  rw [HN1.out] at f1
  rw [HN2.out] at f2
  rw [HN3.out] at f3
  have HS := hidp hs
  have HF4 := hidp f4
  have Hti := hidp hs.tasks.at_
  have scc := hs.cores.sl
  have sch := hs.homes.sl
  have sct := hs.tasks.sl
  have rc := hs.cores.at_
  have rh := hs.homes.at_
  have rt := hs.tasks.at_
  dsimp only at scc sch sct rc rh rt ⊢
  rw [HN1.out] at scc
  rw [HN2.out] at sch
  rw [HN3.out] at sct
  rw [HN1.out, HN2.out, HN3.out]
  clear hs f4
  -- the three boxes
  let u := ((w.alloc (.cells #[.int .i64 proto, .slice ca n1 cc, .slice ha n2 hc, .slice ta n3 tc] 25)).alloc (.cells #[.int .i64 0, .slice none 0 0, .slice none 0 0, .slice none 0 0] 25)).alloc (.cells #[.int .i64 proto, .slice ca n1 cc, .slice ha n2 hc, .slice ta n3 tc] 25)
  have e1 : (w.alloc (.cells #[.int .i64 proto, .slice ca n1 cc, .slice ha n2 hc, .slice ta n3 tc] 25)).heap.size = w.heap.size + 1 := by simp
  have e2 : ((w.alloc (.cells #[.int .i64 proto, .slice ca n1 cc, .slice ha n2 hc, .slice ta n3 tc] 25)).alloc (.cells #[.int .i64 0, .slice none 0 0, .slice none 0 0, .slice none 0 0] 25)).heap.size = w.heap.size + 1 + 1 := by simp
  have hu : Below w.heap.size w u := (((Below.refl _ _).alloc (Nat.le_refl _) _).alloc (by omega) _).alloc (by omega) _
  have hus : w.heap.size + 3 ≤ u.heap.size := by simp [u]
  have b1 : Bk u w.heap.size 25 #[.int .i64 proto, .slice ca n1 cc, .slice ha n2 hc, .slice ta n3 tc] := ((Bk.new w _ _).alloc _).alloc _
  have b2 : Bk u (w.heap.size + 1) 25 #[.int .i64 0, .slice none 0 0, .slice none 0 0, .slice none 0 0] := (Bk.at_ e1 rfl).alloc _
  have b3 : Bk u (w.heap.size + 1 + 1) 25 #[.int .i64 proto, .slice ca n1 cc, .slice ha n2 hc, .slice ta n3 tc] := Bk.at_ e2 rfl
  clear e1 e2
  replace hu : Below w.heap.size w u.drew := below_drewN hu 1
  replace hus : w.heap.size + 3 ≤ u.drew.heap.size := hus
  replace b1 : Bk u.drew w.heap.size 25 #[.int .i64 proto, .slice ca n1 cc, .slice ha n2 hc, .slice ta n3 tc] := b1.drewN 1
  replace b2 : Bk u.drew (w.heap.size + 1) 25 #[.int .i64 0, .slice none 0 0, .slice none 0 0, .slice none 0 0] := b2.drewN 1
  replace b3 : Bk u.drew (w.heap.size + 1 + 1) 25 #[.int .i64 proto, .slice ca n1 cc, .slice ha n2 hc, .slice ta n3 tc] := b3.drewN 1
  have Q1 : Hid (ca = none → n1 = 0 ∧ cc = 0) := hidp scc.1
  have L1 : Hid ((cores.map (Value.int .i64)).length = n1 * 1) := hidp (by simp [HN1.out])
  have S1 : Hid (Lies u.drew.heap.size u.drew ca (cores.map (Value.int .i64))) := hidp (Row.lies (rc.mono (Keeps.of_below hu)))
  have O1 := hidp (ints_one cores)
  have M1 : Hid (0 + n1 ≤ maxLen) := hidp (by unfold maxLen; omega)
  have T1 : Hid ((0 + n1) * 8 ≤ 140737488355328) := hidp (by omega)
  have Z1 := hidp hus
  obtain ⟨-, x1, x2, x3⟩ := Z4 b1
  have hs : u.drew.cell? ⟨w.heap.size, 1, none⟩ = some (.slice ca n1 cc) ∧ u.drew.cell? ⟨w.heap.size, 2, none⟩ = some (.slice ha n2 hc) ∧ u.drew.cell? ⟨w.heap.size, 3, none⟩ = some (.slice ta n3 tc) := ⟨x1, x2, x3⟩
  clear x1 x2 x3
  go_enter Try.func24, Try.ntmps24
  go_wp2_with fail
  refine wp_region_held_drew (S := fun w' => w'.cell? ⟨w.heap.size, 1, none⟩ = some (.slice ca n1 cc) ∧ w'.cell? ⟨w.heap.size, 2, none⟩ = some (.slice ha n2 hc) ∧ w'.cell? ⟨w.heap.size, 3, none⟩ = some (.slice ta n3 tc)) (by kernel_rfl) ?_ (fun hHeld => ?_)
  · exact hs
  refine wpAnyH_take (i := 0) (v := ?_) rfl (by kernel_rfl) (by kernel_rfl) (by kernel_rfl) (fun _ _ _ h => h) (Or.inl ⟨by rfl, ?_⟩) (by assumption) ?_
  rotate_left 1
  · ((intro w hSw; (try dsimp only at hSw); go_simp); (try with_reducible rfl))
  simp only [Act.put, List.setIfInBounds_toArray, List.set_cons_zero, List.set_cons_succ, List.getElem_toArray, List.getElem_cons_zero, List.getElem_cons_succ]
  refine wpAnyH_take (i := 1) (v := ?_) rfl (by kernel_rfl) (by kernel_rfl) (by kernel_rfl) (fun _ _ _ h => h) (Or.inl ⟨by rfl, ?_⟩) (by assumption) ?_
  rotate_left 1
  · ((intro w hSw; (try dsimp only at hSw); go_simp); (try with_reducible rfl))
  simp only [Act.put, List.setIfInBounds_toArray, List.set_cons_zero, List.set_cons_succ, List.getElem_toArray, List.getElem_cons_zero, List.getElem_cons_succ]
  refine wpAnyH_take (i := 3) (v := ?_) rfl (by kernel_rfl) (by kernel_rfl) (by kernel_rfl) (fun _ _ _ h => h) (Or.inl ⟨by rfl, ?_⟩) (by assumption) ?_
  rotate_left 1
  · ((intro w hSw; (try dsimp only at hSw); go_simp); (try with_reducible rfl))
  simp only [Act.put, List.setIfInBounds_toArray, List.set_cons_zero, List.set_cons_succ, List.getElem_toArray, List.getElem_cons_zero, List.getElem_cons_succ]
  refine wpAnyH_take (i := 4) (v := ?_) rfl (by kernel_rfl) (by kernel_rfl) (by kernel_rfl) (fun _ _ _ h => h) (Or.inl ⟨by rfl, ?_⟩) (by assumption) ?_
  rotate_left 1
  · ((intro w hSw; (try dsimp only at hSw); go_simp); (try with_reducible rfl))
  simp only [Act.put, List.setIfInBounds_toArray, List.set_cons_zero, List.set_cons_succ, List.getElem_toArray, List.getElem_cons_zero, List.getElem_cons_succ]
  refine wpAnyH_take (i := 6) (v := ?_) rfl (by kernel_rfl) (by kernel_rfl) (by kernel_rfl) (fun _ _ _ h => h) (Or.inl ⟨by rfl, ?_⟩) (by assumption) ?_
  rotate_left 1
  · ((intro w hSw; (try dsimp only at hSw); go_simp); (try with_reducible rfl))
  simp only [Act.put, List.setIfInBounds_toArray, List.set_cons_zero, List.set_cons_succ, List.getElem_toArray, List.getElem_cons_zero, List.getElem_cons_succ]
  refine wpAnyH_take (i := 7) (v := ?_) rfl (by kernel_rfl) (by kernel_rfl) (by kernel_rfl) (fun _ _ _ h => h) (Or.inl ⟨by rfl, ?_⟩) (by assumption) ?_
  rotate_left 1
  · ((intro w hSw; (try dsimp only at hSw); go_simp); (try with_reducible rfl))
  simp only [Act.put, List.setIfInBounds_toArray, List.set_cons_zero, List.set_cons_succ, List.getElem_toArray, List.getElem_cons_zero, List.getElem_cons_succ]
  refine wpAnyH_ready (rs := [2]) (by kernel_rfl) (by simp) ?_
  refine AllReadyH.cons rfl (fun K hK => ?_) AllReadyH.nil
  refine step_app2 u.drew rfl (.const (.slice none 0 0)) (.tmp 7) 22 rfl (w.heap.size + 3) 3 i0 _ 1 8 Try.underlying22 hi0 hy0 hy1 hy2 rfl (by decide) none 0 0 [] rfl (World.ownsRow_nil _ _ _ _) u.drew.heap.size ca n1 cc (cores.map (Value.int .i64)) rfl Q1.out L1.out S1.out O1.out M1.out T1.out Z1.out ?_
  intro A1 k1 v1 happ
  rw [Nat.zero_add, List.nil_append] at happ
  simp only [Nat.zero_add]
  replace hs : v1.cell? ⟨w.heap.size, 1, none⟩ = some (.slice ca n1 cc) ∧ v1.cell? ⟨w.heap.size, 2, none⟩ = some (.slice ha n2 hc) ∧ v1.cell? ⟨w.heap.size, 3, none⟩ = some (.slice ta n3 tc) := ⟨happ.turned.cell hs.1 (by simp [fp]), happ.turned.cell hs.2.1 (by simp [fp]), happ.turned.cell hs.2.2 (by simp [fp])⟩
  replace b1 := b1.turned happ.turned (by simp [fp])
  replace b2 := b2.turned happ.turned (by simp [fp])
  replace b3 := b3.turned happ.turned (by simp [fp])
  have o1 : OwnN (w.heap.size + 3) v1 A1 n1 k1 cores := ⟨happ.own, HN1.out.symm, happ.cap, happ.nil⟩
  have hv : Below w.heap.size w v1 := hu.trans (happ.turned.below hu.size (by simp [fp]))
  have hvs : w.heap.size + 3 ≤ v1.heap.size := Nat.le_trans hus happ.turned.size
  have P1 := hidp (own_fp happ.own)
  clear hHeld happ Q1 L1 S1 M1 T1 Z1 hu hus
  refine hK.out _ _ ?_ (fun hHeld => ?_)
  · exact hs
  clear hK K
  try simp only [Act.put, List.setIfInBounds_toArray, List.set_cons_zero, List.set_cons_succ, List.getElem_toArray, List.getElem_cons_zero, List.getElem_cons_succ]
  refine wpAnyH_take (i := 9) (v := ?_) rfl (by kernel_rfl) (by kernel_rfl) (by kernel_rfl) (fun _ _ _ h => h) (Or.inl ⟨by rfl, ?_⟩) (by assumption) ?_
  rotate_left 1
  · ((intro w hSw; (try dsimp only at hSw); go_simp); (try with_reducible rfl))
  simp only [Act.put, List.setIfInBounds_toArray, List.set_cons_zero, List.set_cons_succ, List.getElem_toArray, List.getElem_cons_zero, List.getElem_cons_succ]
  have Q2 : Hid (ha = none → n2 = 0 ∧ hc = 0) := hidp sch.1
  have L2 : Hid ((homes.map (Value.int .i64)).length = n2 * 1) := hidp (by simp [HN2.out])
  have S2 : Hid (Lies v1.heap.size v1 ha (homes.map (Value.int .i64))) := hidp (Row.lies (rh.mono (Keeps.of_below hv)))
  have O2 := hidp (ints_one homes)
  have M2 : Hid (0 + n2 ≤ maxLen) := hidp (by unfold maxLen; omega)
  have T2 : Hid ((0 + n2) * 8 ≤ 140737488355328) := hidp (by omega)
  have Z2 := hidp hvs
  refine wpAnyH_ready (rs := [5]) (by kernel_rfl) (by simp) ?_
  refine AllReadyH.cons rfl (fun K hK => ?_) AllReadyH.nil
  refine step_app2 v1 rfl (.const (.slice none 0 0)) (.tmp 10) 22 rfl (w.heap.size + 3) 3 i0 _ 1 8 Try.underlying22 hi0 hy0 hy1 hy2 rfl (by decide) none 0 0 [] rfl (World.ownsRow_nil _ _ _ _) v1.heap.size ha n2 hc (homes.map (Value.int .i64)) rfl Q2.out L2.out S2.out O2.out M2.out T2.out Z2.out ?_
  intro A2 k2 v2 happ
  rw [Nat.zero_add, List.nil_append] at happ
  simp only [Nat.zero_add]
  replace hs : v2.cell? ⟨w.heap.size, 1, none⟩ = some (.slice ca n1 cc) ∧ v2.cell? ⟨w.heap.size, 2, none⟩ = some (.slice ha n2 hc) ∧ v2.cell? ⟨w.heap.size, 3, none⟩ = some (.slice ta n3 tc) := ⟨happ.turned.cell hs.1 (by simp [fp]), happ.turned.cell hs.2.1 (by simp [fp]), happ.turned.cell hs.2.2 (by simp [fp])⟩
  replace b1 := b1.turned happ.turned (by simp [fp])
  replace b2 := b2.turned happ.turned (by simp [fp])
  replace b3 := b3.turned happ.turned (by simp [fp])
  replace o1 := o1.turned happ.turned (by simp [fp])
  have o2 : OwnN (w.heap.size + 3) v2 A2 n2 k2 homes := ⟨happ.own, HN2.out.symm, happ.cap, happ.nil⟩
  have hv2 : Below w.heap.size w v2 := hv.trans (happ.turned.below hv.size (by simp [fp]))
  have hvs2 : w.heap.size + 3 ≤ v2.heap.size := Nat.le_trans hvs happ.turned.size
  have P2 := hidp (own_fp happ.own)
  have E12 : Hid (∀ a ∈ fp A1, ∀ b ∈ fp A2, a < b) := hidp fun a ha b hb => by
    rcases happ.fps b hb with h | h
    · simp [fp] at h
    · exact Nat.lt_of_lt_of_le (P1.out a ha).2 h
  replace P1 : Hid (∀ k ∈ fp A1, w.heap.size + 3 ≤ k ∧ k < v2.heap.size) := hidp fun k hk => ⟨(P1.out k hk).1, Nat.lt_of_lt_of_le (P1.out k hk).2 happ.turned.size⟩
  clear hHeld happ Q2 L2 S2 M2 T2 Z2 hv hvs
  refine hK.out _ _ ?_ (fun hHeld => ?_)
  · exact hs
  clear hK K
  try simp only [Act.put, List.setIfInBounds_toArray, List.set_cons_zero, List.set_cons_succ, List.getElem_toArray, List.getElem_cons_zero, List.getElem_cons_succ]
  have Q3 : Hid (ta = none → n3 = 0 ∧ tc = 0) := hidp sct.1
  have L3 : Hid ((ttc tasks).length = n3 * 6) := hidp (by rw [ttc_len, HN3.out])
  have S3 : Hid (Lies v2.heap.size v2 ta (ttc tasks)) := hidp (lies_tasks (rt.keep (Keeps.of_below hv2)))
  have O3 := hidp (ttc_one tasks)
  have M3 : Hid (0 + n3 ≤ maxLen) := hidp (by unfold maxLen; omega)
  have T3 : Hid ((0 + n3) * 72 ≤ 140737488355328) := hidp (by omega)
  have Z3' := hidp hvs2
  refine wpAnyH_ready (rs := [8]) (by kernel_rfl) (by simp) ?_
  refine AllReadyH.cons rfl (fun K hK => ?_) AllReadyH.nil
  refine step_app2 v2 rfl (.const (.slice none 0 0)) (.tmp 13) 23 rfl (w.heap.size + 3) 37 j0 _ 6 72 Try.underlying23 hj0 hk0 hk1 hk2 rfl (by decide) none 0 0 [] rfl (World.ownsRow_nil _ _ _ _) v2.heap.size ta n3 tc (ttc tasks) rfl Q3.out L3.out S3.out O3.out M3.out T3.out Z3'.out ?_
  intro A3 k3 u6 happ
  rw [Nat.zero_add, List.nil_append] at happ
  simp only [Nat.zero_add]
  replace hs : u6.cell? ⟨w.heap.size, 1, none⟩ = some (.slice ca n1 cc) ∧ u6.cell? ⟨w.heap.size, 2, none⟩ = some (.slice ha n2 hc) ∧ u6.cell? ⟨w.heap.size, 3, none⟩ = some (.slice ta n3 tc) := ⟨happ.turned.cell hs.1 (by simp [fp]), happ.turned.cell hs.2.1 (by simp [fp]), happ.turned.cell hs.2.2 (by simp [fp])⟩
  replace b1 := b1.turned happ.turned (by simp [fp])
  replace b2 := b2.turned happ.turned (by simp [fp])
  replace b3 := b3.turned happ.turned (by simp [fp])
  replace o1 := o1.turned happ.turned (by simp [fp])
  replace o2 := o2.turned happ.turned (by simp [fp])
  have o3 : OwnT (w.heap.size + 3) u6 A3 n3 k3 tasks := ⟨happ.own, HN3.out.symm, happ.cap, happ.nil⟩
  have p3 := own_fp happ.own
  have p3n : ∀ k ∈ fp A3, v2.heap.size ≤ k := fun k hk => by
    rcases happ.fps k hk with h | h
    · simp [fp] at h
    · exact h
  have E13 : Hid (∀ a ∈ fp A1 ++ fp A2, ∀ b ∈ fp A3, a < b) := hidp fun a ha b hb => by
    have h3 := p3n b hb
    rcases List.mem_append.1 ha with h | h
    · exact Nat.lt_of_lt_of_le (P1.out a h).2 h3
    · exact Nat.lt_of_lt_of_le (P2.out a h).2 h3
  have hu6 : Below w.heap.size w u6 := hv2.trans (happ.turned.below hv2.size (by simp [fp]))
  have hus6 : w.heap.size + 3 ≤ u6.heap.size := Nat.le_trans hvs2 happ.turned.size
  clear hHeld happ Q3 L3 S3 M3 T3 Z3' hv2 hvs2 p3n
  refine hK.out _ _ ?_ (fun hHeld => ?_)
  · exact hs
  clear hK K
  try simp only [Act.put, List.setIfInBounds_toArray, List.set_cons_zero, List.set_cons_succ, List.getElem_toArray, List.getElem_cons_zero, List.getElem_cons_succ]
  -- the three stores
  obtain ⟨-, y1, y2, y3⟩ := Z4 b3
  obtain ⟨-, f1, f2, f3⟩ := ZF4 b3
  have TS1 := (Turned.refl [w.heap.size + 1 + 1] u6).setCell (p := ⟨w.heap.size + 1 + 1, 1, none⟩) (.inl (by simp)) (.slice A1 n1 k1)
  have TS2 := TS1.setCell (p := ⟨w.heap.size + 1 + 1, 2, none⟩) (.inl (by simp)) (.slice A2 n2 k2)
  have TS := TS2.setCell (p := ⟨w.heap.size + 1 + 1, 3, none⟩) (.inl (by simp)) (.slice A3 n3 k3)
  have b31 := b3.put 1 (.slice A1 n1 k1)
  have b32 := b31.put 2 (.slice A2 n2 k2)
  have b35 : Bk (((u6.setCell ⟨w.heap.size + 1 + 1, 1, none⟩ (.slice A1 n1 k1)).setCell ⟨w.heap.size + 1 + 1, 2, none⟩ (.slice A2 n2 k2)).setCell ⟨w.heap.size + 1 + 1, 3, none⟩ (.slice A3 n3 k3)) (w.heap.size + 1 + 1) 25 #[.int .i64 proto, .slice A1 n1 k1, .slice A2 n2 k2, .slice A3 n3 k3] := b32.put 3 (.slice A3 n3 k3)
  have g2 := b31.frozen 2
  have g3 := b32.frozen 3
  have z2 : (u6.setCell ⟨w.heap.size + 1 + 1, 1, none⟩ (.slice A1 n1 k1)).cell? ⟨w.heap.size + 1 + 1, 2, none⟩ = some (.slice ha n2 hc) := b31.cell 2
  have z3 : ((u6.setCell ⟨w.heap.size + 1 + 1, 1, none⟩ (.slice A1 n1 k1)).setCell ⟨w.heap.size + 1 + 1, 2, none⟩ (.slice A2 n2 k2)).cell? ⟨w.heap.size + 1 + 1, 3, none⟩ = some (.slice ta n3 tc) := b32.cell 3
  have hs1 : (u6.setCell ⟨w.heap.size + 1 + 1, 1, none⟩ (.slice A1 n1 k1)).cell? ⟨w.heap.size, 1, none⟩ = some (.slice ca n1 cc) ∧ (u6.setCell ⟨w.heap.size + 1 + 1, 1, none⟩ (.slice A1 n1 k1)).cell? ⟨w.heap.size, 2, none⟩ = some (.slice ha n2 hc) ∧ (u6.setCell ⟨w.heap.size + 1 + 1, 1, none⟩ (.slice A1 n1 k1)).cell? ⟨w.heap.size, 3, none⟩ = some (.slice ta n3 tc) := ⟨TS1.cell hs.1 (by simp; omega), TS1.cell hs.2.1 (by simp; omega), TS1.cell hs.2.2 (by simp; omega)⟩
  have hs2 := And.intro (TS2.cell hs.1 (by simp; omega)) (And.intro (TS2.cell hs.2.1 (by simp; omega)) (TS2.cell hs.2.2 (by simp; omega)))
  have hs3 := And.intro (TS.cell hs.1 (by simp; omega)) (And.intro (TS.cell hs.2.1 (by simp; omega)) (TS.cell hs.2.2 (by simp; omega)))
  refine wpAnyH_ready (rs := [10]) (by kernel_rfl) (by simp) ?_
  refine AllReadyH.cons rfl (fun K hK => ?_) AllReadyH.nil
  go_simp
  refine hK.out _ _ ?_ (fun hHeld => ?_)
  · exact hs1
  clear hK K
  try simp only [Act.put, List.setIfInBounds_toArray, List.set_cons_zero, List.set_cons_succ, List.getElem_toArray, List.getElem_cons_zero, List.getElem_cons_succ]
  refine wpAnyH_take (i := 11) (v := ?_) rfl (by kernel_rfl) (by kernel_rfl) (by kernel_rfl) (fun _ _ _ h => h) (Or.inl ⟨by rfl, ?_⟩) (by assumption) ?_
  rotate_left 1
  · ((intro w hSw; (try dsimp only at hSw); go_simp); (try with_reducible rfl))
  simp only [Act.put, List.setIfInBounds_toArray, List.set_cons_zero, List.set_cons_succ, List.getElem_toArray, List.getElem_cons_zero, List.getElem_cons_succ]
  refine wpAnyH_ready (rs := [12]) (by kernel_rfl) (by simp) ?_
  refine AllReadyH.cons rfl (fun K hK => ?_) AllReadyH.nil
  go_simp
  refine hK.out _ _ ?_ (fun hHeld => ?_)
  · exact hs2
  clear hK K
  try simp only [Act.put, List.setIfInBounds_toArray, List.set_cons_zero, List.set_cons_succ, List.getElem_toArray, List.getElem_cons_zero, List.getElem_cons_succ]
  refine wpAnyH_take (i := 13) (v := ?_) rfl (by kernel_rfl) (by kernel_rfl) (by kernel_rfl) (fun _ _ _ h => h) (Or.inl ⟨by rfl, ?_⟩) (by assumption) ?_
  rotate_left 1
  · ((intro w hSw; (try dsimp only at hSw); go_simp); (try with_reducible rfl))
  simp only [Act.put, List.setIfInBounds_toArray, List.set_cons_zero, List.set_cons_succ, List.getElem_toArray, List.getElem_cons_zero, List.getElem_cons_succ]
  refine wpAnyH_ready (rs := [14]) (by kernel_rfl) (by simp) ?_
  refine AllReadyH.cons rfl (fun K hK => ?_) AllReadyH.nil
  go_simp
  refine hK.out _ _ ?_ (fun hHeld => ?_)
  · exact hs3
  clear hK K
  try simp only [Act.put, List.setIfInBounds_toArray, List.set_cons_zero, List.set_cons_succ, List.getElem_toArray, List.getElem_cons_zero, List.getElem_cons_succ]
  refine wpAnyH_done (by kernel_rfl) ?_ _
  have b15 := b1.turned TS (by simp; omega)
  have b25 := b2.turned TS (by simp)
  replace o1 := o1.turned TS (fun k hk hm => by simp at hm; subst hm; have := (P1.out _ hk).1; omega)
  replace o2 := o2.turned TS (fun k hk hm => by simp at hm; subst hm; have := (P2.out _ hk).1; omega)
  replace o3 := o3.turned TS (fun k hk hm => by simp at hm; subst hm; have := (p3 _ hk).1; omega)
  have hv3 := hu6.trans (TS.below hu6.size (by simp; omega))
  have hvs3 := Nat.le_trans hus6 TS.size
  clear TS TS1 TS2 b31 b32 g2 g3 z2 z3 hs hs1 hs2 hs3 hHeld y1 y2 y3 f1 f2 f3 b1 b2 b3 P1 P2 p3 hu6 hus6
  generalize ((u6.setCell ⟨w.heap.size + 1 + 1, 1, none⟩ (.slice A1 n1 k1)).setCell ⟨w.heap.size + 1 + 1, 2, none⟩ (.slice A2 n2 k2)).setCell ⟨w.heap.size + 1 + 1, 3, none⟩ (.slice A3 n3 k3) = v3 at *
  have cp0 : CpInv (w.heap.size + 3) v3 A1 A2 A3 k3 tasks tasks 0 := ⟨rfl, fun j hj => sameF.refl _, fun j _ _ => rfl, by rw [HN3.out]; exact o3, by omega, by omega, by omega⟩
  obtain ⟨-, -, -, x3⟩ := Z4 b15
  go_wp2_with fail
  go_loopg [4] n3 (fun gg s4 wr => ∃ (i : Nat) (cs : List TaskR), i + gg = n3 ∧ s4 = .int .i64 i ∧ Bk wr w.heap.size 25 #[.int .i64 proto, .slice ca n1 cc, .slice ha n2 hc, .slice ta n3 tc] ∧ Bk wr (w.heap.size + 1) 25 #[.int .i64 0, .slice none 0 0, .slice none 0 0, .slice none 0 0] ∧ Bk wr (w.heap.size + 1 + 1) 25 #[.int .i64 proto, .slice A1 n1 k1, .slice A2 n2 k2, .slice A3 n3 k3] ∧ OwnN (w.heap.size + 3) wr A1 n1 k1 cores ∧ OwnN (w.heap.size + 3) wr A2 n2 k2 homes ∧ CpInv (w.heap.size + 3) wr A1 A2 A3 k3 tasks cs i ∧ Below w.heap.size w wr ∧ w.heap.size + 3 ≤ wr.heap.size)
  case atStart => exact ⟨0, tasks, by omega, rfl, b15, b25, b35, o1, o2, cp0, hv3, hvs3⟩
  case round =>
    clear b15 b25 b35 o1 o2 o3 cp0 hv3 hvs3
    obtain ⟨i, cs, hk, rfl, b1, b2, b3, o1, o2, cp, hb, hz⟩ := hrel
    by_cases hlt : i < n3
    · obtain ⟨t, HT⟩ : ∃ t, Hid (tasks.getD i default = t) := ⟨_, rfl⟩
      have hil : i < tasks.length := by rw [HN3.out]; exact hlt
      obtain ⟨g, off, hA, hc⟩ := Hti.out.resolve_left (by intro e; rw [e] at hil; simp at hil)
      subst hA
      obtain ⟨-, -, -, -, -, c5⟩ := (HT.out ▸ hc i hil).keep (Keeps.of_below (below_drewN hb 1))
      have tok : TaskOk w t := HT.out ▸ HS.out.tasks.ok _ (getD_mem hil)
      have tf : t.parts.length ≤ 1000 := HT.out ▸ HF4.out _ (getD_mem hil)
      clear hc
      obtain ⟨g3, hA3, hg3, hg3'⟩ := own_at cp.ot.own (by rw [HN3.out]; omega)
      subst hA3
      have hA : ∀ a ∈ fp A1 ++ (fp A2 ++ fp (some ⟨g3, 0, none⟩)), a < wr.heap.size := fun a ha => by
        rcases List.mem_append.1 ha with h | h
        · exact (own_fp o1.own a h).2
        · rcases List.mem_append.1 h with h | h
          · exact (own_fp o2.own a h).2
          · exact (own_fp cp.ot.own a h).2
      obtain ⟨nm, per, dl, prio, cl, pa, pc, parts⟩ := t
      have tsl := tok.sl
      have tat := tok.at_
      dsimp only at c5 tf tsl tat
      obtain ⟨np, HNP⟩ : ∃ n, Hid (parts.length = n) := ⟨_, rfl⟩
      rw [HNP.out] at c5 tf tsl
      have TU := (Turned.refl [] wr).drew
      have hb1 : Below w.heap.size w wr.drew := below_drewN hb 1
      have hz1 : w.heap.size + 3 ≤ wr.drew.heap.size := hz
      obtain ⟨-, -, -, k3c⟩ := Z4 b3
      replace b1 := b1.turned TU (by simp)
      replace b2 := b2.turned TU (by simp)
      replace b3 := b3.turned TU (by simp)
      replace o1 := o1.turned TU (by simp)
      replace o2 := o2.turned TU (by simp)
      replace cp := cp.turned TU (by simp)
      have hA' : ∀ a ∈ fp A1 ++ (fp A2 ++ fp (some ⟨g3, 0, none⟩)), a < wr.drew.heap.size := hA
      have hs : wr.drew.cell? ⟨w.heap.size + 1 + 1, 3, none⟩ = some (.slice (some ⟨g3, 0, none⟩) n3 k3) ∧ wr.drew.cell? ⟨w.heap.size, 3, none⟩ = some (.slice (some ⟨g, off, none⟩) n3 tc) ∧ wr.drew.cell? ⟨g, off + i * 6 + 5, none⟩ = some (.slice pa np pc) := ⟨(Z4 b3).2.2.2, (Z4 b1).2.2.2, c5⟩
      have hgw : Hid (g < w.heap.size) := hidp (by
        obtain ⟨b0, o0, e0, h0⟩ := Hti.out.resolve_left (by intro e; rw [e] at hil; simp at hil)
        injection e0 with e0; injection e0 with e1 e2; subst e1
        exact cell_lt (h0 i hil).1)
      have Qp : Hid (pa = none → np = 0 ∧ pc = 0) := hidp tsl.1
      have Lp : Hid ((ptc parts).length = np * 3) := hidp (by rw [ptc_len, HNP.out])
      have Sp := hidp (lies_parts (tat.keep (Keeps.of_below hb1)))
      have Op := hidp (ptc_one parts)
      have Mp : Hid (0 + np ≤ maxLen) := hidp (by unfold maxLen; omega)
      have Tp : Hid ((0 + np) * 24 ≤ 140737488355328) := hidp (by omega)
      have Zp := hidp hz1
      have hA2 := hidp hA'
      clear tsl tat tok TU hA hA' c5
      go_wp2_with fail
      refine wp_region_held_drew (S := fun w' => w'.cell? ⟨w.heap.size + 1 + 1, 3, none⟩ = some (.slice (some ⟨g3, 0, none⟩) n3 k3) ∧ w'.cell? ⟨w.heap.size, 3, none⟩ = some (.slice (some ⟨g, off, none⟩) n3 tc) ∧ w'.cell? ⟨g, off + i * 6 + 5, none⟩ = some (.slice pa np pc)) (by kernel_rfl) ?_ (fun hHeld => ?_)
      · exact hs
      generalize wr.drew = u1 at *
      refine wpAnyH_take (i := 0) (v := ?_) rfl (by kernel_rfl) (by kernel_rfl) (by kernel_rfl) (fun _ _ _ h => h) (Or.inl ⟨by rfl, ?_⟩) (by assumption) ?_
      rotate_left 1
      · ((intro w hSw; (try dsimp only at hSw); go_simp); (try with_reducible rfl))
      simp only [Act.put, List.setIfInBounds_toArray, List.set_cons_zero, List.set_cons_succ, List.getElem_toArray, List.getElem_cons_zero, List.getElem_cons_succ]
      refine wpAnyH_take (i := 1) (v := ?_) rfl (by kernel_rfl) (by kernel_rfl) (by kernel_rfl) (fun _ _ _ h => h) (Or.inl ⟨by rfl, ?_⟩) (by assumption) ?_
      rotate_left 1
      · ((intro w hSw; (try dsimp only at hSw); go_simp); (try with_reducible rfl))
      simp only [Act.put, List.setIfInBounds_toArray, List.set_cons_zero, List.set_cons_succ, List.getElem_toArray, List.getElem_cons_zero, List.getElem_cons_succ]
      refine wpAnyH_take (i := 2) (v := ?_) rfl (by kernel_rfl) (by kernel_rfl) (by kernel_rfl) (fun _ _ _ h => h) (Or.inl ⟨by rfl, ?_⟩) (by assumption) ?_
      rotate_left 1
      · ((intro w hSw; (try dsimp only at hSw); go_simp); (try with_reducible rfl))
      simp only [Act.put, List.setIfInBounds_toArray, List.set_cons_zero, List.set_cons_succ, List.getElem_toArray, List.getElem_cons_zero, List.getElem_cons_succ]
      refine wpAnyH_take (i := 3) (v := ?_) rfl (by kernel_rfl) (by kernel_rfl) (by kernel_rfl) (fun _ _ _ h => h) (Or.inl ⟨by rfl, ?_⟩) (by assumption) ?_
      rotate_left 1
      · ((intro w hSw; (try dsimp only at hSw); go_simp); (try with_reducible rfl))
      simp only [Act.put, List.setIfInBounds_toArray, List.set_cons_zero, List.set_cons_succ, List.getElem_toArray, List.getElem_cons_zero, List.getElem_cons_succ]
      refine wpAnyH_take (i := 4) (v := ?_) rfl (by kernel_rfl) (by kernel_rfl) (by kernel_rfl) (fun _ _ _ h => h) (Or.inl ⟨by rfl, ?_⟩) (by assumption) ?_
      rotate_left 1
      · ((intro w hSw; (try dsimp only at hSw); go_simp); (try with_reducible rfl))
      simp only [Act.put, List.setIfInBounds_toArray, List.set_cons_zero, List.set_cons_succ, List.getElem_toArray, List.getElem_cons_zero, List.getElem_cons_succ]
      refine wpAnyH_take (i := 5) (v := ?_) rfl (by kernel_rfl) (by kernel_rfl) (by kernel_rfl) (fun _ _ _ h => h) (Or.inl ⟨by rfl, ?_⟩) (by assumption) ?_
      rotate_left 1
      · ((intro w hSw; (try dsimp only at hSw); go_simp); (try with_reducible rfl))
      simp only [Act.put, List.setIfInBounds_toArray, List.set_cons_zero, List.set_cons_succ, List.getElem_toArray, List.getElem_cons_zero, List.getElem_cons_succ]
      refine wpAnyH_take (i := 6) (v := ?_) rfl (by kernel_rfl) (by kernel_rfl) (by kernel_rfl) (fun _ _ _ h => h) (Or.inl ⟨by rfl, ?_⟩) (by assumption) ?_
      rotate_left 1
      · ((intro w hSw; (try dsimp only at hSw); go_simp); (try with_reducible rfl))
      simp only [Act.put, List.setIfInBounds_toArray, List.set_cons_zero, List.set_cons_succ, List.getElem_toArray, List.getElem_cons_zero, List.getElem_cons_succ]
      refine wpAnyH_take (i := 7) (v := ?_) rfl (by kernel_rfl) (by kernel_rfl) (by kernel_rfl) (fun _ _ _ h => h) (Or.inl ⟨by rfl, ?_⟩) (by assumption) ?_
      rotate_left 1
      · ((intro w hSw; (try dsimp only at hSw); go_simp); (try with_reducible rfl))
      simp only [Act.put, List.setIfInBounds_toArray, List.set_cons_zero, List.set_cons_succ, List.getElem_toArray, List.getElem_cons_zero, List.getElem_cons_succ]
      refine wpAnyH_take (i := 8) (v := ?_) rfl (by kernel_rfl) (by kernel_rfl) (by kernel_rfl) (fun _ _ _ h => h) (Or.inl ⟨by rfl, ?_⟩) (by assumption) ?_
      rotate_left 1
      · ((intro w hSw; (try dsimp only at hSw); go_simp); (try with_reducible rfl))
      simp only [Act.put, List.setIfInBounds_toArray, List.set_cons_zero, List.set_cons_succ, List.getElem_toArray, List.getElem_cons_zero, List.getElem_cons_succ]
      refine wpAnyH_ready (rs := [9]) (by kernel_rfl) (by simp) ?_
      refine AllReadyH.cons rfl (fun K hK => ?_) AllReadyH.nil
      refine step_app2 u1 rfl (.const (.slice none 0 0)) (.tmp 33) 35 rfl (w.heap.size + 3) 39 q0 _ 3 24 Try.underlying35 hq0 hr0 hr1 hr2 rfl (by decide) none 0 0 [] rfl (World.ownsRow_nil _ _ _ _) u1.heap.size pa np pc (ptc parts) rfl Qp.out Lp.out Sp.out Op.out Mp.out Tp.out Zp.out ?_
      intro A' c' v happ
      rw [Nat.zero_add, List.nil_append] at happ
      simp only [Nat.zero_add]
      have hs2 : v.cell? ⟨w.heap.size + 1 + 1, 3, none⟩ = some (.slice (some ⟨g3, 0, none⟩) n3 k3) ∧ v.cell? ⟨w.heap.size, 3, none⟩ = some (.slice (some ⟨g, off, none⟩) n3 tc) ∧ v.cell? ⟨g, off + i * 6 + 5, none⟩ = some (.slice pa np pc) := ⟨happ.turned.cell hs.1 (by simp [fp]), happ.turned.cell hs.2.1 (by simp [fp]), happ.turned.cell hs.2.2 (by simp [fp])⟩
      clear hHeld hs
      refine hK.out _ _ ?_ (fun hHeld => ?_)
      · exact hs2
      clear hK K
      try simp only [Act.put, List.setIfInBounds_toArray, List.set_cons_zero, List.set_cons_succ, List.getElem_toArray, List.getElem_cons_zero, List.getElem_cons_succ]
      have hic : i < cs.length := by rw [cp.len]; exact hil
      have otv := cp.ot.turned happ.turned (by simp [fp])
      have fz := own_frozen otv.own (i * 6 + 5)
      have cz : ∃ x, v.cell? ⟨g3, i * 6 + 5, none⟩ = some x := by
        obtain ⟨b', o', eA, hcl⟩ := otv.tasks.resolve_left (by intro e; rw [e] at hic; simp at hic)
        injection eA with eA; injection eA with e1 e2; subst e1; subst e2
        have := (hcl i hic).2.2.2.2.2
        rw [Nat.zero_add] at this
        exact ⟨_, this⟩
      obtain ⟨x, cz⟩ := cz
      have TS : Turned [g3] v (v.setCell ⟨g3, i * 6 + 5, none⟩ (.slice A' np c')) := (Turned.refl [g3] v).setCell (p := ⟨g3, i * 6 + 5, none⟩) (.inl (by simp)) _
      have hgw2 := hgw.out
      have hs3 : (v.setCell ⟨g3, i * 6 + 5, none⟩ (.slice A' np c')).cell? ⟨w.heap.size + 1 + 1, 3, none⟩ = some (.slice (some ⟨g3, 0, none⟩) n3 k3) ∧ (v.setCell ⟨g3, i * 6 + 5, none⟩ (.slice A' np c')).cell? ⟨w.heap.size, 3, none⟩ = some (.slice (some ⟨g, off, none⟩) n3 tc) ∧ (v.setCell ⟨g3, i * 6 + 5, none⟩ (.slice A' np c')).cell? ⟨g, off + i * 6 + 5, none⟩ = some (.slice pa np pc) := ⟨TS.cell hs2.1 (by simp; omega), TS.cell hs2.2.1 (by simp; omega), TS.cell hs2.2.2 (by simp; omega)⟩
      clear hgw2
      refine wpAnyH_take (i := 10) (v := ?_) rfl (by kernel_rfl) (by kernel_rfl) (by kernel_rfl) (fun _ _ _ h => h) (Or.inl ⟨by rfl, ?_⟩) (by assumption) ?_
      rotate_left 1
      · ((intro w hSw; (try dsimp only at hSw); go_simp); (try with_reducible rfl))
      simp only [Act.put, List.setIfInBounds_toArray, List.set_cons_zero, List.set_cons_succ, List.getElem_toArray, List.getElem_cons_zero, List.getElem_cons_succ]
      refine wpAnyH_take (i := 11) (v := ?_) rfl (by kernel_rfl) (by kernel_rfl) (by kernel_rfl) (fun _ _ _ h => h) (Or.inl ⟨by rfl, ?_⟩) (by assumption) ?_
      rotate_left 1
      · ((intro w hSw; (try dsimp only at hSw); go_simp); (try with_reducible rfl))
      simp only [Act.put, List.setIfInBounds_toArray, List.set_cons_zero, List.set_cons_succ, List.getElem_toArray, List.getElem_cons_zero, List.getElem_cons_succ]
      refine wpAnyH_ready (rs := [12]) (by kernel_rfl) (by simp) ?_
      refine AllReadyH.cons rfl (fun K hK => ?_) AllReadyH.nil
      go_simp
      refine hK.out _ _ ?_ (fun hHeld => ?_)
      · exact hs3
      clear hK K
      try simp only [Act.put, List.setIfInBounds_toArray, List.set_cons_zero, List.set_cons_succ, List.getElem_toArray, List.getElem_cons_zero, List.getElem_cons_succ]
      refine wpAnyH_done (by kernel_rfl) ?_ _
      have cp2 := cp.step (np := np) (c' := c') hil (by rw [HT.out]; exact happ) (by rw [HT.out]; exact HNP.out.symm) hA2.out
      rw [HT.out] at cp2
      dsimp only at cp2
      have b12 := (b1.turned happ.turned (by simp [fp])).turned TS (by simp; omega)
      have b22 := (b2.turned happ.turned (by simp [fp])).turned TS (by simp; omega)
      have b32 := (b3.turned happ.turned (by simp [fp])).turned TS (by simp; omega)
      have oc1 : Hid (∀ k ∈ fp A1, k ≠ g3) := hidp fun k hk e => by have := E13.out k (by simp [hk]) g3 (by simp [fp]); omega
      have oc2 : Hid (∀ k ∈ fp A2, k ≠ g3) := hidp fun k hk e => by have := E13.out k (by simp [hk]) g3 (by simp [fp]); omega
      have o12 := (o1.turned happ.turned (by simp [fp])).turned TS (fun k hk => by simpa using oc1.out k hk)
      have o22 := (o2.turned happ.turned (by simp [fp])).turned TS (fun k hk => by simpa using oc2.out k hk)
      have hb2 := (hb1.trans (happ.turned.below hb1.size (by simp [fp]))).trans (TS.below (Nat.le_trans hb1.size happ.turned.size) (by simp; omega))
      have hz2 := Nat.le_trans (Nat.le_trans hz1 happ.turned.size) TS.size
      clear b1 b2 b3 o1 o2 cp happ hs2 hs3 hHeld TS otv fz cz hb1 hz1 hb hz k3c
      go_wp2_with fail
      go_roundg (gk - 1)
      case measure => omega
      case rel => exact ⟨i + 1, _, by omega, by go_num, b12, b22, b32, o12, o22, cp2, hb2, hz2⟩
    · obtain rfl : i = n3 := by omega
      obtain ⟨d0, d1, d2, d3⟩ := Z4 b3
      obtain ⟨f0, f1, f2, f3⟩ := ZF4 b2
      obtain ⟨e0, e1, e2, e3⟩ := Z4 b2
      have PB := put4_bk b2 (v0 := .int .i64 proto) (v1 := .slice A1 n1 k1) (v2 := .slice A2 n2 k2) (v3 := .slice A3 i k3)
      have PT := put4_turned wr (w.heap.size + 1) (.int .i64 proto) (.slice A1 n1 k1) (.slice A2 n2 k2) (.slice A3 i k3)
      have oc1 := o1.turned PT (fun k hk hm => by simp at hm; subst hm; have := (own_fp o1.own _ hk).1; omega)
      have oc2 := o2.turned PT (fun k hk hm => by simp at hm; subst hm; have := (own_fp o2.own _ hk).1; omega)
      have cpt := cp.turned PT (fun k h1 h2 hm => by simp at hm; omega)
      have hbe := hb.trans (PT.below hb.size (by simp))
      obtain ⟨r0, r1, r2, r3⟩ := Z4 PB
      have HC : Hid (CopyOf w.heap.size (put4 wr (w.heap.size + 1) (.int .i64 proto) (.slice A1 n1 k1) (.slice A2 n2 k2) (.slice A3 i k3)) ⟨proto, ca, cc, cores, ha, hc, homes, ta, tc, tasks⟩ ⟨proto, A1, k1, cores, A2, k2, homes, A3, k3, cs⟩) := hidp (by
        have l3 := cpt.len
        have l4 := HN3.out
        have l1 := HN1.out
        have l2 := HN2.out
        subst l1; subst l2
        have ot := cpt.ot
        rw [← l3] at ot
        refine ⟨rfl, rfl, rfl, l3, cpt.like, oc1.low (by omega), oc2.low (by omega), ot.low (by omega), fun j hj => (cpt.op j (by dsimp only at hj; omega)).low (by omega), E12.out, E13.out, fun j hj => cpt.s3 j (by dsimp only at hj; omega), fun j k hjk hk => cpt.s4 j k hjk (by dsimp only at hk; omega)⟩)
      have hl3 := cp.len
      clear PB PT oc1 oc2 cpt cp o1 o2 b2 b3
      unfold put4 at r0 r1 r2 r3 HC hbe
      have HL3 := hidp hl3
      clear hl3
      go_wp2
      try rw [Exit.noGoto_ret]
      refine bodyPost_ret (v := .agg #[.int .i64 proto, .slice A1 n1 k1, .slice A2 n2 k2, .slice A3 i k3]) (by simp [results, Try.results24, go_sem, r0, r1, r2, r3]) rfl ⟨⟨proto, A1, k1, cores, A2, k2, homes, A3, k3, cs⟩, ?_, HC.out, hbe⟩
      dsimp only
      rw [HN1.out, HN2.out, HL3.out, HN3.out]
end Go.Proofs.Ytijdincpjdkgfaa
