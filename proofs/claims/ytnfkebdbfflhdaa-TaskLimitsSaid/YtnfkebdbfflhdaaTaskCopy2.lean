/- task.Copy, as the model runs it. -/
import Derived.Test.YtnfkebdbfflhdaaTaskCopy
import Derived.Deep.Cut
namespace Go.Proofs.Ytnfkebdbfflhdaa
open Go.ChangeShapes Go.WideShapes Go.ChangeAt Go.RowKit
set_option linter.unusedVariables false
set_option linter.unusedSimpArgs false
set_option maxHeartbeats 4000000 in
theorem tcopy_any (s : SetR) (w : World) (hs : SetOk w s) (hf : FewS s) : Calls Try.prog 28 #[.agg #[.int .i64 s.proto, .slice s.ca s.cores.length s.cc, .slice s.ha s.homes.length s.hc, .slice s.ta s.tasks.length s.tc]] w (CopyPost w s) := by
  obtain ⟨i0, hi0, hy0, hy1, hy2⟩ := info_parts infoC
  obtain ⟨j0, hj0, hk0, hk1, hk2⟩ := info_parts infoTask
  obtain ⟨q0, hq0, hr0, hr1, hr2⟩ := info_parts infoPart
  obtain ⟨proto, ca, cc, cores, ha, hc, homes, ta, tc, tasks⟩ := s
  obtain ⟨f1, f2, f3, f4⟩ := hf
  dsimp only at f1 f2 f3 f4
  obtain ⟨n1, HN1⟩ : ∃ n, Hid (cores.length = n) := ⟨_, rfl⟩
  obtain ⟨n2, HN2⟩ : ∃ n, Hid (homes.length = n) := ⟨_, rfl⟩
  obtain ⟨n3, HN3⟩ : ∃ n, Hid (tasks.length = n) := ⟨_, rfl⟩
  rw [HN1.out] at f1
  rw [HN2.out] at f2
  rw [HN3.out] at f3
  have HS := hidp hs
  have HF4 := hidp f4
  have Hti := hidp hs.tasks.at_
  have scc := hs.cores.sl
  have sch := hs.homes.sl
  have sct := hs.tasks.sl
  have rc := hs.cores.at_
  have rh := hs.homes.at_
  have rt := hs.tasks.at_
  dsimp only at scc sch sct rc rh rt ⊢
  rw [HN1.out] at scc
  rw [HN2.out] at sch
  rw [HN3.out] at sct
  rw [HN1.out, HN2.out, HN3.out]
  clear hs f4
  -- the three boxes
  let u := ((w.alloc (.cells #[.int .i64 proto, .slice ca n1 cc, .slice ha n2 hc, .slice ta n3 tc] 25)).alloc (.cells #[.int .i64 0, .slice none 0 0, .slice none 0 0, .slice none 0 0] 25)).alloc (.cells #[.int .i64 proto, .slice ca n1 cc, .slice ha n2 hc, .slice ta n3 tc] 25)
  have e1 : (w.alloc (.cells #[.int .i64 proto, .slice ca n1 cc, .slice ha n2 hc, .slice ta n3 tc] 25)).heap.size = w.heap.size + 1 := by simp
  have e2 : ((w.alloc (.cells #[.int .i64 proto, .slice ca n1 cc, .slice ha n2 hc, .slice ta n3 tc] 25)).alloc (.cells #[.int .i64 0, .slice none 0 0, .slice none 0 0, .slice none 0 0] 25)).heap.size = w.heap.size + 1 + 1 := by simp
  have hu : Below w.heap.size w u := (((Below.refl _ _).alloc (Nat.le_refl _) _).alloc (by omega) _).alloc (by omega) _
  have hus : w.heap.size + 3 ≤ u.heap.size := by simp [u]
  have b1 : Bk u w.heap.size 25 #[.int .i64 proto, .slice ca n1 cc, .slice ha n2 hc, .slice ta n3 tc] := ((Bk.new w _ _).alloc _).alloc _
  have b2 : Bk u (w.heap.size + 1) 25 #[.int .i64 0, .slice none 0 0, .slice none 0 0, .slice none 0 0] := (Bk.at_ e1 rfl).alloc _
  have b3 : Bk u (w.heap.size + 1 + 1) 25 #[.int .i64 proto, .slice ca n1 cc, .slice ha n2 hc, .slice ta n3 tc] := Bk.at_ e2 rfl
  clear e1 e2
  -- what the appends want
  have Q1 : Hid (ca = none → n1 = 0 ∧ cc = 0) := hidp scc.1
  have L1 : Hid ((cores.map (Value.int .i64)).length = n1 * 1) := hidp (by simp [HN1.out])
  have S1 : Hid (Lies u.heap.size u ca (cores.map (Value.int .i64))) := hidp (Row.lies (rc.mono (Keeps.of_below hu)))
  have O1 := hidp (ints_one cores)
  have M1 : Hid (0 + n1 ≤ maxLen) := hidp (by unfold maxLen; omega)
  have T1 : Hid ((0 + n1) * 8 ≤ 140737488355328) := hidp (by omega)
  have Z1 := hidp hus
  obtain ⟨-, x1, -, -⟩ := Z4 b1
  go_enter Try.func28, Try.ntmps28
  go_upto_region 3 with (at_builtin; ((refine wpList_app2 u rfl (.const (.slice none 0 0)) (.tmp 8) 22 rfl (w.heap.size + 3) 3 i0 _ 1 8 Try.underlying22 hi0 hy0 hy1 hy2 rfl (by decide) none 0 0 [] rfl (World.ownsRow_nil _ _ _ _) u.heap.size ca n1 cc (cores.map (Value.int .i64)) rfl Q1.out L1.out S1.out O1.out M1.out T1.out Z1.out ?_); intro A1 k1 u4 happ; have b34 := b3.turned happ.turned (by simp [fp]); have fz := (ZF4 b34).2.1; have cz := (Z4 b34).2.1))
  rw [Nat.zero_add, List.nil_append] at happ
  have TS := (Turned.refl [w.heap.size + 1 + 1] u4).setCell (p := ⟨w.heap.size + 1 + 1, 1, none⟩) (.inl (by simp)) (.slice A1 n1 k1)
  have b13 := (b1.turned happ.turned (by simp [fp])).turned TS (by simp; omega)
  have b23 := (b2.turned happ.turned (by simp [fp])).turned TS (by simp)
  have b33 : Bk (u4.setCell ⟨w.heap.size + 1 + 1, 1, none⟩ (.slice A1 n1 k1)) (w.heap.size + 1 + 1) 25 #[.int .i64 proto, .slice A1 n1 k1, .slice ha n2 hc, .slice ta n3 tc] := b34.put 1 (.slice A1 n1 k1)
  have o1 : OwnN (w.heap.size + 3) u4 A1 n1 k1 cores := ⟨happ.own, HN1.out.symm, happ.cap, happ.nil⟩
  have p1 := own_fp happ.own
  replace o1 := o1.turned TS (fun k hk hm => by simp at hm; subst hm; have := (p1 _ hk).1; omega)
  have hv : Below w.heap.size w (u4.setCell ⟨w.heap.size + 1 + 1, 1, none⟩ (.slice A1 n1 k1)) := (hu.trans (happ.turned.below hu.size (by simp [fp]))).trans (TS.below (Nat.le_trans hu.size happ.turned.size) (by simp; omega))
  have hvs : w.heap.size + 3 ≤ (u4.setCell ⟨w.heap.size + 1 + 1, 1, none⟩ (.slice A1 n1 k1)).heap.size := Nat.le_trans (Nat.le_trans hus happ.turned.size) TS.size
  have P1 : Hid (∀ k ∈ fp A1, w.heap.size + 3 ≤ k ∧ k < (u4.setCell ⟨w.heap.size + 1 + 1, 1, none⟩ (.slice A1 n1 k1)).heap.size) := hidp fun k hk => ⟨(p1 k hk).1, Nat.lt_of_lt_of_le (p1 k hk).2 TS.size⟩
  clear TS happ fz cz b34 b1 b2 b3 x1 S1 Q1 L1 M1 T1 Z1 p1
  generalize u4.setCell ⟨w.heap.size + 1 + 1, 1, none⟩ (.slice A1 n1 k1) = v1 at *
  have Q2 : Hid (ha = none → n2 = 0 ∧ hc = 0) := hidp sch.1
  have L2 : Hid ((homes.map (Value.int .i64)).length = n2 * 1) := hidp (by simp [HN2.out])
  have S2 : Hid (Lies v1.heap.size v1 ha (homes.map (Value.int .i64))) := hidp (Row.lies (rh.mono (Keeps.of_below hv)))
  have O2 := hidp (ints_one homes)
  have M2 : Hid (0 + n2 ≤ maxLen) := hidp (by unfold maxLen; omega)
  have T2 : Hid ((0 + n2) * 8 ≤ 140737488355328) := hidp (by omega)
  have Z2 := hidp hvs
  obtain ⟨-, -, x2, -⟩ := Z4 b13
  go_upto_region 4 with (at_builtin; ((refine wpList_app2 v1 rfl (.const (.slice none 0 0)) (.tmp 12) 22 rfl (w.heap.size + 3) 3 i0 _ 1 8 Try.underlying22 hi0 hy0 hy1 hy2 rfl (by decide) none 0 0 [] rfl (World.ownsRow_nil _ _ _ _) v1.heap.size ha n2 hc (homes.map (Value.int .i64)) rfl Q2.out L2.out S2.out O2.out M2.out T2.out Z2.out ?_); intro A2 k2 u5 happ; have b35 := b33.turned happ.turned (by simp [fp]); have fz := (ZF4 b35).2.2.1; have cz := (Z4 b35).2.2.1))
  rw [Nat.zero_add, List.nil_append] at happ
  have TS := (Turned.refl [w.heap.size + 1 + 1] u5).setCell (p := ⟨w.heap.size + 1 + 1, 2, none⟩) (.inl (by simp)) (.slice A2 n2 k2)
  have b14 := (b13.turned happ.turned (by simp [fp])).turned TS (by simp; omega)
  have b24 := (b23.turned happ.turned (by simp [fp])).turned TS (by simp)
  have b34 : Bk (u5.setCell ⟨w.heap.size + 1 + 1, 2, none⟩ (.slice A2 n2 k2)) (w.heap.size + 1 + 1) 25 #[.int .i64 proto, .slice A1 n1 k1, .slice A2 n2 k2, .slice ta n3 tc] := b35.put 2 (.slice A2 n2 k2)
  have o2 : OwnN (w.heap.size + 3) u5 A2 n2 k2 homes := ⟨happ.own, HN2.out.symm, happ.cap, happ.nil⟩
  have p2 := own_fp happ.own
  have p2n : ∀ k ∈ fp A2, v1.heap.size ≤ k := fun k hk => by
    rcases happ.fps k hk with h | h
    · simp [fp] at h
    · exact h
  replace o1 := (o1.turned happ.turned (by simp [fp])).turned TS (fun k hk hm => by simp at hm; subst hm; have := (P1.out _ hk).1; omega)
  replace o2 := o2.turned TS (fun k hk hm => by simp at hm; subst hm; have := (p2 _ hk).1; omega)
  have hv2 : Below w.heap.size w (u5.setCell ⟨w.heap.size + 1 + 1, 2, none⟩ (.slice A2 n2 k2)) := (hv.trans (happ.turned.below hv.size (by simp [fp]))).trans (TS.below (Nat.le_trans hv.size happ.turned.size) (by simp; omega))
  have hvs2 : w.heap.size + 3 ≤ (u5.setCell ⟨w.heap.size + 1 + 1, 2, none⟩ (.slice A2 n2 k2)).heap.size := Nat.le_trans (Nat.le_trans hvs happ.turned.size) TS.size
  have P2 : Hid (∀ k ∈ fp A2, w.heap.size + 3 ≤ k ∧ k < (u5.setCell ⟨w.heap.size + 1 + 1, 2, none⟩ (.slice A2 n2 k2)).heap.size) := hidp fun k hk => ⟨(p2 k hk).1, Nat.lt_of_lt_of_le (p2 k hk).2 TS.size⟩
  have E12 : Hid (∀ a ∈ fp A1, ∀ b ∈ fp A2, a < b) := hidp fun a ha b hb => Nat.lt_of_lt_of_le (P1.out a ha).2 (p2n b hb)
  replace P1 : Hid (∀ k ∈ fp A1, w.heap.size + 3 ≤ k ∧ k < (u5.setCell ⟨w.heap.size + 1 + 1, 2, none⟩ (.slice A2 n2 k2)).heap.size) := hidp fun k hk => ⟨(P1.out k hk).1, Nat.lt_of_lt_of_le (Nat.lt_of_lt_of_le (P1.out k hk).2 happ.turned.size) TS.size⟩
  clear TS happ fz cz b35 b13 b23 b33 x2 S2 Q2 L2 M2 T2 Z2 p2 p2n hv hvs hu hus
  generalize u5.setCell ⟨w.heap.size + 1 + 1, 2, none⟩ (.slice A2 n2 k2) = v2 at *
  have Q3 : Hid (ta = none → n3 = 0 ∧ tc = 0) := hidp sct.1
  have L3 : Hid ((ttc tasks).length = n3 * 6) := hidp (by rw [ttc_len, HN3.out])
  have S3 : Hid (Lies v2.heap.size v2 ta (ttc tasks)) := hidp (lies_tasks (rt.keep (Keeps.of_below hv2)))
  have O3 := hidp (ttc_one tasks)
  have M3 : Hid (0 + n3 ≤ maxLen) := hidp (by unfold maxLen; omega)
  have T3 : Hid ((0 + n3) * 72 ≤ 140737488355328) := hidp (by omega)
  have Z3' := hidp hvs2
  obtain ⟨-, -, -, x3⟩ := Z4 b14
  go_upto_region 5 with (at_builtin; ((refine wpList_app2 v2 rfl (.const (.slice none 0 0)) (.tmp 16) 23 rfl (w.heap.size + 3) 37 j0 _ 6 72 Try.underlying23 hj0 hk0 hk1 hk2 rfl (by decide) none 0 0 [] rfl (World.ownsRow_nil _ _ _ _) v2.heap.size ta n3 tc (ttc tasks) rfl Q3.out L3.out S3.out O3.out M3.out T3.out Z3'.out ?_); intro A3 k3 u6 happ; have b36 := b34.turned happ.turned (by simp [fp]); have fz := (ZF4 b36).2.2.2; have cz := (Z4 b36).2.2.2))
  rw [Nat.zero_add, List.nil_append] at happ
  have TS := (Turned.refl [w.heap.size + 1 + 1] u6).setCell (p := ⟨w.heap.size + 1 + 1, 3, none⟩) (.inl (by simp)) (.slice A3 n3 k3)
  have b15 := (b14.turned happ.turned (by simp [fp])).turned TS (by simp; omega)
  have b25 := (b24.turned happ.turned (by simp [fp])).turned TS (by simp)
  have b35 : Bk (u6.setCell ⟨w.heap.size + 1 + 1, 3, none⟩ (.slice A3 n3 k3)) (w.heap.size + 1 + 1) 25 #[.int .i64 proto, .slice A1 n1 k1, .slice A2 n2 k2, .slice A3 n3 k3] := b36.put 3 (.slice A3 n3 k3)
  have o3 : OwnT (w.heap.size + 3) u6 A3 n3 k3 tasks := ⟨happ.own, HN3.out.symm, happ.cap, happ.nil⟩
  have p3 := own_fp happ.own
  have p3n : ∀ k ∈ fp A3, v2.heap.size ≤ k := fun k hk => by
    rcases happ.fps k hk with h | h
    · simp [fp] at h
    · exact h
  replace o1 := (o1.turned happ.turned (by simp [fp])).turned TS (fun k hk hm => by simp at hm; subst hm; have := (P1.out _ hk).1; omega)
  replace o2 := (o2.turned happ.turned (by simp [fp])).turned TS (fun k hk hm => by simp at hm; subst hm; have := (P2.out _ hk).1; omega)
  replace o3 := o3.turned TS (fun k hk hm => by simp at hm; subst hm; have := (p3 _ hk).1; omega)
  have hv3 : Below w.heap.size w (u6.setCell ⟨w.heap.size + 1 + 1, 3, none⟩ (.slice A3 n3 k3)) := (hv2.trans (happ.turned.below hv2.size (by simp [fp]))).trans (TS.below (Nat.le_trans hv2.size happ.turned.size) (by simp; omega))
  have hvs3 : w.heap.size + 3 ≤ (u6.setCell ⟨w.heap.size + 1 + 1, 3, none⟩ (.slice A3 n3 k3)).heap.size := Nat.le_trans (Nat.le_trans hvs2 happ.turned.size) TS.size
  have E13 : Hid (∀ a ∈ fp A1 ++ fp A2, ∀ b ∈ fp A3, a < b) := hidp fun a ha b hb => by
    have h3 := p3n b hb
    rcases List.mem_append.1 ha with h | h
    · exact Nat.lt_of_lt_of_le (P1.out a h).2 h3
    · exact Nat.lt_of_lt_of_le (P2.out a h).2 h3
  have PA : Hid (∀ k ∈ fp A1 ++ (fp A2 ++ fp A3), w.heap.size + 3 ≤ k ∧ k < (u6.setCell ⟨w.heap.size + 1 + 1, 3, none⟩ (.slice A3 n3 k3)).heap.size) := hidp fun k hk => by
    rcases List.mem_append.1 hk with h | h
    · exact ⟨(P1.out k h).1, Nat.lt_of_lt_of_le (Nat.lt_of_lt_of_le (P1.out k h).2 happ.turned.size) TS.size⟩
    · rcases List.mem_append.1 h with h | h
      · exact ⟨(P2.out k h).1, Nat.lt_of_lt_of_le (Nat.lt_of_lt_of_le (P2.out k h).2 happ.turned.size) TS.size⟩
      · exact ⟨(p3 k h).1, Nat.lt_of_lt_of_le (p3 k h).2 TS.size⟩
  clear TS happ fz cz b36 b14 b24 b34 x3 S3 Q3 L3 M3 T3 Z3' p3 p3n P1 P2
  generalize u6.setCell ⟨w.heap.size + 1 + 1, 3, none⟩ (.slice A3 n3 k3) = v3 at *
  have cp0 : CpInv (w.heap.size + 3) v3 A1 A2 A3 k3 tasks tasks 0 := ⟨rfl, fun j hj => sameF.refl _, fun j _ _ => rfl, by rw [HN3.out]; exact o3, by omega, by omega, by omega⟩
  obtain ⟨-, -, -, x3⟩ := Z4 b15
  have o1' := o1
  have Hb := hidp hv3
  go_wp2_with fail
  go_loopg [22] n3 (fun gg s22 wr => ∃ (i : Nat) (cs : List TaskR), i + gg = n3 ∧ s22 = .int .i64 i ∧ Bk wr (w.heap.size + 1) 25 #[.int .i64 0, .slice none 0 0, .slice none 0 0, .slice none 0 0] ∧ Bk wr (w.heap.size + 1 + 1) 25 #[.int .i64 proto, .slice A1 n1 k1, .slice A2 n2 k2, .slice A3 n3 k3] ∧ OwnN (w.heap.size + 3) wr A1 n1 k1 cores ∧ OwnN (w.heap.size + 3) wr A2 n2 k2 homes ∧ CpInv (w.heap.size + 3) wr A1 A2 A3 k3 tasks cs i ∧ Below w.heap.size w wr ∧ w.heap.size + 3 ≤ wr.heap.size)
  case atStart => exact ⟨0, tasks, by omega, rfl, b25, b35, o1, o2, cp0, hv3, hvs3⟩
  case round =>
    clear b15 b25 b35 o1 o1' o2 o3 cp0 hv3 hvs3 x3 Hb PA
    obtain ⟨i, cs, hk, rfl, b2, b3, o1, o2, cp, hb, hz⟩ := hrel
    by_cases hlt : i < n3
    · obtain ⟨t, HT⟩ : ∃ t, Hid (tasks.getD i default = t) := ⟨_, rfl⟩
      have hil : i < tasks.length := by rw [HN3.out]; exact hlt
      obtain ⟨g, off, hA, hc⟩ := Hti.out.resolve_left (by intro e; rw [e] at hil; simp at hil)
      subst hA
      obtain ⟨c0, c1, c2, c3, c4, c5⟩ := (HT.out ▸ hc i hil).keep (Keeps.of_below hb)
      have tok : TaskOk w t := HT.out ▸ HS.out.tasks.ok _ (getD_mem hil)
      have tf : t.parts.length ≤ 1000 := HT.out ▸ HF4.out _ (getD_mem hil)
      clear hc
      obtain ⟨g3, hA3, hg3, hg3'⟩ := own_at cp.ot.own (by rw [HN3.out]; omega)
      subst hA3
      have hA : ∀ a ∈ fp A1 ++ (fp A2 ++ fp (some ⟨g3, 0, none⟩)), a < wr.heap.size := fun a ha => by
        rcases List.mem_append.1 ha with h | h
        · exact (own_fp o1.own a h).2
        · rcases List.mem_append.1 h with h | h
          · exact (own_fp o2.own a h).2
          · exact (own_fp cp.ot.own a h).2
      obtain ⟨nm, per, dl, prio, cl, pa, pc, parts⟩ := t
      have tsl := tok.sl
      have tat := tok.at_
      dsimp only at c0 c1 c2 c3 c4 c5 tf tsl tat
      obtain ⟨np, HNP⟩ : ∃ n, Hid (parts.length = n) := ⟨_, rfl⟩
      rw [HNP.out] at c5 tf tsl
      have TU := ((Turned.refl [] wr).alloc (.cells #[.string nm, .int .i64 per, .int .i64 dl, .int .i64 prio, .int .i64 cl, .slice pa np pc] 37)).drew
      have hb1 : Below w.heap.size w (wr.alloc (.cells #[.string nm, .int .i64 per, .int .i64 dl, .int .i64 prio, .int .i64 cl, .slice pa np pc] 37)).drew := hb.trans (TU.below hb.size (by simp))
      have hz1 : w.heap.size + 3 ≤ (wr.alloc (.cells #[.string nm, .int .i64 per, .int .i64 dl, .int .i64 prio, .int .i64 cl, .slice pa np pc] 37)).drew.heap.size := Nat.le_trans hz TU.size
      have bq : Bk (wr.alloc (.cells #[.string nm, .int .i64 per, .int .i64 dl, .int .i64 prio, .int .i64 cl, .slice pa np pc] 37)).drew wr.heap.size 37 #[.string nm, .int .i64 per, .int .i64 dl, .int .i64 prio, .int .i64 cl, .slice pa np pc] := (Bk.new wr _ _).drewN 1
      replace b2 := b2.turned TU (by simp)
      replace b3 := b3.turned TU (by simp)
      replace o1 := o1.turned TU (by simp)
      replace o2 := o2.turned TU (by simp)
      replace cp := cp.turned TU (by simp)
      have hA' := fun a ha => Nat.lt_of_lt_of_le (hA a ha) TU.size
      have hs : (wr.alloc (.cells #[.string nm, .int .i64 per, .int .i64 dl, .int .i64 prio, .int .i64 cl, .slice pa np pc] 37)).drew.cell? ⟨w.heap.size + 1 + 1, 3, none⟩ = some (.slice (some ⟨g3, 0, none⟩) n3 k3) ∧ (wr.alloc (.cells #[.string nm, .int .i64 per, .int .i64 dl, .int .i64 prio, .int .i64 cl, .slice pa np pc] 37)).drew.cell? ⟨wr.heap.size, 5, none⟩ = some (.slice pa np pc) := ⟨(Z4 b3).2.2.2, (bq.cell 5).trans rfl⟩
      have Qp : Hid (pa = none → np = 0 ∧ pc = 0) := hidp tsl.1
      have Lp : Hid ((ptc parts).length = np * 3) := hidp (by rw [ptc_len, HNP.out])
      have Sp := hidp (lies_parts (tat.keep (Keeps.of_below hb1)))
      have Op := hidp (ptc_one parts)
      have Mp : Hid (0 + np ≤ maxLen) := hidp (by unfold maxLen; omega)
      have Tp : Hid ((0 + np) * 24 ≤ 140737488355328) := hidp (by omega)
      have Zp := hidp hz1
      have hA2 := hidp hA'
      clear tsl tat tok TU hA hA'
      go_wp2_with fail
      refine wp_region_held_drew (S := fun w' => w'.cell? ⟨w.heap.size + 1 + 1, 3, none⟩ = some (.slice (some ⟨g3, 0, none⟩) n3 k3) ∧ w'.cell? ⟨wr.heap.size, 5, none⟩ = some (.slice pa np pc)) (by kernel_rfl) ?_ (fun hHeld => ?_)
      · exact hs
      generalize (wr.alloc (.cells #[.string nm, .int .i64 per, .int .i64 dl, .int .i64 prio, .int .i64 cl, .slice pa np pc] 37)).drew = u1 at *
      refine wpAnyH_take (i := 0) (v := ?_) rfl (by kernel_rfl) (by kernel_rfl) (by kernel_rfl) (fun _ _ _ h => h) (Or.inl ⟨by rfl, ?_⟩) (by assumption) ?_
      rotate_left 1
      · ((intro w hSw; (try dsimp only at hSw); go_simp); (try with_reducible rfl))
      simp only [Act.put, List.setIfInBounds_toArray, List.set_cons_zero, List.set_cons_succ, List.getElem_toArray, List.getElem_cons_zero, List.getElem_cons_succ]
      refine wpAnyH_take (i := 1) (v := ?_) rfl (by kernel_rfl) (by kernel_rfl) (by kernel_rfl) (fun _ _ _ h => h) (Or.inl ⟨by rfl, ?_⟩) (by assumption) ?_
      rotate_left 1
      · ((intro w hSw; (try dsimp only at hSw); go_simp); (try with_reducible rfl))
      simp only [Act.put, List.setIfInBounds_toArray, List.set_cons_zero, List.set_cons_succ, List.getElem_toArray, List.getElem_cons_zero, List.getElem_cons_succ]
      refine wpAnyH_take (i := 2) (v := ?_) rfl (by kernel_rfl) (by kernel_rfl) (by kernel_rfl) (fun _ _ _ h => h) (Or.inl ⟨by rfl, ?_⟩) (by assumption) ?_
      rotate_left 1
      · ((intro w hSw; (try dsimp only at hSw); go_simp); (try with_reducible rfl))
      simp only [Act.put, List.setIfInBounds_toArray, List.set_cons_zero, List.set_cons_succ, List.getElem_toArray, List.getElem_cons_zero, List.getElem_cons_succ]
      refine wpAnyH_take (i := 3) (v := ?_) rfl (by kernel_rfl) (by kernel_rfl) (by kernel_rfl) (fun _ _ _ h => h) (Or.inl ⟨by rfl, ?_⟩) (by assumption) ?_
      rotate_left 1
      · ((intro w hSw; (try dsimp only at hSw); go_simp); (try with_reducible rfl))
      simp only [Act.put, List.setIfInBounds_toArray, List.set_cons_zero, List.set_cons_succ, List.getElem_toArray, List.getElem_cons_zero, List.getElem_cons_succ]
      refine wpAnyH_take (i := 4) (v := ?_) rfl (by kernel_rfl) (by kernel_rfl) (by kernel_rfl) (fun _ _ _ h => h) (Or.inl ⟨by rfl, ?_⟩) (by assumption) ?_
      rotate_left 1
      · ((intro w hSw; (try dsimp only at hSw); go_simp); (try with_reducible rfl))
      simp only [Act.put, List.setIfInBounds_toArray, List.set_cons_zero, List.set_cons_succ, List.getElem_toArray, List.getElem_cons_zero, List.getElem_cons_succ]
      refine wpAnyH_ready (rs := [5]) (by kernel_rfl) (by simp) ?_
      refine AllReadyH.cons rfl (fun K hK => ?_) AllReadyH.nil
      refine step_app2 u1 rfl (.const (.slice none 0 0)) (.tmp 31) 35 rfl (w.heap.size + 3) 40 q0 _ 3 24 Try.underlying35 hq0 hr0 hr1 hr2 rfl (by decide) none 0 0 [] rfl (World.ownsRow_nil _ _ _ _) u1.heap.size pa np pc (ptc parts) rfl Qp.out Lp.out Sp.out Op.out Mp.out Tp.out Zp.out ?_
      intro A' c' v happ
      rw [Nat.zero_add, List.nil_append] at happ
      simp only [Nat.zero_add]
      have hs2 : v.cell? ⟨w.heap.size + 1 + 1, 3, none⟩ = some (.slice (some ⟨g3, 0, none⟩) n3 k3) ∧ v.cell? ⟨wr.heap.size, 5, none⟩ = some (.slice pa np pc) := ⟨happ.turned.cell hs.1 (by simp [fp]), happ.turned.cell hs.2 (by simp [fp])⟩
      clear hHeld hs
      refine hK.out _ _ ?_ (fun hHeld => ?_)
      · exact hs2
      clear hK K
      try simp only [Act.put, List.setIfInBounds_toArray, List.set_cons_zero, List.set_cons_succ, List.getElem_toArray, List.getElem_cons_zero, List.getElem_cons_succ]
      have hic : i < cs.length := by rw [cp.len]; exact hil
      have otv := cp.ot.turned happ.turned (by simp [fp])
      have fz := own_frozen otv.own (i * 6 + 5)
      have cz : ∃ x, v.cell? ⟨g3, i * 6 + 5, none⟩ = some x := by
        obtain ⟨b', o', eA, hcl⟩ := otv.tasks.resolve_left (by intro e; rw [e] at hic; simp at hic)
        injection eA with eA; injection eA with e1 e2; subst e1; subst e2
        have := (hcl i hic).2.2.2.2.2
        rw [Nat.zero_add] at this
        exact ⟨_, this⟩
      obtain ⟨x, cz⟩ := cz
      have TS : Turned [g3] v (v.setCell ⟨g3, i * 6 + 5, none⟩ (.slice A' np c')) := (Turned.refl [g3] v).setCell (p := ⟨g3, i * 6 + 5, none⟩) (.inl (by simp)) _
      have hcap := cp.ot.cap
      unfold maxLen at hcap
      have hlen3 := HN3.out
      have hs3 : (v.setCell ⟨g3, i * 6 + 5, none⟩ (.slice A' np c')).cell? ⟨w.heap.size + 1 + 1, 3, none⟩ = some (.slice (some ⟨g3, 0, none⟩) n3 k3) ∧ (v.setCell ⟨g3, i * 6 + 5, none⟩ (.slice A' np c')).cell? ⟨wr.heap.size, 5, none⟩ = some (.slice pa np pc) := ⟨TS.cell hs2.1 (by simp; omega), TS.cell hs2.2 (by simp; omega)⟩
      clear hlen3 hcap
      refine wpAnyH_take (i := 6) (v := ?_) rfl (by kernel_rfl) (by kernel_rfl) (by kernel_rfl) (fun _ _ _ h => h) (Or.inl ⟨by rfl, ?_⟩) (by assumption) ?_
      rotate_left 1
      · ((intro w hSw; (try dsimp only at hSw); go_simp); (try with_reducible rfl))
      simp only [Act.put, List.setIfInBounds_toArray, List.set_cons_zero, List.set_cons_succ, List.getElem_toArray, List.getElem_cons_zero, List.getElem_cons_succ]
      refine wpAnyH_take (i := 7) (v := ?_) rfl (by kernel_rfl) (by kernel_rfl) (by kernel_rfl) (fun _ _ _ h => h) (Or.inl ⟨by rfl, ?_⟩) (by assumption) ?_
      rotate_left 1
      · ((intro w hSw; (try dsimp only at hSw); go_simp); (try with_reducible rfl))
      simp only [Act.put, List.setIfInBounds_toArray, List.set_cons_zero, List.set_cons_succ, List.getElem_toArray, List.getElem_cons_zero, List.getElem_cons_succ]
      refine wpAnyH_ready (rs := [8]) (by kernel_rfl) (by simp) ?_
      refine AllReadyH.cons rfl (fun K hK => ?_) AllReadyH.nil
      go_simp
      refine hK.out _ _ ?_ (fun hHeld => ?_)
      · exact hs3
      clear hK K
      try simp only [Act.put, List.setIfInBounds_toArray, List.set_cons_zero, List.set_cons_succ, List.getElem_toArray, List.getElem_cons_zero, List.getElem_cons_succ]
      refine wpAnyH_done (by kernel_rfl) ?_ _
      have cp2 := cp.step (np := np) (c' := c') hil (by rw [HT.out]; exact happ) (by rw [HT.out]; exact HNP.out.symm) hA2.out
      rw [HT.out] at cp2
      dsimp only at cp2
      have b22 := (b2.turned happ.turned (by simp [fp])).turned TS (by simp; omega)
      have b32 := (b3.turned happ.turned (by simp [fp])).turned TS (by simp; omega)
      have oc1 : Hid (∀ k ∈ fp A1, k ≠ g3) := hidp fun k hk e => by have := E13.out k (by simp [hk]) g3 (by simp [fp]); omega
      have oc2 : Hid (∀ k ∈ fp A2, k ≠ g3) := hidp fun k hk e => by have := E13.out k (by simp [hk]) g3 (by simp [fp]); omega
      have o12 := (o1.turned happ.turned (by simp [fp])).turned TS (fun k hk => by simpa using oc1.out k hk)
      have o22 := (o2.turned happ.turned (by simp [fp])).turned TS (fun k hk => by simpa using oc2.out k hk)
      have hb2 := (hb1.trans (happ.turned.below hb1.size (by simp [fp]))).trans (TS.below (Nat.le_trans hb1.size happ.turned.size) (by simp; omega))
      have hz2 := Nat.le_trans (Nat.le_trans hz1 happ.turned.size) TS.size
      clear b2 b3 o1 o2 cp happ hs2 hs3 hHeld TS otv fz cz bq c0 c1 c2 c3 c4 c5 hb1 hz1 hb hz
      go_wp2_with fail
      go_roundg (gk - 1)
      case measure => omega
      case rel => exact ⟨i + 1, _, by omega, by go_num, b22, b32, o12, o22, cp2, hb2, hz2⟩
    · obtain rfl : i = n3 := by omega
      obtain ⟨d0, d1, d2, d3⟩ := Z4 b3
      obtain ⟨f0, f1, f2, f3⟩ := ZF4 b2
      obtain ⟨e0, e1, e2, e3⟩ := Z4 b2
      have PB := put4_bk b2 (v0 := .int .i64 proto) (v1 := .slice A1 n1 k1) (v2 := .slice A2 n2 k2) (v3 := .slice A3 i k3)
      have PT := put4_turned wr (w.heap.size + 1) (.int .i64 proto) (.slice A1 n1 k1) (.slice A2 n2 k2) (.slice A3 i k3)
      have oc1 := o1.turned PT (fun k hk hm => by simp at hm; subst hm; have := (own_fp o1.own _ hk).1; omega)
      have oc2 := o2.turned PT (fun k hk hm => by simp at hm; subst hm; have := (own_fp o2.own _ hk).1; omega)
      have cpt := cp.turned PT (fun k h1 h2 hm => by simp at hm; omega)
      have hbe := hb.trans (PT.below hb.size (by simp))
      obtain ⟨r0, r1, r2, r3⟩ := Z4 PB
      have HC : Hid (CopyOf w.heap.size (put4 wr (w.heap.size + 1) (.int .i64 proto) (.slice A1 n1 k1) (.slice A2 n2 k2) (.slice A3 i k3)) ⟨proto, ca, cc, cores, ha, hc, homes, ta, tc, tasks⟩ ⟨proto, A1, k1, cores, A2, k2, homes, A3, k3, cs⟩) := hidp (by
        have l3 := cpt.len
        have l4 := HN3.out
        have l1 := HN1.out
        have l2 := HN2.out
        subst l1; subst l2
        have ot := cpt.ot
        rw [← l3] at ot
        refine ⟨rfl, rfl, rfl, l3, cpt.like, oc1.low (by omega), oc2.low (by omega), ot.low (by omega), fun j hj => (cpt.op j (by dsimp only at hj; omega)).low (by omega), E12.out, E13.out, fun j hj => cpt.s3 j (by dsimp only at hj; omega), fun j k hjk hk => cpt.s4 j k hjk (by dsimp only at hk; omega)⟩)
      have hl3 := cp.len
      clear PB PT oc1 oc2 cpt cp o1 o2 b2 b3
      unfold put4 at r0 r1 r2 r3 HC hbe
      have HL3 := hidp hl3
      clear hl3
      go_wp2
      try rw [Exit.noGoto_ret]
      refine bodyPost_ret (v := .agg #[.int .i64 proto, .slice A1 n1 k1, .slice A2 n2 k2, .slice A3 i k3]) (by simp [results, Try.results28, go_sem, r0, r1, r2, r3]) rfl ⟨⟨proto, A1, k1, cores, A2, k2, homes, A3, k3, cs⟩, ?_, HC.out, hbe⟩
      dsimp only
      rw [HN1.out, HN2.out, HL3.out, HN3.out]
end Go.Proofs.Ytnfkebdbfflhdaa
