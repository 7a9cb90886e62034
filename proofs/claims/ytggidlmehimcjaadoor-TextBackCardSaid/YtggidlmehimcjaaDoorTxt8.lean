/- text.Parse. -/
import Derived.Test.YtggidlmehimcjaaDoorTxt7
namespace Go.Proofs.YtggidlmehimcjaaDoor
open Go.ChangeShapes Go.WideShapes Go.ChangeAt Go.RowKit
set_option linter.unusedVariables false
set_option linter.unusedSimpArgs false
theorem chk_rd {s : SetR} {r : RdT} (h : s.bare = r.bare) : chkAt s = chkAt r.bare ∧ chkE s = chkE r.bare := by
  have a := chk_bare s
  rw [h] at a
  exact ⟨a.1.symm, a.2.symm⟩
theorem chkAt_bd (s : SetR) : -1 ≤ chkAt s ∧ (0 ≤ chkAt s → chkAt s < s.tasks.length) := by
  unfold chkAt
  split
  · exact ⟨by omega, fun h => by omega⟩
  · unfold badAt
    refine ⟨firstT_bd _, fun h => ?_⟩
    obtain ⟨k, h1, h2, _⟩ := firstT_pos (l := (List.range s.tasks.length).map fun k => taskE s k != 0) (by omega)
    rw [h2]
    simp at h1
    omega
def ParsePost (w : World) (v : SetR × Int × Int) (e : Ending) (w' : World) : Prop := ∃ x, e = .returned (.tuple #[.agg #[.int .i64 x.proto, .slice x.ca x.cores.length x.cc, .slice x.ha x.homes.length x.hc, .slice x.ta x.tasks.length x.tc], .int .i64 v.2.1, .int .i64 v.2.2]) ∧ SetOk w' x ∧ x.bare = v.1 ∧ Below w.heap.size w w'
theorem noSet_ok (w : World) : SetOk w noSet := ⟨by unfold I64 noSet; decide, ⟨⟨fun _ => ⟨rfl, rfl⟩, Nat.le_refl _, by decide⟩, .inl rfl, by simp [noSet]⟩, ⟨⟨fun _ => ⟨rfl, rfl⟩, Nat.le_refl _, by decide⟩, .inl rfl, by simp [noSet]⟩, ⟨⟨fun _ => ⟨rfl, rfl⟩, Nat.le_refl _, by decide⟩, .inl rfl, by simp [noSet]⟩⟩
theorem parse_ret {w : World} {v : SetR × Int × Int} {w' : World} {x : SetR} {n e : Int} (h : v = (x.bare, n, e)) (hx : SetOk w' x) (hb : Below w.heap.size w w') : ParsePost w v (.returned (.tuple #[.agg #[.int .i64 x.proto, .slice x.ca x.cores.length x.cc, .slice x.ha x.homes.length x.hc, .slice x.ta x.tasks.length x.tc], .int .i64 n, .int .i64 e])) w' := by
  subst h
  exact ⟨x, rfl, hx, rfl, hb⟩
theorem zSC (w : World) : Bk (w.alloc (.cells #[.int .i64 0, .slice none 0 0, .slice none 0 0, .slice none 0 0] 25)) w.heap.size 25 #[.int .i64 0, .slice none 0 0, .slice none 0 0, .slice none 0 0] := Bk.new _ _ _
theorem sp4_bk {w : World} {g : Nat} {t : TypeId} {c0 c1 c2 c3 v0 v1 v2 v3 : Value} (h : Bk w g t #[c0, c1, c2, c3]) : Bk (put4 w g v0 v1 v2 v3) g t #[v0, v1, v2, v3] := by
  have := (((h.put 0 v0).put 1 v1).put 2 v2).put 3 v3
  unfold put4
  simpa using this
set_option maxHeartbeats 8000000 in
theorem parse_any (t : ByteArray) (m : Int) (w : World) (hm : w.cell? ⟨0, 0, none⟩ = some (.int .i64 m)) : Calls Tryd.prog 11 #[.string t] w (ParsePost w (parseV (bl t))) := by
  have hb0 := (Below.refl w.heap.size w).alloc (Nat.le_refl _) (.cells #[.int .i64 0, .slice none 0 0, .slice none 0 0, .slice none 0 0] 25)
  have B0 := zSC w
  by_cases h1 : 2000 < t.size
  · have f1 : (2000 : Int) < (t.size : Int) := by omega
    have HB := hidp hb0
    have BX := hidp B0
    have HH := hidp h1
    clear hb0 B0 h1 hm
    go_enter Tryd.func11, Tryd.ntmps11
    have HV : Hid (parseV (bl t) = (noSet.bare, 0, 11)) := hidp (by unfold parseV; rw [bl_len, if_pos HH.out]; rfl)
    obtain ⟨z0, z1, z2, z3⟩ := Z4 BX.out
    obtain ⟨y0, y1, y2, y3⟩ := ZF4 BX.out
    go_wp2_with fail
    refine bodyPost_ret (v := .tuple #[.agg #[.int .i64 0, .slice none 0 0, .slice none 0 0, .slice none 0 0], .int .i64 0, .int .i64 11]) (by simp [results, Tryd.results11, go_sem, z0, z1, z2, z3]) rfl (parse_ret (x := noSet) HV.out (noSet_ok _) HB.out)
  have HPV : Hid (parseV (bl t) = match readT (bl t) with | .error p => (noSet, (p.1 : Int), p.2) | .ok r => toldV r (linesL (bl t)).length) := hidp (by unfold parseV; rw [bl_len, if_neg h1]; cases readT (bl t) <;> rfl)
  have f1 : ¬ (2000 : Int) < (t.size : Int) := by omega
  have CL := hidp (lines_any t m _ (mem_max hm hb0) (by omega))
  have HM := hidp hm
  have HB0 := hidp hb0
  have HBK := hidp B0
  have HSZ := hidp (show t.size ≤ 2000 by omega)
  clear hb0 B0 hm h1
  go_enter Tryd.func11, Tryd.ntmps11
  go_wp2_with fail
  refine CL.out.mono ?_
  rintro e w1 ⟨ls, h1, h2, A, k0, rfl, hs, hnil, hc1, hc2, hb1⟩
  have HL := hidp h1
  have HS := hidp hs
  have HB1 := hidp (HB0.out.trans (hb1.mono HB0.out.size))
  have BX1 := hidp (HBK.out.below hb1)
  have HW01 : Hid (w.heap.size < w1.heap.size) := hidp BX1.out.lt
  have HLN := hidp h2
  have hz : ∀ x ∈ ls, x.size ≤ 3000 := fun x hx => by
    have h5 : bl x ∈ pl 10 [] (bl t) := by have := h1; unfold linesL at this; rw [← this]; exact List.mem_map.2 ⟨x, hx, rfl⟩
    have h6 := pl_mem 10 (bl t) [] _ h5
    rw [bl_len, bl_len] at h6
    have := HSZ.out
    simp at h6
    omega
  have CA := readAll_any A k0 ls m w1 (mem_max HM.out HB1.out) hs (by have := HSZ.out; omega) hz
  have HRT : Hid (linesT rdZ 0 (ls.map bl) = readT (bl t)) := hidp (by rw [h1]; rfl)
  have HLL : Hid ((linesL (bl t)).length = ls.length) := hidp (by rw [← h1, List.length_map])
  rw [HRT.out] at CA
  have HCA := hidp CA
  clear CA h1 h2 hs hnil hc1 hc2 hb1 hz CL
  obtain ⟨N, HN⟩ : ∃ N, Hid (ls.length = N) := ⟨_, hidp rfl⟩
  rw [HN.out] at HCA HLL HLN ⊢
  obtain ⟨tt, HTT⟩ : ∃ tt, Hid (readT (bl t) = tt) := ⟨_, hidp rfl⟩
  rw [HTT.out] at HCA HPV
  go_wp2_with fail
  refine HCA.out.mono ?_
  rintro e w2 ⟨hb2, s, want, co, A2, c2, zs, hrr, hres⟩
  unfold rdV at hres
  have HRR := hidp hrr
  have HB2 := hidp (HB1.out.trans (hb2.mono HB1.out.size))
  have BX2 := hidp (BX1.out.below hb2)
  clear hrr hb2 HB1 BX1 HCA
  obtain ⟨ob, hob⟩ : ∃ o, (.cells #[.int .i64 s.proto, .slice s.ca s.cores.length s.cc, .slice s.ha s.homes.length s.hc, .slice s.ta s.tasks.length s.tc, .int .i64 want, .int .i64 co, .slice A2 zs.length c2] 59 : Obj) = o := ⟨_, rfl⟩
  have HOB := hidp hob
  have hbo : Below w2.heap.size w2 (w2.alloc ob) := (Below.refl _ w2).alloc (Nat.le_refl _) ob
  have HB := hidp (HB2.out.alloc HB2.out.size ob)
  have BX := hidp (BX2.out.below hbo)
  have HOK := hidp (HRR.out.ok.keep (Keeps.of_below hbo))
  have HRO := hidp (HRR.out.ats.mono (Keeps.of_below hbo))
  have HBR : Hid (Bk (w2.alloc ob) w2.heap.size 59 #[.int .i64 s.proto, .slice s.ca s.cores.length s.cc, .slice s.ha s.homes.length s.hc, .slice s.ta s.tasks.length s.tc, .int .i64 want, .int .i64 co, .slice A2 zs.length c2]) := hidp (by rw [← hob]; exact Bk.new _ _ _)
  have HNE : Hid (w2.heap.size ≠ w.heap.size) := hidp (by have := BX2.out.lt; omega)
  have HLOW : Hid (∀ w' : World, SetOk w' s → ∀ w'', Turned [w.heap.size] w' w'' → SetOk w'' s) := hidp (fun w' h1 w'' h2 => h1.turnedB h2 (fun k hk hm => by
    have := HRR.out.low k hk
    simp at hm
    have := HW01.out
    omega))
  have HLA2 : Hid (∀ k ∈ fp A2, w.heap.size < k) := hidp (fun k hk => by have := HRR.out.lowA k hk; have := HW01.out; omega)
  clear hbo HB2 BX2 HRR
  rw [← hob] at HB BX HOK HRO HBR
  clear hob HOB
  cases tt with
  | error p =>
    obtain ⟨rfl, hp0⟩ := hres
    have f9 : (p.2 != 0) = true := by simpa using hp0
    clear hp0
    have HV : Hid (parseV (bl t) = (noSet.bare, (p.1 : Int), p.2)) := hidp (HPV.out)
    have PB := (sp4_bk BX.out : Bk (put4 (w2.alloc (.cells #[.int .i64 s.proto, .slice s.ca s.cores.length s.cc, .slice s.ha s.homes.length s.hc, .slice s.ta s.tasks.length s.tc, .int .i64 want, .int .i64 co, .slice A2 zs.length c2] 59)) w.heap.size (.int .i64 0) (.slice none 0 0) (.slice none 0 0) (.slice none 0 0)) w.heap.size 25 #[.int .i64 0, .slice none 0 0, .slice none 0 0, .slice none 0 0])
    have T1 := put4_turned (w2.alloc (.cells #[.int .i64 s.proto, .slice s.ca s.cores.length s.cc, .slice s.ha s.homes.length s.hc, .slice s.ta s.tasks.length s.tc, .int .i64 want, .int .i64 co, .slice A2 zs.length c2] 59)) w.heap.size (.int .i64 0) (.slice none 0 0) (.slice none 0 0) (.slice none 0 0)
    have hbe := hidp (HB.out.trans (T1.below HB.out.size (by simp)))
    obtain ⟨r0, r1, r2, r3⟩ := Z4 PB
    obtain ⟨z0, z1, z2, z3⟩ := Z4 BX.out
    obtain ⟨y0, y1, y2, y3⟩ := ZF4 BX.out
    clear PB T1
    unfold put4 at *
    go_wp2_with fail
    refine bodyPost_ret (v := .tuple #[.agg #[.int .i64 0, .slice none 0 0, .slice none 0 0, .slice none 0 0], .int .i64 (p.1 : Int), .int .i64 p.2]) (by simp [results, Tryd.results11, go_sem, r0, r1, r2, r3]) rfl (parse_ret (x := noSet) HV.out (noSet_ok _) (hbe.out))
  | ok r =>
    obtain ⟨rfl, hE⟩ := hres
    have HE := hidp hE
    have HCH := hidp (chk_rd hE.1)
    obtain ⟨n0, n1, n2, n3, n4, n5, n6⟩ := cz7 HBR.out
    have CC := hidp (check_any s _ HOK.out)
    have HAB := hidp (chkAt_bd s)
    have HTV : Hid (parseV (bl t) = toldV r N) := hidp (by rw [HPV.out, HLL.out])
    obtain ⟨ca, Hca⟩ : ∃ v, Hid (chkAt s = v) := ⟨_, hidp rfl⟩
    obtain ⟨ce, Hce⟩ : ∃ v, Hid (chkE s = v) := ⟨_, hidp rfl⟩
    rw [Hca.out, Hce.out] at CC HCH
    rw [Hca.out] at HAB
    have HTA : Hid (s.tasks.length = r.tasks.length) := hidp (by
      have h5 := congrArg (fun q => q.tasks.length) hE.1
      simpa only [SetR.bare, RdT.bare, List.length_map] using h5)
    have HLA : Hid (zs.length = r.tasks.length) := hidp (by rw [hE.2.2.2, List.length_map]; exact linesT_len (show linesT rdZ 0 (linesL (bl t)) = .ok r from HTT.out) ⟨Nat.le_refl _, rfl⟩)
    clear hE
    go_wp2_with fail
    refine CC.out.mono ?_
    rintro e w3 ⟨rfl, hb3⟩
    have kb := Keeps.of_below hb3
    replace n0 := kb _ _ n0
    replace n1 := kb _ _ n1
    replace n2 := kb _ _ n2
    replace n3 := kb _ _ n3
    replace n4 := kb _ _ n4
    replace n5 := kb _ _ n5
    replace n6 := kb _ _ n6
    replace HOK := hidp (HOK.out.keep kb)
    replace HRO := hidp (HRO.out.mono kb)
    replace BX := hidp (BX.out.below hb3)
    replace HB := hidp (HB.out.trans (hb3.mono HB.out.size))
    clear kb hb3 CC HBR
    by_cases e0 : ce = 0
    · subst e0
      have HV : Hid (parseV (bl t) = (s.bare, (N : Int), 0)) := hidp (by rw [HTV.out]; unfold toldV; rw [if_pos HCH.out.2.symm, HE.out.1])
      have PB := (sp4_bk BX.out : Bk (put4 w3 w.heap.size (.int .i64 s.proto) (.slice s.ca s.cores.length s.cc) (.slice s.ha s.homes.length s.hc) (.slice s.ta s.tasks.length s.tc)) w.heap.size 25 #[.int .i64 s.proto, .slice s.ca s.cores.length s.cc, .slice s.ha s.homes.length s.hc, .slice s.ta s.tasks.length s.tc])
      have T1 := put4_turned w3 w.heap.size (.int .i64 s.proto) (.slice s.ca s.cores.length s.cc) (.slice s.ha s.homes.length s.hc) (.slice s.ta s.tasks.length s.tc)
      have hbe := hidp (HB.out.trans (T1.below HB.out.size (by simp)))
      obtain ⟨r0, r1, r2, r3⟩ := Z4 PB
      obtain ⟨z0, z1, z2, z3⟩ := Z4 BX.out
      obtain ⟨y0, y1, y2, y3⟩ := ZF4 BX.out
      have hok := hidp (HLOW.out _ HOK.out _ T1)
      clear PB T1
      unfold put4 at *
      go_wp2_with fail
      refine bodyPost_ret (v := .tuple #[.agg #[.int .i64 s.proto, .slice s.ca s.cores.length s.cc, .slice s.ha s.homes.length s.hc, .slice s.ta s.tasks.length s.tc], .int .i64 (N : Int), .int .i64 0]) (by simp [results, Tryd.results11, go_sem, r0, r1, r2, r3]) rfl (parse_ret (x := s) HV.out (hok.out) (hbe.out))
    have E0 : Hid (¬ chkE r.bare = 0) := hidp (by rw [← HCH.out.2]; exact e0)
    have g0 : (ce == 0) = false := by rw [beq_eq_false_iff_ne]; exact e0
    clear e0
    by_cases e1 : ce = 14
    · subst e1
      have HV : Hid (parseV (bl t) = (noSet.bare, (N : Int), 14)) := hidp (by rw [HTV.out]; unfold toldV; rw [if_neg E0.out, if_pos (.inl HCH.out.2.symm), ← HCH.out.2]; rfl)
      have PB := (sp4_bk BX.out : Bk (put4 w3 w.heap.size (.int .i64 0) (.slice none 0 0) (.slice none 0 0) (.slice none 0 0)) w.heap.size 25 #[.int .i64 0, .slice none 0 0, .slice none 0 0, .slice none 0 0])
      have T1 := put4_turned w3 w.heap.size (.int .i64 0) (.slice none 0 0) (.slice none 0 0) (.slice none 0 0)
      have hbe := hidp (HB.out.trans (T1.below HB.out.size (by simp)))
      obtain ⟨r0, r1, r2, r3⟩ := Z4 PB
      obtain ⟨z0, z1, z2, z3⟩ := Z4 BX.out
      obtain ⟨y0, y1, y2, y3⟩ := ZF4 BX.out
      clear PB T1
      unfold put4 at *
      go_wp2_with fail
      refine bodyPost_ret (v := .tuple #[.agg #[.int .i64 0, .slice none 0 0, .slice none 0 0, .slice none 0 0], .int .i64 (N : Int), .int .i64 14]) (by simp [results, Tryd.results11, go_sem, r0, r1, r2, r3]) rfl (parse_ret (x := noSet) HV.out (noSet_ok _) (hbe.out))
    have g1 : (ce == 14) = false := by rw [beq_eq_false_iff_ne]; exact e1
    by_cases e2 : ce = 11
    · subst e2
      clear e1
      have HV : Hid (parseV (bl t) = (noSet.bare, (N : Int), 11)) := hidp (by rw [HTV.out]; unfold toldV; rw [if_neg E0.out, if_pos (.inr HCH.out.2.symm), ← HCH.out.2]; rfl)
      have PB := (sp4_bk BX.out : Bk (put4 w3 w.heap.size (.int .i64 0) (.slice none 0 0) (.slice none 0 0) (.slice none 0 0)) w.heap.size 25 #[.int .i64 0, .slice none 0 0, .slice none 0 0, .slice none 0 0])
      have T1 := put4_turned w3 w.heap.size (.int .i64 0) (.slice none 0 0) (.slice none 0 0) (.slice none 0 0)
      have hbe := hidp (HB.out.trans (T1.below HB.out.size (by simp)))
      obtain ⟨r0, r1, r2, r3⟩ := Z4 PB
      obtain ⟨z0, z1, z2, z3⟩ := Z4 BX.out
      obtain ⟨y0, y1, y2, y3⟩ := ZF4 BX.out
      clear PB T1
      unfold put4 at *
      go_wp2_with fail
      refine bodyPost_ret (v := .tuple #[.agg #[.int .i64 0, .slice none 0 0, .slice none 0 0, .slice none 0 0], .int .i64 (N : Int), .int .i64 11]) (by simp [results, Tryd.results11, go_sem, r0, r1, r2, r3]) rfl (parse_ret (x := noSet) HV.out (noSet_ok _) (hbe.out))
    have g2 : (ce == 11) = false := by rw [beq_eq_false_iff_ne]; exact e2
    have E1 : Hid (¬ (chkE r.bare = 14 ∨ chkE r.bare = 11)) := hidp (by rw [← HCH.out.2]; rintro (h | h); exact e1 h; exact e2 h)
    clear e1 e2
    by_cases e3 : ca < 0
    · have HA0 : Hid (chkAt r.bare < 0) := hidp (by rw [← HCH.out.1]; exact e3)
      have HV : Hid (parseV (bl t) = (noSet.bare, co, ce)) := hidp (by rw [HTV.out]; unfold toldV; rw [if_neg E0.out, if_neg E1.out, if_pos HA0.out, ← HCH.out.2, HE.out.2.2.1]; rfl)
      have PB := (sp4_bk BX.out : Bk (put4 w3 w.heap.size (.int .i64 0) (.slice none 0 0) (.slice none 0 0) (.slice none 0 0)) w.heap.size 25 #[.int .i64 0, .slice none 0 0, .slice none 0 0, .slice none 0 0])
      have T1 := put4_turned w3 w.heap.size (.int .i64 0) (.slice none 0 0) (.slice none 0 0) (.slice none 0 0)
      have hbe := hidp (HB.out.trans (T1.below HB.out.size (by simp)))
      obtain ⟨r0, r1, r2, r3⟩ := Z4 PB
      obtain ⟨z0, z1, z2, z3⟩ := Z4 BX.out
      obtain ⟨y0, y1, y2, y3⟩ := ZF4 BX.out
      clear PB T1
      unfold put4 at *
      go_wp2_with fail
      go_region
      go_wp2_with fail
      refine bodyPost_ret (v := .tuple #[.agg #[.int .i64 0, .slice none 0 0, .slice none 0 0, .slice none 0 0], .int .i64 co, .int .i64 ce]) (by simp [results, Tryd.results11, go_sem, r0, r1, r2, r3]) rfl (parse_ret (x := noSet) HV.out (noSet_ok _) (below_drewN hbe.out 1))
    have HA0 : Hid (¬ chkAt r.bare < 0) := hidp (by rw [← HCH.out.1]; exact e3)
    obtain ⟨j, rfl⟩ : ∃ j : Nat, ca = (j : Int) := ⟨ca.toNat, by omega⟩
    have hj : j < zs.length := by
      have h5 := HAB.out.2 (by omega)
      have h6 := HTA.out
      have h7 := HLA.out
      omega
    obtain ⟨gz, oz, rfl, hcz⟩ := HRO.out.resolve_left (by intro e; rw [e] at hj; simp at hj)
    obtain ⟨zv, Hzv⟩ : ∃ v, Hid (zs.getD j 0 = v) := ⟨_, hidp rfl⟩
    have cz : w3.cell? ⟨gz, oz + j, none⟩ = some (.int .i64 zv) := by have := hcz j hj; rwa [Hzv.out] at this
    have HZT : Hid (zv = ((r.tasksAt.getD j 0 : Nat) : Int)) := hidp (by
      rw [← Hzv.out, HE.out.2.2.2]
      have h8 : j < r.tasksAt.length := by have := HE.out.2.2.2; rw [this, List.length_map] at hj; exact hj
      simp [List.getD, h8])
    have hne0 := HLA2.out gz (by simp [fp])
    have hne1 : gz ≠ w.heap.size := by omega
    have hne2 : w.heap.size ≠ gz := by omega
    clear hne0
    have bI1 : (0 : Int) ≤ (j : Int) := by omega
    have bI2 : (j : Int) < (zs.length : Int) := by omega
    clear hcz
    have HV : Hid (parseV (bl t) = (noSet.bare, zv, ce)) := hidp (by rw [HTV.out]; unfold toldV; rw [if_neg E0.out, if_neg E1.out, if_neg HA0.out, ← HCH.out.2, ← HCH.out.1, Int.toNat_natCast, ← HZT.out]; rfl)
    have PB := (sp4_bk BX.out : Bk (put4 w3 w.heap.size (.int .i64 0) (.slice none 0 0) (.slice none 0 0) (.slice none 0 0)) w.heap.size 25 #[.int .i64 0, .slice none 0 0, .slice none 0 0, .slice none 0 0])
    have T1 := put4_turned w3 w.heap.size (.int .i64 0) (.slice none 0 0) (.slice none 0 0) (.slice none 0 0)
    have hbe := hidp (HB.out.trans (T1.below HB.out.size (by simp)))
    obtain ⟨r0, r1, r2, r3⟩ := Z4 PB
    obtain ⟨z0, z1, z2, z3⟩ := Z4 BX.out
    obtain ⟨y0, y1, y2, y3⟩ := ZF4 BX.out
    clear PB T1
    unfold put4 at *
    go_wp2_with fail
    go_region
    go_wp2_with fail
    refine bodyPost_ret (v := .tuple #[.agg #[.int .i64 0, .slice none 0 0, .slice none 0 0, .slice none 0 0], .int .i64 zv, .int .i64 ce]) (by simp [results, Tryd.results11, go_sem, r0, r1, r2, r3]) rfl (parse_ret (x := noSet) HV.out (noSet_ok _) (below_drewN hbe.out 1))
end Go.Proofs.YtggidlmehimcjaaDoor
