/- demand: servedAt, At, Most. -/
import Derived.Test.YtjjlpaampmpdfaaGreatDoorDemand2
namespace Go.Proofs.YtjjlpaampmpdfaaGreatDoor
open Go.ChangeShapes Go.WideShapes Go.ChangeAt Go.RowKit
set_option linter.unusedVariables false

/-- the Locks of a task at a cluster -/
def srvB (homes : List Int) (cl : Int) (p : PartM) : Bool := decide (p.kind = 3) && decide (homes.getD p.res.toNat 0 = cl)
def srv (s : SetR) (of cl : Int) : List PartM := if okS s = true ∧ 0 ≤ of ∧ of < s.tasks.length then (s.tasks.getD of.toNat default).parts.filter (srvB s.homes cl) else []
def Served (w : World) (ps : List PartM) (e : Ending) (w' : World) : Prop := ∃ a c, e = .returned (.agg #[.string ⟨#[]⟩, .int .i64 0, .int .i64 0, .int .i64 0, .int .i64 0, .slice a ps.length c]) ∧ PartsAt w' a ps ∧ Below w.heap.size w w'

set_option maxHeartbeats 1000000 in
set_option maxRecDepth 100000 in
theorem served_any (s : SetR) (of cl : Int) (w : World) (hs : SetOk w s) : Calls Tryz.prog 142 #[.agg #[.int .i64 s.proto, .slice s.ca s.cores.length s.cc, .slice s.ha s.homes.length s.hc, .slice s.ta s.tasks.length s.tc], .int .i64 of, .int .i64 cl] w (Served w (srv s of cl)) := by
  have hb := (Below.refl w.heap.size w).alloc (Nat.le_refl _) (.cells #[.int .i64 s.proto, .slice s.ca s.cores.length s.cc, .slice s.ha s.homes.length s.hc, .slice s.ta s.tasks.length s.tc] 25)
  by_cases ho : okS s = true
  · have hg := Good.of ho
    by_cases hr : 0 ≤ of ∧ of < s.tasks.length
    · obtain ⟨r1, r2⟩ := hr
      obtain ⟨n, rfl⟩ : ∃ n : Nat, of = n := ⟨of.toNat, by omega⟩
      have hn : n < s.tasks.length := by omega
      obtain ⟨t, HT⟩ : ∃ t, Hid (s.tasks.getD n default = t) := ⟨_, rfl⟩
      have hm : t ∈ s.tasks := HT.out ▸ getD_mem hn
      have Tok := hidp (hs.tasks.ok t hm)
      have Tg := hidp (hg.parts t hm)
      have Hv : Hid (srv s n cl = t.parts.filter (srvB s.homes cl)) := hidp (by unfold srv; rw [if_pos ⟨ho, r1, r2⟩]; simp only [Int.toNat_natCast]; rw [HT.out])
      have Hhw := hidp hs.homes.at_
      have HS := hidp hs
      have l4 := hg.nhomes
      have l3 := hg.ntasks
      have tcl := HT.out
      obtain ⟨i0, hi0, hy0, hy1, hy2⟩ := info_parts infoPart
      obtain ⟨g, off, hA, hcl⟩ := hs.tasks.at_.resolve_left (by intro e; rw [e] at hn; simp at hn)
      have HC := hidp ((HT.out ▸ hcl n hn).2.2.2.2.2)
      obtain ⟨proto, ca, cc, cores, ha, hc, homes, ta, tc, tasks⟩ := s
      obtain ⟨nm, per, dl, prio, tcls, pa, pc, parts⟩ := t
      obtain ⟨gp, op, hP, hpl⟩ := Tok.out.at_.resolve_left (by intro e; dsimp only at e; have := Tg.out.len; rw [e] at this; simp at this)
      have Hpl := hidp hpl
      have lp := Tg.out.len
      dsimp only at hA hP Hv HC HT Hpl Hhw l4 l3 lp hn r2 ho hb hcl hpl ⊢
      subst hA
      subst hP
      clear hcl hpl hm tcl hg hs
      have B1 := ((Bk.new (w.alloc (.cells #[.int .i64 proto, .slice ca cores.length cc, .slice ha homes.length hc, .slice (some ⟨g, off, none⟩) tasks.length tc] 25)) 41 (zt none 0 0)).alloc (.cells (zt none 0 0) 41))
      have B2 := Bk.new ((w.alloc (.cells #[.int .i64 proto, .slice ca cores.length cc, .slice ha homes.length hc, .slice (some ⟨g, off, none⟩) tasks.length tc] 25)).alloc (.cells (zt none 0 0) 41)) 41 (zt none 0 0)
      have SC := ((SetCells.new w ⟨proto, ca, cc, cores, ha, hc, homes, some ⟨g, off, none⟩, tc, tasks⟩ 25).keep ((Keeps.alloc _ (.cells (zt none 0 0) 41)).trans (Keeps.alloc _ (.cells (zt none 0 0) 41))))
      replace hb := (hb.alloc (by simp) (.cells (zt none 0 0) 41)).alloc (by simp; omega) (.cells (zt none 0 0) 41)
      rw [show (w.alloc (.cells #[.int .i64 proto, .slice ca cores.length cc, .slice ha homes.length hc, .slice (some ⟨g, off, none⟩) tasks.length tc] 25)).heap.size = w.heap.size + 1 by simp] at B1
      rw [show ((w.alloc (.cells #[.int .i64 proto, .slice ca cores.length cc, .slice ha homes.length hc, .slice (some ⟨g, off, none⟩) tasks.length tc] 25)).alloc (.cells (zt none 0 0) 41)).heap.size = w.heap.size + 1 + 1 by simp] at B2
      have Z0 : w.heap.size + 3 ≤ (((w.alloc (.cells #[.int .i64 proto, .slice ca cores.length cc, .slice ha homes.length hc, .slice (some ⟨g, off, none⟩) tasks.length tc] 25)).alloc (.cells (zt none 0 0) 41)).alloc (.cells (zt none 0 0) 41)).heap.size := by simp
      have dn : decide (tasks.length ≤ n) = false := by simp; omega
      have dn2 : decide ((n : Int) < 0) = false := by simp
      go_enter Tryz.func142, Tryz.ntmps142
      go_wp2
      go_step3
      go_wp2_with (first | (go_at_call 152; (with_reducible refine (sound_any _ _ (HS.out.keep (((Keeps.alloc _ _).trans (Keeps.alloc _ _)).trans (Keeps.alloc _ _)))).mono ?_); rintro e w2 ⟨rfl, hb2⟩; replace hb := hb.trans (hb2.mono hb.size); replace B1 := B1.below hb2; replace B2 := B2.below hb2; replace SC := SC.keep (Keeps.of_below hb2); replace Z0 := Nat.le_trans Z0 hb2.size; have d5 := Keeps.of_below hb _ _ HC.out; have s3 := SC.2.2.2; dsimp only at s3; clear hb2))
      go_step3
      go_wp2
      go_loopg [32] parts.length (fun gg i wr => ∃ (k m c : Nat) (A : Option Addr), k + gg = parts.length ∧ i = .int .i64 k ∧ m ≤ k ∧ OwnP (w.heap.size + 3) wr A m c ((parts.take k).filter (srvB homes cl)) ∧ Bk wr (w.heap.size + 1) 41 (zt none 0 0) ∧ Bk wr (w.heap.size + 1 + 1) 41 (zt A m c) ∧ SetCells wr w.heap.size ⟨proto, ca, cc, cores, ha, hc, homes, some ⟨g, off, none⟩, tc, tasks⟩ ∧ Below w.heap.size w wr ∧ w.heap.size + 3 ≤ wr.heap.size)
      case atStart => exact ⟨0, 0, 0, none, by omega, rfl, Nat.le_refl _, OwnP.none _ _, B1, B2, SC, hb, Z0⟩
      case round =>
        obtain ⟨k, m, c, A, hk, rfl, hmk, ho, b1, b2, sc, hw, hz⟩ := hrel
        clear B1 B2 SC s3 d5
        by_cases hlt : k < parts.length
        · obtain ⟨p, HN⟩ : ∃ p, Hid (parts.getD k default = p) := ⟨_, rfl⟩
          have pcl := (HN.out ▸ Hpl.out k hlt).keep (Keeps.of_below hw)
          have pg := Tg.out.good p (HN.out ▸ getD_mem hlt)
          have Hs : Hid ((parts.take (k + 1)).filter (srvB homes cl) = (parts.take k).filter (srvB homes cl) ++ (if srvB homes cl p then [p] else [])) := hidp (by
            rw [take_snocD _ _ hlt, List.filter_append, HN.out]
            congr 1
            by_cases e : srvB homes cl p = true
            · simp [e]
            · simp [e])
          obtain ⟨kd, ln, rs⟩ := p
          obtain ⟨p0, p1, p2⟩ := pcl
          have hw1 := hw.alloc hw.size (.cells #[.int .i64 kd, .int .i64 ln, .int .i64 rs] 38)
          have sc1 := sc.keep (Keeps.alloc wr (.cells #[.int .i64 kd, .int .i64 ln, .int .i64 rs] 38))
          have b11 := b1.alloc (.cells #[.int .i64 kd, .int .i64 ln, .int .i64 rs] 38)
          have b21 := b2.alloc (.cells #[.int .i64 kd, .int .i64 ln, .int .i64 rs] 38)
          have ho1 := ho.turned ((Turned.refl [] wr).alloc (.cells #[.int .i64 kd, .int .i64 ln, .int .i64 rs] 38)) (by simp)
          have hz1 : w.heap.size + 3 ≤ (wr.alloc (.cells #[.int .i64 kd, .int .i64 ln, .int .i64 rs] 38)).heap.size := Nat.le_trans hz (by simp)
          by_cases e : kd = 3
          · subst e
            have g3 := pg.2.2.2 rfl
            obtain ⟨r, hr0⟩ : ∃ r : Nat, rs = r := ⟨rs.toNat, by have := g3.1; dsimp only at this; omega⟩
            subst hr0
            have hrl : r < homes.length := by have := g3.2; dsimp only at this; omega
            obtain ⟨gh, oh, hHA, hhc⟩ := Hhw.out.resolve_left (by intro e; rw [e] at hrl; simp at hrl)
            subst hHA
            obtain ⟨h, HH⟩ : ∃ h, Hid (homes.getD r 0 = h) := ⟨_, rfl⟩
            have ch := Keeps.of_below hw1 _ _ (HH.out ▸ hhc r hrl)
            have q2 := sc1.2.2.1
            dsimp only at q2
            clear hhc g3 pg
            by_cases e : h = cl
            · subst e
              have Hy : Hid (srvB homes h ⟨3, ln, r⟩ = true) := hidp (by simp [srvB]; exact HH.out)
              have Hz : Hid ((parts.take (k + 1)).filter (srvB homes h) = (parts.take k).filter (srvB homes h) ++ [⟨3, ln, r⟩]) := hidp (by rw [Hs.out, Hy.out]; simp)
              have hown2 := World.ownsRow.alloc ho1.own (.cells (ptc [⟨3, ln, r⟩]).toArray 38)
              have S2 := Lies.newCells' (wr.alloc (.cells #[.int .i64 3, .int .i64 ln, .int .i64 r] 38)) (ptc [⟨3, ln, r⟩]) 38
              rw [show (wr.alloc (.cells #[.int .i64 3, .int .i64 ln, .int .i64 r] 38)).heap.size = wr.heap.size + 1 by simp] at S2
              replace S2 := hidp S2
              have O2 := hidp (ptc_one [⟨3, ln, r⟩])
              have N2 : Hid (m + 1 ≤ maxLen) := hidp (by unfold maxLen; omega)
              have T2 : Hid ((m + 1) * 24 ≤ 140737488355328) := hidp (by omega)
              have Z2 : Hid (w.heap.size + 3 ≤ ((wr.alloc (.cells #[.int .i64 3, .int .i64 ln, .int .i64 r] 38)).alloc (.cells (ptc [⟨3, ln, r⟩]).toArray 38)).heap.size) := hidp (Nat.le_trans hz1 (by simp))
              have b12 := b11.alloc (.cells (ptc [⟨3, ln, r⟩]).toArray 38)
              have b22 := b21.alloc (.cells (ptc [⟨3, ln, r⟩]).toArray 38)
              have sc2 := sc1.keep (Keeps.alloc _ (.cells (ptc [⟨3, ln, r⟩]).toArray 38))
              have hw2 := hw1.alloc hw1.size (.cells (ptc [⟨3, ln, r⟩]).toArray 38)
              have Hfp := hidp (own_fp ho.own)
              have d21 := ZT _ _ _ _ _ _ b21
              obtain ⟨_, _, _, _, _, x5⟩ := d21
              go_wp2_with (at_builtin; (refine wpList_app2 _ rfl (.tmp 50) (.tmp 52) 39 rfl (w.heap.size + 3) 38 i0 _ 3 24 Tryz.underlying39 hi0 hy0 hy1 hy2 rfl (by decide) A m c _ rfl hown2 _ _ 1 1 (ptc [⟨3, ln, r⟩]) rfl (by simp) rfl S2.out O2.out N2.out T2.out Z2.out ?_; intro A' c' w1 happ; have b23 := b22.turned happ.turned (fun hf => by have := (Hfp.out _ hf).1; omega); have z5 := (ZF b23).2.2.2.2.2; have z6 := (ZT _ _ _ _ _ _ b23).2.2.2.2.2))
              have hTS := (Turned.refl [w.heap.size + 1 + 1] w1).setCell (p := ⟨w.heap.size + 1 + 1, 5, none⟩) (.inl (by simp)) (.slice A' (m + 1) c')
              have ho3 := ho.app (ps := [⟨3, ln, r⟩]) happ rfl
              have hF3 := own_fp ho3.own
              go_roundg (gk - 1)
              case measure => omega
              case rel => exact ⟨k + 1, m + 1, c', A', by omega, by go_num, by omega, by rw [Hz.out]; exact ho3.turned hTS (fun j hj hm => by simp at hm; subst hm; have := (hF3 _ hj).1; omega), (b12.turned happ.turned (fun hf => by have := (Hfp.out _ hf).1; omega)).turned hTS (by simp; try omega), b23.put 5 _, (sc2.turned happ.turned (fun hf => by have := (Hfp.out _ hf).1; omega)).turned hTS (by simp; try omega), (hw2.trans (happ.turned.below hw2.size (fun j hj => by have := (Hfp.out _ hj).1; omega))).trans (hTS.below (Nat.le_trans hw2.size happ.turned.size) (by simp; try omega)), Nat.le_trans (Nat.le_trans Z2.out happ.turned.size) hTS.size⟩
            · have e' : (h != cl) = true := by simpa using e
              have Hy : Hid (srvB homes cl ⟨3, ln, r⟩ = false) := hidp (by simp [srvB]; rw [← HH.out] at e; exact e)
              have Hz : Hid ((parts.take (k + 1)).filter (srvB homes cl) = (parts.take k).filter (srvB homes cl)) := hidp (by rw [Hs.out, Hy.out]; simp)
              clear e
              go_wp2
              go_roundg (gk - 1)
              case measure => omega
              case rel => exact ⟨k + 1, m, c, A, by omega, by go_num, by omega, by rw [Hz.out]; exact ho1, b11, b21, sc1, hw1, hz1⟩
          · have e' : (kd != 3) = true := by simpa using e
            have Hz : Hid ((parts.take (k + 1)).filter (srvB homes cl) = (parts.take k).filter (srvB homes cl)) := hidp (by
              rw [Hs.out, show srvB homes cl ⟨kd, ln, rs⟩ = false by simp [srvB, e]]; simp)
            clear e
            go_wp2
            go_roundg (gk - 1)
            case measure => omega
            case rel => exact ⟨k + 1, m, c, A, by omega, by go_num, by omega, by rw [Hz.out]; exact ho1, b11, b21, sc1, hw1, hz1⟩
        · obtain rfl : k = parts.length := by omega
          rw [List.take_length] at ho
          have Hv2 := hidp ho.len
          have hP := ho.parts
          obtain ⟨c0, c1, c2, c3, c4, c5⟩ := ZT _ _ _ _ _ _ b2
          obtain ⟨f0, f1, f2, f3, f4, f5⟩ := ZF b1
          obtain ⟨e0, e1, e2, e3, e4, e5⟩ := ZT _ _ _ _ _ _ b1
          go_wp2
          try rw [Exit.noGoto_ret]
          have PB := put6_bk b1 (v0 := .string ⟨#[]⟩) (v1 := .int .i64 0) (v2 := .int .i64 0) (v3 := .int .i64 0) (v4 := .int .i64 0) (v5 := .slice A m c)
          have PT := put6_turned wr (w.heap.size + 1) (.string ⟨#[]⟩) (.int .i64 0) (.int .i64 0) (.int .i64 0) (.int .i64 0) (.slice A m c)
          have hP2 : PartsAt (put6 wr (w.heap.size + 1) (.string ⟨#[]⟩) (.int .i64 0) (.int .i64 0) (.int .i64 0) (.int .i64 0) (.slice A m c)) A (parts.filter (srvB homes cl)) :=
            (ho.turned PT (fun k hk hm => by simp at hm; subst hm; have := (own_fp ho.own _ hk).1; omega)).parts
          obtain ⟨r0, r1, r2, r3, r4, r5⟩ := ZT _ _ _ _ _ _ PB
          have hbe : Below w.heap.size w (put6 wr (w.heap.size + 1) (.string ⟨#[]⟩) (.int .i64 0) (.int .i64 0) (.int .i64 0) (.int .i64 0) (.slice A m c)) := hw.trans (PT.below hw.size (by simp))
          unfold put6 at r0 r1 r2 r3 r4 r5 hP2 hbe
          rw [Hv.out]
          refine bodyPost_ret (v := .agg #[.string ⟨#[]⟩, .int .i64 0, .int .i64 0, .int .i64 0, .int .i64 0, .slice A m c]) (by simp [results, Tryz.results142, go_sem, r0, r1, r2, r3, r4, r5]) rfl ⟨A, c, by rw [← Hv2.out], hP2, hbe⟩
    · have Hv : Hid (srv s of cl = []) := hidp (by unfold srv; rw [if_neg (fun h => hr h.2)])
      have hr2 : of < 0 ∨ ¬ of < 0 ∧ (s.tasks.length : Int) ≤ of := by omega
      clear hr hg
      rcases hr2 with hr | ⟨hr, hr3⟩
      all_goals
        have SC := hidp ((SetCells.new w s 25).keep ((Keeps.alloc _ (.cells (zt none 0 0) 41)).trans (Keeps.alloc _ (.cells (zt none 0 0) 41))))
        have B1 := ((Bk.new (w.alloc (.cells #[.int .i64 s.proto, .slice s.ca s.cores.length s.cc, .slice s.ha s.homes.length s.hc, .slice s.ta s.tasks.length s.tc] 25)) 41 (zt none 0 0)).alloc (.cells (zt none 0 0) 41))
        have B2 := Bk.new ((w.alloc (.cells #[.int .i64 s.proto, .slice s.ca s.cores.length s.cc, .slice s.ha s.homes.length s.hc, .slice s.ta s.tasks.length s.tc] 25)).alloc (.cells (zt none 0 0) 41)) 41 (zt none 0 0)
        replace hb := (hb.alloc (by simp) (.cells (zt none 0 0) 41)).alloc (by simp; omega) (.cells (zt none 0 0) 41)
        rw [show (w.alloc (.cells #[.int .i64 s.proto, .slice s.ca s.cores.length s.cc, .slice s.ha s.homes.length s.hc, .slice s.ta s.tasks.length s.tc] 25)).heap.size = w.heap.size + 1 by simp] at B1
        rw [show ((w.alloc (.cells #[.int .i64 s.proto, .slice s.ca s.cores.length s.cc, .slice s.ha s.homes.length s.hc, .slice s.ta s.tasks.length s.tc] 25)).alloc (.cells (zt none 0 0) 41)).heap.size = w.heap.size + 1 + 1 by simp] at B2
        go_enter Tryz.func142, Tryz.ntmps142
        go_wp2
        go_step3
        go_wp2_with (first | (go_at_call 152; (with_reducible refine (sound_any _ _ (hs.keep (((Keeps.alloc _ _).trans (Keeps.alloc _ _)).trans (Keeps.alloc _ _)))).mono ?_); rintro e w2 ⟨rfl, hb2⟩; have hb2x := hb2; replace hb := hb.trans (hb2.mono hb.size); replace B1 := B1.below hb2; replace B2 := B2.below hb2; clear hb2; have d1 := ZT _ _ _ _ _ _ B1; obtain ⟨c0, c1, c2, c3, c4, c5⟩ := d1; have d2 := ZT _ _ _ _ _ _ B2; obtain ⟨e0, e1, e2, e3, e4, e5⟩ := d2; have z1 := ZF B1; obtain ⟨f0, f1, f2, f3, f4, f5⟩ := z1; have sc := SC.out.keep (Keeps.of_below hb2x); obtain ⟨s0, s1, s2, s3⟩ := sc))
        try rw [Exit.noGoto_ret]
        have PB := put6_bk B1 (v0 := .string ⟨#[]⟩) (v1 := .int .i64 0) (v2 := .int .i64 0) (v3 := .int .i64 0) (v4 := .int .i64 0) (v5 := .slice none 0 0)
        obtain ⟨r0, r1, r2, r3, r4, r5⟩ := ZT _ _ _ _ _ _ PB
        unfold put6 at r0 r1 r2 r3 r4 r5
        rw [Hv.out]
        refine bodyPost_ret (v := .agg #[.string ⟨#[]⟩, .int .i64 0, .int .i64 0, .int .i64 0, .int .i64 0, .slice none 0 0]) (by simp [results, Tryz.results142, go_sem, r0, r1, r2, r3, r4, r5]) rfl ⟨none, 0, rfl, .inl rfl, ?_⟩
        exact hb.trans ((put6_turned w2 (w.heap.size + 1) _ _ _ _ _ _).below hb.size (by simp))
  · have Hv : Hid (srv s of cl = []) := hidp (by unfold srv; rw [if_neg (fun h => ho h.1)])
    have ho : okS s = false := by simpa using ho
    have B1 := ((Bk.new (w.alloc (.cells #[.int .i64 s.proto, .slice s.ca s.cores.length s.cc, .slice s.ha s.homes.length s.hc, .slice s.ta s.tasks.length s.tc] 25)) 41 (zt none 0 0)).alloc (.cells (zt none 0 0) 41))
    have B2 := Bk.new ((w.alloc (.cells #[.int .i64 s.proto, .slice s.ca s.cores.length s.cc, .slice s.ha s.homes.length s.hc, .slice s.ta s.tasks.length s.tc] 25)).alloc (.cells (zt none 0 0) 41)) 41 (zt none 0 0)
    replace hb := (hb.alloc (by simp) (.cells (zt none 0 0) 41)).alloc (by simp; omega) (.cells (zt none 0 0) 41)
    rw [show (w.alloc (.cells #[.int .i64 s.proto, .slice s.ca s.cores.length s.cc, .slice s.ha s.homes.length s.hc, .slice s.ta s.tasks.length s.tc] 25)).heap.size = w.heap.size + 1 by simp] at B1
    rw [show ((w.alloc (.cells #[.int .i64 s.proto, .slice s.ca s.cores.length s.cc, .slice s.ha s.homes.length s.hc, .slice s.ta s.tasks.length s.tc] 25)).alloc (.cells (zt none 0 0) 41)).heap.size = w.heap.size + 1 + 1 by simp] at B2
    go_enter Tryz.func142, Tryz.ntmps142
    go_wp2
    go_step3
    go_wp2_with (first | (go_at_call 152; (with_reducible refine (sound_any _ _ (hs.keep (((Keeps.alloc _ _).trans (Keeps.alloc _ _)).trans (Keeps.alloc _ _)))).mono ?_); rintro e w2 ⟨rfl, hb2⟩; replace hb := hb.trans (hb2.mono hb.size); replace B1 := B1.below hb2; replace B2 := B2.below hb2; clear hb2; have d1 := ZT _ _ _ _ _ _ B1; obtain ⟨c0, c1, c2, c3, c4, c5⟩ := d1; have d2 := ZT _ _ _ _ _ _ B2; obtain ⟨e0, e1, e2, e3, e4, e5⟩ := d2; have z1 := ZF B1; obtain ⟨f0, f1, f2, f3, f4, f5⟩ := z1))
    try rw [Exit.noGoto_ret]
    have PB := put6_bk B1 (v0 := .string ⟨#[]⟩) (v1 := .int .i64 0) (v2 := .int .i64 0) (v3 := .int .i64 0) (v4 := .int .i64 0) (v5 := .slice none 0 0)
    obtain ⟨r0, r1, r2, r3, r4, r5⟩ := ZT _ _ _ _ _ _ PB
    unfold put6 at r0 r1 r2 r3 r4 r5
    rw [Hv.out]
    refine bodyPost_ret (v := .agg #[.string ⟨#[]⟩, .int .i64 0, .int .i64 0, .int .i64 0, .int .i64 0, .slice none 0 0]) (by simp [results, Tryz.results142, go_sem, r0, r1, r2, r3, r4, r5]) rfl ⟨none, 0, rfl, .inl rfl, ?_⟩
    exact hb.trans ((put6_turned w2 (w.heap.size + 1) _ _ _ _ _ _).below hb.size (by simp))

theorem srv_len (s : SetR) (of cl : Int) : LenOk (srv s of cl) ∧ (srv s of cl).length ≤ 6 := by
  unfold srv
  split
  · rename_i h
    have hg := Good.of h.1
    have hn : of.toNat < s.tasks.length := by omega
    have hp := hg.parts _ (getD_mem hn)
    exact ⟨fun p hp2 => hp.lens p (List.mem_filter.1 hp2).1, Nat.le_trans (List.length_filter_le _ _) hp.len.2⟩
  · exact ⟨fun p hp => by simp at hp, by simp⟩
def atV (s : SetR) (of cl : Int) : Int := sumK 3 (srv s of cl)
def mostV (s : SetR) (of cl : Int) : Int := maxL (srv s of cl)
def zTask (a : Option Addr) (c : Nat) (ps : List PartM) : TaskR := ⟨⟨#[]⟩, 0, 0, 0, 0, a, c, ps⟩
theorem at_any (s : SetR) (of cl : Int) (w : World) (hs : SetOk w s) : Calls Tryz.prog 117 #[.agg #[.int .i64 s.proto, .slice s.ca s.cores.length s.cc, .slice s.ha s.homes.length s.hc, .slice s.ta s.tasks.length s.tc], .int .i64 of, .int .i64 cl] w fun e w' => e = .returned (.int .i64 (atV s of cl)) ∧ Below w.heap.size w w' := by
  have hb := (Below.refl w.heap.size w).alloc (Nat.le_refl _) (.cells #[.int .i64 s.proto, .slice s.ca s.cores.length s.cc, .slice s.ha s.homes.length s.hc, .slice s.ta s.tasks.length s.tc] 25)
  have H := hidp (hs.keep (Keeps.of_below hb))
  have Hl := hidp (srv_len s of cl)
  clear hs
  go_enter Tryz.func117, Tryz.ntmps117
  go_wp2_with (first | (go_at_call 142; (with_reducible refine (served_any _ _ _ _ H.out).mono ?_); rintro e w2 ⟨a, c, rfl, hp, hb2⟩; replace hb := hb.trans (hb2.mono hb.size); have hT : Hid (TaskLen w2 (zTask a c (srv s of cl))) := hidp ⟨hp, Hl.out.1, Nat.le_trans Hl.out.2 (by decide)⟩; clear hp hb2) | (go_at_call 138; refine (locks_any (zTask a c (srv s of cl)) _ hT.out).mono ?_; rintro e w3 ⟨rfl, hb2⟩; replace hb := hb.trans (hb2.mono hb.size)))
  go_ret
  exact ⟨rfl, hb⟩
theorem most_any (s : SetR) (of cl : Int) (w : World) (hs : SetOk w s) : Calls Tryz.prog 116 #[.agg #[.int .i64 s.proto, .slice s.ca s.cores.length s.cc, .slice s.ha s.homes.length s.hc, .slice s.ta s.tasks.length s.tc], .int .i64 of, .int .i64 cl] w fun e w' => e = .returned (.int .i64 (mostV s of cl)) ∧ Below w.heap.size w w' := by
  have hb := (Below.refl w.heap.size w).alloc (Nat.le_refl _) (.cells #[.int .i64 s.proto, .slice s.ca s.cores.length s.cc, .slice s.ha s.homes.length s.hc, .slice s.ta s.tasks.length s.tc] 25)
  have H := hidp (hs.keep (Keeps.of_below hb))
  have Hl := hidp (srv_len s of cl)
  clear hs
  go_enter Tryz.func116, Tryz.ntmps116
  go_wp2_with (first | (go_at_call 142; (with_reducible refine (served_any _ _ _ _ H.out).mono ?_); rintro e w2 ⟨a, c, rfl, hp, hb2⟩; replace hb := hb.trans (hb2.mono hb.size); have hT : Hid (TaskLen w2 (zTask a c (srv s of cl))) := hidp ⟨hp, Hl.out.1, Nat.le_trans Hl.out.2 (by decide)⟩; clear hp hb2) | (go_at_call 113; refine (longest_any (zTask a c (srv s of cl)) _ hT.out).mono ?_; rintro e w3 ⟨rfl, hb2⟩; replace hb := hb.trans (hb2.mono hb.size)))
  go_ret
  exact ⟨rfl, hb⟩
end Go.Proofs.YtjjlpaampmpdfaaGreatDoor
