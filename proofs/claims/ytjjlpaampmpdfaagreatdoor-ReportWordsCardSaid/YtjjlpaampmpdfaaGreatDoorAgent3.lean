/- agent: Part. -/
import Derived.Test.YtjjlpaampmpdfaaGreatDoorAgent2
import Derived.Deep.RegionHeld3
namespace Go.Proofs.YtjjlpaampmpdfaaGreatDoor
open Go.ChangeShapes Go.WideShapes Go.ChangeAt Go.RowKit
set_option linter.unusedVariables false
set_option linter.unusedSimpArgs false

theorem agent_not {s : SetR} {bs : List Int} {of part : Int} (h : ¬ (thereB s of = true ∧ bs.length = s.tasks.length ∧ 0 ≤ part ∧ part < (s.tasks.getD of.toNat default).parts.length ∧ (partAt s of part).kind = 3)) : agentV s bs of part = 0 ∧ agentK s bs of part = false := by
  have e : agentB s bs of part = false := by
    rw [Bool.eq_false_iff]; intro hb
    have h1 := agentB_true.1 hb
    have h2 := fairK_iff.1 h1.1
    exact h ⟨h2.1, h1.2, h2.2⟩
  unfold agentV agentK agentO
  rw [e]
  exact ⟨rfl, rfl⟩
theorem agent_yes {s : SetR} {bs : List Int} {of part : Int} (h1 : thereB s of = true) (h2 : bs.length = s.tasks.length) (h3 : 0 ≤ part) (h4 : part < (s.tasks.getD of.toNat default).parts.length) (h5 : (partAt s of part).kind = 3) :
    agentV s bs of part = setV (leastV s of part) (rivL s bs (prioOf s of) (homeV s of part) 0 s.tasks) ∧ agentK s bs of part = setK (leastV s of part) (rivL s bs (prioOf s of) (homeV s of part) 0 s.tasks) := by
  have e : agentB s bs of part = true := agentB_true.2 ⟨fairK_iff.2 ⟨h1, h3, h4, h5⟩, h2⟩
  unfold agentV agentK agentO
  rw [if_pos e]
  exact ⟨rfl, rfl⟩
theorem lowerV_bd (s : SetR) (of cl : Int) : 0 ≤ lowerV s of cl ∧ lowerV s of cl ≤ 60 := by
  unfold lowerV; split
  · exact lowL_bd _ _ _ _ _
  · omega

set_option maxHeartbeats 4000000 in
set_option maxRecDepth 100000 in
theorem apart_any (s : SetR) (bs : List Int) (ba : Option Addr) (bc : Nat) (of part : Int) (w : World) (hs : SetOk w s) (hB : IntsOk w ba bc bs) : Calls Tryz.prog 62 #[.agg #[.int .i64 s.proto, .slice s.ca s.cores.length s.cc, .slice s.ha s.homes.length s.hc, .slice s.ta s.tasks.length s.tc], .slice ba bs.length bc, .int .i64 of, .int .i64 part] w fun e w' => e = .returned (.tuple #[.int .i64 (agentV s bs of part), .bool (agentK s bs of part)]) ∧ Below w.heap.size w w' := by
  have hb := (Below.refl w.heap.size w).alloc (Nat.le_refl _) (.cells #[.int .i64 s.proto, .slice s.ca s.cores.length s.cc, .slice s.ha s.homes.length s.hc, .slice s.ta s.tasks.length s.tc] 25)
  have sc := SetCells.new w s 25
  have H := hs.keep (Keeps.of_below hb)
  have HB := hB.keep (Keeps.of_below hb)
  have l3 : s.tasks.length ≤ maxLen := Nat.le_trans hs.tasks.sl.2.1 hs.tasks.sl.2.2
  have l4 : bs.length ≤ maxLen := Nat.le_trans hB.sl.2.1 hB.sl.2.2
  unfold maxLen at l3 l4
  by_cases e : thereB s of = true
  · have Hth := hidp e
    by_cases e2 : bs.length = s.tasks.length
    · have HL := hidp e2
      have d1 : ((bs.length : Int) != (s.tasks.length : Int)) = false := by simp [e2]
      obtain ⟨ho, r1, r2⟩ := thereB_true.1 e
      obtain ⟨n, rfl⟩ : ∃ n : Nat, of = n := ⟨of.toNat, by omega⟩
      have hn : n < s.tasks.length := by omega
      have hg := Good.of ho
      obtain ⟨t, HT⟩ : ∃ t, Hid (s.tasks.getD n default = t) := ⟨_, rfl⟩
      have hm : t ∈ s.tasks := HT.out ▸ getD_mem hn
      have Tok := hs.tasks.ok t hm
      have Tg := hg.parts t hm
      have Ho := hidp ho
      have Hn := hidp hn
      have Hn6 := hidp hg.ntasks.2
      have HhA := hidp hs.homes.at_
      have Hhl := hidp hg.nhomes
      obtain ⟨g, off, hA, hcl⟩ := hs.tasks.at_.resolve_left (by intro e; rw [e] at hn; simp at hn)
      have Ht5 := hidp ((HT.out ▸ hcl n hn).2.2.2.2.2)
      have hpl := Tg.len
      obtain ⟨gp, op, hP, hpc⟩ := Tok.at_.resolve_left (by intro e; rw [e] at hpl; simp at hpl)
      have Hpc := hidp hpc
      have HL2 := hidp Tg.good
      obtain ⟨parts, hparts⟩ : ∃ parts, t.parts = parts := ⟨_, rfl⟩
      have Hpt : Hid ((s.tasks.getD n default).parts = parts) := hidp (by rw [HT.out, hparts])
      have hrok := hidp (fun (P C : Int) => rivL_ok (s := s) (bs := bs) (pr := P) (cl := C) (k := 0) hB.wf (fun t ht => (hs.tasks.ok t ht).per))
      have hrl := hidp (fun (P C : Int) => Nat.le_trans (rivL_len s bs P C 0 s.tasks) Hn6.out)
      rw [hP, hparts] at Ht5
      rw [hparts] at Hpc HL2 hpl
      clear hcl hm Tok Tg hpc hP hparts hg ho HT e e2 hs hB r1
      have Hno : Hid (∀ p : Int, ¬ (0 ≤ p ∧ p < parts.length ∧ (parts.getD p.toNat default).kind = 3) → agentV s bs n p = 0 ∧ agentK s bs n p = false) := hidp (fun p h => agent_not (fun h2 => h ⟨h2.2.2.1, by
        have h3 := h2.2.2.2.1; simp only [Int.toNat_natCast] at h3; rw [Hpt.out] at h3; exact h3, by
        have h3 := h2.2.2.2.2; unfold partAt at h3; simp only [Int.toNat_natCast] at h3; rw [Hpt.out] at h3; exact h3⟩))
      have Hyes : Hid (∀ m : Nat, m < parts.length → (parts.getD m default).kind = 3 → (partAt s n m = parts.getD m default ∧ agentV s bs n m = setV (leastV s n m) (rivL s bs (prioOf s n) (homeV s n m) 0 s.tasks) ∧ agentK s bs n m = setK (leastV s n m) (rivL s bs (prioOf s n) (homeV s n m) 0 s.tasks))) := hidp (fun m hm hk => by
        have hpa : partAt s n m = parts.getD m default := by unfold partAt; simp only [Int.toNat_natCast]; rw [Hpt.out]
        exact ⟨hpa, agent_yes Hth.out HL.out (by omega) (by simp only [Int.toNat_natCast]; rw [Hpt.out]; omega) (by rw [hpa]; exact hk)⟩)
      have dn : decide (s.tasks.length ≤ n) = false := by simp; omega
      obtain ⟨proto, ca, cc, cores, ha, hc, homes, ta, tc, tasks⟩ := s
      dsimp only at hA hn l3 r2 hb sc H dn d1 HhA Hhl ⊢
      subst hA
      have hcase : part < 0 ∨ (0 ≤ part ∧ (parts.length : Int) ≤ part) ∨ (0 ≤ part ∧ part < (parts.length : Int)) := by omega
      rcases hcase with p | ⟨p, p2⟩ | ⟨p, p2⟩
      · obtain ⟨k1, k2⟩ := Hno.out part (fun h => by omega)
        have Hv := hidp k1
        have Hk := hidp k2
        clear k1 k2
        go_enter Tryz.func62, Tryz.ntmps62
        go_wp2_with fail
        refine (there14_any _ _ _ H).mono ?_
        rintro e w2 ⟨rfl, hb2⟩
        replace hb := hb.trans (hb2.mono hb.size)
        replace sc := sc.keep (Keeps.of_below hb2)
        clear hb2
        try clear sc_0 sc_1 sc_2 sc_3
        have scx := sc
        obtain ⟨sc_0, sc_1, sc_2, sc_3⟩ := scx
        try dsimp only at sc_0 sc_1 sc_2 sc_3
        rw [Hth.out]
        have d5 := Keeps.of_below hb _ _ Ht5.out
        go_wp2
        go_ret2
        exact ⟨ret_ib Hv.out.symm Hk.out.symm, hb⟩
      · obtain ⟨k1, k2⟩ := Hno.out part (fun h => by omega)
        have Hv := hidp k1
        have Hk := hidp k2
        clear k1 k2
        have dp : decide ((parts.length : Int) ≤ part) = true := by simpa using p2
        go_enter Tryz.func62, Tryz.ntmps62
        go_wp2_with fail
        refine (there14_any _ _ _ H).mono ?_
        rintro e w2 ⟨rfl, hb2⟩
        replace hb := hb.trans (hb2.mono hb.size)
        replace sc := sc.keep (Keeps.of_below hb2)
        clear hb2
        try clear sc_0 sc_1 sc_2 sc_3
        have scx := sc
        obtain ⟨sc_0, sc_1, sc_2, sc_3⟩ := scx
        try dsimp only at sc_0 sc_1 sc_2 sc_3
        rw [Hth.out]
        have d5 := Keeps.of_below hb _ _ Ht5.out
        go_wp2
        go_ret2
        exact ⟨ret_ib Hv.out.symm Hk.out.symm, hb⟩
      · obtain ⟨m, rfl⟩ : ∃ m : Nat, part = m := ⟨part.toNat, by omega⟩
        have hml : m < parts.length := by omega
        obtain ⟨q, HQ⟩ : ∃ q, Hid (parts.getD m default = q) := ⟨_, rfl⟩
        have hq := HL2.out q (HQ.out ▸ getD_mem hml)
        obtain ⟨q0, q1, q2, q3⟩ := hq
        have dm : decide (parts.length ≤ m) = false := by simp; omega
        by_cases k : q.kind = 3
        · obtain ⟨pa, v1, v2⟩ := Hyes.out m hml (by rw [HQ.out]; exact k)
          obtain ⟨q31, q32⟩ := q3 k
          dsimp only at q32
          obtain ⟨r, hr⟩ : ∃ r : Nat, q.res = r := ⟨q.res.toNat, by omega⟩
          have hrl2 : r < homes.length := by omega
          obtain ⟨gh, oh, hHA, hhc⟩ := HhA.out.resolve_left (by intro e; rw [e] at hrl2; simp at hrl2)
          obtain ⟨h, HH⟩ : ∃ h, Hid (homes.getD r 0 = h) := ⟨_, rfl⟩
          have Hhc := hidp (HH.out ▸ hhc r hrl2)
          have hhome : homeV (⟨proto, ca, cc, cores, ha, hc, homes, some ⟨g, off, none⟩, tc, tasks⟩ : SetR) n m = h := by unfold homeV; rw [pa, HQ.out, hr]; simpa using HH.out
          obtain ⟨L, HLo⟩ : ∃ L, Hid (lowerV (⟨proto, ca, cc, cores, ha, hc, homes, some ⟨g, off, none⟩, tc, tasks⟩ : SetR) n h = L) := ⟨_, rfl⟩
          have hLb := lowerV_bd (⟨proto, ca, cc, cores, ha, hc, homes, some ⟨g, off, none⟩, tc, tasks⟩ : SetR) n h
          rw [HLo.out] at hLb
          obtain ⟨L0, L1⟩ := hLb
          have hleast : leastV (⟨proto, ca, cc, cores, ha, hc, homes, some ⟨g, off, none⟩, tc, tasks⟩ : SetR) n m = q.len + L := by unfold leastV; rw [pa, HQ.out, hhome, HLo.out]
          obtain ⟨rs, Hrs⟩ : ∃ rs, Hid (rivL (⟨proto, ca, cc, cores, ha, hc, homes, some ⟨g, off, none⟩, tc, tasks⟩ : SetR) bs (prioOf (⟨proto, ca, cc, cores, ha, hc, homes, some ⟨g, off, none⟩, tc, tasks⟩ : SetR) n) h 0 tasks = rs) := ⟨_, rfl⟩
          have Hv : Hid (agentV (⟨proto, ca, cc, cores, ha, hc, homes, some ⟨g, off, none⟩, tc, tasks⟩ : SetR) bs n m = setV (q.len + L) rs) := hidp (by rw [v1, hleast, hhome, Hrs.out])
          have Hk : Hid (agentK (⟨proto, ca, cc, cores, ha, hc, homes, some ⟨g, off, none⟩, tc, tasks⟩ : SetR) bs n m = setK (q.len + L) rs) := hidp (by rw [v2, hleast, hhome, Hrs.out])
          have Hrok : Hid (∀ x ∈ rs, RivOk x) := hidp (by rw [← Hrs.out]; exact hrok.out _ _)
          have Hrl : Hid (rs.length ≤ 6) := hidp (by rw [← Hrs.out]; exact hrl.out _ _)
          have Hr := hidp hr
          have k2 : (q.kind != 3) = false := by simpa using k
          clear k v1 v2 pa hleast hhome hhc q31 q32 q3 q0 hrok hrl
          obtain ⟨kd, ln, rsx⟩ := q
          dsimp only at *
          subst hr
          subst hHA
          go_enter Tryz.func62, Tryz.ntmps62
          go_wp2_with fail
          refine (there14_any _ _ _ H).mono ?_
          rintro e w2 ⟨rfl, hb2⟩
          replace hb := hb.trans (hb2.mono hb.size)
          replace sc := sc.keep (Keeps.of_below hb2)
          replace H := H.keep (Keeps.of_below hb2)
          replace HB := HB.keep (Keeps.of_below hb2)
          clear hb2
          try clear sc_0 sc_1 sc_2 sc_3
          have scx := sc
          obtain ⟨sc_0, sc_1, sc_2, sc_3⟩ := scx
          try dsimp only at sc_0 sc_1 sc_2 sc_3
          rw [Hth.out]
          have d5 := Keeps.of_below hb _ _ Ht5.out
          have pcl := (HQ.out ▸ Hpc.out m hml).keep (Keeps.of_below hb)
          obtain ⟨x0, x1, x2⟩ := pcl
          have ch := Keeps.of_below hb _ _ Hhc.out
          replace hb := hb.alloc hb.size (.cells #[.int .i64 kd, .int .i64 ln, .int .i64 r] 38)
          have kk := Keeps.alloc w2 (.cells #[.int .i64 kd, .int .i64 ln, .int .i64 r] 38)
          replace H := H.keep kk
          replace HB := HB.keep kk
          replace sc := sc.keep kk
          have e0 := sc
          obtain ⟨e0, e1, e2, e3⟩ := e0
          dsimp only at e0 e1 e2 e3
          replace ch := kk _ _ ch
          go_wp2
          have hwr : IntKind.i64.wrap (ln + L) = ln + L := IntWalk.i64_in _ (by omega)
          have H' := H.keep (Keeps.drew _)
          have HB' := HB.keep (Keeps.drew _)
          have pb : (w2.alloc (.cells #[.int .i64 kd, .int .i64 ln, .int .i64 r] 38)).drew.cell? ⟨w2.heap.size, 1, none⟩ = some (.int .i64 ln) := by simp
          have s0 := Keeps.drew _ _ _ e0
          have s1 := Keeps.drew _ _ _ e1
          have s2 := Keeps.drew _ _ _ e2
          have s3 := Keeps.drew _ _ _ e3
          replace hb := hb.drew
          clear H HB sc e0 e1 e2 e3 x0 x1 x2 ch kk d5 sc_0 sc_1 sc_2 sc_3
          go_region_held3 (fun w' => w'.cell? ⟨w2.heap.size, 1, none⟩ = some (.int .i64 ln) ∧ w'.cell? ⟨w.heap.size, 0, none⟩ = some (.int .i64 proto) ∧ w'.cell? ⟨w.heap.size, 1, none⟩ = some (.slice ca cores.length cc) ∧ w'.cell? ⟨w.heap.size, 2, none⟩ = some (.slice (some ⟨gh, oh, none⟩) homes.length hc) ∧ w'.cell? ⟨w.heap.size, 3, none⟩ = some (.slice (some ⟨g, off, none⟩) tasks.length tc)) (exact ⟨pb, s0, s1, s2, s3⟩)
            (first
              | (go_at_call 85; refine (lower_any _ n h _ H').mono ?_; rintro e u ⟨rfl, hb3⟩; have pb := Keeps.of_below hb3 _ _ pb; have s0 := Keeps.of_below hb3 _ _ s0; have s1 := Keeps.of_below hb3 _ _ s1; have s2 := Keeps.of_below hb3 _ _ s2; have s3 := Keeps.of_below hb3 _ _ s3; have H' := H'.keep (Keeps.of_below hb3); have HB' := HB'.keep (Keeps.of_below hb3); have hb := hb.trans (hb3.mono hb.size); rw [HLo.out]; (try have hp := hp.keep (Keeps.of_below hb3)))
              | (go_at_call 86; refine (rivals_any _ bs ba bc n h _ H' HB' Ho.out Hn.out HL.out).mono ?_; rintro e u ⟨A, c, rfl, hp0, hb3⟩; have pb := Keeps.of_below hb3 _ _ pb; have s0 := Keeps.of_below hb3 _ _ s0; have s1 := Keeps.of_below hb3 _ _ s1; have s2 := Keeps.of_below hb3 _ _ s2; have s3 := Keeps.of_below hb3 _ _ s3; have H' := H'.keep (Keeps.of_below hb3); have HB' := HB'.keep (Keeps.of_below hb3); have hb := hb.trans (hb3.mono hb.size); rw [Hrs.out] at hp0 ⊢; have hp := hp0)
              | (go_at_call 84; refine (settled_any rs A c (ln + L) _ hp Hrok.out Hrl.out (by omega) (by omega)).mono ?_; rintro e u ⟨rfl, hb3⟩; have pb := Keeps.of_below hb3 _ _ pb; have s0 := Keeps.of_below hb3 _ _ s0; have s1 := Keeps.of_below hb3 _ _ s1; have s2 := Keeps.of_below hb3 _ _ s2; have s3 := Keeps.of_below hb3 _ _ s3; have hb := hb.trans (hb3.mono hb.size); skip))
          go_wp2_with fail
          go_ret2
          exact ⟨ret_ib Hv.out.symm Hk.out.symm, hb⟩
        · obtain ⟨k1, k2'⟩ := Hno.out m (fun h => by have h2 := h.2.2; simp only [Int.toNat_natCast] at h2; rw [HQ.out] at h2; exact k h2)
          have Hv := hidp k1
          have Hk := hidp k2'
          have k2 : (q.kind != 3) = true := by simpa using k
          clear k1 k2' k
          go_enter Tryz.func62, Tryz.ntmps62
          go_wp2_with fail
          refine (there14_any _ _ _ H).mono ?_
          rintro e w2 ⟨rfl, hb2⟩
          replace hb := hb.trans (hb2.mono hb.size)
          replace sc := sc.keep (Keeps.of_below hb2)
          clear hb2
          try clear sc_0 sc_1 sc_2 sc_3
          have scx := sc
          obtain ⟨sc_0, sc_1, sc_2, sc_3⟩ := scx
          try dsimp only at sc_0 sc_1 sc_2 sc_3
          rw [Hth.out]
          have d5 := Keeps.of_below hb _ _ Ht5.out
          have pcl := (HQ.out ▸ Hpc.out m hml).keep (Keeps.of_below hb)
          obtain ⟨x0, x1, x2⟩ := pcl
          go_wp2
          go_ret2
          exact ⟨ret_ib Hv.out.symm Hk.out.symm, hb.alloc hb.size _⟩
    · obtain ⟨k1, k2⟩ := agent_not (s := s) (bs := bs) (of := of) (part := part) (fun h => e2 h.2.1)
      have Hv := hidp k1
      have Hk := hidp k2
      have d1 : ((bs.length : Int) != (s.tasks.length : Int)) = true := by simp; omega
      clear e e2 k1 k2
      go_enter Tryz.func62, Tryz.ntmps62
      go_wp2_with fail
      refine (there14_any _ _ _ H).mono ?_
      rintro e w2 ⟨rfl, hb2⟩
      replace hb := hb.trans (hb2.mono hb.size)
      replace sc := sc.keep (Keeps.of_below hb2)
      clear hb2
      try clear sc_0 sc_1 sc_2 sc_3
      have scx := sc
      obtain ⟨sc_0, sc_1, sc_2, sc_3⟩ := scx
      try dsimp only at sc_0 sc_1 sc_2 sc_3
      rw [Hth.out]
      go_wp2
      go_ret2
      exact ⟨ret_ib Hv.out.symm Hk.out.symm, hb⟩
  · obtain ⟨k1, k2⟩ := agent_not (s := s) (bs := bs) (of := of) (part := part) (fun h => e h.1)
    have Hv := hidp k1
    have Hk := hidp k2
    have Hth : Hid (thereB s of = false) := hidp (by simpa using e)
    clear e k1 k2
    go_enter Tryz.func62, Tryz.ntmps62
    go_wp2_with fail
    refine (there14_any _ _ _ H).mono ?_
    rintro e w2 ⟨rfl, hb2⟩
    replace hb := hb.trans (hb2.mono hb.size)
    replace sc := sc.keep (Keeps.of_below hb2)
    clear hb2
    try clear sc_0 sc_1 sc_2 sc_3
    have scx := sc
    obtain ⟨sc_0, sc_1, sc_2, sc_3⟩ := scx
    try dsimp only at sc_0 sc_1 sc_2 sc_3
    rw [Hth.out]
    go_wp2
    go_ret2
    exact ⟨ret_ib Hv.out.symm Hk.out.symm, hb⟩
end Go.Proofs.YtjjlpaampmpdfaaGreatDoor
