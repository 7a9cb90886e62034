/- token: Outside, Part. -/
import Derived.Test.YtjjlpaampmpdfaaGreatDoorToken2
namespace Go.Proofs.YtjjlpaampmpdfaaGreatDoor
open Go.ChangeShapes Go.WideShapes Go.ChangeAt Go.RowKit
set_option linter.unusedVariables false
set_option linter.unusedSimpArgs false

set_option maxHeartbeats 4000000 in
set_option maxRecDepth 100000 in
theorem outside_any (s : SetR) (of : Int) (w : World) (hs : SetOk w s) : Calls Tryz.prog 88 #[.agg #[.int .i64 s.proto, .slice s.ca s.cores.length s.cc, .slice s.ha s.homes.length s.hc, .slice s.ta s.tasks.length s.tc], .int .i64 of] w fun e w' => e = .returned (.int .i64 (outV s of)) ∧ Below w.heap.size w w' := by
  have hb := (Below.refl w.heap.size w).alloc (Nat.le_refl _) (.cells #[.int .i64 s.proto, .slice s.ca s.cores.length s.cc, .slice s.ha s.homes.length s.hc, .slice s.ta s.tasks.length s.tc] 25)
  have sc := SetCells.new w s 25
  have H := hs.keep (Keeps.of_below hb)
  by_cases e : thereB s of = true
  · have Hth := hidp e
    obtain ⟨ho, r1, r2⟩ := thereB_true.1 e
    obtain ⟨n, rfl⟩ : ∃ n : Nat, of = n := ⟨of.toNat, by omega⟩
    have hn : n < s.tasks.length := by omega
    have hg := Good.of ho
    obtain ⟨t, HT⟩ : ∃ t, Hid (s.tasks.getD n default = t) := ⟨_, rfl⟩
    have hm : t ∈ s.tasks := HT.out ▸ getD_mem hn
    have Tok := hs.tasks.ok t hm
    have Tg := hg.parts t hm
    have TL : Hid (TaskLen w t) := hidp ⟨Tok.at_, Tg.lens, by have := Tg.len; omega⟩
    have Ho := hidp ho
    have Hpl := hidp (hg.place t hm)
    obtain ⟨g, off, hA, hcl⟩ := hs.tasks.at_.resolve_left (by intro e; rw [e] at hn; simp at hn)
    have Htc := hidp (HT.out ▸ hcl n hn)
    obtain ⟨m, HM⟩ : ∃ m, Hid (maxL t.parts = m) := ⟨_, rfl⟩
    obtain ⟨R, HRd⟩ : ∃ R, Hid (rndV s t.cl = R) := ⟨_, rfl⟩
    obtain ⟨Q, HQ⟩ : ∃ Q, Hid (slowL s t.cl 0 s.tasks = Q) := ⟨_, rfl⟩
    have hR := rndV_bd ho (cl := t.cl) (by have := Hpl.out; omega)
    have hQ := slowL_bd ho t.cl 0 (fun t ht => (hg.parts t ht).lens)
    rw [HRd.out] at hR
    rw [HQ.out] at hQ
    have hp0 : 0 ≤ R * Q := Int.mul_nonneg hR.1 hQ.1
    have hp1 : R * Q ≤ 6 * 420 := Int.mul_le_mul hR.2 hQ.2 hQ.1 (by omega)
    have HV : Hid (outV s n = if m ≠ 0 then R * Q else 0) := hidp (by
      unfold outV; simp only [Int.toNat_natCast]; rw [HT.out, HM.out, HRd.out, HQ.out]
      by_cases e0 : m ≠ 0
      · rw [if_pos ⟨e, e0⟩, if_pos e0]
      · rw [if_neg (fun h => e0 h.2), if_neg e0])
    have l3 : s.tasks.length ≤ 6 := hg.ntasks.2
    clear hcl hm Tok Tg hg ho HT e hs r1 hR hQ
    obtain ⟨proto, ca, cc, cores, ha, hc, homes, ta, tc, tasks⟩ := s
    dsimp only at hA hn l3 r2 hb sc H Hpl ⊢
    subst hA
    have dn : decide (tasks.length ≤ n) = false := by simp; omega
    go_enter Tryz.func88, Tryz.ntmps88
    go_wp2_with fail
    refine (there15_any _ _ _ H).mono ?_
    rintro e w2 ⟨rfl, hb2⟩
    replace hb := hb.trans (hb2.mono hb.size)
    replace sc := sc.keep (Keeps.of_below hb2)
    replace H := H.keep (Keeps.of_below hb2)
    clear hb2
    try clear sc_0 sc_1 sc_2 sc_3
    have scx := sc
    obtain ⟨sc_0, sc_1, sc_2, sc_3⟩ := scx
    try dsimp only at sc_0 sc_1 sc_2 sc_3
    rw [Hth.out]
    obtain ⟨d0, d1, d2, d3, d4, d5⟩ := Htc.out.keep (Keeps.of_below hb)
    go_wp2_with fail
    refine (longest_any t _ (TL.out.keep (Keeps.of_below hb))).mono ?_
    rintro e w3 ⟨rfl, hb2⟩
    replace hb := hb.trans (hb2.mono hb.size)
    replace sc := sc.keep (Keeps.of_below hb2)
    replace H := H.keep (Keeps.of_below hb2)
    clear hb2
    try clear sc_0 sc_1 sc_2 sc_3
    have scx := sc
    obtain ⟨sc_0, sc_1, sc_2, sc_3⟩ := scx
    try dsimp only at sc_0 sc_1 sc_2 sc_3
    rw [HM.out]
    clear d0 d1 d2 d3 d4 d5
    obtain ⟨d0, d1, d2, d3, d4, d5⟩ := Htc.out.keep (Keeps.of_below hb)
    by_cases e2 : m = 0
    · have e3 : (m == 0) = true := by simpa using e2
      have Hv : Hid (outV _ n = 0) := hidp (by rw [HV.out, if_neg (fun h => h e2)])
      clear e2
      go_wp2
      go_ret
      exact ⟨ret_int Hv.out.symm, hb⟩
    · have e3 : (m == 0) = false := by simpa using e2
      obtain ⟨p, hp⟩ : ∃ p, R * Q = p := ⟨_, rfl⟩
      have Hv : Hid (outV _ n = p) := hidp (by rw [HV.out, if_pos e2, hp])
      have hwr : IntKind.i64.wrap (R * Q) = p := by rw [IntWalk.i64_in _ (by omega), hp]
      clear e2 hp hp0 hp1
      go_wp2_with fail
      have s0 := Keeps.drew _ _ _ sc_0
      have s1 := Keeps.drew _ _ _ sc_1
      have s2 := Keeps.drew _ _ _ sc_2
      have s3 := Keeps.drew _ _ _ sc_3
      have H' := H.keep (Keeps.drew _)
      have hb := hb.drew
      clear H sc d0 d1 d2 d3 d4 d5 sc_0 sc_1 sc_2 sc_3
      go_region_held3 (fun w' => w'.cell? ⟨w.heap.size, 0, none⟩ = some (.int .i64 proto) ∧ w'.cell? ⟨w.heap.size, 1, none⟩ = some (.slice ca cores.length cc) ∧ w'.cell? ⟨w.heap.size, 2, none⟩ = some (.slice ha homes.length hc) ∧ w'.cell? ⟨w.heap.size, 3, none⟩ = some (.slice (some ⟨g, off, none⟩) tasks.length tc)) (exact ⟨s0, s1, s2, s3⟩)
        (first
          | (go_at_call 120; refine (rounds_any _ t.cl _ H' Ho.out (by have := Hpl.out; dsimp only; omega)).mono ?_; rintro e u ⟨rfl, hb3⟩; have s0 := Keeps.of_below hb3 _ _ s0; have s1 := Keeps.of_below hb3 _ _ s1; have s2 := Keeps.of_below hb3 _ _ s2; have s3 := Keeps.of_below hb3 _ _ s3; have H' := H'.keep (Keeps.of_below hb3); have hb := hb.trans (hb3.mono hb.size); rw [HRd.out])
          | (go_at_call 121; refine (slowest_any _ t.cl _ H' Ho.out).mono ?_; rintro e u ⟨rfl, hb3⟩; have s0 := Keeps.of_below hb3 _ _ s0; have s1 := Keeps.of_below hb3 _ _ s1; have s2 := Keeps.of_below hb3 _ _ s2; have s3 := Keeps.of_below hb3 _ _ s3; have H' := H'.keep (Keeps.of_below hb3); have hb := hb.trans (hb3.mono hb.size); rw [HQ.out]))
      clear hwr
      go_wp2_with fail
      go_ret
      exact ⟨ret_int Hv.out.symm, hb⟩
  · have Hth : Hid (thereB s of = false) := hidp (by simpa using e)
    have Hv : Hid (outV s of = 0) := hidp (by unfold outV; rw [if_neg (fun h => e h.1)])
    clear e
    go_enter Tryz.func88, Tryz.ntmps88
    go_wp2_with fail
    refine (there15_any _ _ _ H).mono ?_
    rintro e w2 ⟨rfl, hb2⟩
    replace hb := hb.trans (hb2.mono hb.size)
    replace sc := sc.keep (Keeps.of_below hb2)
    clear hb2
    try clear sc_0 sc_1 sc_2 sc_3
    have scx := sc
    obtain ⟨sc_0, sc_1, sc_2, sc_3⟩ := scx
    try dsimp only at sc_0 sc_1 sc_2 sc_3
    rw [Hth.out]
    go_wp2
    go_ret
    exact ⟨ret_int Hv.out.symm, hb⟩

theorem insV_bd (s : SetR) (of part : Int) : 0 ≤ insV s of part ∧ insV s of part ≤ 420 := by
  unfold insV
  split
  · rename_i h
    obtain ⟨f1, f2, f3, f4⟩ := fairK_iff.1 h
    obtain ⟨ho, r1, r2⟩ := thereB_true.1 f1
    have hp : partAt s of part ∈ (s.tasks.getD of.toNat default).parts := by unfold partAt; exact getD_mem (by omega)
    have h1 := ((Good.of ho).parts _ (getD_mem (by omega : of.toNat < s.tasks.length))).lens _ hp
    have h2 := besV_bd ho of
    omega
  · omega
set_option maxHeartbeats 1000000 in
theorem tpart_any (s : SetR) (of part : Int) (w : World) (hs : SetOk w s) : Calls Tryz.prog 63 #[.agg #[.int .i64 s.proto, .slice s.ca s.cores.length s.cc, .slice s.ha s.homes.length s.hc, .slice s.ta s.tasks.length s.tc], .int .i64 of, .int .i64 part] w fun e w' => e = .returned (.tuple #[.int .i64 (tokV s of part), .bool (fairK s of part)]) ∧ Below w.heap.size w w' := by
  have hb := (Below.refl w.heap.size w).alloc (Nat.le_refl _) (.cells #[.int .i64 s.proto, .slice s.ca s.cores.length s.cc, .slice s.ha s.homes.length s.hc, .slice s.ta s.tasks.length s.tc] 25)
  have sc := SetCells.new w s 25
  have H := hs.keep (Keeps.of_below hb)
  obtain ⟨I, HI⟩ : ∃ I, Hid (insV s of part = I) := ⟨_, rfl⟩
  obtain ⟨O, HO⟩ : ∃ O, Hid (outV s of = O) := ⟨_, rfl⟩
  have h1 := insV_bd s of part
  have h2 := outV_bd s of
  rw [HI.out] at h1
  rw [HO.out] at h2
  obtain ⟨i0, i1⟩ := h1
  obtain ⟨o0, o1⟩ := h2
  clear hs
  by_cases k : fairK s of part = true
  · have Hk := hidp k
    have Hv : Hid (tokV s of part = I + O) := hidp (by unfold tokV; rw [if_pos k, HI.out, HO.out])
    clear k
    go_enter Tryz.func63, Tryz.ntmps63
    go_wp2_with fail
    refine (inside_any _ _ _ _ H).mono ?_
    rintro e w2 ⟨rfl, hb2⟩
    replace hb := hb.trans (hb2.mono hb.size)
    replace sc := sc.keep (Keeps.of_below hb2)
    replace H := H.keep (Keeps.of_below hb2)
    clear hb2
    try clear sc_0 sc_1 sc_2 sc_3
    have scx := sc
    obtain ⟨sc_0, sc_1, sc_2, sc_3⟩ := scx
    try dsimp only at sc_0 sc_1 sc_2 sc_3
    rw [HI.out, Hk.out]
    go_wp2_with fail
    refine (outside_any _ _ _ H).mono ?_
    rintro e w3 ⟨rfl, hb2⟩
    replace hb := hb.trans (hb2.mono hb.size)
    clear hb2
    rw [HO.out]
    go_wp2
    go_ret2
    exact ⟨ret_ib Hv.out.symm Hk.out.symm, hb⟩
  · have k : fairK s of part = false := by simpa using k
    have Hk := hidp k
    have Hv : Hid (tokV s of part = 0) := hidp (by unfold tokV; rw [k]; rfl)
    clear k
    go_enter Tryz.func63, Tryz.ntmps63
    go_wp2_with fail
    refine (inside_any _ _ _ _ H).mono ?_
    rintro e w2 ⟨rfl, hb2⟩
    replace hb := hb.trans (hb2.mono hb.size)
    replace sc := sc.keep (Keeps.of_below hb2)
    replace H := H.keep (Keeps.of_below hb2)
    clear hb2
    try clear sc_0 sc_1 sc_2 sc_3
    have scx := sc
    obtain ⟨sc_0, sc_1, sc_2, sc_3⟩ := scx
    try dsimp only at sc_0 sc_1 sc_2 sc_3
    rw [HI.out, Hk.out]
    go_wp2
    go_ret2
    exact ⟨ret_ib Hv.out.symm Hk.out.symm, hb⟩
end Go.Proofs.YtjjlpaampmpdfaaGreatDoor
