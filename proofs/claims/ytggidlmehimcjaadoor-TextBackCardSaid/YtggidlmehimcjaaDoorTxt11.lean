/- text.Print. -/
import Derived.Test.YtggidlmehimcjaaDoorTxt10
import Derived.Test.YtggidlmehimcjaaDoorReg
namespace Go.Proofs.YtggidlmehimcjaaDoor
open Go.ChangeShapes Go.WideShapes Go.ChangeAt Go.RowKit
set_option linter.unusedVariables false
set_option linter.unusedSimpArgs false
def SetR.rd (s : SetR) : RdT := ⟨s.proto, s.cores, s.homes, s.tasks.map TaskR.rd, 0, 0, []⟩
def printV (s : SetR) : Bts := if okS s = true then printT s.rd else []
/-- what must hold of the numbers of a set that may be, for its lines to be short -/
structure Brief (s : SetR) : Prop where
  cores : s.cores.length ≤ 3
  homes : s.homes.length ≤ 4
  tasks : s.tasks.length ≤ 6
  name : ∀ t ∈ s.tasks, t.name.size ≤ 100
  parts : ∀ t ∈ s.tasks, t.parts.length ≤ 100
theorem nameB_size {x : ByteArray} (h : nameB x = true) : x.size ≤ 8 := by
  unfold nameB at h
  rw [Bool.and_eq_true] at h
  exact (of_decide_eq_true h.1).2
theorem Brief.of {s : SetR} (h : okS s = true) : Brief s := by
  have g := Good.of h
  refine ⟨g.ncores.2, g.nhomes, g.ntasks.2, fun t ht => ?_, fun t ht => ?_⟩
  · have := g.form t ht
    unfold formB at this
    rw [Bool.and_eq_true] at this
    have := nameB_size this.1
    omega
  · have h1 := (okS_iff s).1 h
    obtain ⟨k, hk, rfl⟩ := mem_getD ht
    have h2 := (taskE_ok (h1.2 k hk)).2.2.2
    unfold partsB at h2
    rw [Bool.and_eq_true] at h2
    have := inB_true.1 h2.1
    omega
theorem protoW_len (p : Int) : (mkB (protoW p)).size ≤ 5 := by
  rw [← bl_len, bl_mk]
  unfold protoW
  split
  · decide
  · split <;> decide
def tProto : Bts := [112, 114, 111, 116, 111, 99, 111, 108, 32]
def tCores : Bts := [99, 111, 114, 101, 115]
def tHomes : Bts := [104, 111, 109, 101, 115]
set_option maxHeartbeats 16000000 in
set_option maxRecDepth 100000 in
theorem print_any (s : SetR) (w : World) (hs : SetOk w s) (ht : Tab w) : Calls Tryd.prog 10 #[.agg #[.int .i64 s.proto, .slice s.ca s.cores.length s.cc, .slice s.ha s.homes.length s.hc, .slice s.ta s.tasks.length s.tc]] w (StrPost w (printV s)) := by
  obtain ⟨proto, ca, cc, cores, ha, hc, homes, ta, tc, tasks⟩ := s
  have hb0 := (Below.refl w.heap.size w).alloc (Nat.le_refl _) (.cells #[.int .i64 proto, .slice ca cores.length cc, .slice ha homes.length hc, .slice ta tasks.length tc] 25)
  have B0 := Bk.new w 25 #[.int .i64 proto, .slice ca cores.length cc, .slice ha homes.length hc, .slice ta tasks.length tc]
  have HT : Hid (∀ u, Below w.heap.size w u → Tab u) := hidp (fun u hu => ht.over hu)
  have hs0 := hs.keep (Keeps.of_below hb0)
  have CC := hidp (check_any ⟨proto, ca, cc, cores, ha, hc, homes, ta, tc, tasks⟩ _ hs0)
  have HB0 := hidp hb0
  have HBK := hidp B0
  have HS0 := hidp hs0
  have HS := hidp hs
  obtain ⟨z0, z1, z2, z3⟩ := Z4 B0
  clear hb0 B0 hs0 hs ht
  obtain ⟨at_, Hat⟩ : ∃ v, Hid (chkAt ⟨proto, ca, cc, cores, ha, hc, homes, ta, tc, tasks⟩ = v) := ⟨_, hidp rfl⟩
  obtain ⟨ce, Hce⟩ : ∃ v, Hid (chkE ⟨proto, ca, cc, cores, ha, hc, homes, ta, tc, tasks⟩ = v) := ⟨_, hidp rfl⟩
  rw [Hat.out, Hce.out] at CC
  by_cases hok : ce = 0
  case neg =>
    have HV : Hid (printV ⟨proto, ca, cc, cores, ha, hc, homes, ta, tc, tasks⟩ = []) := hidp (by
      unfold printV okS
      rw [Hce.out, if_neg (by simpa using hok)])
    have f1 : (ce != 0) = true := by simpa using hok
    clear hok
    go_enter Tryd.func10, Tryd.ntmps10
    go_wp2_with fail
    refine CC.out.mono ?_
    rintro e u ⟨rfl, hbu⟩
    have HB := hidp (HB0.out.trans (hbu.mono HB0.out.size))
    clear hbu CC
    go_wp2_with fail
    go_ret
    exact ⟨⟨#[]⟩, rfl, by rw [HV.out]; rfl, HB.out⟩
  have HOK : Hid (okS ⟨proto, ca, cc, cores, ha, hc, homes, ta, tc, tasks⟩ = true) := hidp (by unfold okS; rw [Hce.out, hok]; rfl)
  have HBf := hidp (Brief.of HOK.out)
  have f1 : (ce != 0) = false := by simpa using hok
  have HTA := hidp HS.out.tasks.at_
  have HTO := hidp HS.out.tasks.ok
  obtain ⟨i0, hi0, hy0, hy1, hy2⟩ := info_parts infoStr
  obtain ⟨P, HPr⟩ : ∃ P, Hid (mkB (protoW proto) = P) := ⟨_, hidp rfl⟩
  have CP := hidp (fun u => protoName_any proto u)
  rw [HPr.out] at CP
  have hP5 : P.size ≤ 5 := by rw [← HPr.out]; exact protoW_len _
  have t1 : ¬ 9223372036854775807 < 9 + P.size := by omega
  have HPl : Hid (bl ((⟨#[112, 114, 111, 116, 111, 99, 111, 108, 32]⟩ : ByteArray) ++ P) = tProto ++ protoW proto ∧ ((⟨#[112, 114, 111, 116, 111, 99, 111, 108, 32]⟩ : ByteArray) ++ P).size ≤ 100) := hidp ⟨by rw [bl_append, ← HPr.out, bl_mk]; rfl, by rw [ByteArray.size_append]; show 9 + P.size ≤ 100; omega⟩
  have HCL : Hid (∀ u, Below w.heap.size w u → Calls Tryd.prog 17 #[.string ⟨#[99, 111, 114, 101, 115]⟩, .slice ca cores.length cc] u (StrPost u (numsW tCores cores))) := hidp (fun u hu => nline_any ⟨#[99, 111, 114, 101, 115]⟩ ca cc cores u (HS.out.cores.keep (Keeps.of_below hu)) (by have := HBf.out.cores; dsimp only at this; omega) (by decide) (HT.out u hu))
  have HHL : Hid (∀ u, Below w.heap.size w u → Calls Tryd.prog 17 #[.string ⟨#[104, 111, 109, 101, 115]⟩, .slice ha homes.length hc] u (StrPost u (numsW tHomes homes))) := hidp (fun u hu => nline_any ⟨#[104, 111, 109, 101, 115]⟩ ha hc homes u (HS.out.homes.keep (Keeps.of_below hu)) (by have := HBf.out.homes; dsimp only at this; omega) (by decide) (HT.out u hu))
  have HCz : Hid ((numsW tCores cores).length ≤ 100) := hidp (by
    have h1 := numsW_len tCores cores
    have h2 := HBf.out.cores
    dsimp only at h2
    have h3 : (cores.length + 1) * (tCores.length + 8) ≤ 4 * 13 := Nat.mul_le_mul (by omega) (by decide)
    omega)
  have HHz : Hid ((numsW tHomes homes).length ≤ 100) := hidp (by
    have h1 := numsW_len tHomes homes
    have h2 := HBf.out.homes
    dsimp only at h2
    have h3 : (homes.length + 1) * (tHomes.length + 8) ≤ 5 * 13 := Nat.mul_le_mul (by omega) (by decide)
    omega)
  obtain ⟨N, hN⟩ : ∃ N, tasks.length = N := ⟨_, rfl⟩
  have HN := hidp hN
  have hN6 : N ≤ 6 := by have := HBf.out.tasks; dsimp only at this; omega
  rw [hN] at z0 z1 z2 z3 CC HBK HB0 ⊢
  obtain ⟨M, hM⟩ : ∃ M, homes.length = M := ⟨_, rfl⟩
  have HMl := hidp hM
  rw [hM] at z0 z1 z2 z3 CC HBK HB0 HHL ⊢
  clear hok hP5 hN hM
  go_enter Tryd.func10, Tryd.ntmps10
  go_wp2_with fail
  refine CC.out.mono ?_
  rintro e w1 ⟨rfl, hb1⟩
  have HB1 := hidp (HB0.out.trans (hb1.mono HB0.out.size))
  have kb := Keeps.of_below hb1
  replace z0 : w1.drew.cell? ⟨w.heap.size, 0, none⟩ = some (.int .i64 proto) := kb _ _ z0
  replace z1 : w1.drew.cell? ⟨w.heap.size, 1, none⟩ = some (.slice ca cores.length cc) := kb _ _ z1
  replace z2 : w1.drew.cell? ⟨w.heap.size, 2, none⟩ = some (.slice ha M hc) := kb _ _ z2
  replace z3 : w1.drew.cell? ⟨w.heap.size, 3, none⟩ = some (.slice ta N tc) := kb _ _ z3
  have HBd : Hid (Below w.heap.size w w1.drew) := hidp (below_drewN HB1.out 1)
  clear hb1 kb CC HBK HB0 HB1
  go_wp2_with fail
  refine wp_region_held_drew (S := fun u => u.cell? ⟨w.heap.size, 0, none⟩ = some (.int .i64 proto) ∧ u.cell? ⟨w.heap.size, 1, none⟩ = some (.slice ca cores.length cc)) (by kernel_rfl) ?_ (fun hHeld => ?_)
  · exact ⟨z0, z1⟩
  generalize w1.drew = v at *
  refine wpAnyH_take (i := 0) (v := ?_) rfl (by kernel_rfl) (by kernel_rfl) (by kernel_rfl) (fun _ _ _ h => h) (Or.inl ⟨by rfl, ?_⟩) (by assumption) ?_
  rotate_left 1
  · ((intro w hSw; (try dsimp only at hSw); go_simp); (try with_reducible rfl))
  simp only [Act.put, List.setIfInBounds_toArray, List.set_cons_zero, List.set_cons_succ, List.getElem_toArray, List.getElem_cons_zero, List.getElem_cons_succ]
  refine wpAnyH_take (i := 1) (v := ?_) rfl (by kernel_rfl) (by kernel_rfl) (by kernel_rfl) (fun _ _ _ h => h) (Or.inl ⟨by rfl, ?_⟩) (by assumption) ?_
  rotate_left 1
  · ((intro w hSw; (try dsimp only at hSw); go_simp); (try with_reducible rfl))
  simp only [Act.put, List.setIfInBounds_toArray, List.set_cons_zero, List.set_cons_succ, List.getElem_toArray, List.getElem_cons_zero, List.getElem_cons_succ]
  refine wpAnyH_take (i := 4) (v := ?_) rfl (by kernel_rfl) (by kernel_rfl) (by kernel_rfl) (fun _ _ _ h => h) (Or.inl ⟨by rfl, ?_⟩) (by assumption) ?_
  rotate_left 1
  · ((intro w hSw; (try dsimp only at hSw); go_simp); (try with_reducible rfl))
  simp only [Act.put, List.setIfInBounds_toArray, List.set_cons_zero, List.set_cons_succ, List.getElem_toArray, List.getElem_cons_zero, List.getElem_cons_succ]
  refine wpAnyH_take (i := 5) (v := ?_) rfl (by kernel_rfl) (by kernel_rfl) (by kernel_rfl) (fun _ _ _ h => h) (Or.inl ⟨by rfl, ?_⟩) (by assumption) ?_
  rotate_left 1
  · ((intro w hSw; (try dsimp only at hSw); go_simp); (try with_reducible rfl))
  simp only [Act.put, List.setIfInBounds_toArray, List.set_cons_zero, List.set_cons_succ, List.getElem_toArray, List.getElem_cons_zero, List.getElem_cons_succ]
  refine wpAnyH_ready (rs := [2]) (by kernel_rfl) (by simp) ?_
  refine AllReadyH.cons rfl (fun K hK => ?_) AllReadyH.nil
  go_simp
  refine (CP.out _).mono ?_
  rintro e u0 ⟨rfl, rfl⟩
  refine hK.out _ _ ?_ (fun hHeld => ?_)
  · exact ⟨z0, z1⟩
  clear hK K
  try simp only [Act.put, List.setIfInBounds_toArray, List.set_cons_zero, List.set_cons_succ, List.getElem_toArray, List.getElem_cons_zero, List.getElem_cons_succ]
  refine wpAnyH_take (i := 3) (v := ?_) rfl (by kernel_rfl) (by kernel_rfl) (by kernel_rfl) (fun _ _ _ h => h) (Or.inl ⟨by rfl, ?_⟩) (by assumption) ?_
  rotate_left 1
  · ((intro w hSw; (try dsimp only at hSw); go_simp); (try with_reducible rfl))
  simp only [Act.put, List.setIfInBounds_toArray, List.set_cons_zero, List.set_cons_succ, List.getElem_toArray, List.getElem_cons_zero, List.getElem_cons_succ]
  refine wpAnyH_ready (rs := [6]) (by kernel_rfl) (by simp) ?_
  refine AllReadyH.cons rfl (fun K hK => ?_) AllReadyH.nil
  go_simp
  refine (HCL.out _ HBd.out).mono ?_
  rintro e u ⟨r, rfl, hv, hbu⟩
  have HGu : Hid (w.heap.size < u.heap.size) := hidp (cell_lt ((Keeps.of_below hbu) _ _ z0))
  have HCr : Hid (bl r = numsW tCores cores ∧ r.size ≤ 100) := hidp ⟨hv, by rw [← bl_len, hv]; exact HCz.out⟩
  have hbu2 := HBd.out.trans (hbu.mono HBd.out.size)
  have kb := Keeps.of_below hbu
  have y0 := kb _ _ z0
  have y1 := kb _ _ z1
  have y2 := kb _ _ z2
  have y3 := kb _ _ z3
  clear hv hbu kb z0 z1 z2 z3
  refine hK.out _ _ ?_ (fun hHeld => ?_)
  · exact ⟨y0, y1⟩
  clear hK K
  try simp only [Act.put, List.setIfInBounds_toArray, List.set_cons_zero, List.set_cons_succ, List.getElem_toArray, List.getElem_cons_zero, List.getElem_cons_succ]
  refine wpAnyH_ready (rs := [7]) (by kernel_rfl) (by simp) ?_
  refine AllReadyH.cons rfl (fun K hK => ?_) AllReadyH.nil
  go_simp
  have ka := Keeps.alloc u (.cells #[.string (⟨#[112, 114, 111, 116, 111, 99, 111, 108, 32]⟩ ++ P), .string r] 9)
  have x0 := ka _ _ y0
  have x1 := ka _ _ y1
  have x2 := ka _ _ y2
  have x3 := ka _ _ y3
  have o0 : OwnS w.heap.size (u.alloc (.cells #[.string (⟨#[112, 114, 111, 116, 111, 99, 111, 108, 32]⟩ ++ P), .string r] 9)) (some ⟨u.heap.size, 0, none⟩) 2 2 [(⟨#[112, 114, 111, 116, 111, 99, 111, 108, 32]⟩ ++ P), r] := ⟨own_lit (cs := [.string (⟨#[112, 114, 111, 116, 111, 99, 111, 108, 32]⟩ ++ P), .string r]) (Bk.new u 9 #[.string (⟨#[112, 114, 111, 116, 111, 99, 111, 108, 32]⟩ ++ P), .string r]) hbu2.size rfl (by decide), rfl, by decide, fun e => by cases e⟩
  have hbW := hbu2.alloc hbu2.size (.cells #[.string (⟨#[112, 114, 111, 116, 111, 99, 111, 108, 32]⟩ ++ P), .string r] 9)
  have HL0 : Hid ([(⟨#[112, 114, 111, 116, 111, 99, 111, 108, 32]⟩ ++ P), r].map bl = [tProto ++ protoW proto, numsW tCores cores]) := hidp (by simp [HPl.out.1, HCr.out.1])
  have HZ0 : Hid (∀ x ∈ [(⟨#[112, 114, 111, 116, 111, 99, 111, 108, 32]⟩ ++ P), r], x.size ≤ 100000) := hidp (fun x hx => by
    simp only [List.mem_cons, List.not_mem_nil, or_false] at hx
    rcases hx with rfl | rfl
    · exact Nat.le_trans HPl.out.2 (by decide)
    · exact Nat.le_trans HCr.out.2 (by decide))
  clear ka y0 y1 y2 y3
  refine hK.out _ _ ?_ (fun hHeld => ?_)
  · exact ⟨x0, x1⟩
  clear hK K
  try simp only [Act.put, List.setIfInBounds_toArray, List.set_cons_zero, List.set_cons_succ, List.getElem_toArray, List.getElem_cons_zero, List.getElem_cons_succ]
  refine wpAnyH_take (i := 8) (v := ?_) rfl (by kernel_rfl) (by kernel_rfl) (by kernel_rfl) (fun _ _ _ h => h) (Or.inl ⟨by rfl, ?_⟩) (by assumption) ?_
  rotate_left 1
  · ((intro w hSw; (try dsimp only at hSw); go_simp); (try with_reducible rfl))
  simp only [Act.put, List.setIfInBounds_toArray, List.set_cons_zero, List.set_cons_succ, List.getElem_toArray, List.getElem_cons_zero, List.getElem_cons_succ]
  refine wpAnyH_done (by kernel_rfl) ?_ _
  clear hHeld x0 x1
  by_cases hh : homes = []
  case pos =>
    have HHM : Hid ((if homes = [] then [] else [numsW [104, 111, 109, 101, 115] homes] : List Bts) = []) := hidp (if_pos hh)
    have gH : ¬ (0 : Int) < (M : Int) := by have := HMl.out; rw [hh] at this; simp at this; omega
    have c3 := x3
    clear hh x3
    go_wp2_with fail
    go_loopg [5, 36] N (fun g all i wr => ∃ (k c : Nat) (A : Option Addr) (ls : List ByteArray), k + g = N ∧ i = .int .i64 k ∧ all = .slice A (k + 2) c ∧ OwnS w.heap.size wr A (k + 2) c ls ∧ Hid (ls.map bl = [tProto ++ protoW proto, numsW tCores cores] ++ (tasks.take k).map (fun t => taskW t.rd)) ∧ Hid (∀ x ∈ ls, x.size ≤ 100000) ∧ Below w.heap.size w wr)
    case atStart => exact ⟨0, 2, some ⟨u.heap.size, 0, none⟩, [(⟨#[112, 114, 111, 116, 111, 99, 111, 108, 32]⟩ ++ P), r], by omega, rfl, rfl, o0, hidp (by rw [HL0.out]; simp), HZ0, hbW⟩
    case round =>
      clear o0 hbW c3
      try clear x2
      obtain ⟨k, c, A, ls, hk, rfl, rfl, ho, HI, HSz, hbr⟩ := hrel
      by_cases hin : k < N
      · obtain ⟨gt, ot, rfl, hc⟩ := (HTA.out.keep (Keeps.of_below hbr)).resolve_left (by intro e; have := HN.out; rw [e] at this; simp at this; omega)
        have hkl : k < tasks.length := by rw [HN.out]; exact hin
        obtain ⟨⟨nm, per, dl, prio, cl, pa, pc, ps⟩, Ht⟩ : ∃ t, Hid (tasks.getD k default = t) := ⟨_, hidp rfl⟩
        obtain ⟨c1, c2, c3, c4, c5, c6⟩ : TaskCells wr gt (ot + k * 6) ⟨nm, per, dl, prio, cl, pa, pc, ps⟩ := Ht.out ▸ hc k hkl
        dsimp only at c1 c2 c3 c4 c5 c6
        have HTm : Hid ((⟨nm, per, dl, prio, cl, pa, pc, ps⟩ : TaskR) ∈ tasks) := hidp (by rw [← Ht.out]; simp [List.getD, hkl])
        have HTk : Hid ((tasks.take (k + 1)).map (fun t => taskW t.rd) = (tasks.take k).map (fun t => taskW t.rd) ++ [taskW (TaskR.rd ⟨nm, per, dl, prio, cl, pa, pc, ps⟩)]) := hidp (by
          rw [List.take_succ_eq_append_getElem hkl, List.map_append, ← Ht.out]
          simp [List.getD, hkl])
        have hbx := hbr.alloc hbr.size (.cells #[.string nm, .int .i64 per, .int .i64 dl, .int .i64 prio, .int .i64 cl, .slice pa ps.length pc] 45)
        have HTok := hidp ((HTO.out _ HTm.out).keep (Keeps.of_below hbx))
        have HCT := hidp (taskLine_any ⟨nm, per, dl, prio, cl, pa, pc, ps⟩ _ HTok.out (HBf.out.name _ HTm.out) (HBf.out.parts _ HTm.out) (HT.out _ hbx))
        have HPL : Hid ((taskW (TaskR.rd ⟨nm, per, dl, prio, cl, pa, pc, ps⟩)).length ≤ 100000) := hidp (by
          have h1 := taskW_len (TaskR.rd ⟨nm, per, dl, prio, cl, pa, pc, ps⟩)
          have h2 := HBf.out.name _ HTm.out
          have h3 := HBf.out.parts _ HTm.out
          dsimp only at h2 h3
          have e1 : (TaskR.rd ⟨nm, per, dl, prio, cl, pa, pc, ps⟩).parts.length = ps.length := by simp [TaskR.rd]
          have e2 : (TaskR.rd ⟨nm, per, dl, prio, cl, pa, pc, ps⟩).name.length = nm.size := by simp [TaskR.rd, bl_len]
          rw [e1, e2] at h1
          have h4 : (ps.length + 1) * (5 * (nm.size + 13) + 22) ≤ 101 * (5 * (100 + 13) + 22) := Nat.mul_le_mul (by omega) (by omega)
          omega)
        have b1 : (0 : Int) ≤ (k : Int) := by omega
        have b2 : (k : Int) < (N : Int) := by omega
        have BP := Bk.new wr 45 #[.string nm, .int .i64 per, .int .i64 dl, .int .i64 prio, .int .i64 cl, .slice pa ps.length pc]
        obtain ⟨x0, x1, x2, x3, x4, x5⟩ : (wr.alloc (.cells #[.string nm, .int .i64 per, .int .i64 dl, .int .i64 prio, .int .i64 cl, .slice pa ps.length pc] 45)).cell? ⟨wr.heap.size, 0, none⟩ = some (.string nm) ∧ (wr.alloc (.cells #[.string nm, .int .i64 per, .int .i64 dl, .int .i64 prio, .int .i64 cl, .slice pa ps.length pc] 45)).cell? ⟨wr.heap.size, 1, none⟩ = some (.int .i64 per) ∧ (wr.alloc (.cells #[.string nm, .int .i64 per, .int .i64 dl, .int .i64 prio, .int .i64 cl, .slice pa ps.length pc] 45)).cell? ⟨wr.heap.size, 2, none⟩ = some (.int .i64 dl) ∧ (wr.alloc (.cells #[.string nm, .int .i64 per, .int .i64 dl, .int .i64 prio, .int .i64 cl, .slice pa ps.length pc] 45)).cell? ⟨wr.heap.size, 3, none⟩ = some (.int .i64 prio) ∧ (wr.alloc (.cells #[.string nm, .int .i64 per, .int .i64 dl, .int .i64 prio, .int .i64 cl, .slice pa ps.length pc] 45)).cell? ⟨wr.heap.size, 4, none⟩ = some (.int .i64 cl) ∧ (wr.alloc (.cells #[.string nm, .int .i64 per, .int .i64 dl, .int .i64 prio, .int .i64 cl, .slice pa ps.length pc] 45)).cell? ⟨wr.heap.size, 5, none⟩ = some (.slice pa ps.length pc) := ⟨BP.cell 0, BP.cell 1, BP.cell 2, BP.cell 3, BP.cell 4, BP.cell 5⟩
        clear hc hkl BP
        go_wp2_with fail
        refine HCT.out.mono ?_
        rintro e u ⟨x, rfl, hxv, hbu⟩
        have Hx : Hid (bl x = taskW (TaskR.rd ⟨nm, per, dl, prio, cl, pa, pc, ps⟩) ∧ x.size ≤ 100000) := hidp ⟨hxv, by rw [← bl_len, hxv]; exact HPL.out⟩
        have TL : Turned [] wr (u.alloc (.cells #[.string x] 9)) := (((Turned.refl [] wr).alloc _).trans (Turned.of_below hbu []) (by simp)).alloc _
        have own4 := own_turned ho.own TL (by simp)
        have S2 := hidp (new_liesW u [.string x] 9)
        have N2 : Hid (k + 2 + 1 ≤ maxLen) := hidp (by unfold maxLen; omega)
        have T2 : Hid ((k + 2 + 1) * 16 ≤ 140737488355328) := hidp (by omega)
        have W0 := hbx.trans (hbu.mono hbx.size)
        have W1 := W0.alloc W0.size (.cells #[.string x] 9)
        have Z2 : Hid (w.heap.size ≤ (u.alloc (.cells #[.string x] 9)).heap.size) := hidp W1.size
        have O2 := hidp (str_one [x])
        have Hfp := hidp (own_fp own4)
        have hW := hidp W1
        have HO := hidp (ho.turned TL (by simp))
        clear ho hbr hbu W0 W1 TL HCT hxv hbx c1 c2 c3 c4 c5 c6 x0 x1 x2 x3 x4 x5
        go_wp2_with (at_builtin; refine wpList_app2 _ rfl (.tmp 40) (.tmp 43) 54 rfl w.heap.size 9 i0 _ 1 16 Tryd.underlying54 hi0 hy0 hy1 hy2 rfl (by decide) A (k + 2) c _ rfl own4 _ _ 1 1 [.string x] rfl (by simp) rfl S2.out O2.out N2.out T2.out Z2.out ?_; intro A9 c9 w6 happ)
        go_roundg (gk - 1)
        case measure => omega
        case rel => exact ⟨k + 1, c9, A9, ls ++ [x], by omega, by go_num, by rw [show k + 1 + 2 = k + 2 + 1 by omega], by rw [show k + 1 + 2 = k + 2 + 1 by omega]; exact HO.out.app happ, hidp (by rw [List.map_append, HI.out, HTk.out]; simp [Hx.out.1]), hidp (fun y hy => (List.mem_append.1 hy).elim (HSz.out y) (fun h => by rw [List.mem_singleton.1 h]; exact Hx.out.2)), hW.out.trans (happ.turned.below hW.out.size (fun i hi => (Hfp.out i hi).1))⟩
      · obtain rfl : k = N := by omega
        have hlen := ho.len
        have CJ := join_any 10 A c ls wr ho.at_ (by rw [← hlen]; exact ho.cap.1) (by omega) (by omega) HSz.out
        rw [← hlen] at CJ
        have HCJ := hidp CJ
        have HBR := hidp hbr
        have HV : Hid (joinT 10 (ls.map bl) ++ [10] = printV ⟨proto, ca, cc, cores, ha, hc, homes, ta, tc, tasks⟩) := hidp (by
          rw [HI.out, List.take_of_length_le (by rw [HN.out]; exact Nat.le_refl _)]
          unfold printV
          rw [if_pos HOK.out]
          unfold printT SetR.rd
          dsimp only
          rw [HHM.out, List.map_map]
          rfl)
        have HJL : Hid ((joinT 10 (ls.map bl)).length ≤ 1000 * 100001) := hidp (by
          refine Nat.le_trans (joinT_len (m := 100000) (fun y hy => ?_)) (Nat.mul_le_mul (by rw [List.length_map, ← hlen]; omega) (Nat.le_refl _))
          obtain ⟨z, hz, rfl⟩ := List.mem_map.1 hy
          rw [bl_len]; exact HSz.out z hz)
        clear ho hbr CJ hlen
        go_wp2_with fail
        refine HCJ.out.mono ?_
        rintro e u ⟨r, rfl, hv, hbu⟩
        have HB := hidp (HBR.out.trans (hbu.mono HBR.out.size))
        have HVr := hidp hv
        have hrs : r.size ≤ 1000 * 100001 := by rw [← bl_len, hv]; exact HJL.out
        have t9 : ¬ 9223372036854775807 < r.size + 1 := by omega
        clear hv hbu HCJ hrs
        go_wp2_with fail
        go_ret
        exact ⟨_, rfl, by rw [bl_append, HVr.out]; exact HV.out, HB.out⟩
  case neg =>
    have HHM : Hid ((if homes = [] then [] else [numsW [104, 111, 109, 101, 115] homes] : List Bts) = [numsW tHomes homes]) := hidp (if_neg hh)
    have hpos := List.length_pos_iff.2 hh
    have gH : (0 : Int) < (M : Int) := by have := HMl.out; omega
    have HHC := hidp (HHL.out _ hbW)
    clear hh hpos
    go_wp2_with fail
    refine HHC.out.mono ?_
    rintro e u2 ⟨r2, rfl, hv2, hbu3⟩
    have Hr2 : Hid (bl r2 = numsW tHomes homes ∧ r2.size ≤ 100) := hidp ⟨hv2, by rw [← bl_len, hv2]; exact HHz.out⟩
    have TL : Turned [] (u.alloc (.cells #[.string (⟨#[112, 114, 111, 116, 111, 99, 111, 108, 32]⟩ ++ P), .string r] 9)) (u2.alloc (.cells #[.string r2] 9)) := (Turned.of_below hbu3 []).alloc _
    have own4 := own_turned o0.own TL (by simp)
    have S2 := hidp (new_liesW u2 [.string r2] 9)
    have W0 := hbW.trans (hbu3.mono hbW.size)
    have W1 := W0.alloc W0.size (.cells #[.string r2] 9)
    have Z2 : Hid (w.heap.size ≤ (u2.alloc (.cells #[.string r2] 9)).heap.size) := hidp W1.size
    have O2 := hidp (str_one [r2])
    have Hfp := hidp (own_fp own4)
    have hW := hidp W1
    have HO := hidp (o0.turned TL (by simp))
    have HLa := HL0
    have HZa := HZ0
    have HX3 := hidp ((Keeps.alloc u2 (.cells #[.string r2] 9)) _ _ ((Keeps.of_below hbu3) _ _ x3))
    have G9 : Hid (w.heap.size ∉ fp (some (⟨u.heap.size, 0, none⟩ : Addr))) := hidp (by have := HGu.out; simp [fp]; omega)
    clear o0 hbW hbu3 W0 W1 TL HHC hv2 x2 x3 HL0 HZ0
    go_wp2_with (at_builtin; refine wpList_app2 _ rfl (.tmp 27) (.tmp 31) 54 rfl w.heap.size 9 i0 _ 1 16 Tryd.underlying54 hi0 hy0 hy1 hy2 rfl (by decide) (some ⟨u.heap.size, 0, none⟩) 2 2 _ rfl own4 _ _ 1 1 [.string r2] rfl (by simp) rfl S2.out O2.out (by decide) (by decide) Z2.out ?_; intro A8 c8 w8 happ; have c3 := happ.turned.cell HX3.out G9.out)
    have o0 : OwnS w.heap.size w8 A8 3 c8 ([(⟨#[112, 114, 111, 116, 111, 99, 111, 108, 32]⟩ ++ P), r] ++ [r2]) := HO.out.app happ
    have hbW := hW.out.trans (happ.turned.below hW.out.size (fun i hi => (Hfp.out i hi).1))
    have HL0 : Hid (([(⟨#[112, 114, 111, 116, 111, 99, 111, 108, 32]⟩ ++ P), r] ++ [r2]).map bl = [tProto ++ protoW proto, numsW tCores cores, numsW tHomes homes]) := hidp (by rw [List.map_append, HLa.out]; simp [Hr2.out.1])
    have HZ0 : Hid (∀ x ∈ [(⟨#[112, 114, 111, 116, 111, 99, 111, 108, 32]⟩ ++ P), r] ++ [r2], x.size ≤ 100000) := hidp (fun y hy => (List.mem_append.1 hy).elim (HZa.out y) (fun h => by rw [List.mem_singleton.1 h]; exact Nat.le_trans Hr2.out.2 (by decide)))
    clear happ own4 HO
    go_loopg [5, 36] N (fun g all i wr => ∃ (k c : Nat) (A : Option Addr) (ls : List ByteArray), k + g = N ∧ i = .int .i64 k ∧ all = .slice A (k + 3) c ∧ OwnS w.heap.size wr A (k + 3) c ls ∧ Hid (ls.map bl = [tProto ++ protoW proto, numsW tCores cores, numsW tHomes homes] ++ (tasks.take k).map (fun t => taskW t.rd)) ∧ Hid (∀ x ∈ ls, x.size ≤ 100000) ∧ Below w.heap.size w wr)
    case atStart => exact ⟨0, c8, A8, ([(⟨#[112, 114, 111, 116, 111, 99, 111, 108, 32]⟩ ++ P), r] ++ [r2]), by omega, rfl, rfl, o0, hidp (by rw [HL0.out]; simp), HZ0, hbW⟩
    case round =>
      clear o0 hbW c3
      try clear x2
      obtain ⟨k, c, A, ls, hk, rfl, rfl, ho, HI, HSz, hbr⟩ := hrel
      by_cases hin : k < N
      · obtain ⟨gt, ot, rfl, hc⟩ := (HTA.out.keep (Keeps.of_below hbr)).resolve_left (by intro e; have := HN.out; rw [e] at this; simp at this; omega)
        have hkl : k < tasks.length := by rw [HN.out]; exact hin
        obtain ⟨⟨nm, per, dl, prio, cl, pa, pc, ps⟩, Ht⟩ : ∃ t, Hid (tasks.getD k default = t) := ⟨_, hidp rfl⟩
        obtain ⟨c1, c2, c3, c4, c5, c6⟩ : TaskCells wr gt (ot + k * 6) ⟨nm, per, dl, prio, cl, pa, pc, ps⟩ := Ht.out ▸ hc k hkl
        dsimp only at c1 c2 c3 c4 c5 c6
        have HTm : Hid ((⟨nm, per, dl, prio, cl, pa, pc, ps⟩ : TaskR) ∈ tasks) := hidp (by rw [← Ht.out]; simp [List.getD, hkl])
        have HTk : Hid ((tasks.take (k + 1)).map (fun t => taskW t.rd) = (tasks.take k).map (fun t => taskW t.rd) ++ [taskW (TaskR.rd ⟨nm, per, dl, prio, cl, pa, pc, ps⟩)]) := hidp (by
          rw [List.take_succ_eq_append_getElem hkl, List.map_append, ← Ht.out]
          simp [List.getD, hkl])
        have hbx := hbr.alloc hbr.size (.cells #[.string nm, .int .i64 per, .int .i64 dl, .int .i64 prio, .int .i64 cl, .slice pa ps.length pc] 45)
        have HTok := hidp ((HTO.out _ HTm.out).keep (Keeps.of_below hbx))
        have HCT := hidp (taskLine_any ⟨nm, per, dl, prio, cl, pa, pc, ps⟩ _ HTok.out (HBf.out.name _ HTm.out) (HBf.out.parts _ HTm.out) (HT.out _ hbx))
        have HPL : Hid ((taskW (TaskR.rd ⟨nm, per, dl, prio, cl, pa, pc, ps⟩)).length ≤ 100000) := hidp (by
          have h1 := taskW_len (TaskR.rd ⟨nm, per, dl, prio, cl, pa, pc, ps⟩)
          have h2 := HBf.out.name _ HTm.out
          have h3 := HBf.out.parts _ HTm.out
          dsimp only at h2 h3
          have e1 : (TaskR.rd ⟨nm, per, dl, prio, cl, pa, pc, ps⟩).parts.length = ps.length := by simp [TaskR.rd]
          have e2 : (TaskR.rd ⟨nm, per, dl, prio, cl, pa, pc, ps⟩).name.length = nm.size := by simp [TaskR.rd, bl_len]
          rw [e1, e2] at h1
          have h4 : (ps.length + 1) * (5 * (nm.size + 13) + 22) ≤ 101 * (5 * (100 + 13) + 22) := Nat.mul_le_mul (by omega) (by omega)
          omega)
        have b1 : (0 : Int) ≤ (k : Int) := by omega
        have b2 : (k : Int) < (N : Int) := by omega
        have BP := Bk.new wr 45 #[.string nm, .int .i64 per, .int .i64 dl, .int .i64 prio, .int .i64 cl, .slice pa ps.length pc]
        obtain ⟨x0, x1, x2, x3, x4, x5⟩ : (wr.alloc (.cells #[.string nm, .int .i64 per, .int .i64 dl, .int .i64 prio, .int .i64 cl, .slice pa ps.length pc] 45)).cell? ⟨wr.heap.size, 0, none⟩ = some (.string nm) ∧ (wr.alloc (.cells #[.string nm, .int .i64 per, .int .i64 dl, .int .i64 prio, .int .i64 cl, .slice pa ps.length pc] 45)).cell? ⟨wr.heap.size, 1, none⟩ = some (.int .i64 per) ∧ (wr.alloc (.cells #[.string nm, .int .i64 per, .int .i64 dl, .int .i64 prio, .int .i64 cl, .slice pa ps.length pc] 45)).cell? ⟨wr.heap.size, 2, none⟩ = some (.int .i64 dl) ∧ (wr.alloc (.cells #[.string nm, .int .i64 per, .int .i64 dl, .int .i64 prio, .int .i64 cl, .slice pa ps.length pc] 45)).cell? ⟨wr.heap.size, 3, none⟩ = some (.int .i64 prio) ∧ (wr.alloc (.cells #[.string nm, .int .i64 per, .int .i64 dl, .int .i64 prio, .int .i64 cl, .slice pa ps.length pc] 45)).cell? ⟨wr.heap.size, 4, none⟩ = some (.int .i64 cl) ∧ (wr.alloc (.cells #[.string nm, .int .i64 per, .int .i64 dl, .int .i64 prio, .int .i64 cl, .slice pa ps.length pc] 45)).cell? ⟨wr.heap.size, 5, none⟩ = some (.slice pa ps.length pc) := ⟨BP.cell 0, BP.cell 1, BP.cell 2, BP.cell 3, BP.cell 4, BP.cell 5⟩
        clear hc hkl BP
        go_wp2_with fail
        refine HCT.out.mono ?_
        rintro e u ⟨x, rfl, hxv, hbu⟩
        have Hx : Hid (bl x = taskW (TaskR.rd ⟨nm, per, dl, prio, cl, pa, pc, ps⟩) ∧ x.size ≤ 100000) := hidp ⟨hxv, by rw [← bl_len, hxv]; exact HPL.out⟩
        have TL : Turned [] wr (u.alloc (.cells #[.string x] 9)) := (((Turned.refl [] wr).alloc _).trans (Turned.of_below hbu []) (by simp)).alloc _
        have own4 := own_turned ho.own TL (by simp)
        have S2 := hidp (new_liesW u [.string x] 9)
        have N2 : Hid (k + 3 + 1 ≤ maxLen) := hidp (by unfold maxLen; omega)
        have T2 : Hid ((k + 3 + 1) * 16 ≤ 140737488355328) := hidp (by omega)
        have W0 := hbx.trans (hbu.mono hbx.size)
        have W1 := W0.alloc W0.size (.cells #[.string x] 9)
        have Z2 : Hid (w.heap.size ≤ (u.alloc (.cells #[.string x] 9)).heap.size) := hidp W1.size
        have O2 := hidp (str_one [x])
        have Hfp := hidp (own_fp own4)
        have hW := hidp W1
        have HO := hidp (ho.turned TL (by simp))
        clear ho hbr hbu W0 W1 TL HCT hxv hbx c1 c2 c3 c4 c5 c6 x0 x1 x2 x3 x4 x5
        go_wp2_with (at_builtin; refine wpList_app2 _ rfl (.tmp 40) (.tmp 43) 54 rfl w.heap.size 9 i0 _ 1 16 Tryd.underlying54 hi0 hy0 hy1 hy2 rfl (by decide) A (k + 3) c _ rfl own4 _ _ 1 1 [.string x] rfl (by simp) rfl S2.out O2.out N2.out T2.out Z2.out ?_; intro A9 c9 w6 happ)
        go_roundg (gk - 1)
        case measure => omega
        case rel => exact ⟨k + 1, c9, A9, ls ++ [x], by omega, by go_num, by rw [show k + 1 + 3 = k + 3 + 1 by omega], by rw [show k + 1 + 3 = k + 3 + 1 by omega]; exact HO.out.app happ, hidp (by rw [List.map_append, HI.out, HTk.out]; simp [Hx.out.1]), hidp (fun y hy => (List.mem_append.1 hy).elim (HSz.out y) (fun h => by rw [List.mem_singleton.1 h]; exact Hx.out.2)), hW.out.trans (happ.turned.below hW.out.size (fun i hi => (Hfp.out i hi).1))⟩
      · obtain rfl : k = N := by omega
        have hlen := ho.len
        have CJ := join_any 10 A c ls wr ho.at_ (by rw [← hlen]; exact ho.cap.1) (by omega) (by omega) HSz.out
        rw [← hlen] at CJ
        have HCJ := hidp CJ
        have HBR := hidp hbr
        have HV : Hid (joinT 10 (ls.map bl) ++ [10] = printV ⟨proto, ca, cc, cores, ha, hc, homes, ta, tc, tasks⟩) := hidp (by
          rw [HI.out, List.take_of_length_le (by rw [HN.out]; exact Nat.le_refl _)]
          unfold printV
          rw [if_pos HOK.out]
          unfold printT SetR.rd
          dsimp only
          rw [HHM.out, List.map_map]
          rfl)
        have HJL : Hid ((joinT 10 (ls.map bl)).length ≤ 1000 * 100001) := hidp (by
          refine Nat.le_trans (joinT_len (m := 100000) (fun y hy => ?_)) (Nat.mul_le_mul (by rw [List.length_map, ← hlen]; omega) (Nat.le_refl _))
          obtain ⟨z, hz, rfl⟩ := List.mem_map.1 hy
          rw [bl_len]; exact HSz.out z hz)
        clear ho hbr CJ hlen
        go_wp2_with fail
        refine HCJ.out.mono ?_
        rintro e u ⟨r, rfl, hv, hbu⟩
        have HB := hidp (HBR.out.trans (hbu.mono HBR.out.size))
        have HVr := hidp hv
        have hrs : r.size ≤ 1000 * 100001 := by rw [← bl_len, hv]; exact HJL.out
        have t9 : ¬ 9223372036854775807 < r.size + 1 := by omega
        clear hv hbu HCJ hrs
        go_wp2_with fail
        go_ret
        exact ⟨_, rfl, by rw [bl_append, HVr.out]; exact HV.out, HB.out⟩
end Go.Proofs.YtggidlmehimcjaaDoor
