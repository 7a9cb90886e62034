/- agent: there, work, settled, rivals, Lower. -/
import Derived.Test.YtjjlpaampmpdfaaGreatDoorAgentNums
import Derived.Test.YtjjlpaampmpdfaaGreatDoorCount
import Derived.Test.YtjjlpaampmpdfaaGreatDoorOwnR
import Derived.Test.YtjjlpaampmpdfaaGreatDoorOwnT
import Derived.Test.YtjjlpaampmpdfaaGreatDoorReg
namespace Go.Proofs.YtjjlpaampmpdfaaGreatDoor
open Go.ChangeShapes Go.WideShapes Go.ChangeAt Go.RowKit
set_option linter.unusedVariables false
set_option linter.unusedSimpArgs false

theorem there14_any (s : SetR) (of : Int) (w : World) (hs : SetOk w s) : Calls Tryz.prog 83 #[.agg #[.int .i64 s.proto, .slice s.ca s.cores.length s.cc, .slice s.ha s.homes.length s.hc, .slice s.ta s.tasks.length s.tc], .int .i64 of] w fun e w' => e = .returned (.bool (thereB s of)) ∧ Below w.heap.size w w' := by
  have hb := (Below.refl w.heap.size w).alloc (Nat.le_refl _) (.cells #[.int .i64 s.proto, .slice s.ca s.cores.length s.cc, .slice s.ha s.homes.length s.hc, .slice s.ta s.tasks.length s.tc] 25)
  have sc := SetCells.new w s 25
  have H := hidp (hs.keep (Keeps.of_below hb))
  have l3 : s.tasks.length ≤ maxLen := Nat.le_trans hs.tasks.sl.2.1 hs.tasks.sl.2.2
  unfold maxLen at l3
  clear hs
  by_cases e : chkE s = 0
  · have e1 : (chkE s == 0) = true := by simpa using e
    have ho : okS s = true := e1
    clear e
    by_cases h0 : 0 ≤ of
    · have Hv : Hid (thereB s of = decide (of < s.tasks.length)) := hidp (by simp [thereB, ho, h0])
      clear ho
      go_enter Tryz.func83, Tryz.ntmps83
      go_wp2_with (first | (go_at_call 23; (with_reducible refine (check_any _ _ H.out).mono ?_); rintro e w2 ⟨rfl, hb2⟩; have sc2 := sc.keep (Keeps.of_below hb2); obtain ⟨c0, c1, c2, c3⟩ := sc2))
      go_ret
      exact ⟨ret_bool Hv.out.symm, hb.trans (hb2.mono hb.size)⟩
    · have Hv : Hid (thereB s of = false) := hidp (by simp [thereB, h0])
      have d0 : decide (0 ≤ of) = false := by simpa using h0
      clear ho h0
      go_enter Tryz.func83, Tryz.ntmps83
      go_wp2_with (first | (go_at_call 23; (with_reducible refine (check_any _ _ H.out).mono ?_); rintro e w2 ⟨rfl, hb2⟩; have sc2 := sc.keep (Keeps.of_below hb2); obtain ⟨c0, c1, c2, c3⟩ := sc2))
      go_ret
      exact ⟨ret_bool Hv.out.symm, hb.trans (hb2.mono hb.size)⟩
  · have e1 : (chkE s == 0) = false := by simpa using e
    have Hv : Hid (thereB s of = false) := hidp (by unfold thereB okS; rw [e1]; rfl)
    clear e
    go_enter Tryz.func83, Tryz.ntmps83
    go_wp2_with (first | (go_at_call 23; (with_reducible refine (check_any _ _ H.out).mono ?_); rintro e w2 ⟨rfl, hb2⟩; have sc2 := sc.keep (Keeps.of_below hb2); obtain ⟨c0, c1, c2, c3⟩ := sc2))
    go_ret
    exact ⟨ret_bool Hv.out.symm, hb.trans (hb2.mono hb.size)⟩


set_option maxHeartbeats 1000000 in
theorem awork_any (ps : List PartM) (A : Option Addr) (c : Nat) (wd : Int) (w : World) (hp : PartsAt w A ps) (hk : ∀ r ∈ ps, RivOk r) (hl : ps.length ≤ 6) (hw : I64 wd) : Calls Tryz.prog 115 #[.slice A ps.length c, .int .i64 wd] w fun e w' => e = .returned (.int .i64 (capV (workS wd ps))) ∧ Below w.heap.size w w' := by
  have HR := hidp hp
  have HK := hidp hk
  have Hwd := hidp hw
  clear hp hk hw
  go_enter Tryz.func115, Tryz.ntmps115
  go_wp2
  go_loopg [5, 10] ps.length (fun g t i wr => ∃ (k : Nat) (x : Int), k + g = ps.length ∧ i = .int .i64 k ∧ t = .int .i64 x ∧ Hid (workS wd (ps.take k) = x) ∧ Below w.heap.size w wr)
  case atStart => exact ⟨0, 0, by omega, rfl, rfl, hidp (by simp [workS]), Below.refl _ _⟩
  case round =>
    obtain ⟨k, x, hk, rfl, rfl, Hx, hw⟩ := hrel
    have hx := workS_bd wd (ps.take k)
    rw [Hx.out, List.length_take] at hx
    obtain ⟨x0, x1⟩ := hx
    have x2 : x ≤ 6000000 := by omega
    clear x1
    by_cases hlt : k < ps.length
    · obtain ⟨g, off, hA, hcl⟩ := HR.out.resolve_left (by intro e; rw [e] at hlt; simp at hlt)
      subst hA
      obtain ⟨r, Hr⟩ : ∃ r, Hid (ps.getD k default = r) := ⟨_, rfl⟩
      have hc := (Hr.out ▸ hcl k hlt).keep (Keeps.of_below hw)
      have hok := HK.out r (Hr.out ▸ getD_mem hlt)
      have Hs : Hid (workS wd (ps.take (k + 1)) = x + workV wd r.kind r.len r.res) := hidp (by rw [workS_snoc _ _ _ hlt, Hx.out, Hr.out])
      obtain ⟨v, HV⟩ : ∃ v, Hid (workV wd r.kind r.len r.res = v) := ⟨_, rfl⟩
      have hv := workV_bd wd r.kind r.len r.res
      rw [HV.out] at hv Hs
      obtain ⟨v0, v1⟩ := hv
      obtain ⟨c0, c1, c2⟩ := hc
      have hw2 := hw.alloc hw.size (.cells #[.int .i64 r.kind, .int .i64 r.len, .int .i64 r.res] 127)
      clear hcl
      go_wp2_with (first | (go_at_call 111; refine (work_any _ _ _ _ _ Hwd.out hok.1 hok.2.1 ⟨by have := hok.2.2.1; omega, by have := hok.2.2.2; omega⟩).mono ?_; rintro e w3 ⟨rfl, hq⟩; rw [HV.out]))
      go_roundg (gk - 1)
      case measure => omega
      case rel => exact ⟨k + 1, x + v, by omega, by go_num, rfl, Hs, hq.below hw2⟩
    · have Hz : Hid (workS wd ps = x) := hidp (by rw [← Hx.out, List.take_of_length_le (by omega)])
      have Hcap : Hid ((if 1000000 < x then 1000000 else x) = capV x) := hidp (by unfold capV; split <;> omega)
      obtain ⟨m, hm⟩ : ∃ m, (if 1000000 < x then 1000000 else x) = m := ⟨_, rfl⟩
      have Hm : Hid (m = capV (workS wd ps)) := hidp (by rw [Hz.out, ← Hcap.out, hm])
      go_wp2
      go_ret
      exact ⟨ret_int Hm.out, hw⟩

def setV (own : Int) (l : List PartM) : Int := (fixO (winF own l) own).getD 0
def setK (own : Int) (l : List PartM) : Bool := (fixO (winF own l) own).isSome
set_option maxHeartbeats 1000000 in
theorem settled_any (ps : List PartM) (A : Option Addr) (c : Nat) (own : Int) (w : World) (hp : PartsAt w A ps) (hk : ∀ r ∈ ps, RivOk r) (hl : ps.length ≤ 6) (h0 : 0 ≤ own) (h1 : own ≤ 3000) : Calls Tryz.prog 84 #[.int .i64 own, .slice A ps.length c] w fun e w' => e = .returned (.tuple #[.int .i64 (setV own ps), .bool (setK own ps)]) ∧ Below w.heap.size w w' := by
  have HR := hidp hp
  have HK := hidp hk
  clear hp hk
  obtain ⟨F, HF⟩ : ∃ F, Hid (winF own ps = F) := ⟨_, rfl⟩
  have Hm : Hid (∀ x y, x ≤ y → F x ≤ F y) := hidp (fun x y h => by rw [← HF.out]; exact winF_mono own ps h)
  have HW : Hid (∀ x, F x = own + capV (workS x ps)) := hidp (fun x => by rw [← HF.out]; rfl)
  have Ho : Hid (∀ x, own ≤ F x ∧ F x ≤ own + 1000000) := hidp (fun x => by rw [← HF.out]; exact winF_own own ps x)
  go_enter Tryz.func84, Tryz.ntmps84
  go_wp2
  go_step3
  go_wp2
  go_step3
  go_wp2
  go_loopg [6, 7] (3001 - own).toNat (fun g s6 s7 wr => ∃ x : Int, x + g = 3001 ∧ own ≤ x ∧ s6 = .int .i64 x ∧ s7 = .bool false ∧ Hid (∀ u, own ≤ u → u < x → F u ≠ u) ∧ Hid (x ≤ F x) ∧ Below w.heap.size w wr)
  case atStart => exact ⟨own, by omega, Int.le_refl _, rfl, rfl, hidp (fun u a b => by omega), hidp (Ho.out own).1, Below.refl _ _⟩
  case round =>
    obtain ⟨x, hx, hox, rfl, rfl, Hn, Hle, hw⟩ := hrel
    obtain ⟨y, HY⟩ : ∃ y, Hid (F x = y) := ⟨_, rfl⟩
    obtain ⟨v, HV⟩ : ∃ v, Hid (capV (workS x ps) = v) := ⟨_, rfl⟩
    have hy : own + v = y := by rw [← HV.out, ← HY.out]; exact (HW.out x).symm
    have hv0 : own ≤ y ∧ y ≤ own + 1000000 := by rw [← HY.out]; exact Ho.out x
    have hxy : x ≤ y := by rw [← HY.out]; exact Hle.out
    obtain ⟨y0, y1⟩ := hv0
    have hv1 : 0 ≤ v := by omega
    have hv2 : v ≤ 1000000 := by omega
    have Hy := hidp hy
    by_cases hfar : 3000 < y
    · have Hz : Hid (fixO F own = none) := hidp (fix_far Hm.out (by omega) Hn.out (by rw [HY.out]; exact hfar))
      have hfar' : 3000 < own + v := by omega
      clear hfar hxy y0 y1 hy
      go_wp2_with (first | (go_at_call 115; refine (awork_any ps A c x _ (HR.out.keep (Keeps.of_below hw)) HK.out hl (by unfold I64; omega)).mono ?_; rintro e w3 ⟨rfl, hb3⟩; rw [HV.out]))
      try rw [Exit.noGoto_ret]
      go_ret2
      exact ⟨by unfold setV setK; rw [HF.out, Hz.out]; rfl, hw.trans (hb3.mono hw.size)⟩
    · by_cases he : y = x
      · have Hz : Hid (fixO F own = some x) := hidp (fixO_at hox (by omega) (by rw [HY.out]; exact he) Hn.out)
        have hfar' : ¬ 3000 < own + v := by omega
        have he' : own + v = x := by omega
        have heq : (own + v == x) = true := by simpa using he'
        clear hfar hxy y0 y1 hy he he'
        go_wp2_with (first | (go_at_call 115; refine (awork_any ps A c x _ (HR.out.keep (Keeps.of_below hw)) HK.out hl (by unfold I64; omega)).mono ?_; rintro e w3 ⟨rfl, hb3⟩; rw [HV.out]))
        try rw [Exit.noGoto_ret]
        go_ret2
        exact ⟨by unfold setV setK; rw [HF.out, Hz.out]; rfl, hw.trans (hb3.mono hw.size)⟩
      · have Hp : Hid (∀ u, own ≤ u → u < y → F u ≠ u) := hidp (by rw [← HY.out]; exact fix_pass Hm.out Hn.out)
        have Hl : Hid (y ≤ F y) := hidp (by have := Hm.out x y hxy; rw [HY.out] at this; exact this)
        have hfar' : ¬ 3000 < own + v := by omega
        have heq : (own + v == x) = false := by simp; omega
        have hlt : (3001 - y).toNat < gk := by omega
        have hlt2 : y ≤ 3000 := by omega
        clear hfar hxy y1 hy he
        go_wp2_with (first | (go_at_call 115; refine (awork_any ps A c x _ (HR.out.keep (Keeps.of_below hw)) HK.out hl (by unfold I64; omega)).mono ?_; rintro e w3 ⟨rfl, hb3⟩; rw [HV.out]))
        go_roundg (3001 - y).toNat
        case measure => omega
        case rel => exact ⟨y, by omega, y0, by rw [← Hy.out], rfl, Hp, Hl, hw.trans (hb3.mono hw.size)⟩

def RivP (w : World) (ps : List PartM) (e : Ending) (w' : World) : Prop := ∃ A c, e = .returned (.slice A ps.length c) ∧ PartsAt w' A ps ∧ Below w.heap.size w w'
set_option maxHeartbeats 2000000 in
set_option maxRecDepth 100000 in
theorem rivals_any (s : SetR) (bs : List Int) (ba : Option Addr) (bc : Nat) (of : Nat) (cl : Int) (w : World) (hs : SetOk w s) (hB : IntsOk w ba bc bs) (ho : okS s = true) (hof : of < s.tasks.length) (hlen : bs.length = s.tasks.length) : Calls Tryz.prog 86 #[.agg #[.int .i64 s.proto, .slice s.ca s.cores.length s.cc, .slice s.ha s.homes.length s.hc, .slice s.ta s.tasks.length s.tc], .slice ba bs.length bc, .int .i64 of, .int .i64 cl] w (RivP w (rivL s bs (prioOf s of) cl 0 s.tasks)) := by
  have hb := (Below.refl w.heap.size w).alloc (Nat.le_refl _) (.cells #[.int .i64 s.proto, .slice s.ca s.cores.length s.cc, .slice s.ha s.homes.length s.hc, .slice s.ta s.tasks.length s.tc] 25)
  have sc := SetCells.new w s 25
  have hg := Good.of ho
  have n6 := hg.ntasks.2
  have HS := hidp hs
  have HBR := hidp hB.at_
  have HBw := hidp hB.wf
  obtain ⟨i0, hi0, hy0, hy1, hy2⟩ := info_parts infoRiv
  obtain ⟨P, HP⟩ : ∃ P, Hid (prioOf s of = P) := ⟨_, rfl⟩
  obtain ⟨Rv, HRv⟩ : ∃ Rv : Nat → List PartM, Hid (∀ k, rivL s bs P cl 0 (s.tasks.take k) = Rv k) := ⟨fun k => rivL s bs P cl 0 (s.tasks.take k), hidp (fun _ => rfl)⟩
  obtain ⟨At, HAt⟩ : ∃ At : Nat → Int, Hid (∀ k : Nat, atV s k cl = At k) := ⟨fun k => atV s k cl, hidp (fun _ => rfl)⟩
  have HR0 : Hid (Rv 0 = []) := hidp (by rw [← HRv.out]; simp [rivL])
  have HRs : Hid (∀ k, k < s.tasks.length → Rv (k + 1) = Rv k ++ (if (s.tasks.getD k default).prio < P then [⟨bs.getD k 0, (s.tasks.getD k default).per, At k⟩] else [])) := hidp (fun k hk => by rw [← HRv.out, ← HRv.out, ← HAt.out]; exact rivL_snoc s bs P cl s.tasks k hk)
  have HRe : Hid (rivL s bs (prioOf s of) cl 0 s.tasks = Rv s.tasks.length) := hidp (by rw [HP.out, ← HRv.out, List.take_length])
  rw [HRe.out]
  have HPr : Hid ((s.tasks.getD of default).prio = P) := hidp (by rw [← HP.out]; simp [prioOf])
  have HR := hidp hs.tasks.at_
  clear hs hB ho hg HP HRv HRe
  obtain ⟨proto, ca, cc, cores, ha, hc, homes, ta, tc, tasks⟩ := s
  dsimp only at HR hof hlen n6 hb HRs HPr ⊢
  obtain ⟨g, off, hA, hcl⟩ := HR.out.resolve_left (by intro e; rw [e] at hof; simp at hof)
  subst hA
  obtain ⟨gb, ob, hBA, hbl⟩ := HBR.out.resolve_left (by intro e; rw [e] at hlen; simp at hlen; omega)
  subst hBA
  have Hcl := hidp hcl
  have Hbl := hidp hbl
  have Hown : Hid (∀ wr, Below w.heap.size w wr → wr.cell? ⟨g, off + of * 6 + 3, none⟩ = some (.int .i64 P)) := hidp (fun wr h => by
    rw [((hcl of hof).keep (Keeps.of_below h)).2.2.2.1, HPr.out])
  have HL := hidp hlen
  clear hcl hbl HBR HR hlen
  obtain ⟨sc_0, sc_1, sc_2, sc_3⟩ := id sc
  dsimp only at sc_0 sc_1 sc_2 sc_3
  go_enter Tryz.func86, Tryz.ntmps86
  go_wp2
  go_loopg [9, 15] tasks.length (fun gg a i wr => ∃ (k m c : Nat) (A : Option Addr), k + gg = tasks.length ∧ i = .int .i64 k ∧ a = .slice A m c ∧ m ≤ k ∧ OwnR (w.heap.size + 1) wr A m c (Rv k) ∧ SetCells wr w.heap.size ⟨proto, ca, cc, cores, ha, hc, homes, some ⟨g, off, none⟩, tc, tasks⟩ ∧ Below w.heap.size w wr ∧ w.heap.size + 1 ≤ wr.heap.size)
  case atStart => exact ⟨0, 0, 0, none, by omega, rfl, rfl, Nat.le_refl _, by rw [HR0.out]; exact OwnR.none _ _, sc, hb, by simp⟩
  case round =>
    obtain ⟨k, m, c, A, hk, rfl, rfl, hmk, ho, sc', hw, hz⟩ := hrel
    clear sc_0 sc_1 sc_2 sc_3
    by_cases hlt : k < tasks.length
    · obtain ⟨t, HT⟩ : ∃ t, Hid (tasks.getD k default = t) := ⟨_, rfl⟩
      have tcl := (HT.out ▸ Hcl.out k hlt).keep (Keeps.of_below hw)
      have hw1 := hw.alloc hw.size (.cells #[.string t.name, .int .i64 t.per, .int .i64 t.dl, .int .i64 t.prio, .int .i64 t.cl, .slice t.pa t.parts.length t.pc] 41)
      have ho1 := ho.turned ((Turned.refl [] wr).alloc (.cells #[.string t.name, .int .i64 t.per, .int .i64 t.dl, .int .i64 t.prio, .int .i64 t.cl, .slice t.pa t.parts.length t.pc] 41)) (by simp)
      have hz1 : w.heap.size + 1 ≤ (wr.alloc (.cells #[.string t.name, .int .i64 t.per, .int .i64 t.dl, .int .i64 t.prio, .int .i64 t.cl, .slice t.pa t.parts.length t.pc] 41)).heap.size := Nat.le_trans hz (by simp)
      have sc1 := sc'.keep (Keeps.alloc wr (.cells #[.string t.name, .int .i64 t.per, .int .i64 t.dl, .int .i64 t.prio, .int .i64 t.cl, .slice t.pa t.parts.length t.pc] 41))
      obtain ⟨sc_0, sc_1, sc_2, sc_3⟩ := id sc1
      dsimp only at sc_0 sc_1 sc_2 sc_3
      have hkb : k < bs.length := by rw [HL.out]; exact hlt
      obtain ⟨d0, d1, d2, d3, d4, d5⟩ := tcl
      have tb := TaskBox.new wr t 41
      obtain ⟨b0, b1, b2, b3, b4, b5⟩ := tb
      have hP := Hown.out _ hw1
      have Hs : Hid (Rv (k + 1) = Rv k ++ (if t.prio < P then [⟨bs.getD k 0, t.per, At k⟩] else [])) := hidp (by rw [HRs.out k hlt, HT.out])
      by_cases e : t.prio < P
      · have Hz : Hid (Rv (k + 1) = Rv k ++ [⟨bs.getD k 0, t.per, At k⟩]) := hidp (by rw [Hs.out, if_pos e])
        go_wp2
        go_quiet (fail)
        go_wp2
        obtain ⟨b, Hb⟩ : ∃ b, Hid (bs.getD k 0 = b) := ⟨_, rfl⟩
        have hbc := Keeps.of_below hw1 _ _ (Hb.out ▸ Hbl.out k hkb)
        have hw2 := (below_drewN hw1 nq).drew
        have ho2 := ho1.turned (((Turned.refl [] _).drewN nq).drew) (by simp)
        have hs0 : SetOk ((wr.alloc (.cells #[.string t.name, .int .i64 t.per, .int .i64 t.dl, .int .i64 t.prio, .int .i64 t.cl, .slice t.pa t.parts.length t.pc] 41)).drewN nq).drew ⟨proto, ca, cc, cores, ha, hc, homes, some ⟨g, off, none⟩, tc, tasks⟩ := HS.out.keep (Keeps.of_below hw2)
        have sc2 : SetCells ((wr.alloc (.cells #[.string t.name, .int .i64 t.per, .int .i64 t.dl, .int .i64 t.prio, .int .i64 t.cl, .slice t.pa t.parts.length t.pc] 41)).drewN nq).drew w.heap.size ⟨proto, ca, cc, cores, ha, hc, homes, some ⟨g, off, none⟩, tc, tasks⟩ := sc1
        have hz2 : w.heap.size + 1 ≤ ((wr.alloc (.cells #[.string t.name, .int .i64 t.per, .int .i64 t.dl, .int .i64 t.prio, .int .i64 t.cl, .slice t.pa t.parts.length t.pc] 41)).drewN nq).drew.heap.size := hz1
        have hs : ((wr.alloc (.cells #[.string t.name, .int .i64 t.per, .int .i64 t.dl, .int .i64 t.prio, .int .i64 t.cl, .slice t.pa t.parts.length t.pc] 41)).drewN nq).drew.cell? ⟨wr.heap.size, 1, none⟩ = some (.int .i64 t.per) ∧ ((wr.alloc (.cells #[.string t.name, .int .i64 t.per, .int .i64 t.dl, .int .i64 t.prio, .int .i64 t.cl, .slice t.pa t.parts.length t.pc] 41)).drewN nq).drew.cell? ⟨gb, ob + k, none⟩ = some (.int .i64 b) ∧ ((wr.alloc (.cells #[.string t.name, .int .i64 t.per, .int .i64 t.dl, .int .i64 t.prio, .int .i64 t.cl, .slice t.pa t.parts.length t.pc] 41)).drewN nq).drew.cell? ⟨w.heap.size, 0, none⟩ = some (.int .i64 proto) ∧ ((wr.alloc (.cells #[.string t.name, .int .i64 t.per, .int .i64 t.dl, .int .i64 t.prio, .int .i64 t.cl, .slice t.pa t.parts.length t.pc] 41)).drewN nq).drew.cell? ⟨w.heap.size, 1, none⟩ = some (.slice ca cores.length cc) ∧ ((wr.alloc (.cells #[.string t.name, .int .i64 t.per, .int .i64 t.dl, .int .i64 t.prio, .int .i64 t.cl, .slice t.pa t.parts.length t.pc] 41)).drewN nq).drew.cell? ⟨w.heap.size, 2, none⟩ = some (.slice ha homes.length hc) ∧ ((wr.alloc (.cells #[.string t.name, .int .i64 t.per, .int .i64 t.dl, .int .i64 t.prio, .int .i64 t.cl, .slice t.pa t.parts.length t.pc] 41)).drewN nq).drew.cell? ⟨w.heap.size, 3, none⟩ = some (.slice (some ⟨g, off, none⟩) tasks.length tc) := ⟨b1, hbc, sc_0, sc_1, sc_2, sc_3⟩
        have Hbx := hidp (fun j (hj : j ∈ fp A) => (own_fp ho.own j hj).2)
        have Hgb := hidp (cell_lt (Hbl.out k hkb))
        clear b0 b1 b2 b3 b4 b5 d0 d1 d2 d3 d4 d5 hP sc_0 sc_1 sc_2 sc_3 sc1 ho1 hw1 hz1 hbc sc' hw hz e
        refine wp_region_held_drew (S := fun w' => w'.cell? ⟨wr.heap.size, 1, none⟩ = some (.int .i64 t.per) ∧ w'.cell? ⟨gb, ob + k, none⟩ = some (.int .i64 b) ∧ w'.cell? ⟨w.heap.size, 0, none⟩ = some (.int .i64 proto) ∧ w'.cell? ⟨w.heap.size, 1, none⟩ = some (.slice ca cores.length cc) ∧ w'.cell? ⟨w.heap.size, 2, none⟩ = some (.slice ha homes.length hc) ∧ w'.cell? ⟨w.heap.size, 3, none⟩ = some (.slice (some ⟨g, off, none⟩) tasks.length tc)) (by kernel_rfl) ?_ (fun hHeld => ?_)
        · exact hs
        generalize ((wr.alloc (.cells #[.string t.name, .int .i64 t.per, .int .i64 t.dl, .int .i64 t.prio, .int .i64 t.cl, .slice t.pa t.parts.length t.pc] 41)).drewN nq).drew = u1 at *
        refine wpAnyH_take (i := 0) (v := ?_) rfl (by kernel_rfl) (by kernel_rfl) (by kernel_rfl) (fun _ _ _ h => h) (Or.inl ⟨by rfl, ?_⟩) (by assumption) ?_
        rotate_left 1
        · ((intro w hSw; (try dsimp only at hSw); go_simp); (try with_reducible rfl))
        simp only [Act.put, List.setIfInBounds_toArray, List.set_cons_zero, List.set_cons_succ, List.getElem_toArray, List.getElem_cons_zero, List.getElem_cons_succ]
        refine wpAnyH_take (i := 1) (v := ?_) rfl (by kernel_rfl) (by kernel_rfl) (by kernel_rfl) (fun _ _ _ h => h) (Or.inl ⟨by rfl, ?_⟩) (by assumption) ?_
        rotate_left 1
        · ((intro w hSw; (try dsimp only at hSw); go_simp); (try with_reducible rfl))
        simp only [Act.put, List.setIfInBounds_toArray, List.set_cons_zero, List.set_cons_succ, List.getElem_toArray, List.getElem_cons_zero, List.getElem_cons_succ]
        refine wpAnyH_take (i := 2) (v := ?_) rfl (by kernel_rfl) (by kernel_rfl) (by kernel_rfl) (fun _ _ _ h => h) (Or.inl ⟨by rfl, ?_⟩) (by assumption) ?_
        rotate_left 1
        · ((intro w hSw; (try dsimp only at hSw); go_simp); (try with_reducible rfl))
        simp only [Act.put, List.setIfInBounds_toArray, List.set_cons_zero, List.set_cons_succ, List.getElem_toArray, List.getElem_cons_zero, List.getElem_cons_succ]
        refine wpAnyH_take (i := 3) (v := ?_) rfl (by kernel_rfl) (by kernel_rfl) (by kernel_rfl) (fun _ _ _ h => h) (Or.inl ⟨by rfl, ?_⟩) (by assumption) ?_
        rotate_left 1
        · ((intro w hSw; (try dsimp only at hSw); go_simp); (try with_reducible rfl))
        simp only [Act.put, List.setIfInBounds_toArray, List.set_cons_zero, List.set_cons_succ, List.getElem_toArray, List.getElem_cons_zero, List.getElem_cons_succ]
        refine wpAnyH_take (i := 4) (v := ?_) rfl (by kernel_rfl) (by kernel_rfl) (by kernel_rfl) (fun _ _ _ h => h) (Or.inl ⟨by rfl, ?_⟩) (by assumption) ?_
        rotate_left 1
        · ((intro w hSw; (try dsimp only at hSw); go_simp); (try with_reducible rfl))
        simp only [Act.put, List.setIfInBounds_toArray, List.set_cons_zero, List.set_cons_succ, List.getElem_toArray, List.getElem_cons_zero, List.getElem_cons_succ]
        refine wpAnyH_take (i := 5) (v := ?_) rfl (by kernel_rfl) (by kernel_rfl) (by kernel_rfl) (fun _ _ _ h => h) (Or.inl ⟨by rfl, ?_⟩) (by assumption) ?_
        rotate_left 1
        · ((intro w hSw; (try dsimp only at hSw); go_simp); (try with_reducible rfl))
        simp only [Act.put, List.setIfInBounds_toArray, List.set_cons_zero, List.set_cons_succ, List.getElem_toArray, List.getElem_cons_zero, List.getElem_cons_succ]
        refine wpAnyH_take (i := 6) (v := ?_) rfl (by kernel_rfl) (by kernel_rfl) (by kernel_rfl) (fun _ _ _ h => h) (Or.inl ⟨by rfl, ?_⟩) (by assumption) ?_
        rotate_left 1
        · ((intro w hSw; (try dsimp only at hSw); go_simp); (try with_reducible rfl))
        simp only [Act.put, List.setIfInBounds_toArray, List.set_cons_zero, List.set_cons_succ, List.getElem_toArray, List.getElem_cons_zero, List.getElem_cons_succ]
        refine wpAnyH_take (i := 7) (v := ?_) rfl (by kernel_rfl) (by kernel_rfl) (by kernel_rfl) (fun _ _ _ h => h) (Or.inl ⟨by rfl, ?_⟩) (by assumption) ?_
        rotate_left 1
        · ((intro w hSw; (try dsimp only at hSw); go_simp); (try with_reducible rfl))
        simp only [Act.put, List.setIfInBounds_toArray, List.set_cons_zero, List.set_cons_succ, List.getElem_toArray, List.getElem_cons_zero, List.getElem_cons_succ]
        refine wpAnyH_take (i := 8) (v := ?_) rfl (by kernel_rfl) (by kernel_rfl) (by kernel_rfl) (fun _ _ _ h => h) (Or.inl ⟨by rfl, ?_⟩) (by assumption) ?_
        rotate_left 1
        · ((intro w hSw; (try dsimp only at hSw); go_simp); (try with_reducible rfl))
        simp only [Act.put, List.setIfInBounds_toArray, List.set_cons_zero, List.set_cons_succ, List.getElem_toArray, List.getElem_cons_zero, List.getElem_cons_succ]
        refine wpAnyH_take (i := 9) (v := ?_) rfl (by kernel_rfl) (by kernel_rfl) (by kernel_rfl) (fun _ _ _ h => h) (Or.inl ⟨by rfl, ?_⟩) (by assumption) ?_
        rotate_left 1
        · ((intro w hSw; (try dsimp only at hSw); go_simp); (try with_reducible rfl))
        simp only [Act.put, List.setIfInBounds_toArray, List.set_cons_zero, List.set_cons_succ, List.getElem_toArray, List.getElem_cons_zero, List.getElem_cons_succ]
        refine wpAnyH_ready (rs := [10]) (by kernel_rfl) (by simp) ?_
        refine AllReadyH.cons rfl (fun K hK => ?_) AllReadyH.nil
        go_simp
        refine (at_any _ k cl u1 hs0).mono ?_
        rintro e w3 ⟨rfl, hb3⟩
        rw [HAt.out]
        have k3 := Keeps.of_below hb3
        replace hs := And.intro (k3 _ _ hs.1) (And.intro (k3 _ _ hs.2.1) (And.intro (k3 _ _ hs.2.2.1) (And.intro (k3 _ _ hs.2.2.2.1) (And.intro (k3 _ _ hs.2.2.2.2.1) (k3 _ _ hs.2.2.2.2.2)))))
        replace sc2 := sc2.keep k3
        replace ho2 := ho2.turned (Turned.of_below hb3 []) (by simp)
        replace hw2 := hw2.trans (hb3.mono hw2.size)
        replace hz2 := Nat.le_trans hz2 hb3.size
        clear hHeld hs0 hb3 k3
        go_wp2_with fail
        refine hK.out _ _ ?_ (fun hHeld => ?_)
        · exact hs
        clear hK K
        try simp only [Act.put, List.setIfInBounds_toArray, List.set_cons_zero, List.set_cons_succ, List.getElem_toArray, List.getElem_cons_zero, List.getElem_cons_succ]
        refine wpAnyH_take (i := 11) (v := ?_) rfl (by kernel_rfl) (by kernel_rfl) (by kernel_rfl) (fun _ _ _ h => h) (Or.inl ⟨by rfl, ?_⟩) (by assumption) ?_
        rotate_left 1
        · ((intro w hSw; (try dsimp only at hSw); go_simp); (try with_reducible rfl))
        simp only [Act.put, List.setIfInBounds_toArray, List.set_cons_zero, List.set_cons_succ, List.getElem_toArray, List.getElem_cons_zero, List.getElem_cons_succ]
        refine wpAnyH_ready (rs := [12]) (by kernel_rfl) (by simp) ?_
        refine AllReadyH.cons rfl (fun K hK => ?_) AllReadyH.nil
        go_simp
        have k4 := Keeps.alloc w3 (.cells (ptc [⟨b, t.per, At k⟩]).toArray 127)
        have hs4 := And.intro (k4 _ _ hs.1) (And.intro (k4 _ _ hs.2.1) (And.intro (k4 _ _ hs.2.2.1) (And.intro (k4 _ _ hs.2.2.2.1) (And.intro (k4 _ _ hs.2.2.2.2.1) (k4 _ _ hs.2.2.2.2.2)))))
        have S2 := hidp (Lies.newCells' w3 (ptc [⟨b, t.per, At k⟩]) 127)
        have sc4 := sc2.keep k4
        have hown4 := World.ownsRow.alloc ho2.own (.cells (ptc [⟨b, t.per, At k⟩]).toArray 127)
        have hw4 := hw2.alloc hw2.size (.cells (ptc [⟨b, t.per, At k⟩]).toArray 127)
        have hz4 : Hid (w.heap.size + 1 ≤ (w3.alloc (.cells (ptc [⟨b, t.per, At k⟩]).toArray 127)).heap.size) := hidp (Nat.le_trans hz2 (by simp))
        clear hHeld k4
        go_wp2_with fail
        refine hK.out _ _ ?_ (fun hHeld => ?_)
        · exact hs4
        clear hK K
        try simp only [Act.put, List.setIfInBounds_toArray, List.set_cons_zero, List.set_cons_succ, List.getElem_toArray, List.getElem_cons_zero, List.getElem_cons_succ]
        have Q2 : Hid ((some (⟨w3.heap.size, 0, none⟩ : Addr)) = none → 1 = 0 ∧ 1 = 0) := hidp (fun e => by cases e)
        have L2 : Hid ((ptc [⟨b, t.per, At k⟩]).length = 1 * 3) := hidp rfl
        have O2 := hidp (ptc_one [⟨b, t.per, At k⟩])
        have N2 : Hid (m + 1 ≤ maxLen) := hidp (by unfold maxLen; omega)
        have T2 : Hid ((m + 1) * 24 ≤ 140737488355328) := hidp (by omega)
        have Hfp := hidp (own_fp ho2.own)
        refine wpAnyH_ready (rs := [13]) (by kernel_rfl) (by simp) ?_
        refine AllReadyH.cons rfl (fun K hK => ?_) AllReadyH.nil
        refine step_app2 (w3.alloc (.cells (ptc [⟨b, t.per, At k⟩]).toArray 127)) rfl (.tmp 29) (.tmp 41) 108 rfl (w.heap.size + 1) 127 i0 _ 3 24 Tryz.underlying108 hi0 hy0 hy1 hy2 rfl (by decide) A m c _ rfl hown4 _ _ 1 1 (ptc [⟨b, t.per, At k⟩]) rfl Q2.out L2.out S2.out O2.out N2.out T2.out hz4.out ?_
        intro A' c' w5 happ
        have hFn : ∀ j, j < w.heap.size + 1 → j ∉ fp A := fun j hj hf => by have := (Hfp.out _ hf).1; omega
        have hbn : ∀ p v, (w3.alloc (.cells (ptc [⟨b, t.per, At k⟩]).toArray 127)).cell? p = some v → p.block < w.heap.size + 1 → w5.cell? p = some v := fun p v h hp => happ.turned.cell h (hFn _ hp)
        have sc5 := sc4.turned happ.turned (hFn w.heap.size (by omega))
        have hw5 := hw4.trans (happ.turned.below hw4.size (fun j hj => by have := (Hfp.out _ hj).1; omega))
        have hz5 := Nat.le_trans hz4.out happ.turned.size
        have ho5 := ho2.app (ps := [⟨b, t.per, At k⟩]) happ rfl
        have hs5 := And.intro (happ.turned.cell hs4.1 (fun hf => absurd (Hbx.out _ hf) (Nat.lt_irrefl _))) (And.intro (hbn _ _ hs4.2.1 (Nat.lt_succ_of_lt Hgb.out)) (And.intro (hbn _ _ hs4.2.2.1 (by simp)) (And.intro (hbn _ _ hs4.2.2.2.1 (by simp)) (And.intro (hbn _ _ hs4.2.2.2.2.1 (by simp)) (hbn _ _ hs4.2.2.2.2.2 (by simp))))))
        clear hHeld hbn hFn hs4 hs
        refine hK.out _ _ ?_ (fun hHeld => ?_)
        · exact hs5
        clear hK K
        try simp only [Act.put, List.setIfInBounds_toArray, List.set_cons_zero, List.set_cons_succ, List.getElem_toArray, List.getElem_cons_zero, List.getElem_cons_succ]
        refine wpAnyH_take (i := 14) (v := ?_) rfl (by kernel_rfl) (by kernel_rfl) (by kernel_rfl) (fun _ _ _ h => h) (Or.inl ⟨by rfl, ?_⟩) (by assumption) ?_
        rotate_left 1
        · ((intro w hSw; (try dsimp only at hSw); go_simp); (try with_reducible rfl))
        simp only [Act.put, List.setIfInBounds_toArray, List.set_cons_zero, List.set_cons_succ, List.getElem_toArray, List.getElem_cons_zero, List.getElem_cons_succ]
        refine wpAnyH_done (by kernel_rfl) ?_ _
        clear hHeld hs5
        go_wp2_with fail
        go_roundg (gk - 1)
        case measure => omega
        case rel => exact ⟨k + 1, m + 1, c', A', by omega, by go_num, rfl, by omega, by rw [Hz.out, Hb.out]; exact ho5, sc5, hw5, hz5⟩
      · have Hz : Hid (Rv (k + 1) = Rv k) := hidp (by rw [Hs.out, if_neg e]; simp)
        go_wp2
        go_quiet (fail)
        go_wp2
        go_roundg (gk - 1)
        case measure => omega
        case rel => exact ⟨k + 1, m, c, A, by omega, by go_num, rfl, by omega, by rw [Hz.out]; exact ho1.turned ((Turned.refl [] _).drewN _) (by simp), sc1, below_drewN hw1 _, hz1⟩
    · obtain rfl : k = tasks.length := by omega
      have hp := ho.parts
      have hl := ho.len
      have Hl := hidp hl
      clear hl
      go_wp2
      go_ret
      exact ⟨A, c, by show Ending.returned (.slice A m c) = _; rw [← Hl.out], hp, hw⟩
end Go.Proofs.YtjjlpaampmpdfaaGreatDoor
