/- swingbridgeref11: Lower, Higher. -/
import Derived.Test.YtindcpgmfdkpcaaGreatRef14b
namespace Go.Proofs.YtindcpgmfdkpcaaGreat
open Go.ChangeShapes Go.WideShapes Go.ChangeAt Go.RowKit
set_option linter.unusedVariables false
set_option linter.unusedSimpArgs false

set_option maxHeartbeats 4000000 in
set_option maxRecDepth 100000 in
theorem rlower_any (s : SetR) (of cl : Int) (w : World) (hs : SetOk w s) : Calls Tryz.prog 54 #[.agg #[.int .i64 s.proto, .slice s.ca s.cores.length s.cc, .slice s.ha s.homes.length s.hc, .slice s.ta s.tasks.length s.tc], .int .i64 of, .int .i64 cl] w fun e w' => e = .returned (.int .i64 (lowerV s of cl)) ∧ Below w.heap.size w w' := by
  have hb := (Below.refl w.heap.size w).alloc (Nat.le_refl _) (.cells #[.int .i64 s.proto, .slice s.ca s.cores.length s.cc, .slice s.ha s.homes.length s.hc, .slice s.ta s.tasks.length s.tc] 25)
  have sc := SetCells.new w s 25
  have HS := hidp hs
  have l3 : s.tasks.length ≤ maxLen := Nat.le_trans hs.tasks.sl.2.1 hs.tasks.sl.2.2
  unfold maxLen at l3
  by_cases e : thereB s of = true
  · obtain ⟨ho, r1, r2⟩ := thereB_true.1 e
    obtain ⟨o, rfl⟩ : ∃ o : Nat, of = o := ⟨of.toNat, by omega⟩
    have hof : o < s.tasks.length := by omega
    have hg := Good.of ho
    have n6 := hg.ntasks.2
    obtain ⟨P, HP⟩ : ∃ P, Hid (prioOf s o = P) := ⟨_, rfl⟩
    obtain ⟨Lv, HLv⟩ : ∃ Lv : Nat → Int, Hid (∀ k, lowL s P cl 0 (s.tasks.take k) = Lv k) := ⟨fun k => lowL s P cl 0 (s.tasks.take k), hidp (fun _ => rfl)⟩
    obtain ⟨Mt, HMt⟩ : ∃ Mt : Nat → Int, Hid (∀ k : Nat, mostV s k cl = Mt k) := ⟨fun k => mostV s k cl, hidp (fun _ => rfl)⟩
    have HMb : Hid (∀ k, 0 ≤ Mt k ∧ Mt k ≤ 60) := hidp (fun k => by rw [← HMt.out]; exact mostV_bd s k cl)
    have HL0 : Hid (Lv 0 = 0) := hidp (by rw [← HLv.out]; simp [lowL])
    have HLb : Hid (∀ k, 0 ≤ Lv k ∧ Lv k ≤ 60) := hidp (fun k => by rw [← HLv.out]; exact lowL_bd s P cl 0 _)
    have HLs : Hid (∀ k, k < s.tasks.length → Lv (k + 1) = max (Lv k) (if P < (s.tasks.getD k default).prio then Mt k else 0)) := hidp (fun k hk => by rw [← HLv.out, ← HLv.out, ← HMt.out]; exact lowL_snoc s P cl s.tasks k hk)
    have HLe : Hid (lowerV s o cl = Lv s.tasks.length) := hidp (by unfold lowerV; rw [if_pos e, HP.out, ← HLv.out, List.take_length])
    rw [HLe.out]
    have HPr : Hid ((s.tasks.getD o default).prio = P) := hidp (by rw [← HP.out]; simp [prioOf])
    have HR := hidp hs.tasks.at_
    have Hth := hidp e
    clear hs ho hg HP HLv HLe e r1 r2
    obtain ⟨proto, ca, cc, cores, ha, hc, homes, ta, tc, tasks⟩ := s
    dsimp only at HR hof n6 hb HLs HPr l3 ⊢
    obtain ⟨g, off, hA, hcl⟩ := HR.out.resolve_left (by intro e; rw [e] at hof; simp at hof)
    subst hA
    have Hcl := hidp hcl
    have Hown : Hid (∀ wr, Below w.heap.size w wr → wr.cell? ⟨g, off + o * 6 + 3, none⟩ = some (.int .i64 P)) := hidp (fun wr h => by
      rw [((hcl o hof).keep (Keeps.of_below h)).2.2.2.1, HPr.out])
    clear hcl HR
    go_enter Tryz.func54, Tryz.ntmps54
    go_wp2
    go_loopg [7, 8] tasks.length (fun gg a i wr => ∃ (k : Nat) (x : Int), k + gg = tasks.length ∧ i = .int .i64 k ∧ a = .int .i64 x ∧ Hid (Lv k = x) ∧ SetCells wr w.heap.size ⟨proto, ca, cc, cores, ha, hc, homes, some ⟨g, off, none⟩, tc, tasks⟩ ∧ Below w.heap.size w wr)
    case atStart => exact ⟨0, 0, by omega, rfl, rfl, hidp HL0.out, sc, hb⟩
    case round =>
      clear sc hb
      obtain ⟨k, x, hk, rfl, rfl, Hx, sc, hb⟩ := hrel
      obtain ⟨sc_0, sc_1, sc_2, sc_3⟩ := id sc
      dsimp only at sc_0 sc_1 sc_2 sc_3
      have hx := HLb.out k
      rw [Hx.out] at hx
      obtain ⟨x0, x1⟩ := hx
      by_cases hlt : k < tasks.length
      · obtain ⟨t, HT⟩ : ∃ t, Hid (tasks.getD k default = t) := ⟨_, rfl⟩
        go_wp2_with fail
        refine (rthere_any _ o _ (HS.out.keep (Keeps.of_below hb))).mono ?_
        rintro e w2 ⟨rfl, hb2⟩
        replace hb := hb.trans (hb2.mono hb.size)
        replace sc := sc.keep (Keeps.of_below hb2)
        clear hb2
        try clear sc_0 sc_1 sc_2 sc_3
        have scx := sc
        obtain ⟨sc_0, sc_1, sc_2, sc_3⟩ := scx
        try dsimp only at sc_0 sc_1 sc_2 sc_3
        rw [Hth.out]
        have tcl := (HT.out ▸ Hcl.out k hlt).keep (Keeps.of_below hb)
        obtain ⟨d0, d1, d2, d3, d4, d5⟩ := tcl
        have hP := Hown.out _ hb
        obtain ⟨y, Hy⟩ : ∃ y, Hid (Mt k = y) := ⟨_, rfl⟩
        have hy := HMb.out k
        rw [Hy.out] at hy
        obtain ⟨y0, y1⟩ := hy
        have Hs : Hid (Lv (k + 1) = max x (if P < t.prio then y else 0)) := hidp (by rw [HLs.out k hlt, HT.out, Hx.out, Hy.out])
        by_cases e : P < t.prio
        · have Hz : Hid (Lv (k + 1) = max x y) := hidp (by rw [Hs.out, if_pos e])
          go_wp2
          go_quiet (fail)
          replace hb := below_drewN hb nq
          replace sc := sc.keep (Keeps.drewN _ nq)
          go_wp2_with fail
          refine (rat_any _ k cl _ (HS.out.keep (Keeps.of_below hb))).mono ?_
          rintro e w3 ⟨rfl, hb2⟩
          replace hb := hb.trans (hb2.mono hb.size)
          replace sc := sc.keep (Keeps.of_below hb2)
          clear hb2
          rw [HMt.out, Hy.out]
          go_wp2_with fail
          go_roundg (gk - 1)
          case measure => omega
          case rel => exact ⟨k + 1, max x y, by omega, by go_num, rfl, Hz, sc, hb⟩
        · have Hz : Hid (Lv (k + 1) = x) := hidp (by rw [Hs.out, if_neg e]; omega)
          go_wp2
          go_quiet (fail)
          go_wp2
          go_roundg (gk - 1)
          case measure => omega
          case rel => exact ⟨k + 1, x, by omega, by go_num, rfl, Hz, sc, below_drewN hb _⟩
      · obtain rfl : k = tasks.length := by omega
        go_wp2
        go_ret
        exact ⟨ret_int Hx.out.symm, hb⟩
  · have Hv : Hid (lowerV s of cl = 0) := hidp (by unfold lowerV; rw [if_neg e])
    have Hth : Hid (thereB s of = false) := hidp (by simpa using e)
    clear e hs
    go_enter Tryz.func54, Tryz.ntmps54
    go_wp2
    go_loopg [7, 8] 1 (fun gg a i wr => gg = 1 ∧ i = .int .i64 0 ∧ a = .int .i64 0 ∧ SetCells wr w.heap.size s ∧ Below w.heap.size w wr)
    case atStart => exact ⟨rfl, rfl, rfl, sc, hb⟩
    case round =>
      clear sc hb
      obtain ⟨hk, rfl, rfl, sc, hb⟩ := hrel
      obtain ⟨sc_0, sc_1, sc_2, sc_3⟩ := id sc
      by_cases h0 : 0 < s.tasks.length
      · go_wp2_with fail
        refine (rthere_any _ of _ (HS.out.keep (Keeps.of_below hb))).mono ?_
        rintro e w2 ⟨rfl, hb2⟩
        replace hb := hb.trans (hb2.mono hb.size)
        replace sc := sc.keep (Keeps.of_below hb2)
        clear hb2
        try clear sc_0 sc_1 sc_2 sc_3
        have scx := sc
        obtain ⟨sc_0, sc_1, sc_2, sc_3⟩ := scx
        try dsimp only at sc_0 sc_1 sc_2 sc_3
        rw [Hth.out]
        go_wp2
        go_ret
        exact ⟨ret_int Hv.out.symm, hb⟩
      · have h0' : s.tasks.length = 0 := by omega
        go_wp2
        go_ret
        exact ⟨ret_int Hv.out.symm, hb⟩

set_option maxHeartbeats 4000000 in
set_option maxRecDepth 100000 in
theorem rhigher_any (s : SetR) (bs : List Int) (ba : Option Addr) (bc : Nat) (of cl wd : Int) (w : World) (hs : SetOk w s) (hB : IntsOk w ba bc bs) (hwd : I64 wd) : Calls Tryz.prog 55 #[.agg #[.int .i64 s.proto, .slice s.ca s.cores.length s.cc, .slice s.ha s.homes.length s.hc, .slice s.ta s.tasks.length s.tc], .slice ba bs.length bc, .int .i64 of, .int .i64 cl, .int .i64 wd] w fun e w' => e = .returned (.int .i64 (higherV s bs of cl wd)) ∧ Below w.heap.size w w' := by
  have hb := (Below.refl w.heap.size w).alloc (Nat.le_refl _) (.cells #[.int .i64 s.proto, .slice s.ca s.cores.length s.cc, .slice s.ha s.homes.length s.hc, .slice s.ta s.tasks.length s.tc] 25)
  have sc := SetCells.new w s 25
  have H := hs.keep (Keeps.of_below hb)
  have HS := hidp hs
  have HB := hidp hB
  have l3 : s.tasks.length ≤ maxLen := Nat.le_trans hs.tasks.sl.2.1 hs.tasks.sl.2.2
  have l4 : bs.length ≤ maxLen := Nat.le_trans hB.sl.2.1 hB.sl.2.2
  unfold maxLen at l3 l4
  have Hwd := hidp hwd
  clear hwd
  by_cases e : thereB s of = true
  · have Hth := hidp e
    by_cases e2 : bs.length = s.tasks.length
    · obtain ⟨ho, r1, r2⟩ := thereB_true.1 e
      obtain ⟨o, rfl⟩ : ∃ o : Nat, of = o := ⟨of.toNat, by omega⟩
      have hof : o < s.tasks.length := by omega
      have HL := hidp e2
      have n6 := (Good.of ho).ntasks.2
      have d1 : ((bs.length : Int) != (s.tasks.length : Int)) = false := by simp [e2]
      obtain ⟨P, HP⟩ : ∃ P, Hid (prioOf s o = P) := ⟨_, rfl⟩
      obtain ⟨Wv, HWv⟩ : ∃ Wv : Nat → Int, Hid (∀ k, capV (workS wd (rivL s bs P cl 0 (s.tasks.take k))) = Wv k) := ⟨fun k => capV (workS wd (rivL s bs P cl 0 (s.tasks.take k))), hidp (fun _ => rfl)⟩
      obtain ⟨At, HAt⟩ : ∃ At : Nat → Int, Hid (∀ k : Nat, atV s k cl = At k) := ⟨fun k => atV s k cl, hidp (fun _ => rfl)⟩
      have HAb : Hid (∀ k, 0 ≤ At k ∧ At k ≤ 360) := hidp (fun k => by rw [← HAt.out]; exact atV_bd s k cl)
      have HW0 : Hid (Wv 0 = 0) := hidp (by rw [← HWv.out, List.take_zero]; rfl)
      have HWb : Hid (∀ k, 0 ≤ Wv k ∧ Wv k ≤ 1000000) := hidp (fun k => by
        rw [← HWv.out]
        have := workS_bd wd (rivL s bs P cl 0 (s.tasks.take k))
        unfold capV; omega)
      have HWs : Hid (∀ k, k < s.tasks.length → Wv (k + 1) = min (Wv k + (if (s.tasks.getD k default).prio < P then workV wd (bs.getD k 0) (s.tasks.getD k default).per (At k) else 0)) 1000000) := hidp (fun k hk => by
        rw [← HWv.out, ← HWv.out, ← HAt.out, rivL_snoc s bs P cl s.tasks k hk, workS_append]
        have := workS_bd wd (rivL s bs P cl 0 (s.tasks.take k))
        unfold capV
        split
        · have := workV_bd wd (bs.getD k 0) (s.tasks.getD k default).per (atV s k cl)
          simp only [workS]; omega
        · simp only [workS]; omega)
      have HWe : Hid (higherV s bs o cl wd = Wv s.tasks.length) := hidp (by unfold higherV; rw [if_pos (higherB_true.2 ⟨e, e2⟩), HP.out, ← HWv.out, List.take_length])
      rw [HWe.out]
      have HPr : Hid ((s.tasks.getD o default).prio = P) := hidp (by rw [← HP.out]; simp [prioOf])
      have HR := hidp hs.tasks.at_
      have Hok := hidp hs.tasks.ok
      have HBR := hidp hB.at_
      clear hs hB ho HP HWv HWe e r1 r2
      have hlen := e2
      clear e2
      obtain ⟨proto, ca, cc, cores, ha, hc, homes, ta, tc, tasks⟩ := s
      dsimp only at HR hof n6 hb HWs HPr H l3 d1 hlen Hok ⊢
      obtain ⟨g, off, hA, hcl⟩ := HR.out.resolve_left (by intro e; rw [e] at hof; simp at hof)
      subst hA
      obtain ⟨gb, ob, hBA, hbl⟩ := HBR.out.resolve_left (by intro e; rw [e] at hlen; simp at hlen; omega)
      subst hBA
      have Hcl := hidp hcl
      have Hbl := hidp hbl
      have Hown : Hid (∀ wr, Below w.heap.size w wr → wr.cell? ⟨g, off + o * 6 + 3, none⟩ = some (.int .i64 P)) := hidp (fun wr h => by
        rw [((hcl o hof).keep (Keeps.of_below h)).2.2.2.1, HPr.out])
      clear hcl HR hbl HBR hlen
      go_enter Tryz.func55, Tryz.ntmps55
      go_wp2_with fail
      refine (rthere_any _ _ _ H).mono ?_
      rintro e w2 ⟨rfl, hb2⟩
      replace hb := hb.trans (hb2.mono hb.size)
      replace sc := sc.keep (Keeps.of_below hb2)
      clear hb2
      try clear sc_0 sc_1 sc_2 sc_3
      have scx := sc
      obtain ⟨sc_0, sc_1, sc_2, sc_3⟩ := scx
      try dsimp only at sc_0 sc_1 sc_2 sc_3
      rw [Hth.out]
      go_wp2
      go_loopg [11, 12] tasks.length (fun gg a i wr => ∃ (k : Nat) (x : Int), k + gg = tasks.length ∧ i = .int .i64 k ∧ a = .int .i64 x ∧ Hid (Wv k = x) ∧ SetCells wr w.heap.size ⟨proto, ca, cc, cores, ha, hc, homes, some ⟨g, off, none⟩, tc, tasks⟩ ∧ Below w.heap.size w wr)
      case atStart => exact ⟨0, 0, by omega, rfl, rfl, hidp HW0.out, sc, hb⟩
      case round =>
        clear sc hb sc_0 sc_1 sc_2 sc_3
        obtain ⟨k, x, hk, rfl, rfl, Hx, sc, hb⟩ := hrel
        obtain ⟨sc_0, sc_1, sc_2, sc_3⟩ := id sc
        dsimp only at sc_0 sc_1 sc_2 sc_3
        have hx := HWb.out k
        rw [Hx.out] at hx
        obtain ⟨x0, x1⟩ := hx
        by_cases hlt : k < tasks.length
        · obtain ⟨t, HT⟩ : ∃ t, Hid (tasks.getD k default = t) := ⟨_, rfl⟩
          have hkb : k < bs.length := by rw [HL.out]; exact hlt
          have tcl := (HT.out ▸ Hcl.out k hlt).keep (Keeps.of_below hb)
          obtain ⟨d0, d1', d2, d3, d4, d5⟩ := tcl
          have hP := Hown.out _ hb
          obtain ⟨b, Hb⟩ : ∃ b, Hid (bs.getD k 0 = b) := ⟨_, rfl⟩
          obtain ⟨a, Ha⟩ : ∃ a, Hid (At k = a) := ⟨_, rfl⟩
          have ha2 := HAb.out k
          rw [Ha.out] at ha2
          have ib : I64 b := by rw [← Hb.out]; exact getD_i64 HB.out.wf k
          have it : I64 t.per := (Hok.out t (HT.out ▸ getD_mem hlt)).per
          have ia : I64 a := by unfold I64; omega
          obtain ⟨v, HV⟩ : ∃ v, Hid (workV wd b t.per a = v) := ⟨_, rfl⟩
          have hv := workV_bd wd b t.per a
          rw [HV.out] at hv
          obtain ⟨v0, v1⟩ := hv
          have HWk : Hid (∀ u, Calls Tryz.prog 39 #[.int .i64 wd, .int .i64 b, .int .i64 t.per, .int .i64 a] u fun e w' => e = .returned (.int .i64 v) ∧ Qt u w') := hidp (fun u => by rw [← HV.out]; exact rwork_any wd b t.per a u Hwd.out ib it ia)
          have Hs : Hid (Wv (k + 1) = min (x + (if t.prio < P then v else 0)) 1000000) := hidp (by rw [HWs.out k hlt, HT.out, Hx.out, Hb.out, Ha.out, HV.out])
          clear ib it ia ha2
          by_cases e : t.prio < P
          · have Hz : Hid (Wv (k + 1) = min (x + v) 1000000) := hidp (by rw [Hs.out, if_pos e])
            go_wp2
            go_quiet (fail)
            replace hb := below_drewN hb nq
            replace sc := sc.keep (Keeps.drewN _ nq)
            clear d0 d1' d2 d3 d4 d5 hP
            go_wp2_with fail
            refine (rat_any _ k cl _ (HS.out.keep (Keeps.of_below hb))).mono ?_
            rintro e w3 ⟨rfl, hb2⟩
            replace hb := hb.trans (hb2.mono hb.size)
            replace sc := sc.keep (Keeps.of_below hb2)
            clear hb2
            try clear sc_0 sc_1 sc_2 sc_3
            have scx := sc
            obtain ⟨sc_0, sc_1, sc_2, sc_3⟩ := scx
            try dsimp only at sc_0 sc_1 sc_2 sc_3
            rw [HAt.out, Ha.out]
            have tcl := (HT.out ▸ Hcl.out k hlt).keep (Keeps.of_below hb)
            have d1' := tcl.2.1
            have hbc := Keeps.of_below hb _ _ (Hb.out ▸ Hbl.out k hkb)
            clear tcl
            go_wp2_with fail
            go_quiet ((go_at_call 39; exact Calls.quiet_of (HWk.out _)))
            go_wp2_with fail
            go_roundg (gk - 1)
            case measure => omega
            case rel => exact ⟨k + 1, min (x + v) 1000000, by omega, by go_num, rfl, Hz, sc, below_drewN hb _⟩
          · have Hz : Hid (Wv (k + 1) = x) := hidp (by rw [Hs.out, if_neg e]; omega)
            go_wp2
            go_quiet (fail)
            go_wp2
            go_roundg (gk - 1)
            case measure => omega
            case rel => exact ⟨k + 1, x, by omega, by go_num, rfl, Hz, sc, below_drewN hb _⟩
        · obtain rfl : k = tasks.length := by omega
          go_wp2
          go_ret
          exact ⟨ret_int Hx.out.symm, hb⟩
    · have Hv : Hid (higherV s bs of cl wd = 0) := hidp (by unfold higherV; rw [if_neg (fun h => e2 (higherB_true.1 h).2)])
      have d1 : ((bs.length : Int) != (s.tasks.length : Int)) = true := by simp; omega
      clear e e2
      go_enter Tryz.func55, Tryz.ntmps55
      go_wp2_with fail
      refine (rthere_any _ _ _ H).mono ?_
      rintro e w2 ⟨rfl, hb2⟩
      replace hb := hb.trans (hb2.mono hb.size)
      replace sc := sc.keep (Keeps.of_below hb2)
      clear hb2
      try clear sc_0 sc_1 sc_2 sc_3
      have scx := sc
      obtain ⟨sc_0, sc_1, sc_2, sc_3⟩ := scx
      try dsimp only at sc_0 sc_1 sc_2 sc_3
      rw [Hth.out]
      go_wp2
      go_ret
      exact ⟨ret_int Hv.out.symm, hb⟩
  · have Hv : Hid (higherV s bs of cl wd = 0) := hidp (by unfold higherV; rw [if_neg (fun h => e (higherB_true.1 h).1)])
    have Hth : Hid (thereB s of = false) := hidp (by simpa using e)
    clear e
    go_enter Tryz.func55, Tryz.ntmps55
    go_wp2_with fail
    refine (rthere_any _ _ _ H).mono ?_
    rintro e w2 ⟨rfl, hb2⟩
    replace hb := hb.trans (hb2.mono hb.size)
    replace sc := sc.keep (Keeps.of_below hb2)
    clear hb2
    try clear sc_0 sc_1 sc_2 sc_3
    have scx := sc
    obtain ⟨sc_0, sc_1, sc_2, sc_3⟩ := scx
    try dsimp only at sc_0 sc_1 sc_2 sc_3
    rw [Hth.out]
    go_wp2
    go_ret
    exact ⟨ret_int Hv.out.symm, hb⟩
end Go.Proofs.YtindcpgmfdkpcaaGreat
