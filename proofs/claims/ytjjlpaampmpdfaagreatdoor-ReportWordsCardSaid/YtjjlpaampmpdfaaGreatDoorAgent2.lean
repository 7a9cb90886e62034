/- agent: Lower, Higher, Part. -/
import Derived.Test.YtjjlpaampmpdfaaGreatDoorAgent1
namespace Go.Proofs.YtjjlpaampmpdfaaGreatDoor
open Go.ChangeShapes Go.WideShapes Go.ChangeAt Go.RowKit
set_option linter.unusedVariables false
set_option linter.unusedSimpArgs false

set_option maxHeartbeats 2000000 in
set_option maxRecDepth 100000 in
theorem lower_any (s : SetR) (of cl : Int) (w : World) (hs : SetOk w s) : Calls Tryz.prog 85 #[.agg #[.int .i64 s.proto, .slice s.ca s.cores.length s.cc, .slice s.ha s.homes.length s.hc, .slice s.ta s.tasks.length s.tc], .int .i64 of, .int .i64 cl] w fun e w' => e = .returned (.int .i64 (lowerV s of cl)) ∧ Below w.heap.size w w' := by
  have hb := (Below.refl w.heap.size w).alloc (Nat.le_refl _) (.cells #[.int .i64 s.proto, .slice s.ca s.cores.length s.cc, .slice s.ha s.homes.length s.hc, .slice s.ta s.tasks.length s.tc] 25)
  have sc := SetCells.new w s 25
  have HS := hidp hs
  have H := hs.keep (Keeps.of_below hb)
  by_cases e : thereB s of = true
  · obtain ⟨ho, r1, r2⟩ := thereB_true.1 e
    obtain ⟨o, rfl⟩ : ∃ o : Nat, of = o := ⟨of.toNat, by omega⟩
    have hof : o < s.tasks.length := by omega
    have hg := Good.of ho
    have n6 := hg.ntasks.2
    obtain ⟨P, HP⟩ : ∃ P, Hid (prioOf s o = P) := ⟨_, rfl⟩
    obtain ⟨Lv, HLv⟩ : ∃ Lv : Nat → Int, Hid (∀ k, lowL s P cl 0 (s.tasks.take k) = Lv k) := ⟨fun k => lowL s P cl 0 (s.tasks.take k), hidp (fun _ => rfl)⟩
    obtain ⟨Mt, HMt⟩ : ∃ Mt : Nat → Int, Hid (∀ k : Nat, mostV s k cl = Mt k) := ⟨fun k => mostV s k cl, hidp (fun _ => rfl)⟩
    have HMb : Hid (∀ k, 0 ≤ Mt k ∧ Mt k ≤ 60) := hidp (fun k => by rw [← HMt.out]; exact mostV_bd s k cl)
    have HL0 : Hid (Lv 0 = 0) := hidp (by rw [← HLv.out]; simp [lowL])
    have HLb : Hid (∀ k, 0 ≤ Lv k ∧ Lv k ≤ 60) := hidp (fun k => by rw [← HLv.out]; exact lowL_bd s P cl 0 _)
    have HLs : Hid (∀ k, k < s.tasks.length → Lv (k + 1) = max (Lv k) (if P < (s.tasks.getD k default).prio then Mt k else 0)) := hidp (fun k hk => by rw [← HLv.out, ← HLv.out, ← HMt.out]; exact lowL_snoc s P cl s.tasks k hk)
    have HLe : Hid (lowerV s o cl = Lv s.tasks.length) := hidp (by unfold lowerV; rw [if_pos e, HP.out, ← HLv.out, List.take_length])
    rw [HLe.out]
    have HPr : Hid ((s.tasks.getD o default).prio = P) := hidp (by rw [← HP.out]; simp [prioOf])
    have HR := hidp hs.tasks.at_
    have Hth := hidp e
    clear hs ho hg HP HLv HLe e r1 r2
    obtain ⟨proto, ca, cc, cores, ha, hc, homes, ta, tc, tasks⟩ := s
    dsimp only at HR hof n6 hb HLs HPr H ⊢
    obtain ⟨g, off, hA, hcl⟩ := HR.out.resolve_left (by intro e; rw [e] at hof; simp at hof)
    subst hA
    have Hcl := hidp hcl
    have Hown : Hid (∀ wr, Below w.heap.size w wr → wr.cell? ⟨g, off + o * 6 + 3, none⟩ = some (.int .i64 P)) := hidp (fun wr h => by
      rw [((hcl o hof).keep (Keeps.of_below h)).2.2.2.1, HPr.out])
    clear hcl HR
    go_enter Tryz.func85, Tryz.ntmps85
    go_wp2_with fail
    refine (there14_any _ _ _ H).mono ?_
    rintro e w2 ⟨rfl, hb2⟩
    replace hb := hb.trans (hb2.mono hb.size)
    replace sc := sc.keep (Keeps.of_below hb2)
    replace H := H.keep (Keeps.of_below hb2)
    clear hb2
    try clear sc_0 sc_1 sc_2 sc_3
    have scx := sc
    obtain ⟨sc_0, sc_1, sc_2, sc_3⟩ := scx
    try dsimp only at sc_0 sc_1 sc_2 sc_3
    rw [Hth.out]
    go_wp2
    go_loopg [7, 17] tasks.length (fun gg a i wr => ∃ (k : Nat) (x : Int), k + gg = tasks.length ∧ i = .int .i64 k ∧ a = .int .i64 x ∧ Hid (Lv k = x) ∧ SetCells wr w.heap.size ⟨proto, ca, cc, cores, ha, hc, homes, some ⟨g, off, none⟩, tc, tasks⟩ ∧ Below w.heap.size w wr)
    case atStart => exact ⟨0, 0, by omega, rfl, rfl, hidp HL0.out, sc, hb⟩
    case round =>
      obtain ⟨k, x, hk, rfl, rfl, Hx, sc', hw⟩ := hrel
      clear sc_0 sc_1 sc_2 sc_3
      have hx := HLb.out k
      rw [Hx.out] at hx
      obtain ⟨x0, x1⟩ := hx
      by_cases hlt : k < tasks.length
      · obtain ⟨t, HT⟩ : ∃ t, Hid (tasks.getD k default = t) := ⟨_, rfl⟩
        have tcl := (HT.out ▸ Hcl.out k hlt).keep (Keeps.of_below hw)
        have hw1 := hw.alloc hw.size (.cells #[.string t.name, .int .i64 t.per, .int .i64 t.dl, .int .i64 t.prio, .int .i64 t.cl, .slice t.pa t.parts.length t.pc] 41)
        have sc1 := sc'.keep (Keeps.alloc wr (.cells #[.string t.name, .int .i64 t.per, .int .i64 t.dl, .int .i64 t.prio, .int .i64 t.cl, .slice t.pa t.parts.length t.pc] 41))
        obtain ⟨sc_0, sc_1, sc_2, sc_3⟩ := id sc1
        dsimp only at sc_0 sc_1 sc_2 sc_3
        obtain ⟨d0, d1, d2, d3, d4, d5⟩ := tcl
        have tb := TaskBox.new wr t 41
        obtain ⟨b0, b1, b2, b3, b4, b5⟩ := tb
        have hP := Hown.out _ hw1
        obtain ⟨y, Hy⟩ : ∃ y, Hid (Mt k = y) := ⟨_, rfl⟩
        have hy := HMb.out k
        rw [Hy.out] at hy
        obtain ⟨y0, y1⟩ := hy
        have Hs : Hid (Lv (k + 1) = max x (if P < t.prio then y else 0)) := hidp (by rw [HLs.out k hlt, HT.out, Hx.out, Hy.out])
        by_cases e : P < t.prio
        · obtain ⟨m, hm⟩ : ∃ m, (if x < y then y else x) = m := ⟨_, rfl⟩
          have Hz : Hid (Lv (k + 1) = m) := hidp (by rw [Hs.out, if_pos e, ← hm]; split <;> omega)
          go_wp2
          go_quiet (fail)
          go_wp2_with fail
          have hw2 := below_drewN hw1 nq
          refine (most_any _ k cl _ (HS.out.keep (Keeps.of_below hw2))).mono ?_
          rintro e w3 ⟨rfl, hb3⟩
          rw [HMt.out, Hy.out]
          have sc3 := (sc1.keep (Keeps.drewN _ nq)).keep (Keeps.of_below hb3)
          have hw3 := hw2.trans (hb3.mono hw2.size)
          go_wp2_with fail
          go_roundg (gk - 1)
          case measure => omega
          case rel => exact ⟨k + 1, m, by omega, by go_num, rfl, Hz, sc3, hw3⟩
        · have Hz : Hid (Lv (k + 1) = x) := hidp (by rw [Hs.out, if_neg e]; omega)
          go_wp2
          go_quiet (fail)
          go_wp2
          go_roundg (gk - 1)
          case measure => omega
          case rel => exact ⟨k + 1, x, by omega, by go_num, rfl, Hz, sc1, below_drewN hw1 _⟩
      · obtain rfl : k = tasks.length := by omega
        go_wp2
        go_ret
        exact ⟨ret_int Hx.out.symm, hw⟩
  · have Hv : Hid (lowerV s of cl = 0) := hidp (by unfold lowerV; rw [if_neg e])
    have Hth : Hid (thereB s of = false) := hidp (by simpa using e)
    go_enter Tryz.func85, Tryz.ntmps85
    go_wp2_with fail
    refine (there14_any _ _ _ H).mono ?_
    rintro e w2 ⟨rfl, hb2⟩
    replace hb := hb.trans (hb2.mono hb.size)
    replace sc := sc.keep (Keeps.of_below hb2)
    clear hb2
    rw [Hth.out]
    go_wp2
    go_ret
    exact ⟨ret_int Hv.out.symm, hb⟩

end Go.Proofs.YtjjlpaampmpdfaaGreatDoor
