/- swingbridgeref7: task, Check, OK. -/
import Derived.Test.YtjjlpaampmpdfaaGreatDoorRef7b
import Derived.Test.YtjjlpaampmpdfaaGreatDoorSound
namespace Go.Proofs.YtjjlpaampmpdfaaGreatDoor
open Go.ChangeShapes Go.WideShapes Go.ChangeAt Go.RowKit
set_option linter.unusedVariables false

theorem taken_none {ts : List TaskR} {t : TaskR} {k : Nat} (hk : k ≤ ts.length) (h : ∀ j, j < k → likeB t (ts.getD j default) = false) : takenB (ts.take k) t = false := by
  unfold takenB
  rw [List.any_eq_false]
  intro x hx
  obtain ⟨j, hj, e⟩ := List.mem_iff_getElem.1 hx
  rw [List.length_take] at hj
  have := h j (by omega)
  rw [List.getElem_take] at e
  simp [List.getD, show j < ts.length by omega, e] at this
  simp [this]
theorem taken_some {ts : List TaskR} {t o : TaskR} {k j : Nat} (hk : k ≤ ts.length) (hj : j < k) (ho : ts.getD j default = o) (h : likeB t o = true) : takenB (ts.take k) t = true := by
  unfold takenB
  rw [List.any_eq_true]
  refine ⟨o, ?_, h⟩
  rw [← ho]
  have h1 : j < ts.length := by omega
  simp only [List.getD, List.getElem?_eq_getElem h1, Option.getD_some]
  exact List.mem_iff_getElem.2 ⟨j, by rw [List.length_take]; omega, by rw [List.getElem_take]⟩

set_option maxHeartbeats 20000000 in
set_option maxRecDepth 100000 in
theorem rtask_row (proto : Int) (ca : Option Addr) (cc : Nat) (cores : List Int) (ha : Option Addr) (hc : Nat) (homes : List Int) (g off tc : Nat) (tasks : List TaskR) (k : Nat) (w : World)
    (hs : SetOk w ⟨proto, ca, cc, cores, ha, hc, homes, some ⟨g, off, none⟩, tc, tasks⟩) (hk : k < tasks.length) :
    Calls Tryz.prog 30 #[.agg #[.int .i64 proto, .slice ca cores.length cc, .slice ha homes.length hc, .slice (some ⟨g, off, none⟩) tasks.length tc], .int .i64 k] w fun e w' => e = .returned (.int .i64 (taskE ⟨proto, ca, cc, cores, ha, hc, homes, some ⟨g, off, none⟩, tc, tasks⟩ k)) ∧ Below w.heap.size w w' := by
  have l1 : cores.length ≤ maxLen := Nat.le_trans hs.cores.sl.2.1 hs.cores.sl.2.2
  have l2 : homes.length ≤ maxLen := Nat.le_trans hs.homes.sl.2.1 hs.homes.sl.2.2
  have l3 : tasks.length ≤ maxLen := Nat.le_trans hs.tasks.sl.2.1 hs.tasks.sl.2.2
  have L2 := hidp l2
  unfold maxLen at l1 l2 l3
  obtain ⟨t, HT⟩ : ∃ t, Hid (tasks.getD k default = t) := ⟨_, rfl⟩
  have Tok := hs.tasks.ok t (HT.out ▸ getD_mem hk)
  obtain ⟨g', off', hA, hcl⟩ := hs.tasks.at_.resolve_left (by intro e; dsimp only at e; rw [e] at hk; simp at hk)
  obtain ⟨rfl, rfl⟩ : g = g' ∧ off = off' := by injection hA with hA; injection hA with h1 h2; exact ⟨h1, h2⟩
  dsimp only at hcl
  have Hcl := hidp hcl
  have hb := (Below.refl w.heap.size w).alloc (Nat.le_refl _) (.cells #[.int .i64 proto, .slice ca cores.length cc, .slice ha homes.length hc, .slice (some ⟨g, off, none⟩) tasks.length tc] 25)
  have SC := SetCells.new w ⟨proto, ca, cc, cores, ha, hc, homes, some ⟨g, off, none⟩, tc, tasks⟩ 25
  obtain ⟨nm, per, dl, prio, cl, pa, pc, parts⟩ := t
  have tcl := (HT.out ▸ hcl k hk).keep (Keeps.of_below hb)
  have hn := Tok.name
  have Hpt := hidp Tok.at_
  have lp : parts.length ≤ maxLen := Nat.le_trans Tok.sl.2.1 Tok.sl.2.2
  have Lp := hidp lp
  unfold maxLen at lp
  dsimp only at tcl hn Hpt
  obtain ⟨d0, d1, d2, d3, d4, d5⟩ := tcl
  dsimp only at d0 d1 d2 d3 d4 d5
  have so := SC
  obtain ⟨o0, o1, o2, o3⟩ := so
  dsimp only at o0 o1 o2 o3
  have tb := TaskBox.new (w.alloc (.cells #[.int .i64 proto, .slice ca cores.length cc, .slice ha homes.length hc, .slice (some ⟨g, off, none⟩) tasks.length tc] 25)) ⟨nm, per, dl, prio, cl, pa, pc, parts⟩ 41
  rw [show (w.alloc (.cells #[.int .i64 proto, .slice ca cores.length cc, .slice ha homes.length hc, .slice (some ⟨g, off, none⟩) tasks.length tc] 25)).heap.size = w.heap.size + 1 by simp] at tb
  replace SC := SC.keep (Keeps.alloc _ (.cells #[.string nm, .int .i64 per, .int .i64 dl, .int .i64 prio, .int .i64 cl, .slice pa parts.length pc] 41))
  replace hb := hb.alloc (by simp) (.cells #[.string nm, .int .i64 per, .int .i64 dl, .int .i64 prio, .int .i64 cl, .slice pa parts.length pc] 41)
  have tb2 := tb
  obtain ⟨b0, b1, b2, b3, b4, b5⟩ := tb2
  dsimp only at b0 b1 b2 b3 b4 b5
  have sc2 := SC
  obtain ⟨c0, c1, c2, c3⟩ := sc2
  dsimp only at c0 c1 c2 c3
  clear hA hcl Tok
  obtain ⟨nb, Hnb⟩ : ∃ nb, Hid (nameB nm = nb) := ⟨_, rfl⟩
  have hcase : (nameB nm = false) ∨ (nameB nm = true ∧ per < 1) ∨ (nameB nm = true ∧ 1 ≤ per ∧ 3000 < per) ∨ (nameB nm = true ∧ 1 ≤ per ∧ per ≤ 3000 ∧ dl < 1) ∨ (nameB nm = true ∧ 1 ≤ per ∧ per ≤ 3000 ∧ 1 ≤ dl ∧ per < dl) ∨
      (nameB nm = true ∧ 1 ≤ per ∧ per ≤ 3000 ∧ 1 ≤ dl ∧ dl ≤ per ∧ prio < 1) ∨ (nameB nm = true ∧ 1 ≤ per ∧ per ≤ 3000 ∧ 1 ≤ dl ∧ dl ≤ per ∧ 1 ≤ prio ∧ 1000 < prio) ∨ (nameB nm = true ∧ 1 ≤ per ∧ per ≤ 3000 ∧ 1 ≤ dl ∧ dl ≤ per ∧ 1 ≤ prio ∧ prio ≤ 1000) := by
    cases nameB nm
    · exact .inl rfl
    · simp only [true_and]; omega
  rcases hcase with n1 | ⟨n1, n2⟩ | ⟨n1, n2, n3⟩ | ⟨n1, n2, n3, n4⟩ | ⟨n1, n2, n3, n4, n5⟩ | ⟨n1, n2, n3, n4, n5, n6⟩ | ⟨n1, n2, n3, n4, n5, n6, n7⟩ | ⟨n1, n2, n3, n4, n5, n6, n7⟩
  · have p1 : formB ⟨nm, per, dl, prio, cl, pa, pc, parts⟩ = false := by unfold formB; dsimp only; rw [n1]; rfl
    have Hy : Hid (taskE ⟨proto, ca, cc, cores, ha, hc, homes, some ⟨g, off, none⟩, tc, tasks⟩ k = 10) := hidp (by unfold taskE; dsimp only; rw [HT.out, p1]; simp)
    clear p1
    go_enter Tryz.func30, Tryz.ntmps30
    go_wp2_with (first | (go_at_call 49; (with_reducible refine (rname_any _ _ hn).mono ?_); rintro e w' ⟨rfl, rfl⟩))
    go_ret
    exact ⟨ret_int Hy.out.symm, hb⟩
  · have p1 : formB ⟨nm, per, dl, prio, cl, pa, pc, parts⟩ = false := by unfold formB; dsimp only; rw [n1, show inB per 1 3000 = false from inB_false.2 (by omega)]; rfl
    have Hy : Hid (taskE ⟨proto, ca, cc, cores, ha, hc, homes, some ⟨g, off, none⟩, tc, tasks⟩ k = 10) := hidp (by unfold taskE; dsimp only; rw [HT.out, p1]; simp)
    clear p1
    go_enter Tryz.func30, Tryz.ntmps30
    go_wp2_with (first | (go_at_call 49; (with_reducible refine (rname_any _ _ hn).mono ?_); rintro e w' ⟨rfl, rfl⟩))
    go_ret
    exact ⟨ret_int Hy.out.symm, hb⟩
  · have p1 : formB ⟨nm, per, dl, prio, cl, pa, pc, parts⟩ = false := by unfold formB; dsimp only; rw [n1, show inB per 1 3000 = false from inB_false.2 (by omega)]; rfl
    have Hy : Hid (taskE ⟨proto, ca, cc, cores, ha, hc, homes, some ⟨g, off, none⟩, tc, tasks⟩ k = 10) := hidp (by unfold taskE; dsimp only; rw [HT.out, p1]; simp)
    clear p1
    go_enter Tryz.func30, Tryz.ntmps30
    go_wp2_with (first | (go_at_call 49; (with_reducible refine (rname_any _ _ hn).mono ?_); rintro e w' ⟨rfl, rfl⟩))
    go_ret
    exact ⟨ret_int Hy.out.symm, hb⟩
  · have p1 : formB ⟨nm, per, dl, prio, cl, pa, pc, parts⟩ = false := by unfold formB; dsimp only; rw [n1, show inB per 1 3000 = true from inB_true.2 (by omega), show inB dl 1 per = false from inB_false.2 (by omega)]; rfl
    have Hy : Hid (taskE ⟨proto, ca, cc, cores, ha, hc, homes, some ⟨g, off, none⟩, tc, tasks⟩ k = 10) := hidp (by unfold taskE; dsimp only; rw [HT.out, p1]; simp)
    clear p1
    go_enter Tryz.func30, Tryz.ntmps30
    go_wp2_with (first | (go_at_call 49; (with_reducible refine (rname_any _ _ hn).mono ?_); rintro e w' ⟨rfl, rfl⟩))
    go_ret
    exact ⟨ret_int Hy.out.symm, hb⟩
  · have p1 : formB ⟨nm, per, dl, prio, cl, pa, pc, parts⟩ = false := by unfold formB; dsimp only; rw [n1, show inB per 1 3000 = true from inB_true.2 (by omega), show inB dl 1 per = false from inB_false.2 (by omega)]; rfl
    have Hy : Hid (taskE ⟨proto, ca, cc, cores, ha, hc, homes, some ⟨g, off, none⟩, tc, tasks⟩ k = 10) := hidp (by unfold taskE; dsimp only; rw [HT.out, p1]; simp)
    clear p1
    go_enter Tryz.func30, Tryz.ntmps30
    go_wp2_with (first | (go_at_call 49; (with_reducible refine (rname_any _ _ hn).mono ?_); rintro e w' ⟨rfl, rfl⟩))
    go_ret
    exact ⟨ret_int Hy.out.symm, hb⟩
  · have p1 : formB ⟨nm, per, dl, prio, cl, pa, pc, parts⟩ = false := by unfold formB; dsimp only; rw [n1, show inB per 1 3000 = true from inB_true.2 (by omega), show inB dl 1 per = true from inB_true.2 (by omega), show inB prio 1 1000 = false from inB_false.2 (by omega)]; rfl
    have Hy : Hid (taskE ⟨proto, ca, cc, cores, ha, hc, homes, some ⟨g, off, none⟩, tc, tasks⟩ k = 10) := hidp (by unfold taskE; dsimp only; rw [HT.out, p1]; simp)
    clear p1
    go_enter Tryz.func30, Tryz.ntmps30
    go_wp2_with (first | (go_at_call 49; (with_reducible refine (rname_any _ _ hn).mono ?_); rintro e w' ⟨rfl, rfl⟩))
    go_ret
    exact ⟨ret_int Hy.out.symm, hb⟩
  · have p1 : formB ⟨nm, per, dl, prio, cl, pa, pc, parts⟩ = false := by unfold formB; dsimp only; rw [n1, show inB per 1 3000 = true from inB_true.2 (by omega), show inB dl 1 per = true from inB_true.2 (by omega), show inB prio 1 1000 = false from inB_false.2 (by omega)]; rfl
    have Hy : Hid (taskE ⟨proto, ca, cc, cores, ha, hc, homes, some ⟨g, off, none⟩, tc, tasks⟩ k = 10) := hidp (by unfold taskE; dsimp only; rw [HT.out, p1]; simp)
    clear p1
    go_enter Tryz.func30, Tryz.ntmps30
    go_wp2_with (first | (go_at_call 49; (with_reducible refine (rname_any _ _ hn).mono ?_); rintro e w' ⟨rfl, rfl⟩))
    go_ret
    exact ⟨ret_int Hy.out.symm, hb⟩
  · have P1 : Hid (formB ⟨nm, per, dl, prio, cl, pa, pc, parts⟩ = true) := hidp (by unfold formB; dsimp only; rw [n1, show inB per 1 3000 = true from inB_true.2 (by omega), show inB dl 1 per = true from inB_true.2 (by omega), show inB prio 1 1000 = true from inB_true.2 (by omega)]; rfl)
    have hcase : cl < 0 ∨ (0 ≤ cl ∧ (cores.length : Int) ≤ cl) ∨ (0 ≤ cl ∧ cl < (cores.length : Int)) := by omega
    rcases hcase with h | ⟨h, h2⟩ | ⟨h, h2⟩
    · have p2 : inB cl 0 ((cores.length : Int) - 1) = false := inB_false.2 (by omega)
      have Hy : Hid (taskE ⟨proto, ca, cc, cores, ha, hc, homes, some ⟨g, off, none⟩, tc, tasks⟩ k = 16) := hidp (by unfold taskE; dsimp only; rw [HT.out]; dsimp only; rw [P1.out, p2]; simp)
      clear p2
      go_enter Tryz.func30, Tryz.ntmps30
      go_wp2_with (first | (go_at_call 49; (with_reducible refine (rname_any _ _ hn).mono ?_); rintro e w' ⟨rfl, rfl⟩))
      go_ret
      exact ⟨ret_int Hy.out.symm, hb⟩
    · have p2 : inB cl 0 ((cores.length : Int) - 1) = false := inB_false.2 (by omega)
      have Hy : Hid (taskE ⟨proto, ca, cc, cores, ha, hc, homes, some ⟨g, off, none⟩, tc, tasks⟩ k = 16) := hidp (by unfold taskE; dsimp only; rw [HT.out]; dsimp only; rw [P1.out, p2]; simp)
      clear p2
      go_enter Tryz.func30, Tryz.ntmps30
      go_wp2_with (first | (go_at_call 49; (with_reducible refine (rname_any _ _ hn).mono ?_); rintro e w' ⟨rfl, rfl⟩))
      go_ret
      exact ⟨ret_int Hy.out.symm, hb⟩
    · have P2 : Hid (inB cl 0 ((cores.length : Int) - 1) = true) := hidp (inB_true.2 (by omega))
      go_enter Tryz.func30, Tryz.ntmps30
      go_wp2_with (first | (go_at_call 49; (with_reducible refine (rname_any _ _ hn).mono ?_); rintro e w' ⟨rfl, rfl⟩))
      go_loopg [6] k (fun gg i wr => ∃ j : Nat, j + gg = k ∧ i = .int .i64 j ∧ Hid (∀ m, m < j → likeB ⟨nm, per, dl, prio, cl, pa, pc, parts⟩ (tasks.getD m default) = false) ∧ SetCells wr w.heap.size ⟨proto, ca, cc, cores, ha, hc, homes, some ⟨g, off, none⟩, tc, tasks⟩ ∧ TaskBox wr (w.heap.size + 1) ⟨nm, per, dl, prio, cl, pa, pc, parts⟩ ∧ Below w.heap.size w wr)
      case atStart => exact ⟨0, by omega, rfl, hidp (by omega), SC, tb, hb⟩
      case round =>
        obtain ⟨j, hj, rfl, Ho, sc, tb, hb⟩ := hrel
        clear c0 c1 c2 c3 b0 b1 b2 b3 b4 b5 d0 d1 d2 d3 d4 d5 o0 o1 o2 o3
        have sc2 := sc
        obtain ⟨c0, c1, c2, c3⟩ := sc2
        have tb2 := tb
        obtain ⟨b0, b1, b2, b3, b4, b5⟩ := tb2
        dsimp only at c0 c1 c2 c3 b0 b1 b2 b3 b4 b5
        by_cases hlt : j < k
        · obtain ⟨o, HO⟩ : ∃ o, Hid (tasks.getD j default = o) := ⟨_, rfl⟩
          have ocl := (HO.out ▸ Hcl.out j (by omega)).keep (Keeps.of_below hb)
          obtain ⟨d0, _, _, d3, _, _⟩ := ocl
          have hjl : j < tasks.length := by omega
          have hjl2 : (j : Int) < (tasks.length : Int) := by omega
          by_cases z1 : (o.name.toList == nm.toList) = true
          · have p3 := taken_some (t := ⟨nm, per, dl, prio, cl, pa, pc, parts⟩) (Nat.le_of_lt hk) hlt HO.out (by unfold likeB; dsimp only; rw [z1]; rfl)
            have Hy : Hid (taskE ⟨proto, ca, cc, cores, ha, hc, homes, some ⟨g, off, none⟩, tc, tasks⟩ k = 17) := hidp (by unfold taskE; dsimp only; rw [HT.out]; dsimp only; rw [P1.out, P2.out, p3]; simp)
            clear p3
            go_wp2
            go_quiet (fail)
            go_wp2
            go_ret
            exact ⟨ret_int Hy.out.symm, below_drewN hb _⟩
          · have z1 : (o.name.toList == nm.toList) = false := by simpa using z1
            by_cases z2 : (o.prio == prio) = true
            · have p3 := taken_some (t := ⟨nm, per, dl, prio, cl, pa, pc, parts⟩) (Nat.le_of_lt hk) hlt HO.out (by unfold likeB; dsimp only; rw [z1, z2]; rfl)
              have Hy : Hid (taskE ⟨proto, ca, cc, cores, ha, hc, homes, some ⟨g, off, none⟩, tc, tasks⟩ k = 17) := hidp (by unfold taskE; dsimp only; rw [HT.out]; dsimp only; rw [P1.out, P2.out, p3]; simp)
              have z3 : o.prio = prio := by simpa using z2
              have Hz3 := hidp z3
              clear p3 z3
              go_wp2
              go_quiet (fail)
              go_wp2
              go_ret
              exact ⟨ret_int Hy.out.symm, below_drewN hb _⟩
            · have z2 : (o.prio == prio) = false := by simpa using z2
              have Hn : Hid (∀ m, m < j + 1 → likeB ⟨nm, per, dl, prio, cl, pa, pc, parts⟩ (tasks.getD m default) = false) := hidp (fun m hm => by
                by_cases e : m = j
                · subst e; rw [HO.out]; unfold likeB; dsimp only; rw [z1, z2]; rfl
                · exact Ho.out m (by omega))
              go_wp2
              go_quiet (fail)
              go_wp2
              go_roundg (gk - 1)
              case measure => omega
              case rel => exact ⟨j + 1, by omega, by go_num, Hn, sc.keep (Keeps.drewN _ _), tb.keep (Keeps.drewN _ _), below_drewN hb _⟩
        · obtain rfl : j = k := by omega
          have P3 : Hid (takenB (tasks.take j) ⟨nm, per, dl, prio, cl, pa, pc, parts⟩ = false) := hidp (taken_none (Nat.le_of_lt hk) Ho.out)
          have hcase : ((parts.length : Int) < 1) ∨ (1 ≤ (parts.length : Int) ∧ 6 < (parts.length : Int)) ∨ (1 ≤ (parts.length : Int) ∧ (parts.length : Int) ≤ 6) := by omega
          rcases hcase with q1 | ⟨q1, q2⟩ | ⟨q1, q2⟩
          · have p4 : partsB parts homes.length = false := by unfold partsB; rw [show inB parts.length 1 6 = false from inB_false.2 (by omega)]; rfl
            have Hy : Hid (taskE ⟨proto, ca, cc, cores, ha, hc, homes, some ⟨g, off, none⟩, tc, tasks⟩ j = 15) := hidp (by unfold taskE; dsimp only; rw [HT.out]; dsimp only; rw [P1.out, P2.out, P3.out, p4]; simp)
            clear p4
            go_wp2
            go_ret
            exact ⟨ret_int Hy.out.symm, hb⟩
          · have p4 : partsB parts homes.length = false := by unfold partsB; rw [show inB parts.length 1 6 = false from inB_false.2 (by omega)]; rfl
            have Hy : Hid (taskE ⟨proto, ca, cc, cores, ha, hc, homes, some ⟨g, off, none⟩, tc, tasks⟩ j = 15) := hidp (by unfold taskE; dsimp only; rw [HT.out]; dsimp only; rw [P1.out, P2.out, P3.out, p4]; simp)
            clear p4
            go_wp2
            go_ret
            exact ⟨ret_int Hy.out.symm, hb⟩
          · have P4 : Hid (inB parts.length 1 6 = true) := hidp (inB_true.2 (by omega))
            obtain ⟨gp, op, hP, hpl⟩ := Hpt.out.resolve_left (by intro e; rw [e] at q1; simp at q1)
            subst hP
            have Hpl := hidp hpl
            clear hpl
            go_wp2
            obtain ⟨wo, rfl⟩ : ∃ wo : World, wo = wr := ⟨_, rfl⟩
            go_loopg [7] parts.length (fun gg i wr => ∃ m : Nat, m + gg = parts.length ∧ i = .int .i64 m ∧ Hid (∀ n, n < m → partB (parts.getD n default) homes.length = true) ∧ SetCells wr w.heap.size ⟨proto, ca, cc, cores, ha, hc, homes, some ⟨g, off, none⟩, tc, tasks⟩ ∧ TaskBox wr (w.heap.size + 1) ⟨nm, per, dl, prio, cl, some ⟨gp, op, none⟩, pc, parts⟩ ∧ Below w.heap.size w wr)
            case atStart => exact ⟨0, by omega, rfl, hidp (by omega), sc, tb, hb⟩
            case round =>
              obtain ⟨m, hm, rfl, Hm, sc, tb, hb⟩ := hrel
              clear c0 c1 c2 c3 b0 b1 b2 b3 b4 b5
              have sc2 := sc
              obtain ⟨c0, c1, c2, c3⟩ := sc2
              have tb2 := tb
              obtain ⟨b0, b1, b2, b3, b4, b5⟩ := tb2
              dsimp only at c0 c1 c2 c3 b0 b1 b2 b3 b4 b5
              by_cases hml : m < parts.length
              · obtain ⟨p, HP⟩ : ∃ p, Hid (parts.getD m default = p) := ⟨_, rfl⟩
                have pcl := (HP.out ▸ Hpl.out m hml).keep (Keeps.of_below hb)
                have hml2 : (m : Int) < (parts.length : Int) := by omega
                go_wp2_with fail
                have sc := sc.keep (Keeps.drew wr)
                have tb := tb.keep (Keeps.drew wr)
                have pcl := pcl.keep (Keeps.drew wr)
                have hb := hb.drew
                by_cases z : partB p homes.length = true
                · have Hn : Hid (∀ n, n < m + 1 → partB (parts.getD n default) homes.length = true) := hidp (fun n hn => by
                    by_cases e : n = m
                    · subst e; rw [HP.out]; exact z
                    · exact Hm.out n (by omega))
                  go_region_held3 (fun w' => w'.cell? ⟨w.heap.size, 0, none⟩ = some (.int .i64 proto) ∧ w'.cell? ⟨w.heap.size, 1, none⟩ = some (.slice ca cores.length cc) ∧ w'.cell? ⟨w.heap.size, 2, none⟩ = some (.slice ha homes.length hc) ∧ w'.cell? ⟨w.heap.size, 3, none⟩ = some (.slice (some ⟨g, off, none⟩) tasks.length tc) ∧ w'.cell? ⟨w.heap.size + 1, 5, none⟩ = some (.slice (some ⟨gp, op, none⟩) parts.length pc) ∧ w'.cell? ⟨gp, op + m * 3, none⟩ = some (.int .i64 p.kind) ∧ w'.cell? ⟨gp, op + m * 3 + 1, none⟩ = some (.int .i64 p.len) ∧ w'.cell? ⟨gp, op + m * 3 + 2, none⟩ = some (.int .i64 p.res)) (exact ⟨sc.1, sc.2.1, sc.2.2.1, sc.2.2.2, tb.2.2.2.2.2, pcl⟩)
                    (first
                      | (go_at_call 50; refine (rpart_any ⟨proto, ca, cc, cores, ha, hc, homes, some ⟨g, off, none⟩, tc, tasks⟩ p _ L2.out).mono ?_; rintro e u ⟨rfl, hb2⟩; have hb := hb.trans (hb2.mono hb.size); have sc := sc.keep (Keeps.of_below hb2); have tb := tb.keep (Keeps.of_below hb2); have pcl := pcl.keep (Keeps.of_below hb2)))
                  go_wp2_with fail
                  go_roundg (gk - 1)
                  case measure => omega
                  case rel => exact ⟨m + 1, by omega, by go_num, Hn, sc, tb, hb⟩
                · have z : partB p homes.length = false := by simpa using z
                  have p4 : partsB parts homes.length = false := by unfold partsB; rw [not_all_getD hml HP.out z]; simp
                  have Hy : Hid (taskE ⟨proto, ca, cc, cores, ha, hc, homes, some ⟨g, off, none⟩, tc, tasks⟩ j = 15) := hidp (by unfold taskE; dsimp only; rw [HT.out]; dsimp only; rw [P1.out, P2.out, P3.out, p4]; simp)
                  clear p4
                  go_region_held3 (fun w' => w'.cell? ⟨w.heap.size, 0, none⟩ = some (.int .i64 proto) ∧ w'.cell? ⟨w.heap.size, 1, none⟩ = some (.slice ca cores.length cc) ∧ w'.cell? ⟨w.heap.size, 2, none⟩ = some (.slice ha homes.length hc) ∧ w'.cell? ⟨w.heap.size, 3, none⟩ = some (.slice (some ⟨g, off, none⟩) tasks.length tc) ∧ w'.cell? ⟨w.heap.size + 1, 5, none⟩ = some (.slice (some ⟨gp, op, none⟩) parts.length pc) ∧ w'.cell? ⟨gp, op + m * 3, none⟩ = some (.int .i64 p.kind) ∧ w'.cell? ⟨gp, op + m * 3 + 1, none⟩ = some (.int .i64 p.len) ∧ w'.cell? ⟨gp, op + m * 3 + 2, none⟩ = some (.int .i64 p.res)) (exact ⟨sc.1, sc.2.1, sc.2.2.1, sc.2.2.2, tb.2.2.2.2.2, pcl⟩)
                    (first
                      | (go_at_call 50; refine (rpart_any ⟨proto, ca, cc, cores, ha, hc, homes, some ⟨g, off, none⟩, tc, tasks⟩ p _ L2.out).mono ?_; rintro e u ⟨rfl, hb2⟩; have hb := hb.trans (hb2.mono hb.size); have sc := sc.keep (Keeps.of_below hb2); have tb := tb.keep (Keeps.of_below hb2); have pcl := pcl.keep (Keeps.of_below hb2)))
                  go_wp2_with fail
                  go_ret
                  exact ⟨ret_int Hy.out.symm, hb⟩
              · have p4 : partsB parts homes.length = true := by unfold partsB; rw [P4.out, all_getD (f := fun p => partB p homes.length) (fun n hn => Hm.out n (by omega))]; rfl
                have Hy : Hid (taskE ⟨proto, ca, cc, cores, ha, hc, homes, some ⟨g, off, none⟩, tc, tasks⟩ j = 0) := hidp (by unfold taskE; dsimp only; rw [HT.out]; dsimp only; rw [P1.out, P2.out, P3.out, p4]; simp)
                clear p4
                go_wp2
                go_ret
                exact ⟨ret_int Hy.out.symm, hb⟩
end Go.Proofs.YtjjlpaampmpdfaaGreatDoor
