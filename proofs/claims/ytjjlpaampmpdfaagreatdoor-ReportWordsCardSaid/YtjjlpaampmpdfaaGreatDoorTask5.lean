/- task.Check: the first error of a set, and of which task it is. -/
import Derived.Test.YtjjlpaampmpdfaaGreatDoorTask4
namespace Go.Proofs.YtjjlpaampmpdfaaGreatDoor
open Go.ChangeShapes Go.WideShapes Go.ChangeAt Go.RowKit
set_option linter.unusedVariables false

/-- what is wrong with the task at k -/
def taskE (s : SetR) (k : Nat) : Int :=
  if formB (s.tasks.getD k default) = false then 10 else
  if inB (s.tasks.getD k default).cl 0 ((s.cores.length : Int) - 1) = false then 16 else
  if takenB (s.tasks.take k) (s.tasks.getD k default) = true then 17 else
  if partsB (s.tasks.getD k default).parts s.homes.length = false then 15 else 0
def badAt (s : SetR) : Int := firstT ((List.range s.tasks.length).map fun k => taskE s k != 0)
def chkAt (s : SetR) : Int := if frameV s ≠ 0 then -1 else badAt s
def chkE (s : SetR) : Int := if frameV s ≠ 0 then frameV s else if badAt s = -1 then 0 else taskE s (badAt s).toNat
/-- a set that may be -/
def okS (s : SetR) : Bool := chkE s == 0

theorem bad_here {s : SetR} {k : Nat} (hk : k < s.tasks.length) (h : ∀ j, j < k → taskE s j = 0) (e : taskE s k ≠ 0) : badAt s = k := by
  unfold badAt
  refine firstT_at (by simpa using hk) (fun j hj => ?_) ?_
  · simp [List.getD, show j < s.tasks.length by omega, h j hj]
  · simp [List.getD, hk, e]
theorem bad_none {s : SetR} (h : ∀ j, j < s.tasks.length → taskE s j = 0) : badAt s = -1 := by
  unfold badAt
  refine firstT_none (fun j hj => ?_)
  simp at hj
  simp [List.getD, hj, h j hj]
theorem chk_here {s : SetR} {k : Nat} (hf : frameV s = 0) (hk : k < s.tasks.length) (h : ∀ j, j < k → taskE s j = 0) (e : taskE s k ≠ 0) : chkAt s = k ∧ chkE s = taskE s k := by
  have hb := bad_here hk h e
  unfold chkAt chkE
  rw [hb, if_neg (by simp [hf]), if_neg (by simp [hf]), if_neg (by omega)]
  exact ⟨rfl, by simp⟩
theorem chk_none {s : SetR} (hf : frameV s = 0) (h : ∀ j, j < s.tasks.length → taskE s j = 0) : chkAt s = -1 ∧ chkE s = 0 := by
  have hb := bad_none h
  unfold chkAt chkE
  rw [hb, if_neg (by simp [hf]), if_neg (by simp [hf]), if_pos rfl]
  exact ⟨rfl, rfl⟩
theorem frameV_ok {s : SetR} (h : frameV s = 0) : inB s.proto 1 3 = true ∧ inB s.cores.length 1 3 = true ∧ allB s.cores 1 3 = true ∧ s.homes.length ≤ 4 ∧ allB s.homes 0 ((s.cores.length : Int) - 1) = true ∧ 1 ≤ s.tasks.length ∧ s.tasks.length ≤ 6 := by
  unfold frameV at h
  by_cases h1 : inB s.proto 1 3 = false
  · rw [if_pos h1] at h; omega
  rw [if_neg h1] at h
  by_cases h2 : inB s.cores.length 1 3 = false
  · rw [if_pos h2] at h; omega
  rw [if_neg h2] at h
  by_cases h3 : allB s.cores 1 3 = false
  · rw [if_pos h3] at h; omega
  rw [if_neg h3] at h
  by_cases h4 : 4 < s.homes.length
  · rw [if_pos h4] at h; omega
  rw [if_neg h4] at h
  by_cases h5 : allB s.homes 0 ((s.cores.length : Int) - 1) = false
  · rw [if_pos h5] at h; omega
  rw [if_neg h5] at h
  by_cases h6 : 6 < s.tasks.length
  · rw [if_pos h6] at h; omega
  rw [if_neg h6] at h
  by_cases h7 : s.tasks.length = 0
  · rw [if_pos h7] at h; omega
  exact ⟨by simpa using h1, by simpa using h2, by simpa using h3, by omega, by simpa using h5, by omega, by omega⟩
theorem ret_ii {a b c d : Int} (h : a = b) (g : c = d) : Ending.returned (.tuple #[.int .i64 a, .int .i64 c]) = .returned (.tuple #[.int .i64 b, .int .i64 d]) := by rw [h, g]
theorem taken_n (a : Option Addr) (c n : Nat) (ts : List TaskR) (t : TaskR) (w : World) (hn : Hid (n = ts.length)) (h : TasksAt w a ts) (hl : ts.length ≤ maxLen) :
    Calls Tryz.prog 38 #[.slice a n c, .agg #[.string t.name, .int .i64 t.per, .int .i64 t.dl, .int .i64 t.prio, .int .i64 t.cl, .slice t.pa t.parts.length t.pc]] w fun e w' => e = .returned (.bool (takenB ts t)) ∧ Below w.heap.size w w' := by
  have e := hn.out; subst e; exact taken_any a c ts t w h hl
theorem TasksAt.take {w : World} {a : Option Addr} {ts : List TaskR} (h : TasksAt w a ts) (k : Nat) : TasksAt w a (ts.take k) := by
  rcases h with rfl | ⟨b, off, e, h⟩
  · exact .inl (by simp)
  · refine .inr ⟨b, off, e, fun i hi => ?_⟩
    rw [List.length_take] at hi
    have := h i (by omega)
    simpa [List.getD, List.getElem?_take, show i < k by omega] using this
theorem TaskCells.mk {w : World} {b off : Nat} {t : TaskR} (h0 : w.cell? ⟨b, off, none⟩ = some (.string t.name)) (h1 : w.cell? ⟨b, off + 1, none⟩ = some (.int .i64 t.per)) (h2 : w.cell? ⟨b, off + 2, none⟩ = some (.int .i64 t.dl)) (h3 : w.cell? ⟨b, off + 3, none⟩ = some (.int .i64 t.prio)) (h4 : w.cell? ⟨b, off + 4, none⟩ = some (.int .i64 t.cl)) (h5 : w.cell? ⟨b, off + 5, none⟩ = some (.slice t.pa t.parts.length t.pc)) : TaskCells w b off t := ⟨h0, h1, h2, h3, h4, h5⟩
/-- a task's box: its six cells from 0 on -/
def TaskBox (w : World) (b : Nat) (t : TaskR) : Prop :=
  w.cell? ⟨b, 0, none⟩ = some (.string t.name) ∧ w.cell? ⟨b, 1, none⟩ = some (.int .i64 t.per) ∧ w.cell? ⟨b, 2, none⟩ = some (.int .i64 t.dl) ∧
  w.cell? ⟨b, 3, none⟩ = some (.int .i64 t.prio) ∧ w.cell? ⟨b, 4, none⟩ = some (.int .i64 t.cl) ∧ w.cell? ⟨b, 5, none⟩ = some (.slice t.pa t.parts.length t.pc)
theorem TaskBox.keep {w w' : World} {b : Nat} {t : TaskR} (h : TaskBox w b t) (k : Keeps w w') : TaskBox w' b t :=
  ⟨k _ _ h.1, k _ _ h.2.1, k _ _ h.2.2.1, k _ _ h.2.2.2.1, k _ _ h.2.2.2.2.1, k _ _ h.2.2.2.2.2⟩
theorem TaskBox.new (w : World) (t : TaskR) (T : TypeId) : TaskBox (w.alloc (.cells #[.string t.name, .int .i64 t.per, .int .i64 t.dl, .int .i64 t.prio, .int .i64 t.cl, .slice t.pa t.parts.length t.pc] T)) w.heap.size t := by
  refine ⟨?_, ?_, ?_, ?_, ?_, ?_⟩ <;> simp

set_option maxHeartbeats 2000000 in
theorem check_row (proto : Int) (ca : Option Addr) (cc : Nat) (cores : List Int) (ha : Option Addr) (hc : Nat) (homes : List Int) (g off tc : Nat) (tasks : List TaskR) (w : World)
    (hs : SetOk w ⟨proto, ca, cc, cores, ha, hc, homes, some ⟨g, off, none⟩, tc, tasks⟩) (h0 : frameV ⟨proto, ca, cc, cores, ha, hc, homes, some ⟨g, off, none⟩, tc, tasks⟩ = 0) :
    Calls Tryz.prog 23 #[.agg #[.int .i64 proto, .slice ca cores.length cc, .slice ha homes.length hc, .slice (some ⟨g, off, none⟩) tasks.length tc]] w fun e w' => e = .returned (.tuple #[.int .i64 (chkAt ⟨proto, ca, cc, cores, ha, hc, homes, some ⟨g, off, none⟩, tc, tasks⟩), .int .i64 (chkE ⟨proto, ca, cc, cores, ha, hc, homes, some ⟨g, off, none⟩, tc, tasks⟩)]) ∧ Below w.heap.size w w' := by
  obtain ⟨S, HS⟩ : ∃ S, Hid (SetR.mk proto ca cc cores ha hc homes (some ⟨g, off, none⟩) tc tasks = S) := ⟨_, rfl⟩
  have e1 : Hid (S.cores = cores) := hidp (by rw [← HS.out])
  have e2 : Hid (S.homes = homes) := hidp (by rw [← HS.out])
  have e3 : Hid (S.tasks = tasks) := hidp (by rw [← HS.out])
  have l1 : cores.length ≤ maxLen := Nat.le_trans hs.cores.sl.2.1 hs.cores.sl.2.2
  have l2 : homes.length ≤ maxLen := Nat.le_trans hs.homes.sl.2.1 hs.homes.sl.2.2
  have l3 : tasks.length ≤ maxLen := Nat.le_trans hs.tasks.sl.2.1 hs.tasks.sl.2.2
  have L3 := hidp l3
  have ltc : tasks.length ≤ tc := hs.tasks.sl.2.1
  have ltm : tc ≤ maxLen := hs.tasks.sl.2.2
  unfold maxLen at ltm
  unfold maxLen at l1 l2 l3
  have CB := hidp (SetCells.new w ⟨proto, ca, cc, cores, ha, hc, homes, some ⟨g, off, none⟩, tc, tasks⟩ 25)
  have hb := ((Below.refl w.heap.size w).alloc (Nat.le_refl _) (.cells #[.int .i64 proto, .slice ca cores.length cc, .slice ha homes.length hc, .slice (some ⟨g, off, none⟩) tasks.length tc] 25))
  have Hfr := hidp (frame_any _ _ (hs.keep (Keeps.of_below hb)))
  have f0 := frameV_ok h0
  dsimp only at f0 Hfr
  have Ok := hidp hs.tasks.ok
  obtain ⟨g', off', hA, hcl⟩ := hs.tasks.at_.resolve_left (by intro e; dsimp only at e; rw [e] at f0; simp at f0)
  obtain ⟨rfl, rfl⟩ : g = g' ∧ off = off' := by injection hA with hA; injection hA with h1 h2; exact ⟨h1, h2⟩
  have At := hidp hs.tasks.at_
  dsimp only at hcl At Ok
  have Hc := hidp hcl
  clear hcl hs hA
  have H0 : Hid (frameV S = 0) := hidp (by rw [← HS.out]; exact h0)
  rw [HS.out] at h0 ⊢
  rw [HS.out] at Hfr
  rw [h0] at Hfr
  clear h0
  obtain ⟨f1, f2, f3, f4, f5, f6, f7⟩ := f0
  go_enter Tryz.func23, Tryz.ntmps23
  go_wp2
  go_step3
  go_wp2_with (first | (go_at_call 35; refine Hfr.out.mono ?_; rintro e w2 ⟨rfl, hb2⟩; replace hb := hb.trans (hb2.mono hb.size); have C2 := CB.out.keep (Keeps.of_below hb2); obtain ⟨c0, c1, c2, c3⟩ := C2; dsimp only at c0 c1 c2 c3; clear hb2))
  go_step3
  go_wp2
  --LOOP
  go_loopg [16] tasks.length (fun gg i wr => ∃ k : Nat, k + gg = tasks.length ∧ i = .int .i64 k ∧ Hid (∀ j, j < k → taskE S j = 0) ∧ SetCells wr w.heap.size ⟨proto, ca, cc, cores, ha, hc, homes, some ⟨g, off, none⟩, tc, tasks⟩ ∧ Below w.heap.size w wr)
  case atStart => exact ⟨0, by omega, rfl, hidp (by omega), SetCells.mk c0 c1 c2 c3, hb⟩
  case round =>
    obtain ⟨k, hk, rfl, Ho, sc, hb⟩ := hrel
    clear c0 c1 c2 c3
    have sc3 := sc
    obtain ⟨c0, c1, c2, c3⟩ := sc3
    dsimp only at c0 c1 c2 c3
    by_cases hlt : k < tasks.length
    · obtain ⟨t, HT⟩ : ∃ t, Hid (tasks.getD k default = t) := ⟨_, rfl⟩
      have tcl := (HT.out ▸ Hc.out k hlt).keep (Keeps.of_below hb)
      have Tok : Hid (TaskOk w t) := hidp (HT.out ▸ Ok.out _ (by simp [List.getD, hlt]))
      have Hnm := hidp Tok.out.name
      have Hpt := hidp Tok.out.at_
      have Hpl : Hid (t.parts.length ≤ maxLen) := hidp (Nat.le_trans Tok.out.sl.2.1 Tok.out.sl.2.2)
      have Hk : Hid (Hid (k = (tasks.take k).length)) := hidp (hidp (by rw [List.length_take]; omega))
      have kc : k ≤ tc := by omega
      have kc0 : (0 : Int) ≤ (k : Int) := by omega
      have kc1 : (k : Int) ≤ (tc : Int) := by omega
      have Hkl : Hid ((tasks.take k).length ≤ maxLen) := hidp (Nat.le_trans (by rw [List.length_take]; omega) L3.out)
      clear c0 c1 c2 c3
      obtain ⟨d0, d1, d2, d3, d4, d5⟩ := tcl
      have tb := TaskBox.new wr t 41
      replace sc := sc.keep (Keeps.alloc wr (.cells #[.string t.name, .int .i64 t.per, .int .i64 t.dl, .int .i64 t.prio, .int .i64 t.cl, .slice t.pa t.parts.length t.pc] 41))
      replace hb := hb.alloc hb.size (.cells #[.string t.name, .int .i64 t.per, .int .i64 t.dl, .int .i64 t.prio, .int .i64 t.cl, .slice t.pa t.parts.length t.pc] 41)
      have sc3 := sc
      obtain ⟨c0, c1, c2, c3⟩ := sc3
      dsimp only at c0 c1 c2 c3
      by_cases p1 : formB t = true
      · by_cases p2 : inB t.cl 0 ((cores.length : Int) - 1) = true
        · by_cases p3 : takenB (tasks.take k) t = true
          · skip
            have Hy : Hid (taskE S k = 17) := hidp (by unfold taskE; rw [e1.out, e2.out, e3.out, HT.out, p1, p2, p3]; simp)
            have Hz := hidp (chk_here H0.out (by rw [e3.out]; exact hlt) Ho.out (by rw [Hy.out]; decide))
            go_wp2_with (first | (go_at_call 36; (with_reducible refine (formed_any _ _ Hnm.out).mono ?_); rintro e u ⟨rfl, hb3⟩; replace hb := hb.trans (hb3.mono hb.size); replace tb := tb.keep (Keeps.of_below hb3); replace sc := sc.keep (Keeps.of_below hb3); have tb2 := tb; have sc2 := sc; obtain ⟨b0, b1, b2, b3, b4, b5⟩ := tb2; obtain ⟨c0, c1, c2, c3⟩ := sc2; dsimp only at c0 c1 c2 c3; clear hb3) | (go_at_call 37; (with_reducible refine (within_any _ _ _ _).mono ?_); rintro e w' ⟨rfl, rfl⟩) | (go_at_call 39; (with_reducible refine (parted_any _ _ _ _ _ (Hpt.out.keep (Keeps.of_below hb)) Hpl.out (by omega) (by omega)).mono ?_); rintro e u ⟨rfl, hb3⟩; replace hb := hb.trans (hb3.mono hb.size); replace tb := tb.keep (Keeps.of_below hb3); replace sc := sc.keep (Keeps.of_below hb3); have tb2 := tb; have sc2 := sc; obtain ⟨b0, b1, b2, b3, b4, b5⟩ := tb2; obtain ⟨c0, c1, c2, c3⟩ := sc2; dsimp only at c0 c1 c2 c3; clear hb3))
            replace sc := sc.keep (Keeps.drew _)
            replace tb := tb.keep (Keeps.drew _)
            replace hb := hb.drew
            go_region_held3 (fun w' => w'.cell? ⟨w.heap.size, 3, none⟩ = some (.slice (some ⟨g, off, none⟩) tasks.length tc) ∧ w'.cell? ⟨wr.heap.size, 0, none⟩ = some (.string t.name) ∧ w'.cell? ⟨wr.heap.size, 1, none⟩ = some (.int .i64 t.per) ∧ w'.cell? ⟨wr.heap.size, 2, none⟩ = some (.int .i64 t.dl) ∧ w'.cell? ⟨wr.heap.size, 3, none⟩ = some (.int .i64 t.prio) ∧ w'.cell? ⟨wr.heap.size, 4, none⟩ = some (.int .i64 t.cl) ∧ w'.cell? ⟨wr.heap.size, 5, none⟩ = some (.slice t.pa t.parts.length t.pc)) (exact ⟨sc.2.2.2, tb⟩)
              (first
                | (go_at_call 38; refine (taken_n _ _ _ _ _ _ Hk.out ((At.out.keep (Keeps.of_below hb)).take k) Hkl.out).mono ?_; rintro e u ⟨rfl, hb3⟩; replace hb := hb.trans (hb3.mono hb.size); replace tb := tb.keep (Keeps.of_below hb3); replace sc := sc.keep (Keeps.of_below hb3); have tb2 := tb; have sc2 := sc; obtain ⟨b0, b1, b2, b3, b4, b5⟩ := tb2; obtain ⟨c0, c1, c2, c3⟩ := sc2; dsimp only at c0 c1 c2 c3; clear hb3))
            go_wp2_with (first | (go_at_call 36; (with_reducible refine (formed_any _ _ Hnm.out).mono ?_); rintro e u ⟨rfl, hb3⟩; replace hb := hb.trans (hb3.mono hb.size); replace tb := tb.keep (Keeps.of_below hb3); replace sc := sc.keep (Keeps.of_below hb3); have tb2 := tb; have sc2 := sc; obtain ⟨b0, b1, b2, b3, b4, b5⟩ := tb2; obtain ⟨c0, c1, c2, c3⟩ := sc2; dsimp only at c0 c1 c2 c3; clear hb3) | (go_at_call 37; (with_reducible refine (within_any _ _ _ _).mono ?_); rintro e w' ⟨rfl, rfl⟩) | (go_at_call 39; (with_reducible refine (parted_any _ _ _ _ _ (Hpt.out.keep (Keeps.of_below hb)) Hpl.out (by omega) (by omega)).mono ?_); rintro e u ⟨rfl, hb3⟩; replace hb := hb.trans (hb3.mono hb.size); replace tb := tb.keep (Keeps.of_below hb3); replace sc := sc.keep (Keeps.of_below hb3); have tb2 := tb; have sc2 := sc; obtain ⟨b0, b1, b2, b3, b4, b5⟩ := tb2; obtain ⟨c0, c1, c2, c3⟩ := sc2; dsimp only at c0 c1 c2 c3; clear hb3))
            try rw [Exit.noGoto_ret]
            go_ret2
            exact ⟨ret_ii Hz.out.1.symm (by rw [Hz.out.2, Hy.out]), hb⟩
          · have p3 : takenB (tasks.take k) t = false := by simpa using p3
            by_cases p4 : partsB t.parts homes.length = true
            · skip
              have Hy : Hid (taskE S k = 0) := hidp (by unfold taskE; rw [e1.out, e2.out, e3.out, HT.out, p1, p2, p3, p4]; simp)
              have Hz : Hid (∀ j, j < k + 1 → taskE S j = 0) := hidp (fun j hj => by
                by_cases e : j = k
                · subst e; exact Hy.out
                · exact Ho.out j (by omega))
              go_wp2_with (first | (go_at_call 36; (with_reducible refine (formed_any _ _ Hnm.out).mono ?_); rintro e u ⟨rfl, hb3⟩; replace hb := hb.trans (hb3.mono hb.size); replace tb := tb.keep (Keeps.of_below hb3); replace sc := sc.keep (Keeps.of_below hb3); have tb2 := tb; have sc2 := sc; obtain ⟨b0, b1, b2, b3, b4, b5⟩ := tb2; obtain ⟨c0, c1, c2, c3⟩ := sc2; dsimp only at c0 c1 c2 c3; clear hb3) | (go_at_call 37; (with_reducible refine (within_any _ _ _ _).mono ?_); rintro e w' ⟨rfl, rfl⟩) | (go_at_call 39; (with_reducible refine (parted_any _ _ _ _ _ (Hpt.out.keep (Keeps.of_below hb)) Hpl.out (by omega) (by omega)).mono ?_); rintro e u ⟨rfl, hb3⟩; replace hb := hb.trans (hb3.mono hb.size); replace tb := tb.keep (Keeps.of_below hb3); replace sc := sc.keep (Keeps.of_below hb3); have tb2 := tb; have sc2 := sc; obtain ⟨b0, b1, b2, b3, b4, b5⟩ := tb2; obtain ⟨c0, c1, c2, c3⟩ := sc2; dsimp only at c0 c1 c2 c3; clear hb3))
              replace sc := sc.keep (Keeps.drew _)
              replace tb := tb.keep (Keeps.drew _)
              replace hb := hb.drew
              go_region_held3 (fun w' => w'.cell? ⟨w.heap.size, 3, none⟩ = some (.slice (some ⟨g, off, none⟩) tasks.length tc) ∧ w'.cell? ⟨wr.heap.size, 0, none⟩ = some (.string t.name) ∧ w'.cell? ⟨wr.heap.size, 1, none⟩ = some (.int .i64 t.per) ∧ w'.cell? ⟨wr.heap.size, 2, none⟩ = some (.int .i64 t.dl) ∧ w'.cell? ⟨wr.heap.size, 3, none⟩ = some (.int .i64 t.prio) ∧ w'.cell? ⟨wr.heap.size, 4, none⟩ = some (.int .i64 t.cl) ∧ w'.cell? ⟨wr.heap.size, 5, none⟩ = some (.slice t.pa t.parts.length t.pc)) (exact ⟨sc.2.2.2, tb⟩)
                (first
                  | (go_at_call 38; refine (taken_n _ _ _ _ _ _ Hk.out ((At.out.keep (Keeps.of_below hb)).take k) Hkl.out).mono ?_; rintro e u ⟨rfl, hb3⟩; replace hb := hb.trans (hb3.mono hb.size); replace tb := tb.keep (Keeps.of_below hb3); replace sc := sc.keep (Keeps.of_below hb3); have tb2 := tb; have sc2 := sc; obtain ⟨b0, b1, b2, b3, b4, b5⟩ := tb2; obtain ⟨c0, c1, c2, c3⟩ := sc2; dsimp only at c0 c1 c2 c3; clear hb3))
              go_wp2_with (first | (go_at_call 36; (with_reducible refine (formed_any _ _ Hnm.out).mono ?_); rintro e u ⟨rfl, hb3⟩; replace hb := hb.trans (hb3.mono hb.size); replace tb := tb.keep (Keeps.of_below hb3); replace sc := sc.keep (Keeps.of_below hb3); have tb2 := tb; have sc2 := sc; obtain ⟨b0, b1, b2, b3, b4, b5⟩ := tb2; obtain ⟨c0, c1, c2, c3⟩ := sc2; dsimp only at c0 c1 c2 c3; clear hb3) | (go_at_call 37; (with_reducible refine (within_any _ _ _ _).mono ?_); rintro e w' ⟨rfl, rfl⟩) | (go_at_call 39; (with_reducible refine (parted_any _ _ _ _ _ (Hpt.out.keep (Keeps.of_below hb)) Hpl.out (by omega) (by omega)).mono ?_); rintro e u ⟨rfl, hb3⟩; replace hb := hb.trans (hb3.mono hb.size); replace tb := tb.keep (Keeps.of_below hb3); replace sc := sc.keep (Keeps.of_below hb3); have tb2 := tb; have sc2 := sc; obtain ⟨b0, b1, b2, b3, b4, b5⟩ := tb2; obtain ⟨c0, c1, c2, c3⟩ := sc2; dsimp only at c0 c1 c2 c3; clear hb3))
              go_roundg (gk - 1)
              case measure => omega
              case rel => exact ⟨k + 1, by omega, by go_num, Hz, sc, hb⟩
            · have p4 : partsB t.parts homes.length = false := by simpa using p4
              have Hy : Hid (taskE S k = 15) := hidp (by unfold taskE; rw [e1.out, e2.out, e3.out, HT.out, p1, p2, p3, p4]; simp)
              have Hz := hidp (chk_here H0.out (by rw [e3.out]; exact hlt) Ho.out (by rw [Hy.out]; decide))
              go_wp2_with (first | (go_at_call 36; (with_reducible refine (formed_any _ _ Hnm.out).mono ?_); rintro e u ⟨rfl, hb3⟩; replace hb := hb.trans (hb3.mono hb.size); replace tb := tb.keep (Keeps.of_below hb3); replace sc := sc.keep (Keeps.of_below hb3); have tb2 := tb; have sc2 := sc; obtain ⟨b0, b1, b2, b3, b4, b5⟩ := tb2; obtain ⟨c0, c1, c2, c3⟩ := sc2; dsimp only at c0 c1 c2 c3; clear hb3) | (go_at_call 37; (with_reducible refine (within_any _ _ _ _).mono ?_); rintro e w' ⟨rfl, rfl⟩) | (go_at_call 39; (with_reducible refine (parted_any _ _ _ _ _ (Hpt.out.keep (Keeps.of_below hb)) Hpl.out (by omega) (by omega)).mono ?_); rintro e u ⟨rfl, hb3⟩; replace hb := hb.trans (hb3.mono hb.size); replace tb := tb.keep (Keeps.of_below hb3); replace sc := sc.keep (Keeps.of_below hb3); have tb2 := tb; have sc2 := sc; obtain ⟨b0, b1, b2, b3, b4, b5⟩ := tb2; obtain ⟨c0, c1, c2, c3⟩ := sc2; dsimp only at c0 c1 c2 c3; clear hb3))
              replace sc := sc.keep (Keeps.drew _)
              replace tb := tb.keep (Keeps.drew _)
              replace hb := hb.drew
              go_region_held3 (fun w' => w'.cell? ⟨w.heap.size, 3, none⟩ = some (.slice (some ⟨g, off, none⟩) tasks.length tc) ∧ w'.cell? ⟨wr.heap.size, 0, none⟩ = some (.string t.name) ∧ w'.cell? ⟨wr.heap.size, 1, none⟩ = some (.int .i64 t.per) ∧ w'.cell? ⟨wr.heap.size, 2, none⟩ = some (.int .i64 t.dl) ∧ w'.cell? ⟨wr.heap.size, 3, none⟩ = some (.int .i64 t.prio) ∧ w'.cell? ⟨wr.heap.size, 4, none⟩ = some (.int .i64 t.cl) ∧ w'.cell? ⟨wr.heap.size, 5, none⟩ = some (.slice t.pa t.parts.length t.pc)) (exact ⟨sc.2.2.2, tb⟩)
                (first
                  | (go_at_call 38; refine (taken_n _ _ _ _ _ _ Hk.out ((At.out.keep (Keeps.of_below hb)).take k) Hkl.out).mono ?_; rintro e u ⟨rfl, hb3⟩; replace hb := hb.trans (hb3.mono hb.size); replace tb := tb.keep (Keeps.of_below hb3); replace sc := sc.keep (Keeps.of_below hb3); have tb2 := tb; have sc2 := sc; obtain ⟨b0, b1, b2, b3, b4, b5⟩ := tb2; obtain ⟨c0, c1, c2, c3⟩ := sc2; dsimp only at c0 c1 c2 c3; clear hb3))
              go_wp2_with (first | (go_at_call 36; (with_reducible refine (formed_any _ _ Hnm.out).mono ?_); rintro e u ⟨rfl, hb3⟩; replace hb := hb.trans (hb3.mono hb.size); replace tb := tb.keep (Keeps.of_below hb3); replace sc := sc.keep (Keeps.of_below hb3); have tb2 := tb; have sc2 := sc; obtain ⟨b0, b1, b2, b3, b4, b5⟩ := tb2; obtain ⟨c0, c1, c2, c3⟩ := sc2; dsimp only at c0 c1 c2 c3; clear hb3) | (go_at_call 37; (with_reducible refine (within_any _ _ _ _).mono ?_); rintro e w' ⟨rfl, rfl⟩) | (go_at_call 39; (with_reducible refine (parted_any _ _ _ _ _ (Hpt.out.keep (Keeps.of_below hb)) Hpl.out (by omega) (by omega)).mono ?_); rintro e u ⟨rfl, hb3⟩; replace hb := hb.trans (hb3.mono hb.size); replace tb := tb.keep (Keeps.of_below hb3); replace sc := sc.keep (Keeps.of_below hb3); have tb2 := tb; have sc2 := sc; obtain ⟨b0, b1, b2, b3, b4, b5⟩ := tb2; obtain ⟨c0, c1, c2, c3⟩ := sc2; dsimp only at c0 c1 c2 c3; clear hb3))
              try rw [Exit.noGoto_ret]
              go_ret2
              exact ⟨ret_ii Hz.out.1.symm (by rw [Hz.out.2, Hy.out]), hb⟩
        · have p2 : inB t.cl 0 ((cores.length : Int) - 1) = false := by simpa using p2
          have Hy : Hid (taskE S k = 16) := hidp (by unfold taskE; rw [e1.out, e2.out, e3.out, HT.out, p1, p2]; simp)
          have Hz := hidp (chk_here H0.out (by rw [e3.out]; exact hlt) Ho.out (by rw [Hy.out]; decide))
          go_wp2_with (first | (go_at_call 36; (with_reducible refine (formed_any _ _ Hnm.out).mono ?_); rintro e u ⟨rfl, hb3⟩; replace hb := hb.trans (hb3.mono hb.size); replace tb := tb.keep (Keeps.of_below hb3); replace sc := sc.keep (Keeps.of_below hb3); have tb2 := tb; have sc2 := sc; obtain ⟨b0, b1, b2, b3, b4, b5⟩ := tb2; obtain ⟨c0, c1, c2, c3⟩ := sc2; dsimp only at c0 c1 c2 c3; clear hb3) | (go_at_call 37; (with_reducible refine (within_any _ _ _ _).mono ?_); rintro e w' ⟨rfl, rfl⟩) | (go_at_call 39; (with_reducible refine (parted_any _ _ _ _ _ (Hpt.out.keep (Keeps.of_below hb)) Hpl.out (by omega) (by omega)).mono ?_); rintro e u ⟨rfl, hb3⟩; replace hb := hb.trans (hb3.mono hb.size); replace tb := tb.keep (Keeps.of_below hb3); replace sc := sc.keep (Keeps.of_below hb3); have tb2 := tb; have sc2 := sc; obtain ⟨b0, b1, b2, b3, b4, b5⟩ := tb2; obtain ⟨c0, c1, c2, c3⟩ := sc2; dsimp only at c0 c1 c2 c3; clear hb3))
          try rw [Exit.noGoto_ret]
          go_ret2
          exact ⟨ret_ii Hz.out.1.symm (by rw [Hz.out.2, Hy.out]), hb⟩
      · have p1 : formB t = false := by simpa using p1
        have Hy : Hid (taskE S k = 10) := hidp (by unfold taskE; rw [e1.out, e2.out, e3.out, HT.out, p1]; simp)
        have Hz := hidp (chk_here H0.out (by rw [e3.out]; exact hlt) Ho.out (by rw [Hy.out]; decide))
        go_wp2_with (first | (go_at_call 36; (with_reducible refine (formed_any _ _ Hnm.out).mono ?_); rintro e u ⟨rfl, hb3⟩; replace hb := hb.trans (hb3.mono hb.size); replace tb := tb.keep (Keeps.of_below hb3); replace sc := sc.keep (Keeps.of_below hb3); have tb2 := tb; have sc2 := sc; obtain ⟨b0, b1, b2, b3, b4, b5⟩ := tb2; obtain ⟨c0, c1, c2, c3⟩ := sc2; dsimp only at c0 c1 c2 c3; clear hb3) | (go_at_call 37; (with_reducible refine (within_any _ _ _ _).mono ?_); rintro e w' ⟨rfl, rfl⟩) | (go_at_call 39; (with_reducible refine (parted_any _ _ _ _ _ (Hpt.out.keep (Keeps.of_below hb)) Hpl.out (by omega) (by omega)).mono ?_); rintro e u ⟨rfl, hb3⟩; replace hb := hb.trans (hb3.mono hb.size); replace tb := tb.keep (Keeps.of_below hb3); replace sc := sc.keep (Keeps.of_below hb3); have tb2 := tb; have sc2 := sc; obtain ⟨b0, b1, b2, b3, b4, b5⟩ := tb2; obtain ⟨c0, c1, c2, c3⟩ := sc2; dsimp only at c0 c1 c2 c3; clear hb3))
        try rw [Exit.noGoto_ret]
        go_ret2
        exact ⟨ret_ii Hz.out.1.symm (by rw [Hz.out.2, Hy.out]), hb⟩
    · have Hz := hidp (chk_none H0.out (fun j hj => Ho.out j (by rw [e3.out] at hj; omega)))
      go_wp2
      try rw [Exit.noGoto_ret]
      go_ret2
      exact ⟨ret_ii Hz.out.1.symm Hz.out.2.symm, hb⟩
theorem check_any (s : SetR) (w : World) (hs : SetOk w s) : Calls Tryz.prog 23 #[.agg #[.int .i64 s.proto, .slice s.ca s.cores.length s.cc, .slice s.ha s.homes.length s.hc, .slice s.ta s.tasks.length s.tc]] w fun e w' => e = .returned (.tuple #[.int .i64 (chkAt s), .int .i64 (chkE s)]) ∧ Below w.heap.size w w' := by
  by_cases h0 : frameV s = 0
  · have f0 := frameV_ok h0
    obtain ⟨g, off, hA, _⟩ := hs.tasks.at_.resolve_left (by intro e; rw [e] at f0; simp at f0)
    obtain ⟨proto, ca, cc, cores, ha, hc, homes, ta, tc, tasks⟩ := s
    dsimp only at hA
    subst hA
    exact check_row proto ca cc cores ha hc homes g off tc tasks w hs h0
  · have H1 : Hid (chkAt s = -1) := hidp (by unfold chkAt; rw [if_pos h0])
    have H2 : Hid (chkE s = frameV s) := hidp (by unfold chkE; rw [if_pos h0])
    have hb := ((Below.refl w.heap.size w).alloc (Nat.le_refl _) (.cells #[.int .i64 s.proto, .slice s.ca s.cores.length s.cc, .slice s.ha s.homes.length s.hc, .slice s.ta s.tasks.length s.tc] 25))
    have hfr := frame_any _ _ (hs.keep (Keeps.of_below hb))
    have h0 : (frameV s == 0) = false := by simpa using h0
    have Hfr := hidp hfr
    clear hs hfr
    go_enter Tryz.func23, Tryz.ntmps23
    go_wp2
    go_step3
    go_wp2_with (first | (go_at_call 35; refine Hfr.out.mono ?_; rintro e w2 ⟨rfl, hb2⟩; replace hb := hb.trans (hb2.mono hb.size); clear hb2))
    try rw [Exit.noGoto_ret]
    go_ret2
    exact ⟨ret_ii H1.out.symm H2.out.symm, hb⟩
end Go.Proofs.YtjjlpaampmpdfaaGreatDoor
