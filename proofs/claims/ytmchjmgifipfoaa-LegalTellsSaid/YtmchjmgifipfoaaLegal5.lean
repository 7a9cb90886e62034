/- legal: waits. -/
import Derived.Test.YtmchjmgifipfoaaLegal2
import Derived.Test.YtmchjmgifipfoaaOwnT
import Derived.Test.YtmchjmgifipfoaaTraceB
import Derived.Laws.MakeOwn
import Derived.Deep.CutBlock
namespace Go.Proofs.Ytmchjmgifipfoaa
open Go.ChangeShapes Go.WideShapes Go.ChangeAt Go.RowKit
set_option linter.unusedVariables false
set_option linter.unusedSimpArgs false

theorem made_rep (z : Value) (n : Nat) : madeCells #[z] n = (List.replicate n z).toArray := by
  refine Array.ext (by simp [madeCells]) (fun j h1 h2 => ?_)
  simp [madeCells, Nat.mod_one]
theorem infoBools : (Try.prog.info? 82).map (fun i => (i.zero, i.size, i.bytes)) = some (some (.slice none 0 0), 1, 24) := by kernel_rfl
theorem infoBool : (Try.prog.info? 4).map (fun i => (i.zero, i.size, i.bytes)) = some (some (.bool false), 1, 1) := by kernel_rfl
theorem make_rows (N : Nat) (hN : N ≤ 20000) (W : World) : (Instr.makeSlice 81 (.int .i64 (N : Int)) (.int .i64 (N : Int))).run Try.prog W = .ok (.slice (some ⟨W.heap.size, 0, none⟩) N N) (W.alloc (.cells (Array.replicate N (Value.slice none 0 0)) 82)) := by
  obtain ⟨i0, hi0, hy0, hy1, hy2⟩ := info_parts infoBools
  have h := run_make (P := Try.prog) (w := W) _ _ i0 _ Try.underlying81 hi0 hy0 .i64 .i64 N N (by omega) (by omega) (by rw [hy2]; omega) (by omega)
  rw [Int.toNat_natCast, hy1, Nat.mul_one] at h
  rw [h, ← List.toArray_replicate, ← made_rep]
  rfl
theorem make_bools (N : Nat) (hN : N ≤ 20000) (W : World) : (Instr.makeSlice 82 (.int .i64 (N : Int)) (.int .i64 (N : Int))).run Try.prog W = .ok (.slice (some ⟨W.heap.size, 0, none⟩) N N) (W.alloc (.cells (Array.replicate N (Value.bool false)) 4)) := by
  obtain ⟨i0, hi0, hy0, hy1, hy2⟩ := info_parts infoBool
  have h := run_make (P := Try.prog) (w := W) _ _ i0 _ Try.underlying82 hi0 hy0 .i64 .i64 N N (by omega) (by omega) (by rw [hy2]; omega) (by omega)
  rw [Int.toNat_natCast, hy1, Nat.mul_one] at h
  rw [h, ← List.toArray_replicate, ← made_rep]
  rfl
/-- the slices of the rows: those of the first m are made -/
def rowV (b tk m r : Nat) : Value := if r < m then .slice (some ⟨b + r, 0, none⟩) tk tk else .slice none 0 0
def rowsC (b tk n m : Nat) : Array Value := ((List.range n).map (rowV b tk m)).toArray
theorem rowsC_0 (b tk n : Nat) : Array.replicate n (Value.slice none 0 0) = rowsC b tk n 0 := by
  unfold rowsC
  rw [← List.toArray_replicate]
  congr 1
  refine List.ext_getElem (by simp) (fun j h1 h2 => by simp [rowV])
theorem rowsC_at (b tk n m r : Nat) (hr : r < n) : (rowsC b tk n m)[r]? = some (rowV b tk m r) := by
  unfold rowsC
  rw [List.getElem?_toArray]
  simp [hr]
theorem rowsC_put (b tk n m : Nat) (hm : m < n) : (rowsC b tk n m).setIfInBounds m (.slice (some ⟨b + m, 0, none⟩) tk tk) = rowsC b tk n (m + 1) := by
  unfold rowsC
  rw [List.setIfInBounds_toArray]
  congr 1
  refine List.ext_getElem (by simp) (fun j h1 h2 => ?_)
  simp only [List.getElem_set, List.getElem_map, List.getElem_range, rowV]
  by_cases e : m = j
  · subst e; simp
  · rw [if_neg e]
    by_cases h : j < m
    · rw [if_pos h, if_pos (by omega)]
    · rw [if_neg h, if_neg (by omega)]
theorem bools_at5 {w : World} {g : Nat} {T : TypeId} {bs : List Bool} (h : Bk w g T (bs.map Value.bool).toArray) {j : Nat} (hj : j < bs.length) : w.cell? ⟨g, j, none⟩ = some (.bool (bs.getD j false)) := by
  rw [h.cell j]; simp [hj, List.getD]
theorem bools_put5 {w : World} {g : Nat} {T : TypeId} {bs : List Bool} (h : Bk w g T (bs.map Value.bool).toArray) (j : Nat) (b : Bool) : Bk (w.setCell ⟨g, j, none⟩ (.bool b)) g T ((bs.set j b).map Value.bool).toArray := by
  have := h.put j (.bool b)
  rwa [List.setIfInBounds_toArray, ← List.map_set] at this
/-- while the rows are made -/
structure L1 (w wr : World) (s : SetR) (t : TraceR) (n tk k : Nat) : Prop where
  h : Bk wr (w.heap.size + 1 + 1) 82 (rowsC (w.heap.size + 1 + 1 + 1) tk n k)
  rows : ∀ r, r < k → Bk wr (w.heap.size + 1 + 1 + 1 + r) 4 ((List.replicate tk false).map Value.bool).toArray
  sz : wr.heap.size = w.heap.size + 1 + 1 + 1 + k
  b : Below w.heap.size w wr
  sc : SetCells wr w.heap.size s
  tb : TraceBox wr (w.heap.size + 1) t
/-- the matrix of who is held when -/
structure HM (w wr : World) (n tk : Nat) (held : List (List Bool)) : Prop where
  h : Bk wr (w.heap.size + 1 + 1) 82 (rowsC (w.heap.size + 1 + 1 + 1) tk n n)
  rows : ∀ r, r < n → Bk wr (w.heap.size + 1 + 1 + 1 + r) 4 ((held.getD r []).map Value.bool).toArray
  len : held.length = n
  lens : ∀ r, r < n → (held.getD r []).length = tk
theorem HM.turned {w wr w2 : World} {n tk : Nat} {held : List (List Bool)} (h : HM w wr n tk held) (hb : Below wr.heap.size wr w2) : HM w w2 n tk held :=
  ⟨h.h.turned (Turned.of_below hb []) (by simp), fun r hr => (h.rows r hr).turned (Turned.of_below hb []) (by simp), h.len, h.lens⟩
theorem getD_set5 {α : Type} {l : List α} {r : Nat} {x d : α} (hr : r < l.length) : (l.set r x).getD r d = x := by simp [List.getD, hr]
theorem getD_set5_ne {α : Type} {l : List α} {r q : Nat} {x d : α} (hq : q ≠ r) : (l.set r x).getD q d = l.getD q d := by simp only [List.getD_eq_getElem?_getD]; rw [List.getElem?_set_ne (Ne.symm hq)]
theorem set_self5 {l : List (List Bool)} {r : Nat} (hr : r < l.length) : l.set r (l.getD r []) = l := by
  refine List.ext_getElem (by simp) (fun j h1 h2 => ?_)
  simp only [List.getElem_set]
  by_cases e : r = j
  · subst e; rw [if_pos rfl]; simp [List.getD, h2]
  · rw [if_neg e]
theorem HM.put {w wr : World} {n tk : Nat} {held : List (List Bool)} {row : List Bool} {r : Nat} (hr : r < n) (hl : held.length = n) (h : HM w wr n tk (held.set r row)) (i : Nat) (b : Bool) : HM w (wr.setCell ⟨w.heap.size + 1 + 1 + 1 + r, i, none⟩ (.bool b)) n tk (held.set r (row.set i b)) := by
  refine ⟨h.h.far (by simp; omega) _, fun q hq => ?_, by simp; exact hl, fun q hq => ?_⟩
  · by_cases e : q = r
    · subst e
      have := h.rows q hq
      rw [getD_set5 (by omega)] at this ⊢
      exact bools_put5 this i b
    · have := h.rows q hq
      rw [getD_set5_ne e] at this ⊢
      exact this.far (by simp; omega) _
  · have := h.lens q hq
    by_cases e : q = r
    · subst e
      rw [getD_set5 (by omega)] at this ⊢
      simpa using this
    · rw [getD_set5_ne e] at this ⊢
      exact this
structure WtR (w wr : World) (s : SetR) (t : TraceR) (n tk : Nat) (held : List (List Bool)) : Prop where
  hm : HM w wr n tk held
  b : Below w.heap.size w wr
  sc : SetCells wr w.heap.size s
  tb : TraceBox wr (w.heap.size + 1) t
theorem wtNext_bad {s : SetR} {tk : Int} {st : List (List Bool)} {y : WaitM} (h : wtBad s tk y = true) : wtNext s tk st y = none := by unfold wtNext; rw [h]; rfl
theorem wtNext_busy {s : SetR} {tk : Int} {st : List (List Bool)} {y : WaitM} (h : wtBad s tk y = false) (g : freeR (st.getD (resI s y).toNat []) y.got.toNat (y.fin - y.got).toNat = false) : wtNext s tk st y = none := by unfold wtNext; rw [h, g]; rfl
theorem wtNext_ok {s : SetR} {tk : Int} {st : List (List Bool)} {y : WaitM} (h : wtBad s tk y = false) (g : freeR (st.getD (resI s y).toNat []) y.got.toNat (y.fin - y.got).toNat = true) : wtNext s tk st y = some (st.set (resI s y).toNat (setR (st.getD (resI s y).toNat []) y.got.toNat (y.fin - y.got).toNat)) := by unfold wtNext; rw [h, g]; rfl
theorem res_range {s : SetR} {y : WaitM} (hg : Good s) (h : resL s y = true) : 0 ≤ resI s y ∧ resI s y < s.homes.length := by
  unfold resL at h
  rw [Bool.and_eq_true] at h
  obtain ⟨hi, hk⟩ := h
  have e := (res_yes hi).1
  have hi2 := of_decide_eq_true hi
  have hk2 := of_decide_eq_true hk
  have h1 : s.tasks.getD y.task.toNat default ∈ s.tasks := getD_mem (by omega)
  have h2 : prtAt s y ∈ (s.tasks.getD y.task.toNat default).parts := getD_mem (by omega)
  rw [e]
  exact ((hg.parts _ h1).good _ h2).2.2.2 hk2

set_option maxHeartbeats 8000000 in
set_option maxRecDepth 100000 in
theorem lwaits_any (s : SetR) (t : TraceR) (w : World) (hs : SetOk w s) (ht : TraceOk w t) (hg : Good s) (htk : 0 ≤ t.ticks ∧ t.ticks ≤ 20000) : Calls Try.prog 35 #[.agg #[.int .i64 s.proto, .slice s.ca s.cores.length s.cc, .slice s.ha s.homes.length s.hc, .slice s.ta s.tasks.length s.tc], .agg #[.int .i64 t.ticks, .slice t.sa t.slots.length t.sc, .slice t.ja t.jobs.length t.jc, .slice t.wa t.waits.length t.wc]] w fun e w' => e = .returned (.bool (waitsB s t)) ∧ Below w.heap.size w w' := by
  have hb := ((Below.refl w.heap.size w).alloc (Nat.le_refl _) (.cells #[.int .i64 s.proto, .slice s.ca s.cores.length s.cc, .slice s.ha s.homes.length s.hc, .slice s.ta s.tasks.length s.tc] 26)).alloc (by simp) (.cells #[.int .i64 t.ticks, .slice t.sa t.slots.length t.sc, .slice t.ja t.jobs.length t.jc, .slice t.wa t.waits.length t.wc] 38)
  have sc := (SetCells.new w s 26).keep (Keeps.alloc _ (.cells #[.int .i64 t.ticks, .slice t.sa t.slots.length t.sc, .slice t.ja t.jobs.length t.jc, .slice t.wa t.waits.length t.wc] 38))
  have tb := TraceBox.new (w.alloc (.cells #[.int .i64 s.proto, .slice s.ca s.cores.length s.cc, .slice s.ha s.homes.length s.hc, .slice s.ta s.tasks.length s.tc] 26)) t 38
  have z1 : (w.alloc (.cells #[.int .i64 s.proto, .slice s.ca s.cores.length s.cc, .slice s.ha s.homes.length s.hc, .slice s.ta s.tasks.length s.tc] 26)).heap.size = w.heap.size + 1 := by simp
  have z2 : ((w.alloc (.cells #[.int .i64 s.proto, .slice s.ca s.cores.length s.cc, .slice s.ha s.homes.length s.hc, .slice s.ta s.tasks.length s.tc] 26)).alloc (.cells #[.int .i64 t.ticks, .slice t.sa t.slots.length t.sc, .slice t.ja t.jobs.length t.jc, .slice t.wa t.waits.length t.wc] 38)).heap.size = w.heap.size + 1 + 1 := by simp
  rw [z1] at tb
  have HS := hidp hs
  have HX := hidp ht.waits
  have lx : t.waits.length ≤ maxLen := Nat.le_trans ht.wsl.2.1 ht.wsl.2.2
  unfold maxLen at lx
  have HG := hidp hg
  obtain ⟨V, HV⟩ : ∃ V, Hid (waitsB s t = V) := ⟨_, hidp rfl⟩
  rw [HV.out]
  have HXw := hidp ht.wwf
  have HST : Hid (∀ (k : Nat) (st : List (List Bool)) (y : WaitM), k < t.waits.length → foldO (wtNext s t.ticks) (t.waits.take k) (wt0 s t.ticks) = some st → t.waits.getD k default = y → wtNext s t.ticks st y = none → V = false) := hidp (fun k st y hk h hy hn => by rw [← HV.out]; exact waits_stop hk h hy hn)
  have HEN : Hid (∀ (k : Nat) (st : List (List Bool)), ¬ k < t.waits.length → foldO (wtNext s t.ticks) (t.waits.take k) (wt0 s t.ticks) = some st → V = true) := hidp (fun k st hk h => by rw [← HV.out]; exact waits_end hk h)
  have HGO : Hid (∀ (k : Nat) (st st' : List (List Bool)) (y : WaitM), k < t.waits.length → foldO (wtNext s t.ticks) (t.waits.take k) (wt0 s t.ticks) = some st → t.waits.getD k default = y → wtNext s t.ticks st y = some st' → foldO (wtNext s t.ticks) (t.waits.take (k + 1)) (wt0 s t.ticks) = some st') := hidp (fun k st st' y hk h hy hn => waits_go hk h hy hn)
  have hn4 : s.homes.length ≤ 4 := hg.nhomes
  obtain ⟨T, hT⟩ : ∃ T : Nat, t.ticks = T := ⟨t.ticks.toNat, by omega⟩
  have hT2 : T ≤ 20000 := by omega
  have mk1 := make_rows s.homes.length (by omega)
  have mk2 := make_bools T hT2
  have Hz2 := hidp z2
  have HW0 : Hid (wt0 s t.ticks = List.replicate s.homes.length (List.replicate T false)) := hidp (by unfold wt0; rw [hT]; rfl)
  have HSR : Hid (L1 w (((w.alloc (.cells #[.int .i64 s.proto, .slice s.ca s.cores.length s.cc, .slice s.ha s.homes.length s.hc, .slice s.ta s.tasks.length s.tc] 26)).alloc (.cells #[.int .i64 t.ticks, .slice t.sa t.slots.length t.sc, .slice t.ja t.jobs.length t.jc, .slice t.wa t.waits.length t.wc] 38)).alloc (.cells (Array.replicate s.homes.length (Value.slice none 0 0)) 82)) s t s.homes.length T 0) := hidp
    ⟨Bk.at_ z2 (by rw [rowsC_0 (w.heap.size + 1 + 1 + 1) T s.homes.length]), fun r hr => absurd hr (by omega), by simp, hb.alloc hb.size _, sc.keep (Keeps.alloc _ _), tb.keep (Keeps.alloc _ _)⟩
  clear z1 z2 hs ht hg htk HV
  obtain ⟨tk, sa, sc', slots, ja, jc, jobs, wa, wc, ws⟩ := t
  dsimp only at hT
  subst hT
  dsimp only at hb sc tb lx HX HXw HST HEN HGO HSR HW0 ⊢
  obtain ⟨c0, c1, c2, c3⟩ := id sc
  obtain ⟨t0, t1, t2, t3⟩ := id tb
  dsimp only at t0 t1 t2 t3
  go_enter Try.func35, Try.ntmps35
  go_wp2_with fail
  go_step3
  go_wp2_with fail
  clear c0 c1 c2 c3 t0 t1 t2 t3 mk1
  go_loopg [19] s.homes.length (fun gg i wr => ∃ k : Nat, k + gg = s.homes.length ∧ i = .int .i64 k ∧ Hid (L1 w wr s ⟨T, sa, sc', slots, ja, jc, jobs, wa, wc, ws⟩ s.homes.length T k))
  case atStart => exact ⟨0, by omega, rfl, HSR⟩
  case round =>
    obtain ⟨k, hk, rfl, HR⟩ := hrel
    clear HSR
    by_cases hlt : k < s.homes.length
    · have B1 := HR.out.h.alloc (.cells (Array.replicate T (Value.bool false)) 4)
      have cK : (wr.alloc (.cells (Array.replicate T (Value.bool false)) 4)).cell? ⟨w.heap.size + 1 + 1, k, none⟩ = some (.slice none 0 0) := (B1.cell k).trans (by rw [rowsC_at _ _ _ _ _ hlt]; simp [rowV])
      have fK := B1.frozen k
      have t0 := HR.out.tb.c0
      dsimp only at t0
      have HRN : Hid (L1 w ((wr.alloc (.cells (Array.replicate T (Value.bool false)) 4)).setCell ⟨w.heap.size + 1 + 1, k, none⟩ (.slice (some ⟨wr.heap.size, 0, none⟩) T T)) s ⟨T, sa, sc', slots, ja, jc, jobs, wa, wc, ws⟩ s.homes.length T (k + 1)) := hidp (by
        obtain ⟨h, rows, sz, b, sc, tb⟩ := HR.out
        have hB := Bk.put B1 k (.slice (some ⟨wr.heap.size, 0, none⟩) T T)
        refine ⟨?_, fun r hr => ?_, by simp [sz]; omega, (b.alloc b.size _).setCell (by simp; omega) _, (sc.keep (Keeps.alloc _ _)).far _ (by simp; omega), (tb.keep (Keeps.alloc _ _)).far _ (by simp)⟩
        · rw [sz] at hB ⊢
          rw [rowsC_put _ _ _ _ hlt] at hB
          exact hB
        · by_cases e : r = k
          · subst e
            refine Bk.far (Bk.at_ sz (by rw [List.map_replicate, List.toArray_replicate])) (by simp; omega) _
          · exact ((rows r (by omega)).alloc _).far (by simp; omega) _)
      clear HR B1
      go_wp2_with fail
      go_roundg (gk - 1)
      case measure => omega
      case rel => exact ⟨k + 1, by omega, by go_num, HRN⟩
    · obtain rfl : k = s.homes.length := by omega
      have hbr := HR.out.b
      have tb3 := HR.out.tb.c3
      dsimp only at tb3
      have HW1 : Hid (WtR w wr s ⟨T, sa, sc', slots, ja, jc, jobs, wa, wc, ws⟩ s.homes.length T (List.replicate s.homes.length (List.replicate T false))) := hidp (by
        obtain ⟨h, rows, sz, b, sc, tb⟩ := HR.out
        refine ⟨⟨h, fun r hr => ?_, by simp, fun r hr => by simp [List.getD, hr]⟩, b, sc, tb⟩
        have := rows r hr
        have e : (List.replicate s.homes.length (List.replicate T false)).getD r [] = List.replicate T false := by simp [List.getD, hr]
        rw [e]; exact this)
      clear HR mk2
      go_wp2_with fail
      go_step3
      go_wp2_with fail
      clear tb3
      go_loopg [7, 32] ws.length (fun gg ok i wr => ∃ (k : Nat) (held : List (List Bool)), k + gg = ws.length ∧ ok = .bool true ∧ i = .int .i64 k ∧ Hid (foldO (wtNext s T) (ws.take k) (wt0 s T) = some held) ∧ Hid (WtR w wr s ⟨T, sa, sc', slots, ja, jc, jobs, wa, wc, ws⟩ s.homes.length T held))
      case atStart => exact ⟨0, _, by omega, rfl, rfl, hidp (by rw [List.take_zero]; exact congrArg some HW0.out), HW1⟩
      case round =>
        obtain ⟨k, held, hk, rfl, rfl, Hf, HR⟩ := hrel
        clear HW1 hbr
        by_cases hlt : k < ws.length
        · obtain ⟨g, off, hA, hd⟩ := HX.out.resolve_left (by intro e; rw [e] at hlt; simp at hlt)
          obtain ⟨y, HY⟩ : ∃ y, Hid (ws.getD k default = y) := ⟨_, rfl⟩
          have hyw := HXw.out y (HY.out ▸ getD_mem hlt)
          obtain ⟨hm, hbr, scr, tbr⟩ := HR.out
          obtain ⟨d0, d1, d2, d3, d4⟩ := (HY.out ▸ hd k hlt).keep (Keeps.of_below hbr)
          have ha := (Below.refl wr.heap.size wr).alloc (Nat.le_refl _) (.cells #[.int .i64 y.task, .int .i64 y.part, .int .i64 y.ask, .int .i64 y.got, .int .i64 y.fin] 35)
          have hm1 := hm.turned ha
          have hb1 := hbr.alloc hbr.size (.cells #[.int .i64 y.task, .int .i64 y.part, .int .i64 y.ask, .int .i64 y.got, .int .i64 y.fin] 35)
          have sc1 := scr.keep (Keeps.of_below ha)
          have tb1 := tbr.keep (Keeps.of_below ha)
          have yb1 := WaitBox.new wr y 35
          have H1 := hidp (HS.out.keep (Keeps.of_below hb1))
          have hLr := Bk.lt hm.h
          have HLr : ∀ r, r < s.homes.length → w.heap.size + 1 + 1 + 1 + r < wr.heap.size := fun r hr => Bk.lt (hm.rows r hr)
          have HLq := hidp HLr
          obtain ⟨Y, HYb⟩ : ∃ Y, Hid (wr.heap.size = Y) := ⟨_, rfl⟩
          have yb1 := HYb.out ▸ yb1
          have YL : w.heap.size + 1 + 1 < Y := by rw [← HYb.out]; exact hLr
          have HST1 := hidp (HST.out k _ y hlt Hf.out HY.out)
          have HGO1 := hidp (fun st' => HGO.out k _ st' y hlt Hf.out HY.out)
          clear hd hm hbr scr tbr hLr HLr ha HR
          subst hA
          obtain ⟨c0, c1, c2, c3⟩ := id sc1
          obtain ⟨t0, t1, t2, t3⟩ := id tb1
          dsimp only at t0 t1 t2 t3
          obtain ⟨y0, y1, y2, y3, y4⟩ := id yb1
          have hYs := HYb.out
          go_wp2_with fail
          refine (lres_any s y _ H1.out).mono ?_
          rintro e v ⟨rfl, hb2⟩
          obtain ⟨RI, HRI⟩ : ∃ v, Hid (resI s y = v) := ⟨_, hidp rfl⟩
          obtain ⟨RL, HRL⟩ : ∃ v, Hid (resL s y = v) := ⟨_, hidp rfl⟩
          rw [HRI.out, HRL.out]
          clear hYs d0 d1 d2 d3 d4 c0 c1 c2 c3 t0 t1 t2 t3 y0 y1 y2 y3 y4
          have hmv := hm1.turned hb2
          have hbv := hb1.trans (hb2.mono hb1.size)
          have scv := sc1.keep (Keeps.of_below hb2)
          have tbv := tb1.keep (Keeps.of_below hb2)
          have ybv := yb1.keep (Keeps.of_below hb2)
          clear hb2 hb1 hm1 sc1 tb1 yb1 H1
          obtain ⟨y0, y1, y2, y3, y4⟩ := id ybv
          obtain ⟨t0, t1, t2, t3⟩ := id tbv
          dsimp only at t0 t1 t2 t3
          cases RL with
          | false =>
            have hV := HST1.out (wtNext_bad (by unfold wtBad; rw [HRL.out]; rfl))
            have HVf := hidp hV
            clear hV
            go_wp2_with fail
            try rw [Exit.noGoto_ret]
            go_ret
            exact ⟨ret_bool HVf.out.symm, hbv⟩
          | true =>
            have hrr := res_range HG.out HRL.out
            cases hP : inB y.ask 0 y.got with
            | false =>
              have HP := hidp hP
              have hV := HST1.out (wtNext_bad (by unfold wtBad; rw [hP]; simp))
              have HVf := hidp hV
              clear hV hP hrr
              go_wp2_with (go_at_call 32; (with_reducible refine (lwithin_is HP.out _).mono ?_); rintro e w' ⟨rfl, rfl⟩)
              try rw [Exit.noGoto_ret]
              go_ret
              exact ⟨ret_bool HVf.out.symm, hbv⟩
            | true =>
              have HP := hidp hP
              obtain ⟨P, HPt⟩ : ∃ P, Hid (timedB T y.got y.fin = P) := ⟨_, hidp rfl⟩
              clear hP
              have Hrr := hidp hrr
              clear hrr
              go_wp2_with (go_at_call 32; (with_reducible refine (lwithin_is HP.out _).mono ?_); rintro e w' ⟨rfl, rfl⟩)
              refine (ltimed_any ⟨T, sa, sc', slots, ja, jc, jobs, some ⟨g, off, none⟩, wc, ws⟩ y.got y.fin _).mono ?_
              rintro e u ⟨rfl, hb2⟩
              dsimp only
              rw [HPt.out]
              clear y0 y1 y2 y3 y4 t0 t1 t2 t3
              have hmu := hmv.turned hb2
              have hbu := hbv.trans (hb2.mono hbv.size)
              have scu := scv.keep (Keeps.of_below hb2)
              have tbu := tbv.keep (Keeps.of_below hb2)
              have ybu := ybv.keep (Keeps.of_below hb2)
              clear hb2 hbv hmv scv tbv ybv
              cases P with
              | false =>
                have hV := HST1.out (wtNext_bad (by unfold wtBad; rw [HPt.out]; simp))
                have HVf := hidp hV
                clear hV
                go_wp2_with fail
                try rw [Exit.noGoto_ret]
                go_ret
                exact ⟨ret_bool HVf.out.symm, hbu⟩
              | true =>
                have hT := timedB_true.1 HPt.out
                have hrr := Hrr.out
                rw [HRI.out] at hrr
                have HBd : Hid (wtBad s T y = false) := hidp (by unfold wtBad; rw [HRL.out, HP.out, HPt.out]; rfl)
                obtain ⟨yk, yp, ya, yg, yf⟩ := y
                dsimp only at hT HPt HP ybu HST1 HGO1 hyw
                obtain ⟨a, rfl⟩ : ∃ a : Nat, yg = a := ⟨yg.toNat, by omega⟩
                obtain ⟨f, rfl⟩ : ∃ f : Nat, yf = f := ⟨yf.toNat, by omega⟩
                obtain ⟨r, rfl⟩ : ∃ r : Nat, RI = r := ⟨RI.toNat, by omega⟩
                have hr : r < s.homes.length := by omega
                have haf : a < f := by omega
                have hfT : f ≤ T := by omega
                clear hrr hT
                obtain ⟨row, HRow⟩ : ∃ row, Hid (held.getD r [] = row) := ⟨_, rfl⟩
                have HhL := hidp hmu.len
                have HrL : Hid (row.length = T) := hidp (by rw [← HRow.out]; exact hmu.lens r hr)
                have HBz : Hid (∀ b, freeR row a (f - a) = b → freeR (held.getD (resI s ⟨yk, yp, ya, a, f⟩).toNat []) (⟨yk, yp, ya, a, f⟩ : WaitM).got.toNat ((⟨yk, yp, ya, a, f⟩ : WaitM).fin - (⟨yk, yp, ya, a, f⟩ : WaitM).got).toNat = b) := hidp (fun b hb => by
                  rw [HRI.out]
                  simp only [Int.toNat_natCast]
                  rw [HRow.out, ← hb]
                  congr 1
                  omega)
                have HW2 : Hid (WtR w u s ⟨T, sa, sc', slots, ja, jc, jobs, some ⟨g, off, none⟩, wc, ws⟩ s.homes.length T (held.set r (setR row a (a - a)))) := hidp ⟨by
                  have e : held.set r (setR row a (a - a)) = held := by rw [Nat.sub_self, ← HRow.out]; exact set_self5 (by rw [HhL.out]; exact hr)
                  rw [e]; exact hmu, hbu, scu, tbu⟩
                have HYB := hidp ybu
                obtain ⟨y0, y1, y2, y3, y4⟩ := id ybu
                dsimp only at y0 y1 y2 y3 y4
                clear hmu hbu scu tbu ybu
                go_wp2_with fail
                go_loopg [7, 12] (f - a) (fun gg ok tm wr => ∃ i : Nat, (i - a) + gg = f - a ∧ ok = .bool true ∧ a ≤ i ∧ i ≤ f ∧ tm = .int .i64 i ∧ Hid (freeR row a (i - a) = true) ∧ Hid (WtR w wr s ⟨T, sa, sc', slots, ja, jc, jobs, some ⟨g, off, none⟩, wc, ws⟩ s.homes.length T (held.set r (setR row a (i - a)))) ∧ Hid (WaitBox wr Y ⟨yk, yp, ya, a, f⟩))
                case atStart => exact ⟨a, by omega, rfl, Nat.le_refl _, by omega, rfl, hidp (by rw [Nat.sub_self]; rfl), HW2, HYB⟩
                case round =>
                  obtain ⟨i, hi, rfl, hai, hif, rfl, HF, HR2, HYb2⟩ := hrel
                  clear y0 y1 y2 y3 y4 HW2 HYB
                  obtain ⟨y0, y1, y2, y3, y4⟩ := HYb2.out
                  dsimp only at y0 y1 y2 y3 y4
                  obtain ⟨hm, hbw, scw, tbw⟩ := HR2.out
                  by_cases hlf : i < f
                  · have hiT : i < T := by omega
                    have cH : wr.cell? ⟨w.heap.size + 1 + 1, r, none⟩ = some (.slice (some ⟨w.heap.size + 1 + 1 + 1 + r, 0, none⟩) T T) := (hm.h.cell r).trans (by rw [rowsC_at _ _ _ _ _ hr]; unfold rowV; rw [if_pos hr])
                    have hrow := hm.rows r hr
                    rw [getD_set5 (by rw [HhL.out]; exact hr)] at hrow
                    obtain ⟨bv, Hbv⟩ : ∃ b, Hid (row.getD i false = b) := ⟨_, rfl⟩
                    have cI : wr.cell? ⟨w.heap.size + 1 + 1 + 1 + r, i, none⟩ = some (.bool bv) := (bools_at5 hrow (by rw [setR_len, HrL.out]; exact hiT)).trans (by
                      rw [setR_at _ _ _ _ (by rw [HrL.out]; exact hiT), decide_eq_false (by omega), Bool.or_false, Hbv.out])
                    have fI := hrow.frozen i
                    have dr : decide (s.homes.length ≤ r) = false := by simp; omega
                    have dT : decide (T ≤ i) = false := by simp; omega
                    have eai : a + (i - a) = i := by omega
                    have Heai := hidp eai
                    clear eai hrow
                    cases bv with
                    | true =>
                      have hV := HST1.out (wtNext_busy HBd.out (HBz.out _ (freeR_no (i := i - a) (by omega) (by rw [Heai.out]; exact Hbv.out))))
                      have HVf := hidp hV
                      clear hV hm scw tbw
                      go_wp2_with fail
                      try rw [Exit.noGoto_ret]
                      go_ret
                      exact ⟨ret_bool HVf.out.symm, hbw⟩
                    | false =>
                      have Hsub : Hid (i + 1 - a = i - a + 1) := hidp (by omega)
                      have HF2 : Hid (freeR row a (i + 1 - a) = true) := hidp (by rw [Hsub.out]; unfold freeR; rw [HF.out, Heai.out, Hbv.out]; rfl)
                      have hmN := HM.put (w := w) hr HhL.out hm i true
                      have HRN : Hid (WtR w (wr.setCell ⟨w.heap.size + 1 + 1 + 1 + r, i, none⟩ (.bool true)) s ⟨T, sa, sc', slots, ja, jc, jobs, some ⟨g, off, none⟩, wc, ws⟩ s.homes.length T (held.set r (setR row a (i + 1 - a)))) := hidp ⟨by
                        rw [Hsub.out]
                        have e : setR row a (i - a + 1) = (setR row a (i - a)).set i true := by show (setR row a (i - a)).set (a + (i - a)) true = _; rw [Heai.out]
                        rw [e]; exact hmN, hbw.setCell (by simp; omega) _, scw.far _ (by simp; omega), tbw.far _ (by simp; omega)⟩
                      have hYr : Y ≠ w.heap.size + 1 + 1 + 1 + r := by have := HLq.out r hr; rw [← HYb.out]; omega
                      have HYN := hidp (WaitBox.far HYb2.out (p := ⟨w.heap.size + 1 + 1 + 1 + r, i, none⟩) (.bool true) hYr)
                      clear hm hmN scw tbw hbw hYr
                      go_wp2_with fail
                      go_roundg (gk - 1)
                      case measure => omega
                      case rel => exact ⟨i + 1, by omega, rfl, by omega, by omega, by go_num, HF2, HRN, HYN⟩
                  · obtain rfl : i = f := by omega
                    have HNx := hidp (HGO1.out _ (wtNext_ok HBd.out (HBz.out _ HF.out)))
                    have HRN : Hid (WtR w wr s ⟨T, sa, sc', slots, ja, jc, jobs, some ⟨g, off, none⟩, wc, ws⟩ s.homes.length T (held.set (resI s ⟨yk, yp, ya, a, i⟩).toNat (setR (held.getD (resI s ⟨yk, yp, ya, a, i⟩).toNat []) (⟨yk, yp, ya, a, i⟩ : WaitM).got.toNat ((⟨yk, yp, ya, a, i⟩ : WaitM).fin - (⟨yk, yp, ya, a, i⟩ : WaitM).got).toNat))) := hidp (by
                      have e : ((i : Int) - (a : Int)).toNat = i - a := by omega
                      rw [HRI.out]
                      simp only [Int.toNat_natCast, e]
                      rw [HRow.out]
                      exact HR2.out)
                    clear hm hbw scw tbw
                    go_wp2_with fail
                    go_roundg (ws.length - k - 1)
                    case measure => omega
                    case rel => exact ⟨k + 1, _, by omega, rfl, by go_num, HNx, HRN⟩
        · have hV := HEN.out k held hlt Hf.out
          have HVf := hidp hV
          have hbw := HR.out.b
          clear hV
          go_wp2_with fail
          try rw [Exit.noGoto_ret]
          go_ret
          exact ⟨ret_bool HVf.out.symm, hbw⟩
end Go.Proofs.Ytmchjmgifipfoaa
