/- delay: moments. -/
import Derived.Test.YtmchjmgifipfoaaMomM
import Derived.Test.YtmchjmgifipfoaaOwnT
namespace Go.Proofs.Ytmchjmgifipfoaa
open Go.ChangeShapes Go.WideShapes Go.ChangeAt Go.RowKit
set_option linter.unusedVariables false
set_option linter.unusedSimpArgs false

theorem slotStep_in {s : SetR} {k : Nat} {dr df : Int} {ms : List MomM} {x : SlotM} {F T : Int} {j : Nat} (hF : fromD ⟨k, dr, df⟩ = F) (hT : toD ⟨k, dr, df⟩ = T) (h0 : x.time = F + j) (h1 : x.time < T) : slotStep s ⟨k, dr, df⟩ ms x = ms.set j ⟨(ms.getD j default).ran || (x.task == (k : Int)), (ms.getD j default).lower || lowB s x k, (ms.getD j default).holds⟩ := by
  unfold slotStep
  rw [hF, hT, if_neg (by omega)]
  have : (x.time - F).toNat = j := by omega
  rw [this]
  rfl
theorem slotStep_out {s : SetR} {d : DoneM} {ms : List MomM} {x : SlotM} {F T : Int} (hF : fromD d = F) (hT : toD d = T) (h : x.time < F ∨ T ≤ x.time) : slotStep s d ms x = ms := by
  unfold slotStep
  rw [hF, hT, if_pos h]
theorem slots_len (s : SetR) (d : DoneM) (xs : List SlotM) (ms : List MomM) : (xs.foldl (slotStep s d) ms).length = ms.length := by
  induction xs generalizing ms with
  | nil => rfl
  | cons a l ih => rw [List.foldl_cons, ih, slotStep_len]
theorem slots_snoc (s : SetR) (d : DoneM) (xs : List SlotM) (ms : List MomM) {k : Nat} (hk : k < xs.length) : (xs.take (k + 1)).foldl (slotStep s d) ms = slotStep s d ((xs.take k).foldl (slotStep s d) ms) (xs.getD k default) := by
  rw [take_snocD xs k hk, List.foldl_append]; rfl
theorem slots_holds {s : SetR} {d : DoneM} (xs : List SlotM) {ms : List MomM} {b : Int} (hb : 0 ≤ b) (hl : ms.length = (toD d - fromD d).toNat) (h : HoldsIn ms b) : HoldsIn (xs.foldl (slotStep s d) ms) b := by
  induction xs generalizing ms with
  | nil => exact h
  | cons a l ih => rw [List.foldl_cons]; exact ih (by rw [slotStep_len]; exact hl) (h.slot s d a hb hl)

theorem waitStep_out {k : Nat} {dr df : Int} {ms : List MomM} {y : WaitM} {F T G E : Int} (hF : fromD ⟨k, dr, df⟩ = F) (hT : toD ⟨k, dr, df⟩ = T) (hG : (if y.got < F then F else y.got) = G) (hE : (if T < y.fin then T else y.fin) = E) (h : y.task ≠ k ∨ E ≤ G) : waitStep ⟨k, dr, df⟩ ms y = ms := by
  unfold waitStep
  have e1 : max y.got F = G := by rw [← hG]; split <;> omega
  have e2 : min y.fin T = E := by rw [← hE]; split <;> omega
  rw [hF, hT, e1, e2, if_pos h]
theorem waitStep_in {k : Nat} {dr df : Int} {ms : List MomM} {y : WaitM} {F T G E : Int} {gi ei : Nat} (hF : fromD ⟨k, dr, df⟩ = F) (hT : toD ⟨k, dr, df⟩ = T) (hG : (if y.got < F then F else y.got) = G) (hE : (if T < y.fin then T else y.fin) = E) (h : y.task = k) (h1 : G < E) (hgi : G - F = gi) (hei : E - F = ei) : waitStep ⟨k, dr, df⟩ ms y = if E < T then addH (addH ms gi 1) ei (-1) else addH ms gi 1 := by
  unfold waitStep
  have e1 : max y.got F = G := by rw [← hG]; split <;> omega
  have e2 : min y.fin T = E := by rw [← hE]; split <;> omega
  have hn : ¬ (y.task ≠ (k : Int) ∨ E ≤ G) := by intro h'; rcases h' with h' | h'; exact h' h; omega
  rw [hF, hT, e1, e2, if_neg hn, hgi, hei]
  rfl
theorem addH_eq {ms : List MomM} {i : Nat} {z h : Int} (hh : (ms.getD i default).holds = h) : addH ms i z = ms.set i ⟨(ms.getD i default).ran, (ms.getD i default).lower, h + z⟩ := by unfold addH; rw [hh]
theorem waits_len (d : DoneM) (xs : List WaitM) (ms : List MomM) : (xs.foldl (waitStep d) ms).length = ms.length := by
  induction xs generalizing ms with
  | nil => rfl
  | cons a l ih => rw [List.foldl_cons, ih, waitStep_len]
theorem waits_snoc (d : DoneM) (xs : List WaitM) (ms : List MomM) {k : Nat} (hk : k < xs.length) : (xs.take (k + 1)).foldl (waitStep d) ms = waitStep d ((xs.take k).foldl (waitStep d) ms) (xs.getD k default) := by
  rw [take_snocD xs k hk, List.foldl_append]; rfl
theorem HoldsIn.add {ms : List MomM} {b : Int} (h : HoldsIn ms b) (i : Nat) (z : Int) (hz : -1 ≤ z ∧ z ≤ 1) : HoldsIn (addH ms i z) (b + 1) := by
  unfold addH
  by_cases hi : i < ms.length
  · have := h.at_ hi
    exact (h.mono (by omega)).set _ _ _ _ (by omega)
  · rw [List.set_eq_of_length_le (by omega)]; exact h.mono (by omega)
theorem HoldsIn.wait {ms : List MomM} {b : Int} (h : HoldsIn ms b) (d : DoneM) (y : WaitM) : HoldsIn (waitStep d ms y) (b + 2) := by
  unfold waitStep
  split
  · exact h.mono (by omega)
  · split
    · have := (h.add (max y.got (fromD d) - fromD d).toNat 1 (by omega)).add (min y.fin (toD d) - fromD d).toNat (-1) (by omega)
      exact this.mono (by omega)
    · exact (h.add _ 1 (by omega)).mono (by omega)
theorem waits_holds {d : DoneM} (xs : List WaitM) {ms : List MomM} {b : Int} (h : HoldsIn ms b) : HoldsIn (xs.foldl (waitStep d) ms) (b + 2 * xs.length) := by
  induction xs generalizing ms b with
  | nil => simpa using h
  | cons a l ih => rw [List.foldl_cons]; exact (ih (h.wait d a)).mono (by simp; omega)

set_option maxHeartbeats 4000000 in
set_option maxRecDepth 100000 in
theorem dmoments_any (s : SetR) (t : TraceR) (d : DoneM) (k : Nat) (w : World) (hs : SetOk w s) (ht : TraceOk w t) (hw : t.waits.length ≤ 1000) (hd : d.task = k) (hk : k < s.tasks.length) (hf : fromD d < toD d) : Calls Try.prog 40 #[.agg #[.int .i64 s.proto, .slice s.ca s.cores.length s.cc, .slice s.ha s.homes.length s.hc, .slice s.ta s.tasks.length s.tc], .agg #[.int .i64 t.ticks, .slice t.sa t.slots.length t.sc, .slice t.ja t.jobs.length t.jc, .slice t.wa t.waits.length t.wc], .agg #[.int .i64 d.task, .int .i64 d.rel, .int .i64 d.fin]] w fun e w' => ∃ b n : Nat, e = .returned (.slice (some ⟨b, 0, none⟩) n n) ∧ n = (momL s t d).length ∧ MBk w' b (momL s t d) ∧ Below w.heap.size w w' := by
  have hb := (((Below.refl w.heap.size w).alloc (Nat.le_refl _) (.cells #[.int .i64 s.proto, .slice s.ca s.cores.length s.cc, .slice s.ha s.homes.length s.hc, .slice s.ta s.tasks.length s.tc] 26)).alloc (by simp) (.cells #[.int .i64 t.ticks, .slice t.sa t.slots.length t.sc, .slice t.ja t.jobs.length t.jc, .slice t.wa t.waits.length t.wc] 38)).alloc (by simp; omega) (.cells #[.int .i64 d.task, .int .i64 d.rel, .int .i64 d.fin] 32)
  have sc := ((SetCells.new w s 26).keep (Keeps.alloc _ (.cells #[.int .i64 t.ticks, .slice t.sa t.slots.length t.sc, .slice t.ja t.jobs.length t.jc, .slice t.wa t.waits.length t.wc] 38))).keep (Keeps.alloc _ (.cells #[.int .i64 d.task, .int .i64 d.rel, .int .i64 d.fin] 32))
  have tb := (TraceBox.new (w.alloc (.cells #[.int .i64 s.proto, .slice s.ca s.cores.length s.cc, .slice s.ha s.homes.length s.hc, .slice s.ta s.tasks.length s.tc] 26)) t 38).keep (Keeps.alloc _ (.cells #[.int .i64 d.task, .int .i64 d.rel, .int .i64 d.fin] 32))
  have db := DoneBox.new ((w.alloc (.cells #[.int .i64 s.proto, .slice s.ca s.cores.length s.cc, .slice s.ha s.homes.length s.hc, .slice s.ta s.tasks.length s.tc] 26)).alloc (.cells #[.int .i64 t.ticks, .slice t.sa t.slots.length t.sc, .slice t.ja t.jobs.length t.jc, .slice t.wa t.waits.length t.wc] 38)) d 32
  have z1 : (w.alloc (.cells #[.int .i64 s.proto, .slice s.ca s.cores.length s.cc, .slice s.ha s.homes.length s.hc, .slice s.ta s.tasks.length s.tc] 26)).heap.size = w.heap.size + 1 := by simp
  have z2 : ((w.alloc (.cells #[.int .i64 s.proto, .slice s.ca s.cores.length s.cc, .slice s.ha s.homes.length s.hc, .slice s.ta s.tasks.length s.tc] 26)).alloc (.cells #[.int .i64 t.ticks, .slice t.sa t.slots.length t.sc, .slice t.ja t.jobs.length t.jc, .slice t.wa t.waits.length t.wc] 38)).heap.size = w.heap.size + 1 + 1 := by simp
  have z3 : (((w.alloc (.cells #[.int .i64 s.proto, .slice s.ca s.cores.length s.cc, .slice s.ha s.homes.length s.hc, .slice s.ta s.tasks.length s.tc] 26)).alloc (.cells #[.int .i64 t.ticks, .slice t.sa t.slots.length t.sc, .slice t.ja t.jobs.length t.jc, .slice t.wa t.waits.length t.wc] 38)).alloc (.cells #[.int .i64 d.task, .int .i64 d.rel, .int .i64 d.fin] 32)).heap.size = w.heap.size + 1 + 1 + 1 := by simp
  rw [z1] at tb
  rw [z2] at db
  clear z1 z2
  have Z3 := hidp z3
  clear z3
  have HS := hidp hs
  have HX := hidp ht.slots
  have HW := hidp ht.waits
  have lx : t.slots.length ≤ maxLen := Nat.le_trans ht.ssl.2.1 ht.ssl.2.2
  unfold maxLen at lx
  have HXw := hidp ht.swf
  clear hs ht
  obtain ⟨dt, dr, df⟩ := d
  obtain ⟨F, HF⟩ : ∃ v, Hid (fromD ⟨dt, dr, df⟩ = v) := ⟨_, hidp rfl⟩
  obtain ⟨T, HT⟩ : ∃ v, Hid (toD ⟨dt, dr, df⟩ = v) := ⟨_, hidp rfl⟩
  have m1 : (if dr < 0 then 0 else dr) = F := by rw [← HF.out]; unfold fromD; dsimp only; split <;> omega
  have m2 : (if 20001 < df then 20001 else df) = T := by rw [← HT.out]; unfold toD; dsimp only; split <;> omega
  have F0 : 0 ≤ F := by rw [← HF.out]; unfold fromD; dsimp only; omega
  have T0 : T ≤ 20001 := by rw [← HT.out]; unfold toD; dsimp only; omega
  rw [HF.out, HT.out] at hf
  obtain ⟨N, HN⟩ : ∃ N : Nat, Hid (T - F = N) := ⟨(T - F).toNat, hidp (by omega)⟩
  have wN : IntKind.i64.wrap (T - F) = (N : Int) := by rw [HN.out]; exact IntWalk.i64_in _ (by have := HN.out; omega)
  have dN : decide (T ≤ F) = false := by simp; omega
  have N1 : 1 ≤ N ∧ N ≤ 20001 := by have := HN.out; omega
  have HM : Hid (momL s t ⟨dt, dr, df⟩ = t.waits.foldl (waitStep ⟨dt, dr, df⟩) (t.slots.foldl (slotStep s ⟨dt, dr, df⟩) (mom0 N))) := hidp (by unfold momL; rw [HF.out, HT.out, if_neg (by omega), HN.out]; simp)
  have hmk := make_mom N N1.2
  have M0 : (mom0 N).length = N := by unfold mom0; simp
  have hML := hidp M0
  clear M0
  dsimp only at hd hb sc tb db Z3 ⊢
  subst hd
  obtain ⟨tk, sa, sc', slots, ja, jc, jobs, wa, wc, ws⟩ := t
  dsimp only at hb sc tb db Z3 HX HW HXw HM lx hw ⊢
  obtain ⟨a0, a1, a2⟩ := id db
  dsimp only at a0 a1 a2
  go_enter Try.func40, Try.ntmps40
  go_wp2_with fail
  go_step3
  go_wp2_with fail
  go_quiet (fail)
  go_wp2_with fail
  go_step3
  go_wp2_with fail
  go_loopg [33] slots.length (fun gg i wr => ∃ q : Nat, q + gg = slots.length ∧ i = .int .i64 q ∧ MBk wr (w.heap.size + 1 + 1 + 1) ((slots.take q).foldl (slotStep s ⟨k, dr, df⟩) (mom0 N)) ∧ Below w.heap.size w wr ∧ SetCells wr w.heap.size s ∧ TraceBox wr (w.heap.size + 1) ⟨tk, sa, sc', slots, ja, jc, jobs, wa, wc, ws⟩ ∧ DoneBox wr (w.heap.size + 1 + 1) ⟨k, dr, df⟩)
  case atStart => exact ⟨0, by omega, rfl, Bk.at_ Z3.out rfl, (below_drewN hb _).alloc (below_drewN hb _).size _, (sc.keep (Keeps.drewN _ _)).keep (Keeps.alloc _ _), (tb.keep (Keeps.drewN _ _)).keep (Keeps.alloc _ _), (db.keep (Keeps.drewN _ _)).keep (Keeps.alloc _ _)⟩
  case round =>
    obtain ⟨q, hq, rfl, B, hbr, scr, tbr, dbr⟩ := hrel
    have hlB := B.lt
    by_cases hlt : q < slots.length
    · obtain ⟨g, off, hA, hd⟩ := HX.out.resolve_left (by intro e; rw [e] at hlt; simp at hlt)
      obtain ⟨y, HY⟩ : ∃ y, Hid (slots.getD q default = y) := ⟨_, rfl⟩
      have hyw := HXw.out y (HY.out ▸ getD_mem hlt)
      obtain ⟨d0, d1, d2, d3⟩ := (HY.out ▸ hd q hlt).keep (Keeps.of_below hbr)
      obtain ⟨ms, HMs⟩ : ∃ ms, Hid ((slots.take q).foldl (slotStep s ⟨k, dr, df⟩) (mom0 N) = ms) := ⟨_, hidp rfl⟩
      have hmN : ms.length = N := by rw [← HMs.out, slots_len]; exact hML.out
      have Hs : Hid ((slots.take (q + 1)).foldl (slotStep s ⟨k, dr, df⟩) (mom0 N) = slotStep s ⟨k, dr, df⟩ ms y) := hidp (by rw [slots_snoc _ _ _ _ hlt, HMs.out, HY.out])
      rw [HMs.out] at B
      have B1 := B.alloc (.cells #[.int .i64 y.time, .int .i64 y.cl, .int .i64 y.task, .bool y.held] 29)
      have hb1 := hbr.alloc hbr.size (.cells #[.int .i64 y.time, .int .i64 y.cl, .int .i64 y.task, .bool y.held] 29)
      have sc1 := scr.keep (Keeps.alloc wr (.cells #[.int .i64 y.time, .int .i64 y.cl, .int .i64 y.task, .bool y.held] 29))
      have tb1 := tbr.keep (Keeps.alloc wr (.cells #[.int .i64 y.time, .int .i64 y.cl, .int .i64 y.task, .bool y.held] 29))
      have db1 := dbr.keep (Keeps.alloc wr (.cells #[.int .i64 y.time, .int .i64 y.cl, .int .i64 y.task, .bool y.held] 29))
      have yb1 := SlotBox.new wr y 29
      have hz1 : w.heap.size + 1 + 1 + 1 < wr.heap.size := hlB
      clear hd HX HXw
      subst hA
      obtain ⟨e0, e1, e2, e3⟩ := id yb1
      obtain ⟨u0, u1, u2⟩ := id db1
      dsimp only at u0 u1 u2
      by_cases h0 : y.time < F
      · have Hz : Hid ((slots.take (q + 1)).foldl (slotStep s ⟨k, dr, df⟩) (mom0 N) = ms) := hidp (by rw [Hs.out]; exact slotStep_out HF.out HT.out (.inl h0))
        have f0 : decide (y.time < F) = true := by simpa using h0
        clear Hs
        go_wp2_with fail
        go_roundg (gk - 1)
        case measure => omega
        case rel => exact ⟨q + 1, by omega, by go_num, by rw [Hz.out]; exact B1, hb1, sc1, tb1, db1⟩
      · by_cases h1 : T ≤ y.time
        · have Hz : Hid ((slots.take (q + 1)).foldl (slotStep s ⟨k, dr, df⟩) (mom0 N) = ms) := hidp (by rw [Hs.out]; exact slotStep_out HF.out HT.out (.inr h1))
          have f0 : decide (y.time < F) = false := by simpa using h0
          have f1 : decide (T ≤ y.time) = true := by simpa using h1
          clear Hs
          go_wp2_with fail
          go_roundg (gk - 1)
          case measure => omega
          case rel => exact ⟨q + 1, by omega, by go_num, by rw [Hz.out]; exact B1, hb1, sc1, tb1, db1⟩
        · obtain ⟨j, hj⟩ : ∃ j : Nat, y.time - F = j := ⟨(y.time - F).toNat, by omega⟩
          have hjN : j < ms.length := by rw [hmN]; have := HN.out; omega
          have hjN2 : j < N := by rw [← hmN]; exact hjN
          have Hz := hidp (Hs.out.trans (slotStep_in HF.out HT.out (show y.time = F + j by omega) (by omega)))
          have wj : IntKind.i64.wrap (y.time - F) = (j : Int) := by rw [hj]; exact IntWalk.i64_in _ (by omega)
          have f0 : decide (y.time < F) = false := by simpa using h0
          have f1 : decide (T ≤ y.time) = false := by simpa using h1
          have hj' := hidp hj
          obtain ⟨R, HR⟩ : ∃ R, Hid ((ms.getD j default).ran = R) := ⟨_, hidp rfl⟩
          obtain ⟨L, HL⟩ : ∃ L, Hid ((ms.getD j default).lower = L) := ⟨_, hidp rfl⟩
          obtain ⟨Ho, HHo⟩ : ∃ L, Hid ((ms.getD j default).holds = L) := ⟨_, hidp rfl⟩
          have Hz2 := Hz.out
          rw [HR.out, HL.out, HHo.out] at Hz2
          have Hz := hidp Hz2
          have q0 := B1.c0 hjN
          rw [HR.out] at q0
          have r0 := B1.frozen (j * 3)
          clear hj Hs Hz2
          cases R with
          | true =>
            cases L with
            | true =>
              have B2 := B.p0 hjN true
              rw [HL.out, HHo.out] at B2
              have hs2 : j < (ms.set j ⟨true, true, Ho⟩).length := by simp; exact hjN
              have B3 := B2.alloc (.cells #[.int .i64 y.time, .int .i64 y.cl, .int .i64 y.task, .bool y.held] 29)
              have q1 := B3.c1 hs2
              rw [getD_set_self hjN] at q1
              have r1 := B3.frozen (j * 3 + 1)
              have hb2 := hbr.setCell (show w.heap.size ≤ (⟨w.heap.size + 1 + 1 + 1, j * 3, none⟩ : Addr).block by simp; omega) (.bool true)
              have sc2 := scr.far (p := ⟨w.heap.size + 1 + 1 + 1, j * 3, none⟩) (.bool true) (by simp; omega)
              have tb2 := tbr.far (p := ⟨w.heap.size + 1 + 1 + 1, j * 3, none⟩) (.bool true) (by simp)
              have db2 := dbr.far (p := ⟨w.heap.size + 1 + 1 + 1, j * 3, none⟩) (.bool true) (by simp)
              have B4 := B2.p1 hs2 true
              rw [getD_set_self hjN, List.set_set] at B4
              go_wp2_with fail
              go_roundg (gk - 1)
              case measure => omega
              case rel => exact ⟨q + 1, by omega, by go_num, by rw [Hz.out]; exact B4.alloc _, (hb2.setCell (by simp; omega) _).alloc (by simp; have := hbr.size; omega) _, (sc2.far _ (by simp; omega)).keep (Keeps.alloc _ _), (tb2.far _ (by simp)).keep (Keeps.alloc _ _), (db2.far _ (by simp)).keep (Keeps.alloc _ _)⟩
            | false =>
              have B2 := B.p0 hjN true
              rw [HL.out, HHo.out] at B2
              have hs2 : j < (ms.set j ⟨true, false, Ho⟩).length := by simp; exact hjN
              have B3 := B2.alloc (.cells #[.int .i64 y.time, .int .i64 y.cl, .int .i64 y.task, .bool y.held] 29)
              have q1 := B3.c1 hs2
              rw [getD_set_self hjN] at q1
              have r1 := B3.frozen (j * 3 + 1)
              have hb2 := hbr.setCell (show w.heap.size ≤ (⟨w.heap.size + 1 + 1 + 1, j * 3, none⟩ : Addr).block by simp; omega) (.bool true)
              have sc2 := scr.far (p := ⟨w.heap.size + 1 + 1 + 1, j * 3, none⟩) (.bool true) (by simp; omega)
              have tb2 := tbr.far (p := ⟨w.heap.size + 1 + 1 + 1, j * 3, none⟩) (.bool true) (by simp)
              have db2 := dbr.far (p := ⟨w.heap.size + 1 + 1 + 1, j * 3, none⟩) (.bool true) (by simp)
              have yb2 := SlotBox.new (wr.setCell ⟨w.heap.size + 1 + 1 + 1, j * 3, none⟩ (.bool true)) y 29
              have hsz : (wr.setCell ⟨w.heap.size + 1 + 1 + 1, j * 3, none⟩ (.bool true)).heap.size = wr.heap.size := by simp
              rw [hsz] at yb2
              have hb3 := hb2.alloc hb2.size (.cells #[.int .i64 y.time, .int .i64 y.cl, .int .i64 y.task, .bool y.held] 29)
              have sc3 := sc2.keep (Keeps.alloc _ (.cells #[.int .i64 y.time, .int .i64 y.cl, .int .i64 y.task, .bool y.held] 29))
              have tb3 := tb2.keep (Keeps.alloc _ (.cells #[.int .i64 y.time, .int .i64 y.cl, .int .i64 y.task, .bool y.held] 29))
              have db3 := db2.keep (Keeps.alloc _ (.cells #[.int .i64 y.time, .int .i64 y.cl, .int .i64 y.task, .bool y.held] 29))
              obtain ⟨s0, s1, s2, s3⟩ := id sc3
              obtain ⟨t0, t1, t2⟩ := id db3
              obtain ⟨v0, v1, v2, v3⟩ := id yb2
              dsimp only at t0 t1 t2
              have Hs3 := hidp (HS.out.keep (Keeps.of_below hb3))
              clear B2 hb2 sc2 tb2 db2 B scr tbr dbr B1 hb1 sc1 tb1 db1 yb1
              go_wp2_with fail
              refine (dlower_any s y k _ Hs3.out hk).mono ?_
              rintro e w4 ⟨rfl, hb4⟩
              obtain ⟨V, HV⟩ : ∃ V, Hid (lowB s y k = V) := ⟨_, hidp rfl⟩
              rw [HV.out]
              have B5 := B3.below hb4
              have q5 := B5.c1 hs2
              rw [getD_set_self hjN] at q5
              have r5 := B5.frozen (j * 3 + 1)
              have B6 := B5.p1 hs2 V
              rw [getD_set_self hjN, List.set_set] at B6
              have hb5 := hb3.trans (hb4.mono hb3.size)
              have z5 := B5.lt
              have sc5 := (sc3.keep (Keeps.of_below hb4)).far (p := ⟨w.heap.size + 1 + 1 + 1, j * 3 + 1, none⟩) (.bool V) (by simp; omega)
              have tb5 := (tb3.keep (Keeps.of_below hb4)).far (p := ⟨w.heap.size + 1 + 1 + 1, j * 3 + 1, none⟩) (.bool V) (by simp)
              have db5 := (db3.keep (Keeps.of_below hb4)).far (p := ⟨w.heap.size + 1 + 1 + 1, j * 3 + 1, none⟩) (.bool V) (by simp)
              clear s0 s1 s2 s3 t0 t1 t2 v0 v1 v2 v3 q1 r1 q0 r0 yb2 B3 sc3 tb3 db3 d0 d1 d2 d3
              go_wp2_with fail
              go_roundg (gk - 1)
              case measure => omega
              case rel => exact ⟨q + 1, by omega, by go_num, by rw [Hz.out, HV.out]; exact B6, hb5.setCell (by simp; omega) _, sc5, tb5, db5⟩
          | false =>
            cases L with
            | true =>
              have B2 := B.p0 hjN (y.task == (k : Int))
              rw [HL.out, HHo.out] at B2
              have hs2 : j < (ms.set j ⟨(y.task == (k : Int)), true, Ho⟩).length := by simp; exact hjN
              have B3 := B2.alloc (.cells #[.int .i64 y.time, .int .i64 y.cl, .int .i64 y.task, .bool y.held] 29)
              have q1 := B3.c1 hs2
              rw [getD_set_self hjN] at q1
              have r1 := B3.frozen (j * 3 + 1)
              have hb2 := hbr.setCell (show w.heap.size ≤ (⟨w.heap.size + 1 + 1 + 1, j * 3, none⟩ : Addr).block by simp; omega) (.bool (y.task == (k : Int)))
              have sc2 := scr.far (p := ⟨w.heap.size + 1 + 1 + 1, j * 3, none⟩) (.bool (y.task == (k : Int))) (by simp; omega)
              have tb2 := tbr.far (p := ⟨w.heap.size + 1 + 1 + 1, j * 3, none⟩) (.bool (y.task == (k : Int))) (by simp)
              have db2 := dbr.far (p := ⟨w.heap.size + 1 + 1 + 1, j * 3, none⟩) (.bool (y.task == (k : Int))) (by simp)
              have B4 := B2.p1 hs2 true
              rw [getD_set_self hjN, List.set_set] at B4
              go_wp2_with fail
              go_roundg (gk - 1)
              case measure => omega
              case rel => exact ⟨q + 1, by omega, by go_num, by rw [Hz.out]; exact B4.alloc _, (hb2.setCell (by simp; omega) _).alloc (by simp; have := hbr.size; omega) _, (sc2.far _ (by simp; omega)).keep (Keeps.alloc _ _), (tb2.far _ (by simp)).keep (Keeps.alloc _ _), (db2.far _ (by simp)).keep (Keeps.alloc _ _)⟩
            | false =>
              have B2 := B.p0 hjN (y.task == (k : Int))
              rw [HL.out, HHo.out] at B2
              have hs2 : j < (ms.set j ⟨(y.task == (k : Int)), false, Ho⟩).length := by simp; exact hjN
              have B3 := B2.alloc (.cells #[.int .i64 y.time, .int .i64 y.cl, .int .i64 y.task, .bool y.held] 29)
              have q1 := B3.c1 hs2
              rw [getD_set_self hjN] at q1
              have r1 := B3.frozen (j * 3 + 1)
              have hb2 := hbr.setCell (show w.heap.size ≤ (⟨w.heap.size + 1 + 1 + 1, j * 3, none⟩ : Addr).block by simp; omega) (.bool (y.task == (k : Int)))
              have sc2 := scr.far (p := ⟨w.heap.size + 1 + 1 + 1, j * 3, none⟩) (.bool (y.task == (k : Int))) (by simp; omega)
              have tb2 := tbr.far (p := ⟨w.heap.size + 1 + 1 + 1, j * 3, none⟩) (.bool (y.task == (k : Int))) (by simp)
              have db2 := dbr.far (p := ⟨w.heap.size + 1 + 1 + 1, j * 3, none⟩) (.bool (y.task == (k : Int))) (by simp)
              have yb2 := SlotBox.new (wr.setCell ⟨w.heap.size + 1 + 1 + 1, j * 3, none⟩ (.bool (y.task == (k : Int)))) y 29
              have hsz : (wr.setCell ⟨w.heap.size + 1 + 1 + 1, j * 3, none⟩ (.bool (y.task == (k : Int)))).heap.size = wr.heap.size := by simp
              rw [hsz] at yb2
              have hb3 := hb2.alloc hb2.size (.cells #[.int .i64 y.time, .int .i64 y.cl, .int .i64 y.task, .bool y.held] 29)
              have sc3 := sc2.keep (Keeps.alloc _ (.cells #[.int .i64 y.time, .int .i64 y.cl, .int .i64 y.task, .bool y.held] 29))
              have tb3 := tb2.keep (Keeps.alloc _ (.cells #[.int .i64 y.time, .int .i64 y.cl, .int .i64 y.task, .bool y.held] 29))
              have db3 := db2.keep (Keeps.alloc _ (.cells #[.int .i64 y.time, .int .i64 y.cl, .int .i64 y.task, .bool y.held] 29))
              obtain ⟨s0, s1, s2, s3⟩ := id sc3
              obtain ⟨t0, t1, t2⟩ := id db3
              obtain ⟨v0, v1, v2, v3⟩ := id yb2
              dsimp only at t0 t1 t2
              have Hs3 := hidp (HS.out.keep (Keeps.of_below hb3))
              clear B2 hb2 sc2 tb2 db2 B scr tbr dbr B1 hb1 sc1 tb1 db1 yb1
              go_wp2_with fail
              refine (dlower_any s y k _ Hs3.out hk).mono ?_
              rintro e w4 ⟨rfl, hb4⟩
              obtain ⟨V, HV⟩ : ∃ V, Hid (lowB s y k = V) := ⟨_, hidp rfl⟩
              rw [HV.out]
              have B5 := B3.below hb4
              have q5 := B5.c1 hs2
              rw [getD_set_self hjN] at q5
              have r5 := B5.frozen (j * 3 + 1)
              have B6 := B5.p1 hs2 V
              rw [getD_set_self hjN, List.set_set] at B6
              have hb5 := hb3.trans (hb4.mono hb3.size)
              have z5 := B5.lt
              have sc5 := (sc3.keep (Keeps.of_below hb4)).far (p := ⟨w.heap.size + 1 + 1 + 1, j * 3 + 1, none⟩) (.bool V) (by simp; omega)
              have tb5 := (tb3.keep (Keeps.of_below hb4)).far (p := ⟨w.heap.size + 1 + 1 + 1, j * 3 + 1, none⟩) (.bool V) (by simp)
              have db5 := (db3.keep (Keeps.of_below hb4)).far (p := ⟨w.heap.size + 1 + 1 + 1, j * 3 + 1, none⟩) (.bool V) (by simp)
              clear s0 s1 s2 s3 t0 t1 t2 v0 v1 v2 v3 q1 r1 q0 r0 yb2 B3 sc3 tb3 db3 d0 d1 d2 d3
              go_wp2_with fail
              go_roundg (gk - 1)
              case measure => omega
              case rel => exact ⟨q + 1, by omega, by go_num, by rw [Hz.out, HV.out]; exact B6, hb5.setCell (by simp; omega) _, sc5, tb5, db5⟩
    · obtain ⟨ms0, HM0⟩ : ∃ ms, Hid (slots.foldl (slotStep s ⟨k, dr, df⟩) (mom0 N) = ms) := ⟨_, hidp rfl⟩
      rw [List.take_of_length_le (by omega), HM0.out] at B
      have HMv : Hid (momL s ⟨tk, sa, sc', slots, ja, jc, jobs, wa, wc, ws⟩ ⟨k, dr, df⟩ = ws.foldl (waitStep ⟨k, dr, df⟩) ms0) := hidp (by rw [HM.out, HM0.out])
      have hm0 : ms0.length = N := by rw [← HM0.out, slots_len]; exact hML.out
      have Hm0 := hidp hm0
      have Hh0 : Hid (HoldsIn ms0 0) := hidp (by rw [← HM0.out]; exact slots_holds slots (Int.le_refl 0) (by rw [hML.out, HF.out, HT.out, HN.out]; simp) (mom0_holds N))
      have tb3 := tbr.c3
      dsimp only at tb3
      clear HM HM0 hm0 hML HX HXw
      go_wp2_with fail
      go_step3
      go_wp2_with fail
      clear hlt hq
      go_loopg [85] ws.length (fun gg i wr => ∃ q : Nat, q + gg = ws.length ∧ i = .int .i64 q ∧ MBk wr (w.heap.size + 1 + 1 + 1) ((ws.take q).foldl (waitStep ⟨k, dr, df⟩) ms0) ∧ Below w.heap.size w wr ∧ DoneBox wr (w.heap.size + 1 + 1) ⟨k, dr, df⟩)
      case atStart => exact ⟨0, by omega, rfl, B, hbr, dbr⟩
      case round =>
        clear B hbr dbr scr tbr tb3 hlB
        obtain ⟨q, hq, rfl, B, hbr, dbr⟩ := hrel
        have hlB := B.lt
        by_cases hlt : q < ws.length
        · obtain ⟨g, off, hA, hd⟩ := HW.out.resolve_left (by intro e; rw [e] at hlt; simp at hlt)
          obtain ⟨y, HY⟩ : ∃ y, Hid (ws.getD q default = y) := ⟨_, rfl⟩
          obtain ⟨d0, d1, d2, d3, d4⟩ := (HY.out ▸ hd q hlt).keep (Keeps.of_below hbr)
          obtain ⟨ms, HMs⟩ : ∃ ms, Hid ((ws.take q).foldl (waitStep ⟨k, dr, df⟩) ms0 = ms) := ⟨_, hidp rfl⟩
          have hmN : ms.length = N := by rw [← HMs.out, waits_len]; exact Hm0.out
          have Hh : Hid (HoldsIn ms 2000) := hidp (by rw [← HMs.out]; refine (waits_holds (d := ⟨k, dr, df⟩) (ws.take q) Hh0.out).mono ?_; rw [List.length_take]; omega)
          have Hs : Hid ((ws.take (q + 1)).foldl (waitStep ⟨k, dr, df⟩) ms0 = waitStep ⟨k, dr, df⟩ ms y) := hidp (by rw [waits_snoc _ _ _ hlt, HMs.out, HY.out])
          rw [HMs.out] at B
          have B1 := B.alloc (.cells #[.int .i64 y.task, .int .i64 y.part, .int .i64 y.ask, .int .i64 y.got, .int .i64 y.fin] 35)
          have hb1 := hbr.alloc hbr.size (.cells #[.int .i64 y.task, .int .i64 y.part, .int .i64 y.ask, .int .i64 y.got, .int .i64 y.fin] 35)
          have db1 := dbr.keep (Keeps.alloc wr (.cells #[.int .i64 y.task, .int .i64 y.part, .int .i64 y.ask, .int .i64 y.got, .int .i64 y.fin] 35))
          have yb1 := WaitBox.new wr y 35
          obtain ⟨G, HG⟩ : ∃ G, Hid ((if y.got < F then F else y.got) = G) := ⟨_, hidp rfl⟩
          obtain ⟨E, HE⟩ : ∃ E, Hid ((if T < y.fin then T else y.fin) = E) := ⟨_, hidp rfl⟩
          have eG := HG.out
          have eE := HE.out
          have G0 : F ≤ G := by rw [← HG.out]; split <;> omega
          have E0 : E ≤ T := by rw [← HE.out]; split <;> omega
          clear hd
          subst hA
          obtain ⟨e0, e1, e2, e3, e4⟩ := id yb1
          obtain ⟨u0, u1, u2⟩ := id db1
          dsimp only at u0 u1 u2
          go_wp2_with fail
          go_quiet (fail)
          have Bv := B1.drewN nq
          have hbv := below_drewN hb1 nq
          have dbv := db1.keep (Keeps.drewN _ nq)
          have ybv := yb1.keep (Keeps.drewN _ nq)
          obtain ⟨v, hv⟩ : ∃ v, (wr.alloc (.cells #[.int .i64 y.task, .int .i64 y.part, .int .i64 y.ask, .int .i64 y.got, .int .i64 y.fin] 35)).drewN nq = v := ⟨_, rfl⟩
          rw [hv] at Bv hbv dbv ybv ⊢
          obtain ⟨yb, hyb⟩ : ∃ yb, wr.heap.size = yb := ⟨_, rfl⟩
          have hyb2 : w.heap.size + 1 + 1 + 1 < yb := by rw [← hyb]; exact hlB
          rw [hyb] at ybv ⊢
          clear hyb hv B1 hb1 db1 yb1 e0 e1 e2 e3 e4 u0 u1 u2 eG eE d0 d1 d2 d3 d4 B hbr dbr hlB
          obtain ⟨e0, e1, e2, e3, e4⟩ := id ybv
          obtain ⟨u0, u1, u2⟩ := id dbv
          dsimp only at u0 u1 u2
          by_cases ht : y.task = k
          · have f0 : (y.task != (k : Int)) = false := by simpa using ht
            by_cases hge : E ≤ G
            · have Hz : Hid ((ws.take (q + 1)).foldl (waitStep ⟨k, dr, df⟩) ms0 = ms) := hidp (by rw [Hs.out]; exact waitStep_out HF.out HT.out HG.out HE.out (.inr hge))
              have f1 : decide (E ≤ G) = true := by simpa using hge
              clear Hs ht
              go_wp2_with fail
              go_roundg (gk - 1)
              case measure => omega
              case rel => exact ⟨q + 1, by omega, by go_num, by rw [Hz.out]; exact Bv, hbv, dbv⟩
            · obtain ⟨gi, hgi⟩ : ∃ j : Nat, G - F = j := ⟨(G - F).toNat, by omega⟩
              obtain ⟨ei, hei⟩ : ∃ j : Nat, E - F = j := ⟨(E - F).toNat, by omega⟩
              have hN := HN.out
              have giN : gi < N := by omega
              have gim : gi < ms.length := by rw [hmN]; exact giN
              have Hw := Hs.out.trans (waitStep_in (ms := ms) HF.out HT.out HG.out HE.out ht (by omega) hgi hei)
              have wg : IntKind.i64.wrap (G - F) = (gi : Int) := by rw [hgi]; exact IntWalk.i64_in _ (by omega)
              have we : IntKind.i64.wrap (E - F) = (ei : Int) := by rw [hei]; exact IntWalk.i64_in _ (by omega)
              have f1 : decide (E ≤ G) = false := by simpa using hge
              obtain ⟨h1, HH1⟩ : ∃ z, Hid ((ms.getD gi default).holds = z) := ⟨_, hidp rfl⟩
              have hh1 := Hh.out.at_ gim
              rw [HH1.out] at hh1
              obtain ⟨hh2, hh3⟩ := hh1
              have wh1 : IntKind.i64.wrap (h1 + 1) = h1 + 1 := IntWalk.i64_in _ (by omega)
              have q0 := Bv.c2 gim
              rw [HH1.out] at q0
              have r0 := Bv.frozen (gi * 3 + 2)
              have B2 := Bv.p2 gim (h1 + 1)
              have hb2 := hbv.setCell (show w.heap.size ≤ (⟨w.heap.size + 1 + 1 + 1, gi * 3 + 2, none⟩ : Addr).block by simp; omega) (.int .i64 (h1 + 1))
              have db2 := dbv.far (p := ⟨w.heap.size + 1 + 1 + 1, gi * 3 + 2, none⟩) (.int .i64 (h1 + 1)) (by simp)
              have HA : Hid (addH ms gi 1 = ms.set gi ⟨(ms.getD gi default).ran, (ms.getD gi default).lower, h1 + 1⟩) := hidp (by unfold addH; rw [HH1.out])
              rw [← HA.out] at B2
              have hge2 := hidp hge
              have hgi2 := hidp hgi
              have hei2 := hidp hei
              clear Hs ht hgi hei hN hge
              by_cases hlT : E < T
              · have f2 : decide (E < T) = true := by simpa using hlT
                have eiN : ei < N := by have a := hei2.out; have b := HN.out; omega
                have eim : ei < (addH ms gi 1).length := by rw [addH_len, hmN]; exact eiN
                rw [if_pos hlT] at Hw
                have Hz := hidp Hw
                obtain ⟨h2, HH2⟩ : ∃ z, Hid (((addH ms gi 1).getD ei default).holds = z) := ⟨_, hidp rfl⟩
                have hg2 := (Hh.out.add gi 1 (by omega)).at_ eim
                rw [HH2.out] at hg2
                obtain ⟨hg3, hg4⟩ := hg2
                have wh2 : IntKind.i64.wrap (h2 - 1) = h2 - 1 := IntWalk.i64_in _ (by omega)
                have q2 := B2.c2 eim
                rw [HH2.out] at q2
                have r2 := B2.frozen (ei * 3 + 2)
                have B3 := B2.p2 eim (h2 - 1)
                have HA2 : Hid (addH (addH ms gi 1) ei (-1) = (addH ms gi 1).set ei ⟨((addH ms gi 1).getD ei default).ran, ((addH ms gi 1).getD ei default).lower, h2 - 1⟩) := hidp (by rw [addH_eq HH2.out]; rfl)
                rw [← HA2.out] at B3
                clear Hw hlT
                go_wp2_with fail
                go_roundg (gk - 1)
                case measure => omega
                case rel => exact ⟨q + 1, by omega, by go_num, by rw [Hz.out]; exact B3, hb2.setCell (by simp; omega) _, db2.far _ (by simp)⟩
              · have f2 : decide (E < T) = false := by simpa using hlT
                rw [if_neg hlT] at Hw
                have Hz := hidp Hw
                clear Hw hlT
                go_wp2_with fail
                go_roundg (gk - 1)
                case measure => omega
                case rel => exact ⟨q + 1, by omega, by go_num, by rw [Hz.out]; exact B2, hb2, db2⟩
          · have f0 : (y.task != (k : Int)) = true := by simpa using ht
            have Hz : Hid ((ws.take (q + 1)).foldl (waitStep ⟨k, dr, df⟩) ms0 = ms) := hidp (by rw [Hs.out]; exact waitStep_out HF.out HT.out HG.out HE.out (.inl ht))
            clear Hs ht
            go_wp2_with fail
            go_roundg (gk - 1)
            case measure => omega
            case rel => exact ⟨q + 1, by omega, by go_num, by rw [Hz.out]; exact Bv, hbv, dbv⟩
        · rw [List.take_of_length_le (by omega), ← HMv.out] at B
          go_wp2_with fail
          try rw [Exit.noGoto_ret]
          go_ret
          exact ⟨_, _, rfl, by rw [HMv.out, waits_len]; exact Hm0.out.symm, B, hbr⟩
end Go.Proofs.Ytmchjmgifipfoaa
