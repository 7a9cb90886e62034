/- legal: Busy. -/
import Derived.Test.YtmchjmgifipfoaaTraceB
import Derived.Test.YtmchjmgifipfoaaOwnPut
import Derived.Test.YtmchjmgifipfoaaSound
namespace Go.Proofs.Ytmchjmgifipfoaa
open Go.ChangeShapes Go.WideShapes Go.ChangeAt Go.RowKit
set_option linter.unusedVariables false
set_option linter.unusedSimpArgs false

theorem infoInt5 : (Try.prog.info? 3).map (fun i => (i.zero, i.size, i.bytes)) = some (some (.int .i64 0), 1, 8) := by kernel_rfl
theorem ownN_none5 (B : Nat) (w : World) : OwnN B w none 0 0 [] := ⟨World.ownsRow_nil _ _ _ _, rfl, by decide, fun _ => ⟨rfl, rfl⟩⟩
theorem ownN_app5 {B : Nat} {w w1 w2 : World} {A A' : Option Addr} {n c c' : Nat} {rs ps : List Int} {m : Nat} (h : OwnN B w A n c rs) (ha : App B 3 1 w1 A A' (n + m) c' (rs.map (Value.int .i64) ++ ps.map (Value.int .i64)) w2) (hm : m = ps.length) : OwnN B w2 A' (n + m) c' (rs ++ ps) :=
  ⟨by rw [List.map_append]; exact ha.own, by rw [List.length_append, h.len, hm], ha.cap, ha.nil⟩
theorem ints_one5 (x : Int) : ∀ u ∈ [x].map (Value.int .i64), u.oneCell' = true := fun u hu => by simp at hu; subst hu; rfl
def busyB (time cl : Int) (x : SlotM) : Bool := decide (x.time = time) && decide (x.cl = cl)
def busyL (time cl : Int) (xs : List SlotM) : List Int := (xs.filter (busyB time cl)).map SlotM.task
theorem busy_snoc (time cl : Int) (xs : List SlotM) {k : Nat} (hk : k < xs.length) : busyL time cl (xs.take (k + 1)) = busyL time cl (xs.take k) ++ if busyB time cl (xs.getD k default) then [(xs.getD k default).task] else [] := by
  unfold busyL
  rw [take_snocD xs k hk, List.filter_append, List.map_append]
  congr 1
  by_cases h : busyB time cl (xs.getD k default) = true
  · simp only [List.filter_cons, h, if_true]; rfl
  · rw [List.filter_cons, if_neg h, if_neg h]; rfl
theorem busy_len (time cl : Int) (xs : List SlotM) : (busyL time cl xs).length ≤ xs.length := by
  unfold busyL; rw [List.length_map]; exact List.length_filter_le _ _
theorem busy_wf {time cl : Int} {xs : List SlotM} (h : ∀ x ∈ xs, x.wf) : ∀ z ∈ busyL time cl xs, I64 z := by
  intro z hz
  unfold busyL at hz
  obtain ⟨x, hx, rfl⟩ := List.mem_map.1 hz
  exact (h x (List.mem_filter.1 hx).1).2.2
def IntsP (l : List Int) (w : World) (e : Ending) (w' : World) : Prop := (∃ (A : Option Addr) (c : Nat), e = .returned (.slice A l.length c) ∧ OwnN w.heap.size w' A l.length c l) ∧ Below w.heap.size w w'

set_option maxHeartbeats 4000000 in
set_option maxRecDepth 100000 in
theorem lbusy_any (t : TraceR) (time cl : Int) (w : World) (ht : TraceOk w t) (hl : t.slots.length ≤ 1000) : Calls Try.prog 13 #[.agg #[.int .i64 t.ticks, .slice t.sa t.slots.length t.sc, .slice t.ja t.jobs.length t.jc, .slice t.wa t.waits.length t.wc], .int .i64 time, .int .i64 cl] w (IntsP (busyL time cl t.slots) w) := by
  obtain ⟨i0, hi0, hy0, hy1, hy2⟩ := info_parts infoInt5
  have hb := (Below.refl w.heap.size w).alloc (Nat.le_refl _) (.cells #[.int .i64 t.ticks, .slice t.sa t.slots.length t.sc, .slice t.ja t.jobs.length t.jc, .slice t.wa t.waits.length t.wc] 38)
  have tb := TraceBox.new w t 38
  have HX := hidp (ht.slots)
  have hz0 : w.heap.size ≤ (w.alloc (.cells #[.int .i64 t.ticks, .slice t.sa t.slots.length t.sc, .slice t.ja t.jobs.length t.jc, .slice t.wa t.waits.length t.wc] 38)).heap.size := hb.size
  clear ht
  obtain ⟨tk, sa, sc', slots, ja, jc, jobs, wa, wc, ws⟩ := t
  dsimp only at hb tb HX hl hz0 ⊢
  obtain ⟨t0, t1, t2, t3⟩ := tb
  dsimp only at t1
  clear t0 t2 t3
  go_enter Try.func13, Try.ntmps13
  go_wp2_with fail
  try go_step3
  go_wp2_with fail
  clear t1
  go_loopg [7, 13] slots.length (fun gg a i wr => ∃ (k n c : Nat) (A : Option Addr) (l : List Int), k + gg = slots.length ∧ i = .int .i64 k ∧ a = .slice A n c ∧ OwnN w.heap.size wr A n c l ∧ Hid (busyL time cl (slots.take k) = l) ∧ n ≤ k ∧ Below w.heap.size w wr)
  case atStart => exact ⟨0, 0, 0, none, [], by omega, rfl, rfl, ownN_none5 _ _, hidp (by simp [busyL]), Nat.le_refl _, hb⟩
  case round =>
    clear hb hz0
    obtain ⟨k, n, c, A, l, hk, rfl, rfl, ho, Hl, hn, hw⟩ := hrel
    by_cases hlt : k < slots.length
    · obtain ⟨g, off, hA, hcl⟩ := HX.out.resolve_left (by intro e; rw [e] at hlt; simp at hlt)
      subst hA
      obtain ⟨y, HY⟩ : ∃ y, Hid (slots.getD k default = y) := ⟨_, rfl⟩
      obtain ⟨d0, d1, d2, d3⟩ := (HY.out ▸ hcl k hlt).keep (Keeps.of_below hw)
      have hw1 := hw.alloc hw.size (.cells #[.int .i64 y.time, .int .i64 y.cl, .int .i64 y.task, .bool y.held] 29)
      have ho1 := ho.turned ((Turned.refl [] wr).alloc (.cells #[.int .i64 y.time, .int .i64 y.cl, .int .i64 y.task, .bool y.held] 29)) (by simp)
      have yb := SlotBox.new wr y 29
      have Hs : Hid (busyL time cl (slots.take (k + 1)) = l ++ if busyB time cl y then [y.task] else []) := hidp (by rw [busy_snoc _ _ _ hlt, Hl.out, HY.out])
      clear hcl ho hw
      obtain ⟨yt, yc, yk, yh⟩ := y
      obtain ⟨y0, y1, y2, y3⟩ := yb
      dsimp only at d0 d1 d2 d3 y0 y1 y2 y3 hw1 ho1 Hs
      by_cases h1 : yt = time
      · have e1 : (yt == time) = true := by simpa using h1
        by_cases h2 : yc = cl
        · have e2 : (yc == cl) = true := by simpa using h2
          have Hz : Hid (busyL time cl (slots.take (k + 1)) = l ++ [yk]) := hidp (by rw [Hs.out]; unfold busyB; simp [h1, h2])
          have N2 : Hid (n + 1 ≤ maxLen) := hidp (by unfold maxLen; omega)
          have T2 : Hid ((n + 1) * 8 ≤ 140737488355328) := hidp (by omega)
          have hWz : (wr.alloc (.cells #[.int .i64 yt, .int .i64 yc, .int .i64 yk, .bool yh] 29)).heap.size = wr.heap.size + 1 := by simp
          obtain ⟨W, hW⟩ : ∃ W, wr.alloc (.cells #[.int .i64 yt, .int .i64 yc, .int .i64 yk, .bool yh] 29) = W := ⟨_, rfl⟩
          rw [hW] at hw1 ho1
          have ho4 := ho1.turned ((Turned.refl [] W).alloc (.cells #[.int .i64 yk] 3)) (by simp)
          have S2' := Lies.newCells' W [.int .i64 yk] 3
          rw [hW] at hWz
          rw [hWz] at S2'
          have S2 := hidp S2'
          clear S2' hWz
          have Z2 : Hid (w.heap.size ≤ (W.alloc (.cells #[.int .i64 yk] 3)).heap.size) := hidp (hw1.alloc hw1.size _).size
          have hw4 := hw1.alloc hw1.size (.cells #[.int .i64 yk] 3)
          have O2 := hidp (ints_one5 yk)
          have Hfp := hidp (own_fp ho4.own)
          subst hW
          clear h1 h2 Hs ho1 hw1
          go_wp2_with (at_builtin; refine wpList_app2 _ rfl (.tmp 27) (.tmp 30) 23 rfl w.heap.size 3 i0 _ 1 8 Try.underlying23 hi0 hy0 hy1 hy2 rfl (by decide) A n c _ rfl ho4.own _ _ 1 1 [.int .i64 yk] rfl (by simp) rfl S2.out O2.out N2.out T2.out Z2.out ?_; intro A' c' w6 happ)
          go_roundg (gk - 1)
          case measure => omega
          case rel => exact ⟨k + 1, n + 1, c', A', _, by omega, by go_num, rfl, ownN_app5 (ps := [yk]) ho4 happ rfl, Hz, by omega, hw4.trans (happ.turned.below hw4.size (fun j hj => (Hfp.out _ hj).1))⟩
        · have e2 : (yc == cl) = false := by simpa using h2
          have Hz : Hid (busyL time cl (slots.take (k + 1)) = l) := hidp (by rw [Hs.out]; unfold busyB; simp [h1, h2])
          clear h1 h2 Hs
          go_wp2_with fail
          go_roundg (gk - 1)
          case measure => omega
          case rel => exact ⟨k + 1, n, c, A, l, by omega, by go_num, rfl, ho1, Hz, by omega, hw1⟩
      · have e1 : (yt == time) = false := by simpa using h1
        have Hz : Hid (busyL time cl (slots.take (k + 1)) = l) := hidp (by rw [Hs.out]; unfold busyB; simp [h1])
        clear h1 Hs
        go_wp2_with fail
        go_roundg (gk - 1)
        case measure => omega
        case rel => exact ⟨k + 1, n, c, A, l, by omega, by go_num, rfl, ho1, Hz, by omega, hw1⟩
    · have Hz : Hid (busyL time cl slots = l) := hidp (by rw [← Hl.out, List.take_of_length_le (by omega)])
      have Hn := hidp ho.len
      go_wp2_with fail
      try rw [Exit.noGoto_ret]
      go_ret
      rw [Hz.out]
      have e : n = l.length := Hn.out
      subst e
      exact ⟨⟨A, c, rfl, ho⟩, hw⟩
end Go.Proofs.Ytmchjmgifipfoaa
