/- swingbridgeref25: Busy. -/
import Derived.Test.YtmchjmgifipfoaaLegal8
import Derived.BigQuiet
import Derived.Deep.Onto
namespace Go.Proofs.Ytmchjmgifipfoaa
open Go.ChangeShapes Go.WideShapes Go.ChangeAt Go.RowKit
set_option linter.unusedVariables false
set_option linter.unusedSimpArgs false

set_option maxHeartbeats 4000000 in
set_option maxRecDepth 100000 in
theorem rbusy_any (t : TraceR) (time cl : Int) (w : World) (ht : TraceOk w t) (hl : t.slots.length ≤ 1000) : Calls Try.prog 29 #[.agg #[.int .i64 t.ticks, .slice t.sa t.slots.length t.sc, .slice t.ja t.jobs.length t.jc, .slice t.wa t.waits.length t.wc], .int .i64 time, .int .i64 cl] w (IntsP (busyL time cl t.slots) w) := by
  obtain ⟨i0, hi0, hy0, hy1, hy2⟩ := info_parts infoInt5
  have hb := (Below.refl w.heap.size w).alloc (Nat.le_refl _) (.cells #[.int .i64 t.ticks, .slice t.sa t.slots.length t.sc, .slice t.ja t.jobs.length t.jc, .slice t.wa t.waits.length t.wc] 38)
  have tb := TraceBox.new w t 38
  have HX := hidp (ht.slots.keep (Keeps.of_below hb))
  clear ht
  obtain ⟨tk, sa, sc', slots, ja, jc, jobs, wa, wc, ws⟩ := t
  dsimp only at hb tb HX hl ⊢
  obtain ⟨t0, t1, t2, t3⟩ := tb
  dsimp only at t1
  clear t0 t2 t3
  go_enter Try.func29, Try.ntmps29
  go_wp2_with fail
  obtain ⟨w1, hw1⟩ : ∃ v, w.alloc (.cells #[.int .i64 tk, .slice sa slots.length sc', .slice ja jobs.length jc, .slice wa ws.length wc] 38) = v := ⟨_, rfl⟩
  rw [hw1] at hb HX t1 ⊢
  clear hw1
  have HT1 := hidp t1
  have HB := hidp hb
  clear t1 hb
  go_loopg [7, 8] slots.length (fun gg a i wr => ∃ (k n c : Nat) (A : Option Addr) (l : List Int), k + gg = slots.length ∧ i = .int .i64 k ∧ a = .slice A n c ∧ OwnN w1.heap.size wr A n c l ∧ Hid (busyL time cl (slots.take k) = l) ∧ n ≤ k ∧ Below w1.heap.size w1 wr)
  case atStart => exact ⟨0, 0, 0, none, [], by omega, rfl, rfl, ownN_none5 _ _, hidp (by simp [busyL]), Nat.le_refl _, Below.refl _ _⟩
  case round =>
    obtain ⟨k, n, c, A, l, hk, rfl, rfl, ho, Hl, hn, hw⟩ := hrel
    have t1 := Keeps.of_below hw _ _ HT1.out
    by_cases hlt : k < slots.length
    · obtain ⟨g, off, hA, hcl⟩ := HX.out.resolve_left (by intro e; rw [e] at hlt; simp at hlt)
      subst hA
      obtain ⟨y, HY⟩ : ∃ y, Hid (slots.getD k default = y) := ⟨_, rfl⟩
      obtain ⟨d0, d1, d2, d3⟩ := (HY.out ▸ hcl k hlt).keep (Keeps.of_below hw)
      have hw1 := hw
      have ho1 := ho
      have Hs : Hid (busyL time cl (slots.take (k + 1)) = l ++ if busyB time cl y then [y.task] else []) := hidp (by rw [busy_snoc _ _ _ hlt, Hl.out, HY.out])
      clear hcl ho hw
      have kI : (k : Int) < (slots.length : Int) := by omega
      have dk : decide (slots.length ≤ k) = false := by simp; omega
      obtain ⟨yt, yc, yk, yh⟩ := y
      dsimp only at d0 d1 d2 d3 hw1 ho1 Hs
      by_cases h1 : yt = time
      · have e1 : (yt == time) = true := by simpa using h1
        by_cases h2 : yc = cl
        · have e2 : (yc == cl) = true := by simpa using h2
          have Hz : Hid (busyL time cl (slots.take (k + 1)) = l ++ [yk]) := hidp (by rw [Hs.out]; unfold busyB; simp [h1, h2])
          have N2 : Hid (n + 1 ≤ maxLen) := hidp (by unfold maxLen; omega)
          have T2 : Hid ((n + 1) * 8 ≤ 140737488355328) := hidp (by omega)
          have ho4 := ho1.turned ((Turned.refl [] wr).alloc (.cells #[.int .i64 yk] 3)) (by simp)
          have S2 := hidp (Lies.newCells' wr [.int .i64 yk] 3)
          have Z2 : Hid (w1.heap.size ≤ (wr.alloc (.cells #[.int .i64 yk] 3)).heap.size) := hidp (hw1.alloc hw1.size _).size
          have hw4 := hw1.alloc hw1.size (.cells #[.int .i64 yk] 3)
          have O2 := hidp (ints_one5 yk)
          have Hfp := hidp (own_fp ho4.own)
          clear h1 h2 Hs ho1 hw1
          go_wp2_with (at_builtin; refine wpList_app2 _ rfl (.tmp 34) (.tmp 41) 23 rfl w1.heap.size 3 i0 _ 1 8 Try.underlying23 hi0 hy0 hy1 hy2 rfl (by decide) A n c _ rfl ho4.own _ _ 1 1 [.int .i64 yk] rfl (by simp) rfl S2.out O2.out N2.out T2.out Z2.out ?_; intro A' c' w6 happ)
          go_roundg (gk - 1)
          case measure => omega
          case rel => exact ⟨k + 1, n + 1, c', A', _, by omega, by go_num, rfl, ownN_app5 (ps := [yk]) ho4 happ rfl, Hz, by omega, hw4.trans (happ.turned.below hw4.size (fun j hj => (Hfp.out _ hj).1))⟩
        · have e2 : (yc == cl) = false := by simpa using h2
          have Hz : Hid (busyL time cl (slots.take (k + 1)) = l) := hidp (by rw [Hs.out]; unfold busyB; simp [h1, h2])
          clear h1 h2 Hs
          go_wp2_with fail
          go_roundg (gk - 1)
          case measure => omega
          case rel => exact ⟨k + 1, n, c, A, l, by omega, by go_num, rfl, ho1, Hz, by omega, hw1⟩
      · have e1 : (yt == time) = false := by simpa using h1
        have Hz : Hid (busyL time cl (slots.take (k + 1)) = l) := hidp (by rw [Hs.out]; unfold busyB; simp [h1])
        clear h1 Hs
        go_wp2_with fail
        go_roundg (gk - 1)
        case measure => omega
        case rel => exact ⟨k + 1, n, c, A, l, by omega, by go_num, rfl, ho1, Hz, by omega, hw1⟩
    · have kI : ¬ (k : Int) < (slots.length : Int) := by omega
      have Hz : Hid (busyL time cl slots = l) := hidp (by rw [← Hl.out, List.take_of_length_le (by omega)])
      have Hn := hidp ho.len
      go_wp2_with fail
      try rw [Exit.noGoto_ret]
      go_ret
      rw [Hz.out]
      have e : n = l.length := Hn.out
      subst e
      exact ⟨⟨A, c, rfl, ho.own.mono HB.out.size, ho.len, ho.cap, ho.nil⟩, HB.out.trans (hw.mono HB.out.size)⟩
end Go.Proofs.Ytmchjmgifipfoaa
