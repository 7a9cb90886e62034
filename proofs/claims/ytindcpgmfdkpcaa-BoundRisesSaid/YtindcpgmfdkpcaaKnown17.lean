/- swingbridgelaw17's known answers are as known. -/
import Derived.Test.YtindcpgmfdkpcaaTwo17
import Derived.Test.YtindcpgmfdkpcaaOkMk
import Derived.Test.YtindcpgmfdkpcaaBound2
import Derived.Test.YtindcpgmfdkpcaaDemandNums
namespace Go.Proofs.Ytindcpgmfdkpcaa
open Go.ChangeShapes Go.WideShapes Go.ChangeAt Go.RowKit
set_option linter.unusedVariables false
/-- what two tasks at one cluster do to one another: the same by each protocol -/
theorem pair_each {S : SetR} {proto run lock run2 lock2 : Int} {a1 a2 : Option Addr} {c1 c2 : Nat} {n1 n2 : ByteArray} {e1 d1 q1 e2 d2 q2 : Int} (hok : okS S = true) (hp : S.proto = proto) (p3 : S.homes = [0]) (p4 : S.tasks = [⟨n1, e1, d1, q1, 0, a1, c1, [⟨1, run, 0⟩, ⟨3, lock, 0⟩]⟩, ⟨n2, e2, d2, q2, 0, a2, c2, [⟨1, run2, 0⟩, ⟨3, lock2, 0⟩]⟩]) :
    eachV S 1 0 = lock2 + (if q2 < q1 then run2 else 0) ∧ eachV S 0 1 = lock + (if q1 < q2 then run else 0) := by
  have s0 : atV S 0 0 = lock := by unfold atV; rw [show ((0 : Int)) = ((0 : Nat) : Int) from rfl, srv_in hok (by rw [p4]; simp), p4, p3]; simp [srvB, sumK]
  have s1 : atV S 1 0 = lock2 := by unfold atV; rw [show ((1 : Int)) = ((1 : Nat) : Int) from rfl, srv_in hok (by rw [p4]; simp), p4, p3]; simp [srvB, sumK]
  have t0 : taskAt S 0 = ⟨n1, e1, d1, q1, 0, a1, c1, [⟨1, run, 0⟩, ⟨3, lock, 0⟩]⟩ := by unfold taskAt; rw [p4]; rfl
  have t1 : taskAt S 1 = ⟨n2, e2, d2, q2, 0, a2, c2, [⟨1, run2, 0⟩, ⟨3, lock2, 0⟩]⟩ := by unfold taskAt; rw [p4]; rfl
  unfold eachV
  rw [t0, t1]
  simp only [s0, s1]
  simp [sumK]
theorem pair_others {S : SetR} {proto run lock run2 lock2 c : Int} {a1 a2 : Option Addr} {c1 c2 : Nat} {n1 n2 : ByteArray} {e1 d1 q1 e2 d2 q2 : Int} (hok : okS S = true) (hp : S.proto = proto) (p2 : S.cores = [c]) (p3 : S.homes = [0]) (p4 : S.tasks = [⟨n1, e1, d1, q1, 0, a1, c1, [⟨1, run, 0⟩, ⟨3, lock, 0⟩]⟩, ⟨n2, e2, d2, q2, 0, a2, c2, [⟨1, run2, 0⟩, ⟨3, lock2, 0⟩]⟩]) {b0 b1 : Int} (h0 : 0 ≤ b0) (h1 : 0 ≤ b1) (wd : Int) :
    othersV S [b0, b1] 0 wd = workV wd b1 e2 (lock2 + (if q2 < q1 then run2 else 0)) / c ∧ othersV S [b0, b1] 1 wd = workV wd b0 e1 (lock + (if q1 < q2 then run else 0)) / c := by
  obtain ⟨x0, x1⟩ := pair_each hok hp p3 p4
  have ht0 : thereB S 0 = true := thereB_true.2 ⟨hok, by decide, by rw [p4]; simp⟩
  have ht1 : thereB S 1 = true := thereB_true.2 ⟨hok, by decide, by rw [p4]; simp⟩
  have hl : ([b0, b1] : List Int).length = S.tasks.length := by rw [p4]; rfl
  have hn : nnB [b0, b1] = true := by simp [nnB, h0, h1]
  have t0 : (taskAt S 0).cl = 0 := by unfold taskAt; rw [p4]; rfl
  have t1 : (taskAt S 1).cl = 0 := by unfold taskAt; rw [p4]; rfl
  have w0 : othW S [b0, b1] 0 wd 0 S.tasks = workV wd b1 e2 (lock2 + (if q2 < q1 then run2 else 0)) := by
    rw [p4]; simp [othW, x0]
  have w1 : othW S [b0, b1] 1 wd 0 S.tasks = workV wd b0 e1 (lock + (if q1 < q2 then run else 0)) := by
    rw [p4]; simp [othW, x1]
  unfold othersV
  rw [if_pos (show othersB S [b0, b1] 0 = true ∧ nnB [b0, b1] = true from ⟨othersB_true.2 ⟨ht0, hl⟩, hn⟩), if_pos (show othersB S [b0, b1] 1 = true ∧ nnB [b0, b1] = true from ⟨othersB_true.2 ⟨ht1, hl⟩, hn⟩), w0, w1, t0, t1, p2]
  exact ⟨rfl, rfl⟩
theorem two17_vals {S : SetR} (hS : twoS17 S 1 1 3 5 4) : ownV S [20, 40] 0 = 8 ∧ waitsK S [20, 40] 0 = true ∧ nextV S [20, 40] 1 = 16 ∧ nextK S [20, 40] 1 = true ∧ waitsK S [] 0 = false ∧ othersV S [20, 40] 0 20 = 4 ∧ othersV S [20, 40] 1 40 = 4 ∧ ownV S [] 0 = 0 := by
  obtain ⟨p1, p2, p3, a1, a2, c1, c2, p4⟩ := hS
  have hok := okTwo p1 p2 p3 p4 (by decide) (by decide) (by decide) (by decide) (by decide)
  have ht0 : thereB S 0 = true := thereB_true.2 ⟨hok, by decide, by rw [p4]; simp⟩
  have ht1 : thereB S 1 = true := thereB_true.2 ⟨hok, by decide, by rw [p4]; simp⟩
  have hl : ([20, 40] : List Int).length = S.tasks.length := by rw [p4]; rfl
  have hn : ¬ ([] : List Int).length = S.tasks.length := by rw [p4]; simp
  have k0 : fairK S 0 1 = true := fairK_iff.2 ⟨ht0, by decide, by rw [p4]; show (1 : Int) < 2; decide, by unfold partAt; rw [p4]; rfl⟩
  have k1 : fairK S 1 1 = true := fairK_iff.2 ⟨ht1, by decide, by rw [p4]; show (1 : Int) < 2; decide, by unfold partAt; rw [p4]; rfl⟩
  have f0 : fairV S 0 1 = 7 := by unfold fairV; rw [if_pos k0]; unfold partAt; rw [p4]; rfl
  have f1 : fairV S 1 1 = 7 := by unfold fairV; rw [if_pos k1]; unfold partAt; rw [p4]; rfl
  have v0 : waitV S [20, 40] 0 1 = 7 := by unfold waitV; rw [if_pos hl, if_pos p1, f0]
  have v1 : waitV S [20, 40] 1 1 = 7 := by unfold waitV; rw [if_pos hl, if_pos p1, f1]
  have j0 : waitK S [20, 40] 0 1 = true := by unfold waitK; rw [if_pos hl, if_neg (by omega), k0]
  have j1 : waitK S [20, 40] 1 1 = true := by unfold waitK; rw [if_pos hl, if_neg (by omega), k1]
  have hp0 : partsOf S 0 = [⟨1, 1, 0⟩, ⟨3, 3, 0⟩] := by unfold partsOf; rw [p4]; rfl
  have hp1 : partsOf S 1 = [⟨1, 5, 0⟩, ⟨3, 4, 0⟩] := by unfold partsOf; rw [p4]; rfl
  have x0 : ∀ i : Int, i = 0 ∨ i = 1 → (partAt S i (0 : Nat)).kind = 1 ∧ (partAt S i (1 : Nat)).kind = 3 := fun i hi => by
    rcases hi with rfl | rfl <;> (unfold partAt; rw [p4]; exact ⟨rfl, rfl⟩)
  have y : ∀ i : Int, (i = 0 ∨ i = 1) → waitK S [20, 40] i 1 = true → waitV S [20, 40] i 1 = 7 → thereB S i = true → (partsOf S i).length = 2 → waitsK S [20, 40] i = true ∧ waitsL S [20, 40] i = [0, 7] := fun i hi hk hv ht hp => by
    obtain ⟨q0, q1⟩ := x0 i hi
    obtain ⟨y1, y2⟩ := waits_yes (s := S) (bs := [20, 40]) (of := i) ht (by
      rw [hp]; intro k hk2
      match k, hk2 with
      | 0, _ => unfold pK; rw [if_neg (by rw [q0]; decide)]
      | 1, _ => unfold pK; rw [if_pos q1]; exact hk)
    refine ⟨y1, ?_⟩
    rw [y2, hp]
    show [pW S [20, 40] i 0, pW S [20, 40] i 1] = _
    have e0 : pW S [20, 40] i 0 = 0 := by unfold pW; rw [if_neg (by rw [q0]; decide)]
    have e1 : pW S [20, 40] i 1 = 7 := by unfold pW; rw [if_pos q1]; exact hv
    rw [e0, e1]
  obtain ⟨y1, y2⟩ := y 0 (.inl rfl) j0 v0 ht0 (by rw [hp0]; rfl)
  obtain ⟨z1, z2⟩ := y 1 (.inr rfl) j1 v1 ht1 (by rw [hp1]; rfl)
  obtain ⟨o0, _⟩ := pair_others hok p1 p2 p3 p4 (b0 := 20) (b1 := 40) (by decide) (by decide) 20
  obtain ⟨_, o1⟩ := pair_others hok p1 p2 p3 p4 (b0 := 20) (b1 := 40) (by decide) (by decide) 40
  have o0' : othersV S [20, 40] 0 20 = 4 := by rw [o0]; decide +kernel
  have o1' : othersV S [20, 40] 1 40 = 4 := by rw [o1]; decide +kernel
  have n1 : nextK S [20, 40] 1 = true := nextK_true.2 ⟨z1, hl⟩
  have nk : waitsK S [] 0 = false := (waits_off (s := S) (bs := []) (of := 0) (k := 1) (by rw [hp0]; decide) (by unfold pK; rw [if_pos (x0 0 (.inl rfl)).2]; unfold waitK; rw [if_neg hn])).1
  have r0 : (taskAt S 0).parts = [⟨1, 1, 0⟩, ⟨3, 3, 0⟩] := hp0
  have r1 : (taskAt S 1).parts = [⟨1, 5, 0⟩, ⟨3, 4, 0⟩] := hp1
  refine ⟨?_, y1, ?_, n1, nk, o0', o1', ?_⟩
  · unfold ownV; rw [if_pos y1, y2, r0]; decide
  · unfold nextV ownV
    rw [if_pos n1, if_pos z1, z2, r1]
    show sumK 1 _ + sumK 2 _ + tot _ + othersV S [20, 40] 1 40 = 16
    rw [o1']; decide
  · unfold ownV; rw [nk]; rfl

set_option maxHeartbeats 1000000 in
set_option maxRecDepth 100000 in
theorem known17_any (w : World) : Calls Try.prog 27 #[] w fun e w' => e = .returned (.bool true) ∧ Below w.heap.size w w' := by
  go_enter Try.func27, Try.ntmps27
  go_wp2_with fail
  refine (two17_any 1 1 3 5 4 _ (by decide) (by decide) (by decide) (by decide) (by decide)).mono ?_
  rintro e w1 ⟨⟨S, rfl, hs, hS⟩, hb⟩
  obtain ⟨v1, v2, v3, v4, v5, v6, v7, v8⟩ := two17_vals hS
  clear hS
  have sc := SetCells.new w1 S 26
  replace hb := hb.alloc hb.size (.cells #[.int .i64 S.proto, .slice S.ca S.cores.length S.cc, .slice S.ha S.homes.length S.hc, .slice S.ta S.tasks.length S.tc] 26)
  replace hs := hs.keep (Keeps.alloc w1 (.cells #[.int .i64 S.proto, .slice S.ca S.cores.length S.cc, .slice S.ha S.homes.length S.hc, .slice S.ta S.tasks.length S.tc] 26))
  have k1 := Keeps.alloc (w1.alloc (.cells #[.int .i64 S.proto, .slice S.ca S.cores.length S.cc, .slice S.ha S.homes.length S.hc, .slice S.ta S.tasks.length S.tc] 26)) (.cells #[.int .i64 20, .int .i64 40] 3)
  have HB := lit_ints (w := w1.alloc (.cells #[.int .i64 S.proto, .slice S.ca S.cores.length S.cc, .slice S.ha S.homes.length S.hc, .slice S.ta S.tasks.length S.tc] 26)) (g := w1.heap.size + 1) (zs := [20, 40]) (t := 3) (by simp) rfl (by decide) (by decide)
  replace sc := sc.keep k1
  replace hs := hs.keep k1
  replace hb := hb.alloc hb.size (.cells #[.int .i64 20, .int .i64 40] 3)
  go_wp2_with fail
  refine (own_any S [20, 40] _ 2 0 _ hs HB).mono ?_
  rintro e u0 ⟨rfl, hb2⟩
  replace hb := hb.trans (hb2.mono hb.size)
  replace sc := sc.keep (Keeps.of_below hb2)
  replace hs := hs.keep (Keeps.of_below hb2)
  clear hb2
  try clear sc_0 sc_1 sc_2 sc_3
  have scx := sc
  obtain ⟨sc_0, sc_1, sc_2, sc_3⟩ := scx
  try dsimp only at sc_0 sc_1 sc_2 sc_3
  rw [v1, v2]
  clear HB k1
  have k1 := Keeps.alloc u0 (.cells #[.int .i64 20, .int .i64 40] 3)
  have HB := lit_ints (w := u0) (zs := [20, 40]) (t := 3) rfl rfl (by decide) (by decide)
  replace hs := hs.keep k1
  replace sc := sc.keep k1
  replace hb := hb.alloc hb.size (.cells #[.int .i64 20, .int .i64 40] 3)
  go_wp2_with fail
  refine (next_any S [20, 40] _ 2 1 _ hs HB).mono ?_
  rintro e u1 ⟨rfl, hb2⟩
  replace hb := hb.trans (hb2.mono hb.size)
  replace sc := sc.keep (Keeps.of_below hb2)
  replace hs := hs.keep (Keeps.of_below hb2)
  clear hb2
  try clear sc_0 sc_1 sc_2 sc_3
  have scx := sc
  obtain ⟨sc_0, sc_1, sc_2, sc_3⟩ := scx
  try dsimp only at sc_0 sc_1 sc_2 sc_3
  rw [v3, v4]
  clear HB k1
  go_wp2_with fail
  refine (own_any S [] none 0 0 _ hs (nil_ints _)).mono ?_
  rintro e u2 ⟨rfl, hb2⟩
  replace hb := hb.trans (hb2.mono hb.size)
  replace sc := sc.keep (Keeps.of_below hb2)
  replace hs := hs.keep (Keeps.of_below hb2)
  clear hb2
  try clear sc_0 sc_1 sc_2 sc_3
  have scx := sc
  obtain ⟨sc_0, sc_1, sc_2, sc_3⟩ := scx
  try dsimp only at sc_0 sc_1 sc_2 sc_3
  rw [v5, v8]
  have k1 := Keeps.alloc u2 (.cells #[.int .i64 20, .int .i64 40] 3)
  have HB := lit_ints (w := u2) (zs := [20, 40]) (t := 3) rfl rfl (by decide) (by decide)
  replace hs := hs.keep k1
  replace sc := sc.keep k1
  replace hb := hb.alloc hb.size (.cells #[.int .i64 20, .int .i64 40] 3)
  go_wp2_with fail
  refine (others17_any S [20, 40] _ 2 0 20 _ hs HB (by decide)).mono ?_
  rintro e u3 ⟨rfl, hb2⟩
  replace hb := hb.trans (hb2.mono hb.size)
  replace sc := sc.keep (Keeps.of_below hb2)
  replace hs := hs.keep (Keeps.of_below hb2)
  clear hb2
  try clear sc_0 sc_1 sc_2 sc_3
  have scx := sc
  obtain ⟨sc_0, sc_1, sc_2, sc_3⟩ := scx
  try dsimp only at sc_0 sc_1 sc_2 sc_3
  rw [v6]
  clear HB k1
  have k1 := Keeps.alloc u3 (.cells #[.int .i64 20, .int .i64 40] 3)
  have HB := lit_ints (w := u3) (zs := [20, 40]) (t := 3) rfl rfl (by decide) (by decide)
  replace hs := hs.keep k1
  replace hb := hb.alloc hb.size (.cells #[.int .i64 20, .int .i64 40] 3)
  go_wp2_with fail
  refine (others17_any S [20, 40] _ 2 1 40 _ hs HB (by decide)).mono ?_
  rintro e u4 ⟨rfl, hb2⟩
  replace hb := hb.trans (hb2.mono hb.size)
  clear hb2
  rw [v7]
  go_wp2_with fail
  go_ret
  exact ⟨rfl, hb⟩
end Go.Proofs.Ytindcpgmfdkpcaa
