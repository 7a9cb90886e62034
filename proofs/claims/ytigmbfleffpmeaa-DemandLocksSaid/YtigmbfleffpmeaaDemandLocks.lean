/- DemandLocks: locks at two clusters are told cluster by cluster; the longest is the longest of both. No condition. -/
import Derived.Test.YtigmbfleffpmeaaKnown11
namespace Go.Proofs.Ytigmbfleffpmeaa
open Go.ChangeShapes Go.WideShapes Go.ChangeAt Go.RowKit
set_option linter.unusedVariables false
/-- what a set of one task with three Locks at two clusters answers -/
theorem locks_vals {S : SetR} {k x y z : Int} {a : Option Addr} {c : Nat} (hp : S.proto = 2) (hc : S.cores = [1, 2]) (hh : S.homes = [0, 1]) (ht : S.tasks = [⟨⟨#[97]⟩, 500, 500, 3, k, a, c, [⟨3, x, 0⟩, ⟨3, y, 1⟩, ⟨1, 5, 0⟩, ⟨3, z, 0⟩]⟩])
    (k0 : 0 ≤ k ∧ k ≤ 1) (hx : 1 ≤ x ∧ x ≤ 60) (hy : 1 ≤ y ∧ y ≤ 60) (hz : 1 ≤ z ∧ z ≤ 60) :
    atV S 0 0 = x + z ∧ atV S 0 1 = y ∧ mostV S 0 0 = (if x < z then z else x) ∧ mostV S 0 1 = y ∧ coresV S = 3 ∧ atV S 0 2 = 0 ∧ atV S (-1) 0 = 0 ∧ askersV S k = 1 ∧ askersV S (1 - k) = 0 := by
  have hok : okS S = true := by
    refine okS_mk (by rw [hp]; decide) (by rw [hc]; decide) (by rw [hc]; decide) (by rw [hh]; decide) (by rw [hh, hc]; decide) (by rw [ht]; simp) (by rw [ht]; simp) (fun j hj => ?_)
    rw [ht] at hj
    match j, hj with
    | 0, _ =>
      rw [ht, hc, hh]
      refine ⟨?_, ?_, (by simp [takenB]), ?_⟩
      · show formB _ = true
        simp only [List.getD_cons_zero, formB, nameA]
        decide
      · show inB k 0 ((2 : Int) - 1) = true
        exact inB_true.2 (by omega)
      · have e1 : inB x 1 60 = true := inB_true.2 hx
        have e2 : inB y 1 60 = true := inB_true.2 hy
        have e3 : inB z 1 60 = true := inB_true.2 hz
        have e4 : inB 0 0 1 = true := by decide
        have e5 : inB 1 0 1 = true := by decide
        have e6 : inB 4 1 6 = true := by decide
        have e7 : inB 5 1 60 = true := by decide
        have e8 : inB 0 0 0 = true := by decide
        simp [partsB, partB, e1, e2, e3, e4, e5, e6, e7, e8]
  have s0 : srv S 0 0 = [⟨3, x, 0⟩, ⟨3, z, 0⟩] := by unfold srv; rw [if_pos ⟨hok, by decide, by rw [ht]; simp⟩, hh, ht]; simp [srvB]
  have s1 : srv S 0 1 = [⟨3, y, 1⟩] := by unfold srv; rw [if_pos ⟨hok, by decide, by rw [ht]; simp⟩, hh, ht]; simp [srvB]
  have s2 : srv S 0 2 = [] := by unfold srv; rw [if_pos ⟨hok, by decide, by rw [ht]; simp⟩, hh, ht]; simp [srvB]
  have s3 : srv S (-1) 0 = [] := by unfold srv; rw [if_neg (by rintro ⟨_, h, _⟩; omega)]
  refine ⟨?_, ?_, ?_, ?_, ?_, ?_, ?_, ?_, ?_⟩
  · unfold atV; rw [s0]; simp [sumK]
  · unfold atV; rw [s1]; simp [sumK]
  · unfold mostV; rw [s0]; simp only [maxL, if_true]; split <;> omega
  · unfold mostV; rw [s1]; simp only [maxL, if_true]; omega
  · unfold coresV; rw [if_pos hok, hc]; rfl
  · unfold atV; rw [s2]; rfl
  · unfold atV; rw [s3]; rfl
  · unfold askersV; rw [if_pos hok, ht]; simp only [askN]; rw [if_pos ⟨trivial, by simp [sumK]; omega⟩]; rfl
  · unfold askersV; rw [if_pos hok, ht]; simp only [askN]; rw [if_neg (by rintro ⟨h, _⟩; omega)]; rfl
end Go.Proofs.Ytigmbfleffpmeaa
set_option maxHeartbeats 20000000
set_option maxRecDepth 100000
namespace Go.Proofs.Ytigmbfleffpmeaa.demandLocks
open Go.ChangeShapes Go.WideShapes Go.ChangeAt Go.RowKit
open Go.ChangeMaps (open_string shut_string)
set_option linter.unusedVariables false

/-- THE WALK: the Go text returns true, and writes nothing that was there. -/
theorem walk (a0 : Int) (a1 : Int) (a2 : Int) (a3 : Int) (w : World) (w0 : (Lit.int .u8 a0).wf = true) (w1 : (Lit.int .u8 a1).wf = true) (w2 : (Lit.int .u8 a2).wf = true) (w3 : (Lit.int .u8 a3).wf = true) :
    Calls Try.prog 8 #[.int .u8 a0, .int .u8 a1, .int .u8 a2, .int .u8 a3] w fun e w' => e = .returned (.bool true) ∧ Below w.heap.size w w' := by
  have b0 : 0 ≤ a0 ∧ a0 ≤ 255 := by simp [Lit.wf, IntKind.min, IntKind.max, IntKind.signed, IntKind.bits] at w0; omega
  have b1 : 0 ≤ a1 ∧ a1 ≤ 255 := by simp [Lit.wf, IntKind.min, IntKind.max, IntKind.signed, IntKind.bits] at w1; omega
  have b2 : 0 ≤ a2 ∧ a2 ≤ 255 := by simp [Lit.wf, IntKind.min, IntKind.max, IntKind.signed, IntKind.bits] at w2; omega
  have b3 : 0 ≤ a3 ∧ a3 ≤ 255 := by simp [Lit.wf, IntKind.min, IntKind.max, IntKind.signed, IntKind.bits] at w3; omega
  obtain ⟨p0, p1⟩ := b0
  obtain ⟨p2, p3⟩ := b1
  obtain ⟨p4, p5⟩ := b2
  obtain ⟨p6, p7⟩ := b3
  clear w0 w1 w2 w3
  obtain ⟨x, hx⟩ : ∃ x, a0 % 60 = x := ⟨_, rfl⟩
  obtain ⟨y, hy⟩ : ∃ y, a1 % 60 = y := ⟨_, rfl⟩
  obtain ⟨z, hz⟩ : ∃ z, a2 % 60 = z := ⟨_, rfl⟩
  obtain ⟨k, hk⟩ : ∃ k, a3 % 2 = k := ⟨_, rfl⟩
  have x0 : 0 ≤ x := by omega
  have x1 : x ≤ 59 := by omega
  have y0 : 0 ≤ y := by omega
  have y1 : y ≤ 59 := by omega
  have z0 : 0 ≤ z := by omega
  have z1 : z ≤ 59 := by omega
  have k0 : 0 ≤ k := by omega
  have k1 : k ≤ 1 := by omega
  go_enter Try.func8, Try.ntmps8
  go_wp2_with fail
  refine (known11_any _).mono ?_
  rintro e u ⟨rfl, hb⟩
  have V := locks_vals (S := ⟨2, some ⟨u.heap.size, 0, none⟩, 2, [1, 2], some ⟨u.heap.size + 1, 0, none⟩, 2, [0, 1], some ⟨u.heap.size + 1 + 1 + 1, 0, none⟩, 1, [⟨⟨#[97]⟩, 500, 500, 3, k, some ⟨u.heap.size + 1 + 1, 0, none⟩, 4, [⟨3, x + 1, 0⟩, ⟨3, y + 1, 1⟩, ⟨1, 5, 0⟩, ⟨3, z + 1, 0⟩]⟩]⟩) (k := k) (x := x + 1) (y := y + 1) (z := z + 1) rfl rfl rfl rfl ⟨k0, k1⟩ (by omega) (by omega) (by omega)
  obtain ⟨v1, v2, v3, v4, v5, v6, v7, v8, v9⟩ := V
  have M := made4 u 2 [1, 2] [0, 1] ⟨#[97]⟩ 500 500 3 k [⟨3, x + 1, 0⟩, ⟨3, y + 1, 1⟩, ⟨1, 5, 0⟩, ⟨3, z + 1, 0⟩] (by decide) (by decide) (by decide) (by decide) (by decide) (by decide) (by decide) (by unfold I64; omega) (by
    intro p hp
    simp only [List.mem_cons, List.not_mem_nil, or_false] at hp
    rcases hp with rfl | rfl | rfl | rfl <;> (unfold PartM.wf I64; simp only []; omega)) (by decide) (by decide) (by show 4 ≤ maxLen; decide)
  obtain ⟨hs, hbm⟩ := M
  have m1 : sumK 3 [⟨3, x + 1, 0⟩, ⟨3, y + 1, 1⟩, ⟨1, 5, 0⟩, ⟨3, z + 1, 0⟩] = x + 1 + (y + 1) + (z + 1) := by simp [sumK]; omega
  have LO : LenOk [⟨3, x + 1, 0⟩, ⟨3, y + 1, 1⟩, ⟨1, 5, 0⟩, ⟨3, z + 1, 0⟩] := by
    intro p hp
    simp only [List.mem_cons, List.not_mem_nil, or_false] at hp
    rcases hp with rfl | rfl | rfl | rfl <;> (simp only []; omega)
  have TL : TaskLen _ ⟨⟨#[97]⟩, 500, 500, 3, k, some ⟨u.heap.size + 1 + 1, 0, none⟩, 4, [⟨3, x + 1, 0⟩, ⟨3, y + 1, 1⟩, ⟨1, 5, 0⟩, ⟨3, z + 1, 0⟩]⟩ := ⟨(hs.tasks.ok _ (show _ ∈ [_] from List.mem_cons_self)).at_, LO, by show 4 ≤ 1000; decide⟩
  clear LO
  replace hb := ((hb.trans (hbm.mono hb.size)).alloc (Nat.le_trans hb.size hbm.size) (.cells #[.int .i64 2, .slice (some ⟨u.heap.size, 0, none⟩) 2 2, .slice (some ⟨u.heap.size + 1, 0, none⟩) 2 2, .slice (some ⟨u.heap.size + 1 + 1 + 1, 0, none⟩) 1 1] 25)).alloc (Nat.le_trans (Nat.le_trans hb.size hbm.size) (by simp)) (.cells #[.string ⟨#[97]⟩, .int .i64 500, .int .i64 500, .int .i64 3, .int .i64 k, .slice (some ⟨u.heap.size + 1 + 1, 0, none⟩) 4 4] 37)
  have sc := (SetCells.new ((((u.alloc (.cells #[.int .i64 1, .int .i64 2] 3)).alloc (.cells #[.int .i64 0, .int .i64 1] 3)).alloc (.cells #[.int .i64 3, .int .i64 (x + 1), .int .i64 0, .int .i64 3, .int .i64 (y + 1), .int .i64 1, .int .i64 1, .int .i64 5, .int .i64 0, .int .i64 3, .int .i64 (z + 1), .int .i64 0] 39)).alloc (.cells #[.string ⟨#[97]⟩, .int .i64 500, .int .i64 500, .int .i64 3, .int .i64 k, .slice (some ⟨u.heap.size + 1 + 1, 0, none⟩) 4 4] 37)) ⟨2, some ⟨u.heap.size, 0, none⟩, 2, [1, 2], some ⟨u.heap.size + 1, 0, none⟩, 2, [0, 1], some ⟨u.heap.size + 1 + 1 + 1, 0, none⟩, 1, [⟨⟨#[97]⟩, 500, 500, 3, k, some ⟨u.heap.size + 1 + 1, 0, none⟩, 4, [⟨3, x + 1, 0⟩, ⟨3, y + 1, 1⟩, ⟨1, 5, 0⟩, ⟨3, z + 1, 0⟩]⟩]⟩ 25).keep (Keeps.alloc _ (.cells #[.string ⟨#[97]⟩, .int .i64 500, .int .i64 500, .int .i64 3, .int .i64 k, .slice (some ⟨u.heap.size + 1 + 1, 0, none⟩) 4 4] 37))
  have tb := TaskBox.new (((((u.alloc (.cells #[.int .i64 1, .int .i64 2] 3)).alloc (.cells #[.int .i64 0, .int .i64 1] 3)).alloc (.cells #[.int .i64 3, .int .i64 (x + 1), .int .i64 0, .int .i64 3, .int .i64 (y + 1), .int .i64 1, .int .i64 1, .int .i64 5, .int .i64 0, .int .i64 3, .int .i64 (z + 1), .int .i64 0] 39)).alloc (.cells #[.string ⟨#[97]⟩, .int .i64 500, .int .i64 500, .int .i64 3, .int .i64 k, .slice (some ⟨u.heap.size + 1 + 1, 0, none⟩) 4 4] 37)).alloc (.cells #[.int .i64 2, .slice (some ⟨u.heap.size, 0, none⟩) 2 2, .slice (some ⟨u.heap.size + 1, 0, none⟩) 2 2, .slice (some ⟨u.heap.size + 1 + 1 + 1, 0, none⟩) 1 1] 25)) ⟨⟨#[97]⟩, 500, 500, 3, k, some ⟨u.heap.size + 1 + 1, 0, none⟩, 4, [⟨3, x + 1, 0⟩, ⟨3, y + 1, 1⟩, ⟨1, 5, 0⟩, ⟨3, z + 1, 0⟩]⟩ 37
  rw [show ((((u.alloc (.cells #[.int .i64 1, .int .i64 2] 3)).alloc (.cells #[.int .i64 0, .int .i64 1] 3)).alloc (.cells #[.int .i64 3, .int .i64 (x + 1), .int .i64 0, .int .i64 3, .int .i64 (y + 1), .int .i64 1, .int .i64 1, .int .i64 5, .int .i64 0, .int .i64 3, .int .i64 (z + 1), .int .i64 0] 39)).alloc (.cells #[.string ⟨#[97]⟩, .int .i64 500, .int .i64 500, .int .i64 3, .int .i64 k, .slice (some ⟨u.heap.size + 1 + 1, 0, none⟩) 4 4] 37)).heap.size = u.heap.size + 1 + 1 + 1 + 1 by simp] at sc
  rw [show (((((u.alloc (.cells #[.int .i64 1, .int .i64 2] 3)).alloc (.cells #[.int .i64 0, .int .i64 1] 3)).alloc (.cells #[.int .i64 3, .int .i64 (x + 1), .int .i64 0, .int .i64 3, .int .i64 (y + 1), .int .i64 1, .int .i64 1, .int .i64 5, .int .i64 0, .int .i64 3, .int .i64 (z + 1), .int .i64 0] 39)).alloc (.cells #[.string ⟨#[97]⟩, .int .i64 500, .int .i64 500, .int .i64 3, .int .i64 k, .slice (some ⟨u.heap.size + 1 + 1, 0, none⟩) 4 4] 37)).alloc (.cells #[.int .i64 2, .slice (some ⟨u.heap.size, 0, none⟩) 2 2, .slice (some ⟨u.heap.size + 1, 0, none⟩) 2 2, .slice (some ⟨u.heap.size + 1 + 1 + 1, 0, none⟩) 1 1] 25)).heap.size = u.heap.size + 1 + 1 + 1 + 1 + 1 by simp] at tb
  replace TL := (TL.keep (Keeps.alloc _ (.cells #[.int .i64 2, .slice (some ⟨u.heap.size, 0, none⟩) 2 2, .slice (some ⟨u.heap.size + 1, 0, none⟩) 2 2, .slice (some ⟨u.heap.size + 1 + 1 + 1, 0, none⟩) 1 1] 25))).keep (Keeps.alloc _ (.cells #[.string ⟨#[97]⟩, .int .i64 500, .int .i64 500, .int .i64 3, .int .i64 k, .slice (some ⟨u.heap.size + 1 + 1, 0, none⟩) 4 4] 37))
  replace hs := (hs.keep (Keeps.alloc _ (.cells #[.int .i64 2, .slice (some ⟨u.heap.size, 0, none⟩) 2 2, .slice (some ⟨u.heap.size + 1, 0, none⟩) 2 2, .slice (some ⟨u.heap.size + 1 + 1 + 1, 0, none⟩) 1 1] 25))).keep (Keeps.alloc _ (.cells #[.string ⟨#[97]⟩, .int .i64 500, .int .i64 500, .int .i64 3, .int .i64 k, .slice (some ⟨u.heap.size + 1 + 1, 0, none⟩) 4 4] 37))
  clear hbm
  obtain ⟨m1, hm1⟩ : ∃ m1, (if x < z then z + 1 else x + 1) = m1 := ⟨_, rfl⟩
  obtain ⟨m2, hm2⟩ : ∃ m2, (if x < y then y + 1 else x + 1) = m2 := ⟨_, rfl⟩
  have m20 : 1 ≤ m2 := by rw [← hm2]; split <;> omega
  have m21 : m2 ≤ 60 := by rw [← hm2]; split <;> omega
  obtain ⟨m3, hm3⟩ : ∃ m3, (if m2 < z + 1 then z + 1 else m2) = m3 := ⟨_, rfl⟩
  have l3 : maxL [⟨3, x + 1, 0⟩, ⟨3, y + 1, 1⟩, ⟨1, 5, 0⟩, ⟨3, z + 1, 0⟩] = m3 := by
    have e : maxL [⟨3, x + 1, 0⟩, ⟨3, y + 1, 1⟩, ⟨1, 5, 0⟩, ⟨3, z + 1, 0⟩] = max (x + 1) (max (y + 1) (z + 1)) := by simp only [maxL, if_true]; rw [if_neg (by decide)]; omega
    rw [e, ← hm3, ← hm2]; split <;> split <;> omega
  have v3' : mostV ⟨2, some ⟨u.heap.size, 0, none⟩, 2, [1, 2], some ⟨u.heap.size + 1, 0, none⟩, 2, [0, 1], some ⟨u.heap.size + 1 + 1 + 1, 0, none⟩, 1, [⟨⟨#[97]⟩, 500, 500, 3, k, some ⟨u.heap.size + 1 + 1, 0, none⟩, 4, [⟨3, x + 1, 0⟩, ⟨3, y + 1, 1⟩, ⟨1, 5, 0⟩, ⟨3, z + 1, 0⟩]⟩]⟩ 0 0 = m1 := by rw [v3, ← hm1]; split <;> split <;> omega
  clear v3
  go_wp2_with fail
  refine (at_any ⟨2, some ⟨u.heap.size, 0, none⟩, 2, [1, 2], some ⟨u.heap.size + 1, 0, none⟩, 2, [0, 1], some ⟨u.heap.size + 1 + 1 + 1, 0, none⟩, 1, [⟨⟨#[97]⟩, 500, 500, 3, k, some ⟨u.heap.size + 1 + 1, 0, none⟩, 4, [⟨3, x + 1, 0⟩, ⟨3, y + 1, 1⟩, ⟨1, 5, 0⟩, ⟨3, z + 1, 0⟩]⟩]⟩ 0 0 _ hs).mono ?_
  rintro e u0 ⟨rfl, hb2⟩
  replace hb := hb.trans (hb2.mono hb.size)
  replace sc := sc.keep (Keeps.of_below hb2)
  replace tb := tb.keep (Keeps.of_below hb2)
  replace TL := TL.keep (Keeps.of_below hb2)
  replace hs := hs.keep (Keeps.of_below hb2)
  clear hb2
  have sc2 := sc
  have tb2 := tb
  obtain ⟨c0, cc1, cc2, c3⟩ := sc2
  obtain ⟨b0, b1, b2, b3, b4, b5⟩ := tb2
  dsimp only [List.length] at c0 cc1 cc2 c3 b0 b1 b2 b3 b4 b5
  go_wp2_with fail
  refine (at_any ⟨2, some ⟨u.heap.size, 0, none⟩, 2, [1, 2], some ⟨u.heap.size + 1, 0, none⟩, 2, [0, 1], some ⟨u.heap.size + 1 + 1 + 1, 0, none⟩, 1, [⟨⟨#[97]⟩, 500, 500, 3, k, some ⟨u.heap.size + 1 + 1, 0, none⟩, 4, [⟨3, x + 1, 0⟩, ⟨3, y + 1, 1⟩, ⟨1, 5, 0⟩, ⟨3, z + 1, 0⟩]⟩]⟩ 0 1 _ hs).mono ?_
  rintro e u1 ⟨rfl, hb2⟩
  clear c0 cc1 cc2 c3 b0 b1 b2 b3 b4 b5
  replace hb := hb.trans (hb2.mono hb.size)
  replace sc := sc.keep (Keeps.of_below hb2)
  replace tb := tb.keep (Keeps.of_below hb2)
  replace TL := TL.keep (Keeps.of_below hb2)
  replace hs := hs.keep (Keeps.of_below hb2)
  clear hb2
  have sc2 := sc
  have tb2 := tb
  obtain ⟨c0, cc1, cc2, c3⟩ := sc2
  obtain ⟨b0, b1, b2, b3, b4, b5⟩ := tb2
  dsimp only [List.length] at c0 cc1 cc2 c3 b0 b1 b2 b3 b4 b5
  go_wp2_with fail
  refine (most_any ⟨2, some ⟨u.heap.size, 0, none⟩, 2, [1, 2], some ⟨u.heap.size + 1, 0, none⟩, 2, [0, 1], some ⟨u.heap.size + 1 + 1 + 1, 0, none⟩, 1, [⟨⟨#[97]⟩, 500, 500, 3, k, some ⟨u.heap.size + 1 + 1, 0, none⟩, 4, [⟨3, x + 1, 0⟩, ⟨3, y + 1, 1⟩, ⟨1, 5, 0⟩, ⟨3, z + 1, 0⟩]⟩]⟩ 0 0 _ hs).mono ?_
  rintro e u2 ⟨rfl, hb2⟩
  clear c0 cc1 cc2 c3 b0 b1 b2 b3 b4 b5
  replace hb := hb.trans (hb2.mono hb.size)
  replace sc := sc.keep (Keeps.of_below hb2)
  replace tb := tb.keep (Keeps.of_below hb2)
  replace TL := TL.keep (Keeps.of_below hb2)
  replace hs := hs.keep (Keeps.of_below hb2)
  clear hb2
  have sc2 := sc
  have tb2 := tb
  obtain ⟨c0, cc1, cc2, c3⟩ := sc2
  obtain ⟨b0, b1, b2, b3, b4, b5⟩ := tb2
  dsimp only [List.length] at c0 cc1 cc2 c3 b0 b1 b2 b3 b4 b5
  go_wp2_with fail
  refine (most_any ⟨2, some ⟨u.heap.size, 0, none⟩, 2, [1, 2], some ⟨u.heap.size + 1, 0, none⟩, 2, [0, 1], some ⟨u.heap.size + 1 + 1 + 1, 0, none⟩, 1, [⟨⟨#[97]⟩, 500, 500, 3, k, some ⟨u.heap.size + 1 + 1, 0, none⟩, 4, [⟨3, x + 1, 0⟩, ⟨3, y + 1, 1⟩, ⟨1, 5, 0⟩, ⟨3, z + 1, 0⟩]⟩]⟩ 0 1 _ hs).mono ?_
  rintro e u3 ⟨rfl, hb2⟩
  clear c0 cc1 cc2 c3 b0 b1 b2 b3 b4 b5
  replace hb := hb.trans (hb2.mono hb.size)
  replace sc := sc.keep (Keeps.of_below hb2)
  replace tb := tb.keep (Keeps.of_below hb2)
  replace TL := TL.keep (Keeps.of_below hb2)
  replace hs := hs.keep (Keeps.of_below hb2)
  clear hb2
  have sc2 := sc
  have tb2 := tb
  obtain ⟨c0, cc1, cc2, c3⟩ := sc2
  obtain ⟨b0, b1, b2, b3, b4, b5⟩ := tb2
  dsimp only [List.length] at c0 cc1 cc2 c3 b0 b1 b2 b3 b4 b5
  go_wp2_with fail
  refine (locks_any ⟨⟨#[97]⟩, 500, 500, 3, k, some ⟨u.heap.size + 1 + 1, 0, none⟩, 4, [⟨3, x + 1, 0⟩, ⟨3, y + 1, 1⟩, ⟨1, 5, 0⟩, ⟨3, z + 1, 0⟩]⟩ _ TL).mono ?_
  rintro e u4 ⟨rfl, hb2⟩
  clear c0 cc1 cc2 c3 b0 b1 b2 b3 b4 b5
  replace hb := hb.trans (hb2.mono hb.size)
  replace sc := sc.keep (Keeps.of_below hb2)
  replace tb := tb.keep (Keeps.of_below hb2)
  replace TL := TL.keep (Keeps.of_below hb2)
  replace hs := hs.keep (Keeps.of_below hb2)
  clear hb2
  have sc2 := sc
  have tb2 := tb
  obtain ⟨c0, cc1, cc2, c3⟩ := sc2
  obtain ⟨b0, b1, b2, b3, b4, b5⟩ := tb2
  dsimp only [List.length] at c0 cc1 cc2 c3 b0 b1 b2 b3 b4 b5
  go_wp2_with fail
  refine (longest_any ⟨⟨#[97]⟩, 500, 500, 3, k, some ⟨u.heap.size + 1 + 1, 0, none⟩, 4, [⟨3, x + 1, 0⟩, ⟨3, y + 1, 1⟩, ⟨1, 5, 0⟩, ⟨3, z + 1, 0⟩]⟩ _ TL).mono ?_
  rintro e u5 ⟨rfl, hb2⟩
  clear c0 cc1 cc2 c3 b0 b1 b2 b3 b4 b5
  replace hb := hb.trans (hb2.mono hb.size)
  replace sc := sc.keep (Keeps.of_below hb2)
  replace tb := tb.keep (Keeps.of_below hb2)
  replace TL := TL.keep (Keeps.of_below hb2)
  replace hs := hs.keep (Keeps.of_below hb2)
  clear hb2
  have sc2 := sc
  have tb2 := tb
  obtain ⟨c0, cc1, cc2, c3⟩ := sc2
  obtain ⟨b0, b1, b2, b3, b4, b5⟩ := tb2
  dsimp only [List.length] at c0 cc1 cc2 c3 b0 b1 b2 b3 b4 b5
  go_wp2_with fail
  refine (askers_any ⟨2, some ⟨u.heap.size, 0, none⟩, 2, [1, 2], some ⟨u.heap.size + 1, 0, none⟩, 2, [0, 1], some ⟨u.heap.size + 1 + 1 + 1, 0, none⟩, 1, [⟨⟨#[97]⟩, 500, 500, 3, k, some ⟨u.heap.size + 1 + 1, 0, none⟩, 4, [⟨3, x + 1, 0⟩, ⟨3, y + 1, 1⟩, ⟨1, 5, 0⟩, ⟨3, z + 1, 0⟩]⟩]⟩ k _ hs).mono ?_
  rintro e u6 ⟨rfl, hb2⟩
  clear c0 cc1 cc2 c3 b0 b1 b2 b3 b4 b5
  replace hb := hb.trans (hb2.mono hb.size)
  replace sc := sc.keep (Keeps.of_below hb2)
  replace tb := tb.keep (Keeps.of_below hb2)
  replace TL := TL.keep (Keeps.of_below hb2)
  replace hs := hs.keep (Keeps.of_below hb2)
  clear hb2
  have sc2 := sc
  have tb2 := tb
  obtain ⟨c0, cc1, cc2, c3⟩ := sc2
  obtain ⟨b0, b1, b2, b3, b4, b5⟩ := tb2
  dsimp only [List.length] at c0 cc1 cc2 c3 b0 b1 b2 b3 b4 b5
  go_wp2_with fail
  refine (askers_any ⟨2, some ⟨u.heap.size, 0, none⟩, 2, [1, 2], some ⟨u.heap.size + 1, 0, none⟩, 2, [0, 1], some ⟨u.heap.size + 1 + 1 + 1, 0, none⟩, 1, [⟨⟨#[97]⟩, 500, 500, 3, k, some ⟨u.heap.size + 1 + 1, 0, none⟩, 4, [⟨3, x + 1, 0⟩, ⟨3, y + 1, 1⟩, ⟨1, 5, 0⟩, ⟨3, z + 1, 0⟩]⟩]⟩ (1 - k) _ hs).mono ?_
  rintro e u7 ⟨rfl, hb2⟩
  clear c0 cc1 cc2 c3 b0 b1 b2 b3 b4 b5
  replace hb := hb.trans (hb2.mono hb.size)
  replace sc := sc.keep (Keeps.of_below hb2)
  replace tb := tb.keep (Keeps.of_below hb2)
  replace TL := TL.keep (Keeps.of_below hb2)
  replace hs := hs.keep (Keeps.of_below hb2)
  clear hb2
  have sc2 := sc
  have tb2 := tb
  obtain ⟨c0, cc1, cc2, c3⟩ := sc2
  obtain ⟨b0, b1, b2, b3, b4, b5⟩ := tb2
  dsimp only [List.length] at c0 cc1 cc2 c3 b0 b1 b2 b3 b4 b5
  go_wp2_with fail
  refine (cores_any ⟨2, some ⟨u.heap.size, 0, none⟩, 2, [1, 2], some ⟨u.heap.size + 1, 0, none⟩, 2, [0, 1], some ⟨u.heap.size + 1 + 1 + 1, 0, none⟩, 1, [⟨⟨#[97]⟩, 500, 500, 3, k, some ⟨u.heap.size + 1 + 1, 0, none⟩, 4, [⟨3, x + 1, 0⟩, ⟨3, y + 1, 1⟩, ⟨1, 5, 0⟩, ⟨3, z + 1, 0⟩]⟩]⟩ _ hs).mono ?_
  rintro e u8 ⟨rfl, hb2⟩
  clear c0 cc1 cc2 c3 b0 b1 b2 b3 b4 b5
  replace hb := hb.trans (hb2.mono hb.size)
  replace sc := sc.keep (Keeps.of_below hb2)
  replace tb := tb.keep (Keeps.of_below hb2)
  replace TL := TL.keep (Keeps.of_below hb2)
  replace hs := hs.keep (Keeps.of_below hb2)
  clear hb2
  have sc2 := sc
  have tb2 := tb
  obtain ⟨c0, cc1, cc2, c3⟩ := sc2
  obtain ⟨b0, b1, b2, b3, b4, b5⟩ := tb2
  dsimp only [List.length] at c0 cc1 cc2 c3 b0 b1 b2 b3 b4 b5
  go_wp2_with fail
  refine (at_any ⟨2, some ⟨u.heap.size, 0, none⟩, 2, [1, 2], some ⟨u.heap.size + 1, 0, none⟩, 2, [0, 1], some ⟨u.heap.size + 1 + 1 + 1, 0, none⟩, 1, [⟨⟨#[97]⟩, 500, 500, 3, k, some ⟨u.heap.size + 1 + 1, 0, none⟩, 4, [⟨3, x + 1, 0⟩, ⟨3, y + 1, 1⟩, ⟨1, 5, 0⟩, ⟨3, z + 1, 0⟩]⟩]⟩ 0 2 _ hs).mono ?_
  rintro e u9 ⟨rfl, hb2⟩
  clear c0 cc1 cc2 c3 b0 b1 b2 b3 b4 b5
  replace hb := hb.trans (hb2.mono hb.size)
  replace sc := sc.keep (Keeps.of_below hb2)
  replace tb := tb.keep (Keeps.of_below hb2)
  replace TL := TL.keep (Keeps.of_below hb2)
  replace hs := hs.keep (Keeps.of_below hb2)
  clear hb2
  have sc2 := sc
  have tb2 := tb
  obtain ⟨c0, cc1, cc2, c3⟩ := sc2
  obtain ⟨b0, b1, b2, b3, b4, b5⟩ := tb2
  dsimp only [List.length] at c0 cc1 cc2 c3 b0 b1 b2 b3 b4 b5
  go_wp2_with fail
  refine (at_any ⟨2, some ⟨u.heap.size, 0, none⟩, 2, [1, 2], some ⟨u.heap.size + 1, 0, none⟩, 2, [0, 1], some ⟨u.heap.size + 1 + 1 + 1, 0, none⟩, 1, [⟨⟨#[97]⟩, 500, 500, 3, k, some ⟨u.heap.size + 1 + 1, 0, none⟩, 4, [⟨3, x + 1, 0⟩, ⟨3, y + 1, 1⟩, ⟨1, 5, 0⟩, ⟨3, z + 1, 0⟩]⟩]⟩ (-1) 0 _ hs).mono ?_
  rintro e u10 ⟨rfl, hb2⟩
  clear c0 cc1 cc2 c3 b0 b1 b2 b3 b4 b5
  replace hb := hb.trans (hb2.mono hb.size)
  replace sc := sc.keep (Keeps.of_below hb2)
  replace tb := tb.keep (Keeps.of_below hb2)
  replace TL := TL.keep (Keeps.of_below hb2)
  replace hs := hs.keep (Keeps.of_below hb2)
  clear hb2
  have sc2 := sc
  have tb2 := tb
  obtain ⟨c0, cc1, cc2, c3⟩ := sc2
  obtain ⟨b0, b1, b2, b3, b4, b5⟩ := tb2
  dsimp only [List.length] at c0 cc1 cc2 c3 b0 b1 b2 b3 b4 b5
  go_wp2_with fail
  go_ret
  exact ⟨rfl, hb⟩

theorem own : ownKnob Try.prog.godebug = none := by kernel_rfl
theorem laidOut : laidOutB Try.prog = true := by kernel_rfl

/-! THE ROW's STEP -/
set_option maxRecDepth 100000 in
theorem lifted (os : Os) (started : os.Started) (H : Type) (enc : TypeId × Value → H) :
    ReturnsInHanded {} Try.checked os 8 .any (Rows.demandLocksSpec.pre6 enc Try.prog Try.f8 Rows.demandLocksRow.domain false) (Rows.demandLocksSpec.post enc Try.prog Try.f8 false true false false) := by
  refine returnsInHanded_of_change (C := Try.checked) own started (by kernel_rfl) Try.func8
    (ChangeSpec.witness6 (enc := enc) (C := Try.checked) false ⟨#[], #[.int .u8 0, .int .u8 0, .int .u8 0, .int .u8 0], []⟩ 8 (by kernel_rfl) (by kernel_rfl) (by kernel_rfl) (by kernel_rfl)) ?_
  intro W base args ds gs before hval0 hW hcnd _
  have hval : ∀ (j : Nat) t v, Try.f8.params[j]? = some t → args[j]? = some v → Value.okWide Try.prog W .any base t v := hval0
  have hW' := hW
  obtain ⟨p, q, hA0, hV, rfl, hfz, hnd⟩ := hW
  have hA : DataW.TrodAll enc Try.prog W 0 (fun _ => true) true Try.f8.params.toList args.toList ds p := hA0
  rw [Try.params8] at hA hval
  obtain ⟨v0, vs0, d0, ds0, p0, q0, hargs, rfl, rfl, h0, r0⟩ := trodAll_cons hA
  obtain ⟨v1, vs1, d1, ds1, p1, q1, rfl, rfl, rfl, h1, r1⟩ := trodAll_cons r0
  obtain ⟨v2, vs2, d2, ds2, p2, q2, rfl, rfl, rfl, h2, r2⟩ := trodAll_cons r1
  obtain ⟨v3, vs3, d3, ds3, p3, q3, rfl, rfl, rfl, h3, r3⟩ := trodAll_cons r2
  obtain ⟨rfl, rfl, rfl⟩ := trodAll_nil r3
  obtain rfl : args = #[v0, v1, v2, v3] := by cases args; simp_all
  obtain ⟨rfl, rfl⟩ := trodVars_none hV
  obtain ⟨a0, rfl, rfl, rfl, w0⟩ := open_int Try.underlying5 (hval 0 5 v0 rfl rfl) h0
  obtain ⟨a1, rfl, rfl, rfl, w1⟩ := open_int Try.underlying5 (hval 1 5 v1 rfl rfl) h1
  obtain ⟨a2, rfl, rfl, rfl, w2⟩ := open_int Try.underlying5 (hval 2 5 v2 rfl rfl) h2
  obtain ⟨a3, rfl, rfl, rfl, w3⟩ := open_int Try.underlying5 (hval 3 5 v3 rfl rfl) h3
  clear hA0 hval0
  refine (walk a0 a1 a2 a3 W w0 w1 w2 w3).mono fun e W' ⟨he, bel⟩ => ?_
  subst he
  exact ⟨_, rfl, _, _, _, [], _, [], hW', trodAll_mk1 (shut_bool Try.underlying4 _), (trodAll_cons_mk (shut_int Try.underlying5 w0) (trodAll_cons_mk (shut_int Try.underlying5 w1) (trodAll_cons_mk (shut_int Try.underlying5 w2) (trodAll_cons_mk (shut_int Try.underlying5 w3) trodAll_mk0)))), rfl, bel.frame _, fun h => by cases h⟩

theorem over : Rows.demandLocksRow.holds Try.pinned (OpenSpec.ofChange Rows.demandLocksSpec) :=
  OpenClaim.holds_of_wide 8 Try.f8 rfl rfl rfl rfl rfl rfl rfl ⟨rfl, rfl, rfl, rfl, rfl⟩ rfl rfl rfl rfl rfl (by kernel_rfl) Try.func8 (by kernel_rfl)
    (of_decide_eq_true (by kernel_rfl)) (by unfold Func.isWrapper; first | (rw [if_pos (by decide +kernel)]; kernel_rfl) | (rw [if_neg (by decide +kernel)]; exact ⟨rfl, rfl⟩))
    (fun os started H enc _ => lifted os started H enc)

/-- THE STATEMENT -/
theorem proved : Rows.DemandLocksSaid := over
#print axioms proved
end Go.Proofs.Ytigmbfleffpmeaa.demandLocks

