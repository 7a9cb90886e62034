/- rank: Values of many: what its closure gives, one by one; AppendSeq, Collect of it. -/
import Derived.Test.YtppgameimddimaaGreatLRankN
import Derived.RangeFuncNested
import Derived.RangeFuncBound
import Derived.RangeFuncCalls
import Derived.RangeFuncLeaves
import Derived.RangeFuncBox
import Derived.Shelf.Abstract
import Derived.Shelf.RegionOpen
import Derived.WalkKit
import Derived.OwnWalkIn
import Derived.TacticsInMore
import Derived.LoopNIn
import Derived.LoopIn
import Derived.Maps.AppendAt
import Derived.Sort.LoopGhostIn
namespace Go.Proofs.YtppgameimddimaaGreat
open Go.ChangeShapes Go.WideShapes Go.ChangeAt Go.RowKit Go.Shelf
set_option linter.unusedVariables false
set_option linter.unusedSimpArgs false
attribute [local go_sem] Oper.semAt_some
theorem take_snocE (l : List EntM) (k : Nat) (h : k < l.length) : l.take (k + 1) = l.take k ++ [atE l k] := by
  rw [List.take_succ_eq_append_getElem h, atE_get h]
set_option maxRecDepth 100000 in
set_option maxHeartbeats 2000000 in
theorem values_many (F : Fence) (hall : ∀ f, F.fn f) (hro : F.round = none) (n : Nat) (hn : 1 ≤ n) (lp b n0 g c : Nat) (l : List EntM) (hl : l.length ≤ 64) (hg : g < n0)
    (J Jx : List EntM → World → Prop)
    (hY : ∀ pre x W, J pre W → pre.length < l.length → YieldAt F (n - 1) Tryz.prog lp #[.agg #[.int .i64 x.key, .int .i64 x.turn, .int .i64 x.id]] W fun e W' =>
      (e = .returned (.bool true) ∧ J (pre ++ [x]) W' ∧ Below n0 W W') ∨ (e = .returned (.bool false) ∧ Jx (pre ++ [x]) W'))
    (W : World) (hn0 : n0 ≤ W.heap.size) (hJ : AbidesFrom W.heap.size J) (hc : W.cell? ⟨b, 0, none⟩ = some (.slice (some ⟨g, 0, none⟩) l.length c)) (hE : ∀ k, k < l.length → EntCells W g (k * 3) (atE l k)) (h0 : J [] W) :
    CallsIn F n Tryz.prog 83 #[.func (.yield lp) #[] #[], .pointer (some ⟨b, 0, none⟩)] W fun e W' => (∃ v, e = .returned v) ∧ (J l W' ∨ ∃ pre, Jx pre W') := by
  refine callsIn_of_wp (fn := Tryz.f83) rfl rfl (hall _) ?_ hro
  simp only [show (Tryz.f83).ntmps = 16 from rfl, List.size_toArray, List.length_cons, List.length_nil, Nat.reduceAdd, Nat.reduceSub, Array.replicate_succ, Array.replicate_zero, List.push_toArray, List.append_toArray, List.cons_append, List.nil_append]
  have HE := hidp hE
  have Hl := hidp hl
  clear hE hl
  gi_wp2
  gi_loopg [7] l.length (fun gg i wr => ∃ k : Nat, k + gg = l.length ∧ i = .int .i64 k ∧ J (l.take k) wr ∧ Below n0 W wr)
  case atStart => exact ⟨0, by omega, rfl, h0, Below.refl _ _⟩
  case round =>
    obtain ⟨k, hk, rfl, hJs, hnx⟩ := hrel
    by_cases hlt : k < l.length
    · obtain ⟨q0, q1, q2⟩ := HE.out k hlt
      obtain ⟨x, hx⟩ : ∃ x, atE l k = x := ⟨_, rfl⟩
      have HX := hidp hx
      rw [hx] at q0 q1 q2
      replace q0 := (hnx.cell (p := ⟨g, k * 3, none⟩) hg).trans q0
      replace q1 := (hnx.cell (p := ⟨g, k * 3 + 1, none⟩) hg).trans q1
      replace q2 := (hnx.cell (p := ⟨g, k * 3 + 2, none⟩) hg).trans q2
      have hw3 : W.heap.size ≤ wr.heap.size := by
        have := hnx.size
        omega
      have hJ2 : J (l.take k) (wr.alloc (.cells #[.int .i64 x.key, .int .i64 x.turn, .int .i64 x.id] 105)) := hJ _ _ _ none hJs (World.grownBy_alloc wr _ none) (fun r e => by cases e)
      have hb2 : Below n0 W (wr.alloc (.cells #[.int .i64 x.key, .int .i64 x.turn, .int .i64 x.id] 105)) := hnx.alloc (Nat.le_trans hn0 hw3) _
      obtain ⟨fn, tmps, assign, body, hy, hR⟩ := hY _ x _ hJ2 (by rw [List.length_take]; omega)
      have hkl : (k : Int) < (l.length : Int) := by omega
      clear hx hJ2
      gi_wp2
      refine hR.mono ?_
      rintro e W3 (⟨rfl, hJ3, hk3⟩ | ⟨rfl, hJx3⟩)
      · rw [← HX.out, ← take_snocE l k hlt] at hJ3
        gi_wp2
        have hl := Hl.out
        gi_roundg (gk - 1)
        case measure => omega
        case rel => exact ⟨k + 1, by omega, by rw [IntWalk.wrap64_in ((k : Int) + 1) (by omega)]; rfl, hJ3, hb2.trans hk3⟩
      · gi_wp2
        refine bodyPost_ret (v := .tuple #[]) (by simp [results, Tryz.results83, go_sem]) rfl ?_
        exact ⟨⟨_, rfl⟩, .inr ⟨_, hJx3⟩⟩
    · obtain rfl : k = l.length := by omega
      rw [List.take_length] at hJs
      gi_wp2
      go_end0
      exact ⟨⟨_, rfl⟩, .inl hJs⟩

/-- slices.Values hands back a value that gives just these -/
theorem values_stops (F : Fence) (hall : ∀ f, F.fn f) (hro : F.round = none) (n : Nat) (hn : 1 ≤ n) (b n0 g c : Nat) (l : List EntM) (hl : l.length ≤ 64) (hg : g < n0) (w : World) (hb : b < w.heap.size) (hn0 : n0 ≤ w.heap.size)
    (hc : w.cell? ⟨b, 0, none⟩ = some (.slice (some ⟨g, 0, none⟩) l.length c)) (hE : ∀ k, k < l.length → EntCells w g (k * 3) (atE l k)) :
    SeqStopsK F n Tryz.prog 83 #[.pointer (some ⟨b, 0, none⟩)] (fun x : EntM => #[.agg #[.int .i64 x.key, .int .i64 x.turn, .int .i64 x.id]]) (Below n0) (fun xs => xs = l) (fun _ => True) l.length w := fun lp J Jx W hW hJ hJx hY h0 => by
  have hc2 := (hW.cell (p := ⟨b, 0, none⟩) hb).trans hc
  have hE2 : ∀ k, k < l.length → EntCells W g (k * 3) (atE l k) := fun k hk => by
    obtain ⟨q0, q1, q2⟩ := hE k hk
    exact ⟨(hW.cell (p := ⟨g, k * 3, none⟩) (Nat.lt_of_lt_of_le hg hn0)).trans q0, (hW.cell (p := ⟨g, k * 3 + 1, none⟩) (Nat.lt_of_lt_of_le hg hn0)).trans q1, (hW.cell (p := ⟨g, k * 3 + 2, none⟩) (Nat.lt_of_lt_of_le hg hn0)).trans q2⟩
  refine (values_many F hall hro n hn lp b n0 g c l hl hg J Jx hY W (Nat.le_trans hn0 hW.size) hJ hc2 hE2 h0).mono ?_
  rintro e W' ⟨hv, h | ⟨pre, h⟩⟩
  · exact ⟨hv, .inl ⟨l, rfl, h⟩⟩
  · exact ⟨hv, .inr ⟨pre, trivial, h⟩⟩
end Go.Proofs.YtppgameimddimaaGreat
