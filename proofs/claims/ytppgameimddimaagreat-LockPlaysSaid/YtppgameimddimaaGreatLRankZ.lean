/- rank: AppendSeq of none. -/
import Derived.Test.YtppgameimddimaaGreatLRankY
namespace Go.Proofs.YtppgameimddimaaGreat
open Go.ChangeShapes Go.WideShapes Go.ChangeAt Go.RowKit
set_option linter.unusedVariables false
set_option linter.unusedSimpArgs false
set_option maxRecDepth 100000 in
set_option maxHeartbeats 1000000 in
theorem appseq_none (F : Fence) (hall : ∀ f, F.fn f) (hro : F.round = none) (n b c : Nat) (hn : 2 ≤ n) (A : Option Addr) (w : World) (hb : b < w.heap.size) (hc : w.cell? ⟨b, 0, none⟩ = some (.slice A 0 c)) :
    CallsIn F n Tryz.prog 110 #[.slice none 0 0, .func (.func 83) #[] #[.pointer (some ⟨b, 0, none⟩)]] w fun e W' => e = .returned (.slice none 0 0) ∧ Below w.heap.size w W' := by
  refine callsIn_of_wp_marks (fn := Tryz.f110) rfl rfl (hall _) ?_ hro
  simp only [show (Tryz.f110).ntmps = 13 from rfl, List.size_toArray, List.length_cons, List.length_nil, Nat.reduceAdd, Nat.reduceSub, Array.replicate_succ, Array.replicate_zero, List.push_toArray, List.append_toArray, List.cons_append, List.nil_append]
  have hb0 : Below w.heap.size w (w.alloc (.cells #[.slice none 0 0] 63)) := (Below.refl _ w).alloc (Nat.le_refl _) _
  have hv0 : Bk (w.alloc (.cells #[.slice none 0 0] 63)) w.heap.size 63 #[.slice none 0 0] := Bk.new _ _ _
  have hs0 : (w.alloc (.cells #[.slice none 0 0] 63)).heap.size = w.heap.size + 1 := by simp
  gi_wp2
  refine wpIn_rangeFunc_none hro (by omega) rfl hall (fun _ _ => rfl) (fun l W hW => ?_) (fun D W' hW hD hK => ?_)
  · exact values_none F hall hro (n - 1) l b c A W ((hW.cell (p := ⟨b, 0, none⟩) (by rw [hs0]; exact Nat.lt_succ_of_lt hb)).trans ((hb0.cell (p := ⟨b, 0, none⟩) hb).trans hc))
  · have hbx : W'.cell? ⟨w.heap.size, 0, none⟩ = some (.slice none 0 0) := (hW.cell (p := ⟨w.heap.size, 0, none⟩) (by rw [hs0]; exact Nat.lt_succ_self _)).trans (hv0.cell 0)
    have hbe : Below w.heap.size w W' := hb0.trans (hW.mono (by rw [hs0]; exact Nat.le_succ _))
    gi_wp2
    refine ⟨by simp, .inl ⟨_, _, rfl, run_takeDeferred hK, ?_⟩⟩
    exact ⟨_, results_tmp rfl _ _ _, rfl, hbe.grown (grownBy_putObj' _ _ _) hbe.size (fun k e => by cases e; rw [hs0] at hD; omega)⟩
end Go.Proofs.YtppgameimddimaaGreat
