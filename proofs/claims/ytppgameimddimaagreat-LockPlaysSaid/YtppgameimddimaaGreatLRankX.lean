/- rank: Values of none: its closure never calls yield. -/
import Derived.Test.YtppgameimddimaaGreatLRankV
import Derived.TacticsIn
import Derived.RangeFuncOwn
import Derived.RangeFuncLeaves
import Derived.LoopNIn
namespace Go.Proofs.YtppgameimddimaaGreat
open Go.ChangeShapes Go.WideShapes Go.ChangeAt Go.RowKit
set_option linter.unusedVariables false
set_option linter.unusedSimpArgs false
def FAll : Fence := { fn := fun _ => True }
set_option maxRecDepth 100000 in
set_option maxHeartbeats 1000000 in
theorem values_none (F : Fence) (hall : ∀ f, F.fn f) (hro : F.round = none) (n l b c : Nat) (A : Option Addr) (W : World) (hc : W.cell? ⟨b, 0, none⟩ = some (.slice A 0 c)) :
    CallsIn F n Tryz.prog 83 #[.func (.yield l) #[] #[], .pointer (some ⟨b, 0, none⟩)] W fun e W' => e = .returned (.tuple #[]) ∧ W' = W := by
  refine callsIn_of_wp (fn := Tryz.f83) rfl rfl (hall _) ?_ hro
  simp only [show (Tryz.f83).ntmps = 16 from rfl, List.size_toArray, List.length_cons, List.length_nil, Nat.reduceAdd, Nat.reduceSub, Array.replicate_succ, Array.replicate_zero, List.push_toArray, List.append_toArray, List.cons_append, List.nil_append]
  gi_wp2
  refine wpIn_loop_rounds 1 ?_
  rw [roundsIn_succ]
  gi_wp2
  go_end0
  exact ⟨rfl, rfl⟩
end Go.Proofs.YtppgameimddimaaGreat
