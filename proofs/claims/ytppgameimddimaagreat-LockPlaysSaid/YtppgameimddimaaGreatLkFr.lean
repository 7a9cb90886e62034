/- what a call makes of a part of a block (the clock's Fr, under a name of its own). -/
import Derived.Test.YtppgameimddimaaGreatOwn
namespace Go.Proofs.YtppgameimddimaaGreat
open Go.ChangeShapes Go.WideShapes Go.ChangeAt Go.RowKit
set_option linter.unusedVariables false
/-- what a call makes of a block's part: the cells o to o + n - 1 alone, blocks of its own (F, then F'), blocks made anew -/
structure FrL (w : World) (b o n : Nat) (T : TypeId) (cs : Array Value) (F : List Nat) (w' : World) (cs' : Array Value) (F' : List Nat) : Prop where
  size : cs'.size = cs.size
  out : ∀ j, (j < o ∨ o + n ≤ j) → cs'[j]? = cs[j]?
  turned : Turned (b :: F) w w'
  fps : ∀ k ∈ F', k ∈ F ∨ w.heap.size ≤ k
theorem FrL.trans {w : World} {b o n : Nat} {T : TypeId} {cs cs1 cs2 : Array Value} {F F1 F2 : List Nat} {w1 w2 : World} (h : FrL w b o n T cs F w1 cs1 F1) (h2 : FrL w1 b o n T cs1 F1 w2 cs2 F2) : FrL w b o n T cs F w2 cs2 F2 :=
  ⟨h2.size.trans h.size, fun j hj => (h2.out j hj).trans (h.out j hj), h.turned.trans h2.turned (fun i hi => by
    rcases List.mem_cons.1 hi with rfl | hi
    · exact .inl (by simp)
    · exact (h.fps i hi).imp (List.mem_cons_of_mem _) id), fun k hk => by
    rcases h2.fps k hk with h3 | h3
    · exact h.fps k h3
    · exact .inr (Nat.le_trans h.turned.size h3)⟩
theorem FrL.refl (w : World) (b o n : Nat) (T : TypeId) (cs : Array Value) (F : List Nat) : FrL w b o n T cs F w cs F := ⟨rfl, fun _ _ => rfl, Turned.refl _ _, fun k hk => .inl hk⟩
theorem FrL.below {w w' : World} {b o n : Nat} {T : TypeId} {cs : Array Value} {F : List Nat} (hb : Below w.heap.size w w') : FrL w b o n T cs F w' cs F := ⟨rfl, fun _ _ => rfl, Turned.of_below hb _, fun k hk => .inl hk⟩
end Go.Proofs.YtppgameimddimaaGreat
