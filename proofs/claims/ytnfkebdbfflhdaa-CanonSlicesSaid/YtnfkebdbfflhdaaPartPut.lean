/- A part of a row of the call's own is written. -/
import Derived.Test.YtnfkebdbfflhdaaOwnPut
namespace Go.Proofs.Ytnfkebdbfflhdaa
open Go.ChangeShapes Go.WideShapes Go.ChangeAt Go.RowKit
set_option linter.unusedVariables false
theorem ptc_cons (a : PartM) (ps : List PartM) : ptc (a :: ps) = .int .i64 a.kind :: .int .i64 a.len :: .int .i64 a.res :: ptc ps := by simp [ptc]
theorem ownP_len0 {B g n c : Nat} {w : World} {a : PartM} {ps : List PartM} (h : OwnP B w (some ⟨g, 0, none⟩) n c (a :: ps)) (x : Int) : OwnP B (w.setCell ⟨g, 1, none⟩ (.int .i64 x)) (some ⟨g, 0, none⟩) n c (⟨a.kind, x, a.res⟩ :: ps) := by
  have hl := h.len
  refine ⟨?_, hl, h.cap, fun e => by cases e⟩
  have := own_put h.own 1 (show 1 < n * 3 by simp at hl; omega) (.int .i64 x)
  rw [ptc_cons] at this
  rw [ptc_cons]
  exact this
end Go.Proofs.Ytnfkebdbfflhdaa
