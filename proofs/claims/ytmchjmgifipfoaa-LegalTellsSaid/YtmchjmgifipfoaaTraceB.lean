/- Boxes of slots, waits, jobs, traces, over stores elsewhere. Imports nothing of the dump's functions. -/
import Derived.Test.YtmchjmgifipfoaaTraceM
import Derived.Test.YtmchjmgifipfoaaOwnT
namespace Go.Proofs.Ytmchjmgifipfoaa
open Go.ChangeShapes Go.WideShapes Go.ChangeAt Go.RowKit
structure SlotBox (w : World) (b : Nat) (x : SlotM) : Prop where
  c0 : w.cell? ⟨b, 0, none⟩ = some (.int .i64 x.time)
  c1 : w.cell? ⟨b, 1, none⟩ = some (.int .i64 x.cl)
  c2 : w.cell? ⟨b, 2, none⟩ = some (.int .i64 x.task)
  c3 : w.cell? ⟨b, 3, none⟩ = some (.bool x.held)
theorem SlotBox.new (w : World) (x : SlotM) (t : TypeId) : SlotBox (w.alloc (.cells #[.int .i64 x.time, .int .i64 x.cl, .int .i64 x.task, .bool x.held] t)) w.heap.size x := ⟨by simp, by simp, by simp, by simp⟩
theorem SlotBox.keep {w w' : World} {b : Nat} {x : SlotM} (h : SlotBox w b x) (k : Keeps w w') : SlotBox w' b x := ⟨k _ _ h.c0, k _ _ h.c1, k _ _ h.c2, k _ _ h.c3⟩
/-- what lies in other blocks stays -/
theorem cell_far {w : World} {p : Addr} {g i : Nat} {u v : Value} (h : w.cell? ⟨g, i, none⟩ = some v) (hg : g ≠ p.block) : (w.setCell p u).cell? ⟨g, i, none⟩ = some v := by
  rw [← h]; exact World.cell?_setCell_other w p ⟨g, i, none⟩ u (by intro e; first | (rw [← e] at hg; exact hg rfl) | (rw [e] at hg; exact hg rfl))
theorem SlotBox.far {w : World} {b : Nat} {x : SlotM} (h : SlotBox w b x) {p : Addr} (u : Value) (hg : b ≠ p.block) : SlotBox (w.setCell p u) b x := ⟨cell_far h.c0 hg, cell_far h.c1 hg, cell_far h.c2 hg, cell_far h.c3 hg⟩
theorem WaitBox.far {w : World} {b : Nat} {x : WaitM} (h : WaitBox w b x) {p : Addr} (u : Value) (hg : b ≠ p.block) : WaitBox (w.setCell p u) b x := ⟨cell_far h.c0 hg, cell_far h.c1 hg, cell_far h.c2 hg, cell_far h.c3 hg, cell_far h.c4 hg⟩
theorem DoneBox.far {w : World} {b : Nat} {x : DoneM} (h : DoneBox w b x) {p : Addr} (u : Value) (hg : b ≠ p.block) : DoneBox (w.setCell p u) b x := ⟨cell_far h.c0 hg, cell_far h.c1 hg, cell_far h.c2 hg⟩
theorem TraceBox.far {w : World} {b : Nat} {x : TraceR} (h : TraceBox w b x) {p : Addr} (u : Value) (hg : b ≠ p.block) : TraceBox (w.setCell p u) b x := ⟨cell_far h.c0 hg, cell_far h.c1 hg, cell_far h.c2 hg, cell_far h.c3 hg⟩
theorem SetCells.far {w : World} {b : Nat} {x : SetR} (h : SetCells w b x) {p : Addr} (u : Value) (hg : b ≠ p.block) : SetCells (w.setCell p u) b x := ⟨cell_far h.1 hg, cell_far h.2.1 hg, cell_far h.2.2.1 hg, cell_far h.2.2.2 hg⟩
theorem SlotBox.turned {F : List Nat} {w w' : World} {b : Nat} {x : SlotM} (h : SlotBox w b x) (ht : Turned F w w') (hb : b ∉ F) : SlotBox w' b x := ⟨ht.cell h.c0 hb, ht.cell h.c1 hb, ht.cell h.c2 hb, ht.cell h.c3 hb⟩
theorem WaitBox.turned {F : List Nat} {w w' : World} {b : Nat} {x : WaitM} (h : WaitBox w b x) (ht : Turned F w w') (hb : b ∉ F) : WaitBox w' b x := ⟨ht.cell h.c0 hb, ht.cell h.c1 hb, ht.cell h.c2 hb, ht.cell h.c3 hb, ht.cell h.c4 hb⟩
theorem DoneBox.turned {F : List Nat} {w w' : World} {b : Nat} {x : DoneM} (h : DoneBox w b x) (ht : Turned F w w') (hb : b ∉ F) : DoneBox w' b x := ⟨ht.cell h.c0 hb, ht.cell h.c1 hb, ht.cell h.c2 hb⟩
theorem TraceBox.turned {F : List Nat} {w w' : World} {b : Nat} {x : TraceR} (h : TraceBox w b x) (ht : Turned F w w') (hb : b ∉ F) : TraceBox w' b x := ⟨ht.cell h.c0 hb, ht.cell h.c1 hb, ht.cell h.c2 hb, ht.cell h.c3 hb⟩
end Go.Proofs.Ytmchjmgifipfoaa
