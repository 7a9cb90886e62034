/- swingbridgeref25: the boxes that the loops of slots, jobs, waits look into. -/
import Derived.Test.YtmchjmgifipfoaaTraceB
namespace Go.Proofs.Ytmchjmgifipfoaa
open Go.ChangeShapes Go.WideShapes Go.ChangeAt Go.RowKit
/-- the boxes that the loops look into -/
structure RsR (w wr : World) (s : SetR) (t : TraceR) : Prop where
  b : Below w.heap.size w wr
  sc : SetCells wr w.heap.size s
  tb : TraceBox wr (w.heap.size + 1) t
theorem RsR.keep {w wr w2 : World} {s : SetR} {t : TraceR} (h : RsR w wr s t) (hb : Below wr.heap.size wr w2) : RsR w w2 s t := ⟨h.b.trans (hb.mono h.b.size), h.sc.keep (Keeps.of_below hb), h.tb.keep (Keeps.of_below hb)⟩
theorem RsR.alloc {w wr : World} {s : SetR} {t : TraceR} (h : RsR w wr s t) (o : Obj) : RsR w (wr.alloc o) s t := h.keep ((Below.refl _ _).alloc (Nat.le_refl _) o)
theorem RsR.drewN {w wr : World} {s : SetR} {t : TraceR} (h : RsR w wr s t) (n : Nat) : RsR w (wr.drewN n) s t := h.keep (below_drewN (Below.refl _ _) n)
end Go.Proofs.Ytmchjmgifipfoaa
