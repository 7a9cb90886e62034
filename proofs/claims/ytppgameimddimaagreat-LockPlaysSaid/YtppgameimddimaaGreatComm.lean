/- Communication as one of a region's operations, nobody else being there: a send with room, a receive, a select of which one case at most is ready. Laws for the walk, over any program. -/
import Derived.Test.YtppgameimddimaaGreatOwn
import Derived.Conc.LoneSelect
import Derived.Conc.LoneSelectN
import Derived.Tactics2
namespace Go.Proofs.YtppgameimddimaaGreat
open Go.Conc
set_option linter.unusedVariables false
section
variable {P : Program} {ops : Array Oper} {Q : Exit → Act → World → Prop} {l rest : List Nat} {a a1 : Act} {w w1 : World} {i : Nat} {o : Oper} {v z : Value}
/-- from here on the operations numbered l are carried out one behind the other -/
def WpS (P : Program) (ops : Array Oper) (Q : Exit → Act → World → Prop) (l : List Nat) (a : Act) (w : World) : Prop :=
  ∀ (b : Frame) (k : List Item) (cs : List Frame), ∃ e a' w', Q e a' w' ∧ Arrives P (lone (b.at a (.inRegion ops l :: k)) cs w) b k cs e a' w'
theorem wpS_region {id : Nat} (l : List Nat) (hl : List.range ops.size = l) (h : WpS P ops Q l a w) : (Code.region id ops false).wp P Q a w := by
  subst hl
  exact fun b k cs => let ⟨e, a', w', q, r⟩ := h b k cs; ⟨e, a', w', q, .of_steps (.one step_region) r⟩
theorem wpS_step (hs : ∀ (b : Frame) (k : List Item) (cs : List Frame), step P (lone (b.at a (.inRegion ops (i :: rest) :: k)) cs w) = .next (lone (b.at a1 (.inRegion ops rest :: k)) cs w1)) (h : WpS P ops Q rest a1 w1) : WpS P ops Q (i :: rest) a w :=
  fun b k cs => let ⟨e, a', w', q, r⟩ := h b k cs; ⟨e, a', w', q, .of_steps (.one (hs b k cs)) r⟩
theorem wanted_none (hg : o.guard = none) : Region.wanted o (yielded ops a.tmps) = true := by simp [Region.wanted, hg]
theorem wpS_value (ho : ops[i]? = some o) (hg : o.guard = none) (hr : (execOp a.eval o).run P w = .ok (.value v) w1) (h : WpS P ops Q rest (a.put o.dst v) w1) : WpS P ops Q (i :: rest) a w := by
  refine wpS_step (fun b k cs => ?_) h
  have hfin : (b.at a (.inRegion ops (i :: rest) :: k)).finish v = b.at (a.put o.dst v) (.inRegion ops rest :: k) := by rw [Frame.finish_at, ho]; rfl
  refine step_lone_go ?_
  rw [stepG_op ho (wanted_none hg), ← hfin]
  simp [stepG.apply, hr]
theorem wpS_quick (ho : ops[i]? = some o) (hg : o.guard = none) (hr : (execOp a.eval o).run P w = .ok (.value v) w) (h : WpS P ops Q rest (a.put o.dst v) w) : WpS P ops Q (i :: rest) a w := wpS_value ho hg hr h
theorem wpS_done (h : Q .normal a w) : WpS P ops Q [] a w := fun b k cs => ⟨.normal, a, w, h, .one step_region_end⟩
theorem wpS_list (k : Nat) {L : List Oper} (hL : ops.toList.drop k = L) (hr : rest = List.range' k L.length) (h : wpList P ops Q L a w) : WpS P ops Q rest a w := by
  subst hr
  have e := wpOps_eq_wpList (P := P) (ops := ops) (Q := Q) L k (fun j => by rw [← hL, List.getElem?_drop, Array.getElem?_toList])
  exact wp_ops _ a w (by rw [e]; exact h)
theorem stepG_comm_any {b : Frame} {k : List Item} {cs : List Frame} {cases : Array CommCase} {blocking : Bool} {shape : CommShape} (ho : ops[i]? = some o) (hw : Region.wanted o (yielded ops a.tmps) = true) (hr : (execOp a.eval o).run P w = .ok (.comm cases blocking shape) w1) :
    ∃ es, stepG P true (G (b.at a (.inRegion ops (i :: rest) :: k)) cs) w = .comm (G (b.at a (.inRegion ops (i :: rest) :: k)) cs) cases blocking shape w1 es := by
  by_cases hk : b.kind = .early
  · rw [stepG_oper ho hw]
    refine ⟨seen P b.fn #[], ?_⟩
    simp [stepG.apply, hr, G, Frame.at, hk, GStep.after]
  · exact ⟨_, stepG_comm ho hw hk hr⟩
section
variable {c cap s r : Nat} {buf : Array Value} {closed tm : Bool} {z' : Value}
theorem wpS_send (ho : ops[i]? = some o) (hg : o.guard = none) (hr : (execOp a.eval o).run P w = .ok (.comm #[scase c v z'] true .send) w1) (hc : w1.heap[c]? = some (.chan cap buf false s r tm)) (hroom : buf.size < cap)
    (h : WpS P ops Q rest (a.put o.dst undef) (w1.setChan c cap (buf.push v) false (s + 1) r tm)) : WpS P ops Q (i :: rest) a w := by
  refine wpS_step (fun b k cs => ?_) h
  obtain ⟨es, he⟩ := stepG_comm_any (b := b) (k := k) (cs := cs) (rest := rest) ho (wanted_none hg) hr
  have := step_lone_send_room he hc hroom
  rw [Frame.finish_at, ho] at this
  exact this
theorem wpS_recv (ho : ops[i]? = some o) (hg : o.guard = none) (hr : (execOp a.eval o).run P w = .ok (.comm #[rcase c z] true (.recv false)) w1) (hc : w1.heap[c]? = some (.chan cap buf closed s r tm)) (hsome : 0 < buf.size)
    (h : WpS P ops Q rest (a.put o.dst (buf.getD 0 undef)) (w1.setChan c cap (buf.extract 1 buf.size) closed s (r + 1) tm)) : WpS P ops Q (i :: rest) a w := by
  refine wpS_step (fun b k cs => ?_) h
  obtain ⟨es, he⟩ := stepG_comm_any (b := b) (k := k) (cs := cs) (rest := rest) ho (wanted_none hg) hr
  have := step_lone_recv_buf false he hc hsome
  rw [Frame.finish_at, ho] at this
  exact this
theorem wpS_sel_recv {cases : Array CommCase} {blocking : Bool} (m : Nat) (ho : ops[i]? = some o) (hg : o.guard = none) (hr : (execOp a.eval o).run P w = .ok (.comm cases blocking .select) w1) (hm : cases[m]? = some (rcase c z))
    (hn : ∀ (j : Nat) (c' : CommCase), j ≠ m → cases[j]? = some c' → NoWay w1 c') (hc : w1.heap[c]? = some (.chan cap buf closed s r tm)) (hsome : 0 < buf.size)
    (h : WpS P ops Q rest (a.put o.dst (commResult cases .select m (buf.getD 0 undef) true)) (w1.setChan c cap (buf.extract 1 buf.size) closed s (r + 1) tm)) : WpS P ops Q (i :: rest) a w := by
  refine wpS_step (fun b k cs => ?_) h
  obtain ⟨es, he⟩ := stepG_comm_any (b := b) (k := k) (cs := cs) (rest := rest) ho (wanted_none hg) hr
  have := step_lone_sel_recv_buf he hm hn hc hsome
  rw [Frame.finish_at, ho] at this
  exact this
theorem wpS_sel_default {cases : Array CommCase} (ho : ops[i]? = some o) (hg : o.guard = none) (hr : (execOp a.eval o).run P w = .ok (.comm cases false .select) w1) (hn : ∀ cc ∈ cases, NoWay w1 cc)
    (h : WpS P ops Q rest (a.put o.dst (commResult cases .select (-1) undef false)) w1) : WpS P ops Q (i :: rest) a w := by
  refine wpS_step (fun b k cs => ?_) h
  obtain ⟨es, he⟩ := stepG_comm_any (b := b) (k := k) (cs := cs) (rest := rest) ho (wanted_none hg) hr
  have := step_lone_sel_default he hn
  rw [Frame.finish_at, ho] at this
  exact this
end
end
/-! ### a channel's block -/
theorem setChan_other (w : World) (c c' cap : Nat) (buf : Array Value) (closed : Bool) (s r : Nat) (tm : Bool) (h : c' ≠ c) : (w.setChan c cap buf closed s r tm).heap[c']? = w.heap[c']? := by
  simp [World.setChan, Array.getElem?_setIfInBounds_ne (Ne.symm h)]
theorem Turned.setChan {F : List Nat} {w w' : World} (h : Turned F w w') {c : Nat} (hc : c ∈ F ∨ w.heap.size ≤ c) (cap : Nat) (buf : Array Value) (cl : Bool) (s r : Nat) (tm : Bool) : Turned F w (w'.setChan c cap buf cl s r tm) :=
  h.trans (w' := w') (w2 := w'.setChan c cap buf cl s r tm) (G := [c]) ⟨rfl, rfl, rfl, by simp [World.setChan], fun k hk hF => setChan_other _ _ _ _ _ _ _ _ _ (by simpa using hF)⟩ (fun i hi => by simp at hi; subst hi; exact hc)
theorem cell_setChan (w : World) (c cap : Nat) (buf : Array Value) (cl : Bool) (s r : Nat) (tm : Bool) {p : Addr} (h : p.block ≠ c) : (w.setChan c cap buf cl s r tm).cell? p = w.cell? p := by
  unfold World.cell?
  rw [setChan_other _ _ _ _ _ _ _ _ _ h]
end Go.Proofs.YtppgameimddimaaGreat
