/- turn: an insertion sort of a row that lies in memory. -/
import Derived.Test.YtonodmoklbmfkaaTurn1
import Derived.Deep.LoopGhost
import Derived.Deep.RegionHeld3
import Derived.BigRegion
namespace Go.Proofs.Ytonodmoklbmfkaa
open Go.ChangeShapes Go.WideShapes Go.ChangeAt Go.RowKit
set_option linter.unusedVariables false
set_option linter.unusedSimpArgs false
theorem who_put {w : World} {base : Nat} {e : TypeId} {size n m c g : Nat} {xs : List Value} (h : w.ownsRow base e size (.slice (some ⟨g, 0, none⟩) m c) n xs) (k : Nat) (hk : k < n * size) (u : Value) :
    (w.setCell ⟨g, k, none⟩ u).ownsRow base e size (.slice (some ⟨g, 0, none⟩) m c) n (xs.set k u) := by
  obtain ⟨h1, h2⟩ := h
  refine ⟨by rw [List.length_set]; exact h1, ?_⟩
  rcases h2 with ⟨hv, _⟩ | ⟨g', cap, cur, hv, hb, hg, h3, h4, h5, h6⟩
  · cases hv
  · injection hv with e1 e2 e3
    injection e1 with e1
    injection e1 with e1
    subst e1; subst e2; subst e3
    refine .inr ⟨g, _, cur.setIfInBounds k u, rfl, hb, ?_, h3, h4, by simpa using h5, ?_⟩
    · exact (Bk.put (cs := cur) hg k u)
    · rw [Array.toList_setIfInBounds, List.take_set, h6]
theorem who_frozen {w : World} {base : Nat} {e : TypeId} {size n m c g : Nat} {xs : List Value} (h : w.ownsRow base e size (.slice (some ⟨g, 0, none⟩) m c) n xs) (k : Nat) : w.frozen? ⟨g, k, none⟩ = false := by
  rcases h.2 with ⟨hv, _⟩ | ⟨g', cap, cur, hv, hb, hg, _⟩
  · cases hv
  · injection hv with e1; injection e1 with e1; injection e1 with e1; subst e1
    exact Bk.frozen (cs := cur) hg k
/-- where an own row lies -/
theorem who_own {w : World} {base : Nat} {e : TypeId} {size n m : Nat} {A : Option Addr} {c : Nat} {xs : List Value} (h : w.ownsRow base e size (.slice A m c) n xs) (hn : 0 < n) : ∃ g, A = some ⟨g, 0, none⟩ ∧ base ≤ g ∧ g < w.heap.size := by
  rcases h.2 with ⟨_, h0⟩ | ⟨g, cap, cur, hv, hb, hg, _⟩
  · omega
  · injection hv with e1
    exact ⟨g, e1, hb, (Array.getElem?_eq_some_iff.1 hg).1⟩
theorem wtc_set (l : List WhoM) (i : Nat) (hi : i < l.length) (x : WhoM) : (((wtc l).set (i * 3) (.int .i64 x.task)).set (i * 3 + 1) (.int .i64 x.prio)).set (i * 3 + 2) (.int .i64 x.boost) = wtc (l.set i x) := by
  induction l generalizing i with
  | nil => simp at hi
  | cons a l ih =>
    cases i with
    | zero => simp [wtc]
    | succ i =>
      have h := ih i (by simpa using hi)
      have e : ∀ (k : Nat) (v : Value) (m : List Value), (Value.int .i64 a.task :: Value.int .i64 a.prio :: Value.int .i64 a.boost :: m).set (k + 3) v = Value.int .i64 a.task :: Value.int .i64 a.prio :: Value.int .i64 a.boost :: m.set k v := fun k v m => rfl
      show (((Value.int .i64 a.task :: Value.int .i64 a.prio :: Value.int .i64 a.boost :: wtc l).set ((i + 1) * 3) _).set ((i + 1) * 3 + 1) _).set ((i + 1) * 3 + 2) _ = Value.int .i64 a.task :: Value.int .i64 a.prio :: Value.int .i64 a.boost :: wtc (l.set i x)
      rw [show (i + 1) * 3 = i * 3 + 3 by omega, show i * 3 + 3 + 1 = i * 3 + 1 + 3 by omega, show i * 3 + 3 + 2 = i * 3 + 2 + 3 by omega, e, e, e, h]
def put3w (w : World) (g o : Nat) (x : WhoM) : World := ((w.setCell ⟨g, o, none⟩ (.int .i64 x.task)).setCell ⟨g, o + 1, none⟩ (.int .i64 x.prio)).setCell ⟨g, o + 2, none⟩ (.int .i64 x.boost)
theorem OwnW.set {B : Nat} {w : World} {g n c : Nat} {l : List WhoM} (h : OwnW B w (some ⟨g, 0, none⟩) n c l) {i : Nat} (hi : i < l.length) (x : WhoM) : OwnW B (put3w w g (i * 3) x) (some ⟨g, 0, none⟩) n c (l.set i x) := by
  have hl := h.len
  have h1 := who_put h.own (i * 3) (by omega) (.int .i64 x.task)
  have h2 := who_put h1 (i * 3 + 1) (by omega) (.int .i64 x.prio)
  have h3 := who_put h2 (i * 3 + 2) (by omega) (.int .i64 x.boost)
  rw [wtc_set l i hi x] at h3
  exact ⟨h3, by rw [List.length_set]; exact hl, h.cap, h.nil⟩
theorem put3w_turned (w : World) (g o : Nat) (x : WhoM) : Turned [g] w (put3w w g o x) := (((Turned.refl [g] w).setCell (.inl (by simp)) _).setCell (.inl (by simp)) _).setCell (.inl (by simp)) _
theorem OwnW.at_ {B : Nat} {w : World} {g n c : Nat} {l : List WhoM} (h : OwnW B w (some ⟨g, 0, none⟩) n c l) {i : Nat} (hi : i < l.length) : WhoCells w g (i * 3) (l.getD i default) := by
  obtain ⟨b, off, e, hc⟩ := h.whos.resolve_left (by intro e; rw [e] at hi; simp at hi)
  cases e
  have := hc i hi
  rwa [Nat.zero_add] at this
theorem OwnW.free {B : Nat} {w : World} {g n c : Nat} {l : List WhoM} (h : OwnW B w (some ⟨g, 0, none⟩) n c l) (k : Nat) : w.frozen? ⟨g, k, none⟩ = false := who_frozen h.own k
/-- what lies in memory while x goes down -/
theorem swap_list (A p q R : List WhoM) (x y : WhoM) : ((A ++ (p ++ [y] ++ x :: q) ++ R).set (A.length + p.length + 1) y).set (A.length + p.length) x = A ++ (p ++ x :: (y :: q)) ++ R := by
  have e1 : (A ++ (p ++ [y] ++ x :: q) ++ R) = (A ++ p) ++ (y :: x :: (q ++ R)) := by simp
  rw [e1, List.set_append_right _ _ (by simp), List.set_append_right _ _ (by simp)]
  simp
theorem sortW_one (l : List WhoM) (h : l.length ≤ 1) : sortW l = l := by
  match l, h with
  | [], _ => rfl
  | [x], _ => rfl
end Go.Proofs.Ytonodmoklbmfkaa
