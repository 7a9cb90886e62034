/- Rows of the call's own whose cells are written one by one. -/
import Derived.Test.YtjjlpaampmpdfaaGreatDoorOwnT
namespace Go.Proofs.YtjjlpaampmpdfaaGreatDoor
open Go.ChangeShapes Go.WideShapes Go.ChangeAt Go.RowKit
set_option linter.unusedVariables false

theorem own_put {w : World} {base : Nat} {e : TypeId} {size n m c g : Nat} {xs : List Value} (h : w.ownsRow base e size (.slice (some ⟨g, 0, none⟩) m c) n xs) (k : Nat) (hk : k < n * size) (u : Value) :
    (w.setCell ⟨g, k, none⟩ u).ownsRow base e size (.slice (some ⟨g, 0, none⟩) m c) n (xs.set k u) := by
  obtain ⟨h1, h2⟩ := h
  refine ⟨by rw [List.length_set]; exact h1, ?_⟩
  rcases h2 with ⟨hv, _⟩ | ⟨g', cap, cur, hv, hb, hg, h3, h4, h5, h6⟩
  · cases hv
  · injection hv with e1 e2 e3
    injection e1 with e1
    injection e1 with e1
    subst e1; subst e2; subst e3
    refine .inr ⟨g, _, cur.setIfInBounds k u, rfl, hb, ?_, h3, h4, by simpa using h5, ?_⟩
    · exact (Bk.put (cs := cur) hg k u)
    · rw [Array.toList_setIfInBounds, List.take_set, h6]
theorem ttc_set (ts : List TaskR) (i : Nat) (hi : i < ts.length) (j : Nat) (t : TaskR) (u : Value) (h : ([.string t.name, .int .i64 t.per, .int .i64 t.dl, .int .i64 t.prio, .int .i64 t.cl, .slice t.pa t.parts.length t.pc] : List Value) = ([.string ts[i].name, .int .i64 ts[i].per, .int .i64 ts[i].dl, .int .i64 ts[i].prio, .int .i64 ts[i].cl, .slice ts[i].pa ts[i].parts.length ts[i].pc] : List Value).set j u) (hj : j < 6) :
    (ttc ts).set (i * 6 + j) u = ttc (ts.set i t) := by
  induction ts generalizing i with
  | nil => simp at hi
  | cons a ts ih =>
    cases i with
    | zero =>
      simp only [List.getElem_cons_zero] at h
      simp only [List.set_cons_zero, Nat.zero_mul, Nat.zero_add]
      show (_ ++ ttc ts).set j u = _ ++ ttc ts
      rw [List.set_append_left _ _ (by simpa using hj), ← h]
    | succ i =>
      simp only [List.getElem_cons_succ] at h
      simp only [List.set_cons_succ]
      show (_ ++ ttc ts).set ((i + 1) * 6 + j) u = _ ++ ttc (ts.set i t)
      rw [List.set_append_right _ _ (by simp; omega)]
      congr 1
      rw [← ih i (by simpa using hi) h]
      congr 1
      simp; omega
theorem ownT_put {B : Nat} {w : World} {g n c : Nat} {ts : List TaskR} (h : OwnT B w (some ⟨g, 0, none⟩) n c ts) {i : Nat} (hi : i < ts.length) {j : Nat} (hj : j < 6) (t : TaskR) (u : Value) (hu : ([.string t.name, .int .i64 t.per, .int .i64 t.dl, .int .i64 t.prio, .int .i64 t.cl, .slice t.pa t.parts.length t.pc] : List Value) = ([.string ts[i].name, .int .i64 ts[i].per, .int .i64 ts[i].dl, .int .i64 ts[i].prio, .int .i64 ts[i].cl, .slice ts[i].pa ts[i].parts.length ts[i].pc] : List Value).set j u) :
    OwnT B (w.setCell ⟨g, i * 6 + j, none⟩ u) (some ⟨g, 0, none⟩) n c (ts.set i t) := by
  refine ⟨?_, by rw [List.length_set]; exact h.len, h.cap, fun e => by cases e⟩
  rw [← ttc_set ts i hi j t u hu hj]
  have hl := h.len
  exact own_put h.own (i * 6 + j) (by omega) u
/-- a row of ints of the call's own -/
structure OwnN (B : Nat) (w : World) (A : Option Addr) (n c : Nat) (zs : List Int) : Prop where
  own : w.ownsRow B 3 1 (.slice A n c) n (zs.map (Value.int .i64))
  len : n = zs.length
  cap : n ≤ c ∧ c ≤ maxLen
  nil : A = none → n = 0 ∧ c = 0
theorem OwnN.put {B : Nat} {w : World} {g n c : Nat} {zs : List Int} (h : OwnN B w (some ⟨g, 0, none⟩) n c zs) {i : Nat} (hi : i < zs.length) (x : Int) : OwnN B (w.setCell ⟨g, i, none⟩ (.int .i64 x)) (some ⟨g, 0, none⟩) n c (zs.set i x) := by
  refine ⟨?_, by rw [List.length_set]; exact h.len, h.cap, fun e => by cases e⟩
  have hl := h.len
  rw [List.map_set]
  exact own_put h.own i (by omega) _
theorem OwnN.row {B : Nat} {w : World} {A : Option Addr} {n c : Nat} {zs : List Int} (h : OwnN B w A n c zs) : Row w .i64 A zs := Lies.row (B := w.heap.size) (Lies.of_own h.own)
theorem OwnN.turned {B : Nat} {F : List Nat} {w w' : World} {A : Option Addr} {n c : Nat} {zs : List Int} (h : OwnN B w A n c zs) (ht : Turned F w w') (hF : ∀ k ∈ fp A, k ∉ F) : OwnN B w' A n c zs := ⟨own_turned h.own ht hF, h.len, h.cap, h.nil⟩
theorem OwnN.ok {B : Nat} {w : World} {A : Option Addr} {n c : Nat} {zs : List Int} (h : OwnN B w A n c zs) (hz : ∀ n ∈ zs, I64 n) : IntsOk w A c zs := ⟨⟨fun e => by have := h.nil e; rw [h.len] at this; exact this, by rw [← h.len]; exact h.cap⟩, h.row, hz⟩
/-- where an own row lies -/
theorem own_at {w : World} {base : Nat} {e : TypeId} {size n m : Nat} {A : Option Addr} {c : Nat} {xs : List Value} (h : w.ownsRow base e size (.slice A m c) n xs) (hn : 0 < n) : ∃ g, A = some ⟨g, 0, none⟩ ∧ base ≤ g ∧ g < w.heap.size := by
  rcases h.2 with ⟨_, h0⟩ | ⟨g, cap, cur, hv, hb, hg, _⟩
  · omega
  · injection hv with e1
    exact ⟨g, e1, hb, (Array.getElem?_eq_some_iff.1 hg).1⟩
theorem own_frozen {w : World} {base : Nat} {e : TypeId} {size n m c g : Nat} {xs : List Value} (h : w.ownsRow base e size (.slice (some ⟨g, 0, none⟩) m c) n xs) (k : Nat) : w.frozen? ⟨g, k, none⟩ = false := by
  rcases h.2 with ⟨hv, _⟩ | ⟨g', cap, cur, hv, hb, hg, _⟩
  · cases hv
  · injection hv with e1; injection e1 with e1; injection e1 with e1; subst e1
    exact Bk.frozen (cs := cur) hg k
end Go.Proofs.YtjjlpaampmpdfaaGreatDoor
