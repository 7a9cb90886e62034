/- sorted: rows of items on the heap; merge. -/
import Derived.Test.YtpcbonljbfbdmaaSortMath
import Derived.Deep.LoopGhost
import Derived.Deep.QuietTactic
import Derived.BigQuiet
import Derived.Outline
namespace Go.Proofs.Ytpcbonljbfbdmaa
open Go.ChangeShapes Go.WideShapes Go.ChangeAt Go.RowKit
set_option maxRecDepth 100000
set_option linter.unusedVariables false

theorem infoItem : (Try.prog.info? 62).map (fun i => (i.zero, i.size, i.bytes)) = some (some (.agg #[.int .i64 0, .int .i64 0]), 2, 16) := by kernel_rfl
/-- the cells of a row of items -/
def pcs (ps : List (Int × Int)) : List Value := ps.flatMap fun p => [.int .i64 p.1, .int .i64 p.2]
theorem pcs_len (ps : List (Int × Int)) : (pcs ps).length = ps.length * 2 := by
  induction ps with
  | nil => rfl
  | cons p ps ih => simp only [pcs, List.flatMap_cons, List.length_append, List.length_cons, List.length_nil] at *; omega
theorem pcs_append (a b : List (Int × Int)) : pcs (a ++ b) = pcs a ++ pcs b := by simp [pcs]
theorem pcs_one (ps : List (Int × Int)) : ∀ u ∈ pcs ps, u.oneCell' = true := fun u hu => by
  obtain ⟨p, _, h⟩ := List.mem_flatMap.1 hu
  simp at h
  rcases h with rfl | rfl <;> rfl
theorem pcs_drop (ps : List (Int × Int)) (k : Nat) : (pcs ps).drop (k * 2) = pcs (ps.drop k) := by
  induction k generalizing ps with
  | zero => simp
  | succ k ih =>
    cases ps with
    | nil => simp [pcs]
    | cons p ps =>
      rw [show (k + 1) * 2 = k * 2 + 1 + 1 by omega]
      simp only [pcs, List.flatMap_cons, List.cons_append, List.nil_append, List.drop_succ_cons]
      exact ih ps
theorem pcs_take (ps : List (Int × Int)) (k : Nat) : (pcs ps).take (k * 2) = pcs (ps.take k) := by
  have h := pcs_append (ps.take k) (ps.drop k)
  rw [List.take_append_drop] at h
  by_cases hk : k ≤ ps.length
  · rw [h, List.take_left']
    rw [pcs_len]; simp; omega
  · rw [List.take_of_length_le (by rw [pcs_len]; omega), List.take_of_length_le (by omega)]
theorem pcs_at (ps : List (Int × Int)) (k : Nat) (hk : k < ps.length) : (pcs ps)[k * 2]? = some (.int .i64 (ps.getD k (0, 0)).1) ∧ (pcs ps)[k * 2 + 1]? = some (.int .i64 (ps.getD k (0, 0)).2) := by
  have h := pcs_drop ps k
  rw [List.drop_eq_getElem_cons hk] at h
  have h0 := congrArg (fun l => l[0]?) h
  have h1 := congrArg (fun l => l[1]?) h
  simp only [List.getElem?_drop, Nat.add_zero] at h0 h1
  have hg : ps.getD k (0, 0) = ps[k] := by simp [List.getD, hk]
  rw [hg, h0, h1]
  exact ⟨rfl, rfl⟩

/-- a slice of items somewhere, that is only read -/
structure RdI (w : World) (A : Option Addr) (n c : Nat) (ps : List (Int × Int)) : Prop where
  lies : Lies w.heap.size w A (pcs ps)
  len : n = ps.length
  cap : ps.length ≤ c ∧ c ≤ maxLen
  nil : A = none → ps = [] ∧ c = 0
  fit : ∀ p ∈ ps, I64 p.1 ∧ I64 p.2
/-- a row of items of the call's own -/
structure OwnI (B : Nat) (w : World) (A : Option Addr) (n c : Nat) (ps : List (Int × Int)) : Prop where
  own : w.ownsRow B 62 2 (.slice A n c) n (pcs ps)
  len : n = ps.length
  cap : n ≤ c ∧ c ≤ maxLen
  nil : A = none → n = 0 ∧ c = 0
  fit : ∀ p ∈ ps, I64 p.1 ∧ I64 p.2
section
variable {w w' : World} {A : Option Addr} {n c B : Nat} {ps : List (Int × Int)}
theorem RdI.over (h : RdI w A n c ps) (hb : Below w.heap.size w w') : RdI w' A n c ps := ⟨(h.lies.below hb).mono hb.size, h.len, h.cap, h.nil, h.fit⟩
theorem RdI.drew (h : RdI w A n c ps) : RdI w.drew A n c ps := ⟨h.lies, h.len, h.cap, h.nil, h.fit⟩
theorem RdI.drewN (h : RdI w A n c ps) (k : Nat) : RdI (w.drewN k) A n c ps := ⟨h.lies, h.len, h.cap, h.nil, h.fit⟩
theorem RdI.of_own (h : OwnI B w A n c ps) : RdI w A n c ps := by
  obtain ⟨h1, rfl, h2, h3, h4⟩ := h
  refine ⟨Lies.of_own h1, rfl, h2, fun e => ⟨List.eq_nil_of_length_eq_zero (h3 e).1, (h3 e).2⟩, h4⟩
theorem OwnI.low {B' : Nat} (h : OwnI B w A n c ps) (hB : B' ≤ B) : OwnI B' w A n c ps := ⟨own_base h.own (fun k hk => Nat.le_trans hB (h.own.lt k hk).1), h.len, h.cap, h.nil, h.fit⟩
/-- what s[k:] is -/
theorem RdI.cut {g off : Nat} (h : RdI w (some ⟨g, off, none⟩) n c ps) (k : Nat) (hk : k ≤ ps.length) :
    RdI w (if c = k then some ⟨g, off, none⟩ else some ⟨g, off + k * 2, none⟩) (n - k) (c - k) (ps.drop k) := by
  have hl := h.len
  have hc := h.cap
  subst hl
  refine ⟨?_, by simp, by simp; omega, (fun e => by split at e <;> cases e), fun n hn => h.fit n (List.mem_of_mem_drop hn)⟩
  rw [← pcs_drop]
  by_cases e : c = k
  · rw [if_pos e, List.drop_eq_nil_of_le (by rw [pcs_len]; omega)]; exact .inl rfl
  · rw [if_neg e]; exact h.lies.drop (k * 2)
/-- what s[:k] is -/
theorem RdI.head (h : RdI w A n c ps) (k : Nat) (hk : k ≤ ps.length) : RdI w A k c (ps.take k) := by
  have hc := h.cap
  refine ⟨?_, by simp; omega, by simp; omega, fun e => ⟨by simp [(h.nil e).1], (h.nil e).2⟩, fun n hn => h.fit n (List.mem_of_mem_take hn)⟩
  rw [← pcs_take]; exact h.lies.take (k * 2)
theorem RdI.some_ (h : RdI w A n c ps) (hn : 0 < ps.length) : ∃ g off, A = some ⟨g, off, none⟩ := by
  rcases h.lies with h1 | ⟨b, off, e, _⟩
  · have := congrArg List.length h1; rw [pcs_len] at this; simp at this; omega
  · exact ⟨b, off, e⟩
theorem RdI.cells {g off k : Nat} (h : RdI w (some ⟨g, off, none⟩) n c ps) (hk : k < ps.length) :
    w.cell? ⟨g, off + k * 2, none⟩ = some (.int .i64 (ps.getD k (0, 0)).1) ∧ w.cell? ⟨g, off + k * 2 + 1, none⟩ = some (.int .i64 (ps.getD k (0, 0)).2) := by
  rcases h.lies with h1 | ⟨b, o, e, _, hc⟩
  · have := congrArg List.length h1; rw [pcs_len] at this; simp at this; omega
  · injection e with e; injection e with e1 e2
    subst e1; subst e2
    obtain ⟨a1, a2⟩ := pcs_at ps k hk
    exact ⟨hc _ _ a1, by have := hc _ _ a2; rwa [← Nat.add_assoc] at this⟩
theorem Lies.newCells (w : World) (cs : List Value) (T : TypeId) : Lies (w.heap.size + 1) (w.alloc (.cells cs.toArray T)) (some ⟨w.heap.size, 0, none⟩) cs := by
  refine .inr ⟨_, 0, rfl, by omega, fun j v hj => ?_⟩
  have := (Bk.new w T cs.toArray).cell j
  rw [Nat.zero_add, this]
  simpa using hj
/-- one item more -/
theorem OwnI.app {B : Nat} {w1 w2 : World} {A A' : Option Addr} {n c c' : Nat} {rs ps : List (Int × Int)} {m : Nat} (h : OwnI B w A n c rs) (ha : App B 62 2 w1 A A' (n + m) c' (pcs rs ++ pcs ps) w2) (hm : m = ps.length) (hf : ∀ p ∈ ps, I64 p.1 ∧ I64 p.2) : OwnI B w2 A' (n + m) c' (rs ++ ps) :=
  ⟨by rw [pcs_append]; exact ha.own, by rw [List.length_append, h.len, hm], ha.cap, ha.nil, fun p hp => (List.mem_append.1 hp).elim (h.fit p) (hf p)⟩
end

def SortPost (w : World) (n : Nat) (ps : List (Int × Int)) (e : Ending) (w' : World) : Prop := ∃ A c, e = .returned (.slice A n c) ∧ OwnI w.heap.size w' A n c ps ∧ Below w.heap.size w w'
end Go.Proofs.Ytpcbonljbfbdmaa
