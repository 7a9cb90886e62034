/- Rows of parts of the call's own; boxes of tasks that are written. -/
import Derived.Test.YtjjlpaampmpdfaaGreatDoorSound
import Derived.Test.YtjjlpaampmpdfaaGreatDoorOwn
namespace Go.Proofs.YtjjlpaampmpdfaaGreatDoor
open Go.ChangeShapes Go.WideShapes Go.ChangeAt Go.RowKit
set_option linter.unusedVariables false

theorem infoPart : (Tryz.prog.info? 38).map (fun i => (i.zero, i.size, i.bytes)) = some (some (.agg #[.int .i64 0, .int .i64 0, .int .i64 0]), 3, 24) := by kernel_rfl
/-- the cells of a row of parts -/
def ptc (ps : List PartM) : List Value := ps.flatMap fun p => [.int .i64 p.kind, .int .i64 p.len, .int .i64 p.res]
theorem ptc_len (ps : List PartM) : (ptc ps).length = ps.length * 3 := by
  induction ps with
  | nil => rfl
  | cons p ps ih => simp only [ptc, List.flatMap_cons, List.length_append, List.length_cons, List.length_nil] at *; omega
theorem ptc_append (a b : List PartM) : ptc (a ++ b) = ptc a ++ ptc b := by simp [ptc]
theorem ptc_one (ps : List PartM) : ∀ u ∈ ptc ps, u.oneCell' = true := fun u hu => by
  obtain ⟨p, _, h⟩ := List.mem_flatMap.1 hu
  simp at h
  rcases h with rfl | rfl | rfl <;> rfl
theorem ptc_drop (ps : List PartM) (k : Nat) : (ptc ps).drop (k * 3) = ptc (ps.drop k) := by
  induction k generalizing ps with
  | zero => simp
  | succ k ih =>
    cases ps with
    | nil => simp [ptc]
    | cons p ps =>
      rw [show (k + 1) * 3 = k * 3 + 1 + 1 + 1 by omega]
      simp only [ptc, List.flatMap_cons, List.cons_append, List.nil_append, List.drop_succ_cons]
      exact ih ps
theorem ptc_at (ps : List PartM) (k : Nat) (hk : k < ps.length) : (ptc ps)[k * 3]? = some (.int .i64 (ps.getD k default).kind) ∧ (ptc ps)[k * 3 + 1]? = some (.int .i64 (ps.getD k default).len) ∧ (ptc ps)[k * 3 + 2]? = some (.int .i64 (ps.getD k default).res) := by
  have h := ptc_drop ps k
  rw [List.drop_eq_getElem_cons hk] at h
  have h0 := congrArg (fun l => l[0]?) h
  have h1 := congrArg (fun l => l[1]?) h
  have h2 := congrArg (fun l => l[2]?) h
  simp only [List.getElem?_drop, Nat.add_zero] at h0 h1 h2
  have hg : ps.getD k default = ps[k] := by simp [List.getD, hk]
  rw [hg, h0, h1, h2]
  exact ⟨rfl, rfl, rfl⟩
theorem parts_lie {B : Nat} {w : World} {A : Option Addr} {ps : List PartM} (h : Lies B w A (ptc ps)) : PartsAt w A ps := by
  rcases h with h | ⟨b, off, rfl, _, hc⟩
  · left
    have := congrArg List.length h
    rw [ptc_len] at this
    exact List.eq_nil_of_length_eq_zero (by simp at this; omega)
  · refine .inr ⟨b, off, rfl, fun i hi => ?_⟩
    obtain ⟨a0, a1, a2⟩ := ptc_at ps i hi
    exact ⟨hc _ _ a0, by have := hc _ _ a1; rwa [← Nat.add_assoc] at this, by have := hc _ _ a2; rwa [← Nat.add_assoc] at this⟩
theorem lies_parts {w : World} {A : Option Addr} {ps : List PartM} (h : PartsAt w A ps) : Lies w.heap.size w A (ptc ps) := by
  rcases h with rfl | ⟨b, off, rfl, hc⟩
  · exact .inl rfl
  · by_cases h0 : ps = []
    · subst h0; exact .inl rfl
    · have hp : 0 < ps.length := List.length_pos_iff.2 h0
      refine .inr ⟨b, off, rfl, cell_lt (hc 0 hp).1, fun j v hj => ?_⟩
      have hl : j < ps.length * 3 := by
        by_cases x : j < ps.length * 3
        · exact x
        · rw [List.getElem?_eq_none (by rw [ptc_len]; omega)] at hj; cases hj
      obtain ⟨c0, c1, c2⟩ := hc (j / 3) (by omega)
      obtain ⟨a0, a1, a2⟩ := ptc_at ps (j / 3) (by omega)
      rcases (show j = j / 3 * 3 ∨ j = j / 3 * 3 + 1 ∨ j = j / 3 * 3 + 2 by omega) with e | e | e
      · rw [e] at hj; rw [a0] at hj; rw [e]; rw [← hj]; exact c0
      · rw [e] at hj; rw [a1] at hj; rw [e, ← Nat.add_assoc]; rw [← hj]; exact c1
      · rw [e] at hj; rw [a2] at hj; rw [e, ← Nat.add_assoc]; rw [← hj]; exact c2
/-- a row of parts of the call's own -/
structure OwnP (B : Nat) (w : World) (A : Option Addr) (n c : Nat) (ps : List PartM) : Prop where
  own : w.ownsRow B 38 3 (.slice A n c) n (ptc ps)
  len : n = ps.length
  cap : n ≤ c ∧ c ≤ maxLen
  nil : A = none → n = 0 ∧ c = 0
theorem OwnP.none (B : Nat) (w : World) : OwnP B w none 0 0 [] := ⟨World.ownsRow_nil _ _ _ _, rfl, by decide, fun _ => ⟨rfl, rfl⟩⟩
theorem OwnP.parts {B : Nat} {w : World} {A : Option Addr} {n c : Nat} {ps : List PartM} (h : OwnP B w A n c ps) : PartsAt w A ps := by
  obtain ⟨h1, rfl, _, _⟩ := h
  exact parts_lie (Lies.of_own h1)
theorem OwnP.app {B : Nat} {w w1 w2 : World} {A A' : Option Addr} {n c c' : Nat} {rs ps : List PartM} {m : Nat} (h : OwnP B w A n c rs) (ha : App B 38 3 w1 A A' (n + m) c' (ptc rs ++ ptc ps) w2) (hm : m = ps.length) : OwnP B w2 A' (n + m) c' (rs ++ ps) :=
  ⟨by rw [ptc_append]; exact ha.own, by rw [List.length_append, h.len, hm], ha.cap, ha.nil⟩
theorem OwnP.turned {B : Nat} {F : List Nat} {w w' : World} {A : Option Addr} {n c : Nat} {ps : List PartM} (h : OwnP B w A n c ps) (ht : Turned F w w') (hF : ∀ k ∈ fp A, k ∉ F) : OwnP B w' A n c ps := ⟨own_turned h.own ht hF, h.len, h.cap, h.nil⟩
theorem Lies.newCells' (w : World) (cs : List Value) (T : TypeId) : Lies (w.heap.size + 1) (w.alloc (.cells cs.toArray T)) (some ⟨w.heap.size, 0, none⟩) cs := by
  refine .inr ⟨_, 0, rfl, by omega, fun j v hj => ?_⟩
  have := (Bk.new w T cs.toArray).cell j
  rw [Nat.zero_add, this]
  simpa using hj
theorem Bk.below {w w' : World} {g : Nat} {t : TypeId} {cs : Array Value} (h : Bk w g t cs) (hb : Below w.heap.size w w') : Bk w' g t cs := h.turned (Turned.of_below hb []) (by simp)
/-- the cells of a task whose name is empty and whose numbers are 0 -/
def zt (a : Option Addr) (n c : Nat) : Array Value := #[.string ⟨#[]⟩, .int .i64 0, .int .i64 0, .int .i64 0, .int .i64 0, .slice a n c]
theorem ZT (w : World) (g : Nat) (t : TypeId) (a : Option Addr) (n c : Nat) (h : Bk w g t (zt a n c)) : w.cell? ⟨g, 0, none⟩ = some (.string ⟨#[]⟩) ∧ w.cell? ⟨g, 1, none⟩ = some (.int .i64 0) ∧ w.cell? ⟨g, 2, none⟩ = some (.int .i64 0) ∧ w.cell? ⟨g, 3, none⟩ = some (.int .i64 0) ∧ w.cell? ⟨g, 4, none⟩ = some (.int .i64 0) ∧ w.cell? ⟨g, 5, none⟩ = some (.slice a n c) :=
  ⟨h.cell 0, h.cell 1, h.cell 2, h.cell 3, h.cell 4, h.cell 5⟩
theorem ZF {w : World} {g : Nat} {t : TypeId} {cs : Array Value} (h : Bk w g t cs) : w.frozen? ⟨g, 0, none⟩ = false ∧ w.frozen? ⟨g, 1, none⟩ = false ∧ w.frozen? ⟨g, 2, none⟩ = false ∧ w.frozen? ⟨g, 3, none⟩ = false ∧ w.frozen? ⟨g, 4, none⟩ = false ∧ w.frozen? ⟨g, 5, none⟩ = false :=
  ⟨h.frozen 0, h.frozen 1, h.frozen 2, h.frozen 3, h.frozen 4, h.frozen 5⟩
/-- six cells written one by one -/
def put6 (w : World) (g : Nat) (v0 v1 v2 v3 v4 v5 : Value) : World := (((((w.setCell ⟨g, 0, none⟩ v0).setCell ⟨g, 1, none⟩ v1).setCell ⟨g, 2, none⟩ v2).setCell ⟨g, 3, none⟩ v3).setCell ⟨g, 4, none⟩ v4).setCell ⟨g, 5, none⟩ v5
theorem put6_bk {w : World} {g : Nat} {t : TypeId} {c0 c1 c2 c3 c4 c5 v0 v1 v2 v3 v4 v5 : Value} (h : Bk w g t #[c0, c1, c2, c3, c4, c5]) : Bk (put6 w g v0 v1 v2 v3 v4 v5) g t #[v0, v1, v2, v3, v4, v5] := by
  have := (((((h.put 0 v0).put 1 v1).put 2 v2).put 3 v3).put 4 v4).put 5 v5
  unfold put6
  simpa using this
theorem put6_turned (w : World) (g : Nat) (v0 v1 v2 v3 v4 v5 : Value) : Turned [g] w (put6 w g v0 v1 v2 v3 v4 v5) :=
  ((((((Turned.refl [g] w).setCell (.inl (by simp)) _).setCell (.inl (by simp)) _).setCell (.inl (by simp)) _).setCell (.inl (by simp)) _).setCell (.inl (by simp)) _).setCell (.inl (by simp)) _
theorem SetCells.turned {F : List Nat} {w w' : World} {b : Nat} {s : SetR} (h : SetCells w b s) (ht : Turned F w w') (hb : b ∉ F) : SetCells w' b s :=
  ⟨ht.cell h.1 hb, ht.cell h.2.1 hb, ht.cell h.2.2.1 hb, ht.cell h.2.2.2 hb⟩
end Go.Proofs.YtjjlpaampmpdfaaGreatDoor
