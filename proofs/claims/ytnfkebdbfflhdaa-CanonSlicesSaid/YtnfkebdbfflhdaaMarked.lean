/- A set whose tasks' names, and the first number of whose parts, are written one by one. Plain laws. -/
import Derived.Test.YtnfkebdbfflhdaaTwoSets
import Derived.Test.YtnfkebdbfflhdaaPartPut
namespace Go.Proofs.Ytnfkebdbfflhdaa
open Go.ChangeShapes Go.WideShapes Go.ChangeAt Go.RowKit
set_option linter.unusedVariables false
structure Marked (B : Nat) (u : World) (x : SetR) (k : Nat) : Prop where
  row : ∃ xs, OwnT B u x.ta x.tasks.length x.tc xs ∧ ∀ j, j < x.tasks.length → (xs.getD j default).pa = (x.tasks.getD j default).pa ∧ (xs.getD j default).parts.length = (x.tasks.getD j default).parts.length ∧ (xs.getD j default).pc = (x.tasks.getD j default).pc
  parts : ∀ j, k ≤ j → j < x.tasks.length → ∃ ps, OwnP B u (x.tasks.getD j default).pa (x.tasks.getD j default).parts.length (x.tasks.getD j default).pc ps
section
variable {B k : Nat} {u u' : World} {x : SetR} {F : List Nat}
theorem Marked.of (h : OwnS B u x) : Marked B u x 0 := ⟨⟨x.tasks, h.ot, fun j hj => ⟨rfl, rfl, rfl⟩⟩, fun j _ hj => ⟨_, h.op j hj⟩⟩
theorem Marked.up {k' : Nat} (h : Marked B u x k) (hk : k ≤ k') : Marked B u x k' := ⟨h.row, fun j h1 hj => h.parts j (by omega) hj⟩
theorem Marked.turned (h : Marked B u x k) (ht : Turned F u u') (h1 : ∀ b ∈ fp x.ta, b ∉ F) (h2 : ∀ j, j < x.tasks.length → ∀ b ∈ fp (x.tasks.getD j default).pa, b ∉ F) : Marked B u' x k := by
  obtain ⟨xs, ho, hx⟩ := h.row
  exact ⟨⟨xs, ho.turned ht h1, hx⟩, fun j h3 hj => by
    obtain ⟨ps, hp⟩ := h.parts j h3 hj
    exact ⟨ps, hp.turned ht (h2 j hj)⟩⟩
theorem Marked.cells (h : Marked B u x k) {i : Nat} (hi : i < x.tasks.length) : ∃ g nm, x.ta = some ⟨g, 0, none⟩ ∧ B ≤ g ∧ u.cell? ⟨g, i * 6, none⟩ = some (.string nm) ∧ u.frozen? ⟨g, i * 6, none⟩ = false ∧
    u.cell? ⟨g, i * 6 + 5, none⟩ = some (.slice (x.tasks.getD i default).pa (x.tasks.getD i default).parts.length (x.tasks.getD i default).pc) := by
  obtain ⟨xs, ho, hx⟩ := h.row
  obtain ⟨g, e, hg, _⟩ := own_at ho.own (by omega)
  have hl := ho.len
  obtain ⟨b, off, e2, hc⟩ := ho.tasks.resolve_left (by intro e; have := congrArg List.length e; simp only [List.length_nil] at this; omega)
  rw [e] at e2
  injection e2 with e2; injection e2 with e3 e4; subst e3; subst e4
  have c := hc i (by omega)
  rw [Nat.zero_add] at c
  obtain ⟨x1, x2, x3⟩ := hx i hi
  have ho2 := ho.own
  rw [e] at ho2
  refine ⟨g, _, e, hg, c.1, own_frozen ho2 _, ?_⟩
  have c5 := c.2.2.2.2.2
  rw [x1, x2, x3] at c5
  exact c5
theorem Marked.name (h : Marked B u x k) {i g : Nat} (hi : i < x.tasks.length) (hg : x.ta = some ⟨g, 0, none⟩) (nm : ByteArray) (hn : ∀ j, j < x.tasks.length → g ∉ fp (x.tasks.getD j default).pa) : Marked B (u.setCell ⟨g, i * 6, none⟩ (.string nm)) x k := by
  obtain ⟨xs, ho, hx⟩ := h.row
  have hl := ho.len
  have hii : i < xs.length := by omega
  rw [hg] at ho
  have TS : Turned [g] u (u.setCell ⟨g, i * 6, none⟩ (.string nm)) := (Turned.refl [g] u).setCell (p := ⟨g, i * 6, none⟩) (.inl (by simp)) _
  refine ⟨⟨xs.set i ⟨nm, xs[i].per, xs[i].dl, xs[i].prio, xs[i].cl, xs[i].pa, xs[i].pc, xs[i].parts⟩, ?_, fun j hj => ?_⟩, fun j h3 hj => ?_⟩
  · rw [hg]
    have := ownT_put ho hii (j := 0) (by decide) ⟨nm, xs[i].per, xs[i].dl, xs[i].prio, xs[i].cl, xs[i].pa, xs[i].pc, xs[i].parts⟩ (.string nm) rfl
    exact this
  · by_cases e : i = j
    · subst e
      rw [getD_set_eq hii]
      have := hx i hi
      simpa [List.getD, hii] using this
    · rw [getD_set_ne' e]; exact hx j hj
  · obtain ⟨ps, hp⟩ := h.parts j h3 hj
    exact ⟨ps, hp.turned TS (fun b hb hm => by simp at hm; subst hm; exact hn j hj hb)⟩
theorem ownP_hit {w : World} {A : Option Addr} {n c b : Nat} {ps : List PartM} (h : OwnP B w A n c ps) (v : Int) : ∃ ps', OwnP B (w.setCell ⟨b, 1, none⟩ (.int .i64 v)) A n c ps' := by
  by_cases hb : b ∈ fp A
  · cases A with
    | none => simp [fp] at hb
    | some a =>
      simp [fp] at hb
      subst hb
      cases ps with
      | nil =>
        have hn := h.len
        have hw := h.own
        refine ⟨[], ?_, hn, h.cap, h.nil⟩
        rcases hw.2 with ⟨hv, _⟩ | ⟨g, cap, cur, hv, hb, hg, r1, r2, r3, r4⟩
        · cases hv
        · injection hv with e1 e2 e3
          injection e1 with e1
          have e4 : a.block = g := by rw [e1]
          refine ⟨hw.1, .inr ⟨g, cap, cur.setIfInBounds 1 (.int .i64 v), ?_, hb, ?_, r1, r2, by simpa using r3, ?_⟩⟩
          · rw [e1, e3]
          · rw [e4]; exact (Bk.put (cs := cur) hg 1 _)
          · simp at hn; subst hn; simp [ptc]
      | cons p ps =>
        have hw := own_at h.own (by have := h.len; simp at this; omega)
        obtain ⟨g, e, _, _⟩ := hw
        injection e with e
        subst e
        exact ⟨_, ownP_len0 h v⟩
  · have TS : Turned [b] w (w.setCell ⟨b, 1, none⟩ (.int .i64 v)) := (Turned.refl [b] w).setCell (p := ⟨b, 1, none⟩) (.inl (by simp)) _
    exact ⟨ps, h.turned TS (fun k hk hm => by simp at hm; subst hm; exact hb hk)⟩
theorem Marked.hit (h : Marked B u x k) {b : Nat} (hb : b ∉ fp x.ta) (v : Int) : Marked B (u.setCell ⟨b, 1, none⟩ (.int .i64 v)) x k := by
  obtain ⟨xs, ho, hx⟩ := h.row
  have TS : Turned [b] u (u.setCell ⟨b, 1, none⟩ (.int .i64 v)) := (Turned.refl [b] u).setCell (p := ⟨b, 1, none⟩) (.inl (by simp)) _
  exact ⟨⟨xs, ho.turned TS (fun j hj hm => by simp at hm; subst hm; exact hb hj), hx⟩, fun j h3 hj => by
    obtain ⟨ps, hp⟩ := h.parts j h3 hj
    exact ownP_hit hp v⟩
/-- the first part's number: it may be written -/
theorem Marked.part (h : Marked B u x k) {i : Nat} (hk : k ≤ i) (hi : i < x.tasks.length) (hp : 0 < (x.tasks.getD i default).parts.length) : ∃ p v, (x.tasks.getD i default).pa = some ⟨p, 0, none⟩ ∧ B ≤ p ∧ u.cell? ⟨p, 1, none⟩ = some v ∧ u.frozen? ⟨p, 1, none⟩ = false := by
  obtain ⟨ps, ho⟩ := h.parts i hk hi
  obtain ⟨p, e, hb, _⟩ := own_at ho.own hp
  have ho2 := ho.own
  rw [e] at ho2
  have hl := ho.len
  obtain ⟨b, off, e2, hc⟩ := ho.parts.resolve_left (by intro e; have := congrArg List.length e; simp only [List.length_nil] at this; omega)
  rw [e] at e2
  injection e2 with e2; injection e2 with e3 e4; subst e3; subst e4
  have c := (hc 0 (by omega)).2.1
  exact ⟨p, _, e, hb, by simpa using c, own_frozen ho2 _⟩
end
end Go.Proofs.Ytnfkebdbfflhdaa
