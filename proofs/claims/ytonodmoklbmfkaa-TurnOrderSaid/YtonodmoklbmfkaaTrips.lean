/- An argument that is a slice of structs of three ints. Plain laws over any program. -/
import Derived.Test.YtonodmoklbmfkaaRows2
import Derived.Deep.Slices
import Derived.Deep.Fields
import Derived.ChangeArms
import Derived.ChangeSame
namespace Go.Proofs.Ytonodmoklbmfkaa.Trips
open Go.ChangeShapes Go.WideShapes Go.ChangeAt Go.RowKit Go.Deep
set_option linter.unusedVariables false
/-- a slice that came in reads as these -/
structure _root_.Go.Proofs.Ytonodmoklbmfkaa.IsTrips (w : World) (a : Option Addr) (len cap : Nat) (ps : List (Int × Int × Int)) : Prop where
  hlen : len = ps.length
  hcap : (a = none → len = 0 ∧ cap = 0) ∧ len ≤ cap ∧ cap ≤ maxLen
  hrow : ps = [] ∨ ∃ b off, a = some ⟨b, off, none⟩ ∧ ∀ i, i < ps.length → w.cell? ⟨b, off + i * 3, none⟩ = some (.int .i64 (ps.getD i (0, 0, 0)).1) ∧ w.cell? ⟨b, off + i * 3 + 1, none⟩ = some (.int .i64 (ps.getD i (0, 0, 0)).2.1) ∧ w.cell? ⟨b, off + i * 3 + 2, none⟩ = some (.int .i64 (ps.getD i (0, 0, 0)).2.2)
  hfit : ∀ p ∈ ps, I64 p.1 ∧ I64 p.2.1 ∧ I64 p.2.2
variable {H : Type} {enc : TypeId × Value → H} {P : Program} {w : World}
/-- one field of a struct of one-cell fields -/
theorem field_of {fs : Array Field} {t : TypeId} {fuel : Nat} {cs : List Value} {x : DataW H × List MemPlace} (ht : P.underlying t = some (.struct fs)) (hone : oneCellFields P fs = true) (hC : P.cellsOf t = fs.size)
    (h : DataW.trod enc P w 0 (fun _ => true) true fuel t cs = some x) : cs.length = fs.size ∧ ∀ (j : Nat) (f : Field), fs[j]? = some f → ∃ v y n, cs[j]? = some v ∧ DataW.trod enc P w 0 (fun _ => true) true n f.type [v] = some y := by
  obtain ⟨xs, n, _, _, hl, hx, hf⟩ := DataW.trod_struct ht h
  rw [hC] at hl
  refine ⟨hl, fun j f hj => ?_⟩
  obtain ⟨ho, hk⟩ := hone_of hone j f hj
  have hjl : j < fs.size := (Array.getElem?_eq_some_iff.1 hj).1
  have h1 := hf j f hj
  rw [ho, hk, take1_drop cs j (.bool false) (by omega), List.getElem?_eq_getElem (by omega)] at h1
  exact ⟨_, _, n, by simp [List.getD, List.getElem?_eq_getElem (show j < cs.length by omega)], h1⟩
theorem int_field {k : IntKind} {t : TypeId} {n : Nat} {v : Value} {y : DataW H × List MemPlace} (u : P.underlying t = some (.int k)) (h : DataW.trod enc P w 0 (fun _ => true) true n t [v] = some y) : ∃ z, v = .int k z ∧ (Lit.int k z).wf = true := by
  obtain ⟨z, e, _, hz⟩ := DataW.trod_int u h
  exact ⟨z, by injection e, hz⟩
/-- a slice of structs, every element by its cells -/
theorem slice_of {t e : TypeId} {k fuel : Nat} {cs : List Value} {x : DataW H × List MemPlace} (ht : P.underlying t = some (.slice e)) (hC : P.cellsOf e = k) (hk : 0 < k) (h : DataW.trod enc P w 0 (fun _ => true) true fuel t cs = some x) :
    ∃ a len cap, cs = [.slice a len cap] ∧ ((a = none → len = 0 ∧ cap = 0) ∧ len ≤ cap ∧ cap ≤ maxLen) ∧ (len = 0 ∨ ∃ b off, a = some ⟨b, off, none⟩ ∧ ∀ i, i < len → ∃ cs' x' n, cs'.length = k ∧ (∀ j, j < k → w.cell? ⟨b, off + i * k + j, none⟩ = cs'[j]?) ∧ DataW.trod enc P w 0 (fun _ => true) true n e cs' = some x') := by
  rcases open_slice ht h with ⟨rfl, _⟩ | ⟨a, len, cap, m, n, D, Pl, rfl, _, hl, hm, hmm, _, hi⟩
  · exact ⟨none, 0, 0, rfl, ⟨fun _ => ⟨rfl, rfl⟩, Nat.le_refl _, Nat.zero_le _⟩, .inl rfl⟩
  · refine ⟨some a, len, cap, rfl, ⟨(fun e => by cases e), hl, hm⟩, ?_⟩
    have hlm : len ≤ m := by rw [hmm]; simpa using hl
    by_cases h0 : len = 0
    · exact .inl h0
    · right
      obtain ⟨b, off, spot⟩ := a
      obtain ⟨c0, hc0, _⟩ := hi 0 (by omega)
      obtain ⟨_, l0, g0⟩ := World.cells?_some hc0
      rw [hC] at l0 g0
      have hs : spot = none := by
        have := g0 0 hk
        rw [List.getElem?_eq_getElem (by omega)] at this
        simpa [Addr.add] using World.cell?_spot this
      subst hs
      refine ⟨b, off, rfl, fun i hlt => ?_⟩
      obtain ⟨c1, hc1, t1⟩ := hi i (by omega)
      obtain ⟨_, l1, g1⟩ := World.cells?_some hc1
      rw [hC] at l1 g1
      refine ⟨c1, _, n, l1, fun j hj => ?_, t1⟩
      have := g1 j hj
      simpa [Addr.add_lit, Nat.add_assoc] using this
theorem _root_.Go.Proofs.Ytonodmoklbmfkaa.open_trips {t e : TypeId} {f0 f1 f2 : Field} {fuel : Nat} {cs : List Value} {x : DataW H × List MemPlace} (ht : P.underlying t = some (.slice e)) (he : P.underlying e = some (.struct #[f0, f1, f2])) (hone : oneCellFields P #[f0, f1, f2] = true) (hC : P.cellsOf e = 3)
    (u0 : P.underlying f0.type = some (.int .i64)) (u1 : P.underlying f1.type = some (.int .i64)) (u2 : P.underlying f2.type = some (.int .i64))
    (h : DataW.trod enc P w 0 (fun _ => true) true fuel t cs = some x) : ∃ a len cap ps, cs = [.slice a len cap] ∧ IsTrips w a len cap ps := by
  obtain ⟨a, len, cap, rfl, hs, hi⟩ := slice_of ht hC (by omega) h
  rcases hi with rfl | ⟨b, off, rfl, hi⟩
  · exact ⟨a, 0, cap, [], rfl, rfl, hs, .inl rfl, by simp⟩
  · have hp : ∀ i, i < len → ∃ p : Int × Int × Int, (I64 p.1 ∧ I64 p.2.1 ∧ I64 p.2.2) ∧ w.cell? ⟨b, off + i * 3, none⟩ = some (.int .i64 p.1) ∧ w.cell? ⟨b, off + i * 3 + 1, none⟩ = some (.int .i64 p.2.1) ∧ w.cell? ⟨b, off + i * 3 + 2, none⟩ = some (.int .i64 p.2.2) := fun i hlt => by
      obtain ⟨cs', x', n, hl, hc, ht⟩ := hi i hlt
      obtain ⟨hl2, hf⟩ := field_of he hone hC ht
      obtain ⟨v0, _, _, e0, t0⟩ := hf 0 f0 rfl
      obtain ⟨v1, _, _, e1, t1⟩ := hf 1 f1 rfl
      obtain ⟨v2, _, _, e2, t2⟩ := hf 2 f2 rfl
      obtain ⟨z0, rfl, g0⟩ := int_field u0 t0
      obtain ⟨z1, rfl, g1⟩ := int_field u1 t1
      obtain ⟨z2, rfl, g2⟩ := int_field u2 t2
      exact ⟨(z0, z1, z2), ⟨i64_of g0, i64_of g1, i64_of g2⟩, by rw [← e0, ← hc 0 (by omega)]; rfl, by rw [← e1, ← hc 1 (by omega)], by rw [← e2, ← hc 2 (by omega)]⟩
    obtain ⟨f, hf⟩ := choose_lt hp
    have hl : ((List.range len).map f).length = len := by simp
    refine ⟨_, len, cap, (List.range len).map f, rfl, hl.symm, hs, .inr ⟨b, off, rfl, fun i hlt => ?_⟩, fun p hp => ?_⟩
    · rw [hl] at hlt
      have := (hf i hlt).2
      simpa [List.getD, hlt] using this
    · obtain ⟨i, hlt, rfl⟩ := List.mem_map.1 hp
      exact (hf i (by simpa using hlt)).1
/-- a struct of three ints -/
theorem _root_.Go.Proofs.Ytonodmoklbmfkaa.open_trip {t : TypeId} {f0 f1 f2 : Field} {fuel : Nat} {cs : List Value} {x : DataW H × List MemPlace} (ht : P.underlying t = some (.struct #[f0, f1, f2])) (hone : oneCellFields P #[f0, f1, f2] = true) (hC : P.cellsOf t = 3)
    (u0 : P.underlying f0.type = some (.int .i64)) (u1 : P.underlying f1.type = some (.int .i64)) (u2 : P.underlying f2.type = some (.int .i64))
    (h : DataW.trod enc P w 0 (fun _ => true) true fuel t cs = some x) : ∃ a b c, cs = [.int .i64 a, .int .i64 b, .int .i64 c] ∧ I64 a ∧ I64 b ∧ I64 c := by
  obtain ⟨hl2, hf⟩ := field_of ht hone hC h
  obtain ⟨v0, _, _, e0, t0⟩ := hf 0 f0 rfl
  obtain ⟨v1, _, _, e1, t1⟩ := hf 1 f1 rfl
  obtain ⟨v2, _, _, e2, t2⟩ := hf 2 f2 rfl
  obtain ⟨z0, rfl, g0⟩ := int_field u0 t0
  obtain ⟨z1, rfl, g1⟩ := int_field u1 t1
  obtain ⟨z2, rfl, g2⟩ := int_field u2 t2
  refine ⟨z0, z1, z2, ?_, i64_of g0, i64_of g1, i64_of g2⟩
  match cs, hl2, e0, e1, e2 with
  | [a, b, c], _, e0, e1, e2 => simp at e0 e1 e2; rw [e0, e1, e2]
end Go.Proofs.Ytonodmoklbmfkaa.Trips
