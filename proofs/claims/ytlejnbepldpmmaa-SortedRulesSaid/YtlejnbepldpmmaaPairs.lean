/- An argument that is a slice of structs of two ints. Plain laws over any program. -/
import Derived.Test.YtlejnbepldpmmaaOwn
import Derived.Deep.SlicePairs
import Derived.ChangeArms
import Derived.ChangeSame
namespace Go.Proofs.Ytlejnbepldpmmaa
open Go.ChangeShapes Go.WideShapes Go.ChangeAt Go.RowKit Go.Deep
set_option linter.unusedVariables false

/-- a slice that came in reads as these pairs -/
def IsPairs (w : World) (a : Option Addr) (len cap : Nat) (ps : List (Int × Int)) : Prop :=
  (a = none ∧ len = 0 ∧ cap = 0 ∧ ps = []) ∨
  ∃ x, a = some x ∧ len ≤ cap ∧ cap ≤ maxLen ∧ ps.length = len ∧ (∀ i, i < len → w.cell? (x.add (i * 2)) = some (.int .i64 (ps.getD i (0, 0)).1) ∧ w.cell? (x.add (i * 2 + 1)) = some (.int .i64 (ps.getD i (0, 0)).2)) ∧ ∀ p ∈ ps, I64 p.1 ∧ I64 p.2

theorem IsPairs.row {w : World} {a : Option Addr} {len cap : Nat} {ps : List (Int × Int)} (h : IsPairs w a len cap ps) :
    ps.length = len ∧ len ≤ cap ∧ cap ≤ maxLen ∧ (∀ p ∈ ps, I64 p.1 ∧ I64 p.2) ∧ (a = none → ps = [] ∧ cap = 0) ∧ (ps = [] ∨ ∃ b off, a = some ⟨b, off, none⟩ ∧ ∀ i, i < ps.length → w.cell? ⟨b, off + i * 2, none⟩ = some (.int .i64 (ps.getD i (0, 0)).1) ∧ w.cell? ⟨b, off + i * 2 + 1, none⟩ = some (.int .i64 (ps.getD i (0, 0)).2)) := by
  rcases h with ⟨rfl, rfl, rfl, rfl⟩ | ⟨x, rfl, h1, h2, h3, h4, h5⟩
  · exact ⟨rfl, Nat.le_refl _, Nat.zero_le _, by simp, fun _ => ⟨rfl, rfl⟩, .inl rfl⟩
  · refine ⟨h3, h1, h2, h5, (fun e => by cases e), ?_⟩
    by_cases h0 : ps = []
    · exact .inl h0
    · have hp : 0 < ps.length := List.length_pos_iff.2 h0
      obtain ⟨b, off, spot⟩ := x
      have hs : spot = none := by simpa [Addr.add] using World.cell?_spot (h4 0 (by omega)).1
      subst hs
      refine .inr ⟨b, off, rfl, fun i hi => ?_⟩
      have := h4 i (by omega)
      simpa [Addr.add_lit, Nat.add_assoc] using this

variable {H : Type} {enc : TypeId × Value → H} {P : Program} {w : World}
theorem open_pairs {t e : TypeId} {f0 f1 : Field} {fuel : Nat} {cs : List Value} {x : DataW H × List MemPlace} (ht : P.underlying t = some (.slice e)) (he : P.underlying e = some (.struct #[f0, f1]))
    (ce : P.cellsOf e = 2) (o0 : f0.offset = 0) (o1 : f1.offset = 1) (c0 : P.cellsOf f0.type = 1) (c1 : P.cellsOf f1.type = 1) (u0 : P.underlying f0.type = some (.int .i64)) (u1 : P.underlying f1.type = some (.int .i64))
    (h : DataW.trod enc P w 0 (fun _ => true) true fuel t cs = some x) : ∃ a len cap ps, cs = [.slice a len cap] ∧ IsPairs w a len cap ps := by
  rcases open_slice_pairs ht he ce o0 o1 c0 c1 h with ⟨rfl, _⟩ | ⟨a, len, cap, m, n, V0, V1, D0, D1, P0, P1, rfl, _, hl, hm, hmm, _, hi⟩
  · exact ⟨none, 0, 0, [], rfl, .inl ⟨rfl, rfl, rfl, rfl⟩⟩
  · have hlm : len ≤ m := by rw [hmm]; simpa using hl
    have hv : ∀ i, i < len → ∃ p : Int × Int, V0 i = .int .i64 p.1 ∧ V1 i = .int .i64 p.2 ∧ I64 p.1 ∧ I64 p.2 := fun i hlt => by
      obtain ⟨_, _, t0, t1⟩ := hi i (by omega)
      obtain ⟨n0, e0, _, w0⟩ := DataW.trod_int u0 t0
      obtain ⟨n1, e1, _, w1⟩ := DataW.trod_int u1 t1
      exact ⟨(n0, n1), by injection e0, by injection e1, i64_of w0, i64_of w1⟩
    obtain ⟨f, hf⟩ := choose_lt hv
    refine ⟨some a, len, cap, (List.range len).map f, rfl, .inr ⟨a, rfl, hl, hm, by simp, fun i hlt => ?_, fun p hp => ?_⟩⟩
    · have := hi i (by omega)
      obtain ⟨e0, e1, _⟩ := hf i hlt
      rw [e0, e1] at this
      simp [List.getD, hlt, this.1, this.2.1]
    · obtain ⟨i, hlt, rfl⟩ := List.mem_map.1 hp
      exact ⟨(hf i (by simpa using hlt)).2.2.1, (hf i (by simpa using hlt)).2.2.2⟩
theorem open_pair {t : TypeId} {f0 f1 : Field} {fuel : Nat} {cs : List Value} {x : DataW H × List MemPlace} (ht : P.underlying t = some (.struct #[f0, f1]))
    (o0 : f0.offset = 0) (o1 : f1.offset = 1) (c0 : P.cellsOf f0.type = 1) (c1 : P.cellsOf f1.type = 1) (u0 : P.underlying f0.type = some (.int .i64)) (u1 : P.underlying f1.type = some (.int .i64))
    (h : DataW.trod enc P w 0 (fun _ => true) true fuel t cs = some x) : ∃ n0 n1, cs.take 2 = [.int .i64 n0, .int .i64 n1] ∧ I64 n0 ∧ I64 n1 := by
  obtain ⟨y0, y1, n, _, hl, h0, h1⟩ := trod_struct2 ht h
  rw [o0, c0] at h0
  rw [o1, c1] at h1
  obtain ⟨n0, e0, _, w0⟩ := DataW.trod_int u0 h0
  obtain ⟨n1, e1, _, w1⟩ := DataW.trod_int u1 h1
  match cs, e0, e1 with
  | [a], e0, e1 => simp at e1
  | a :: b :: l, e0, e1 => simp at e0 e1; subst e0; subst e1; exact ⟨n0, n1, rfl, i64_of w0, i64_of w1⟩
end Go.Proofs.Ytlejnbepldpmmaa
