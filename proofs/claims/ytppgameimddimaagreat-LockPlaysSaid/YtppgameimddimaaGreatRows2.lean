/- Rows of numbers: what a slice that is only read holds; their total. Imports nothing of the dump's functions. -/
import Derived.Test.YtppgameimddimaaGreatBase
namespace Go.Proofs.YtppgameimddimaaGreat
open Go.ChangeShapes Go.WideShapes Go.ChangeAt Go.RowKit

/-- what a walk is told of a slice of integers that came in: it is nil; or it leads to a row of 'cap' cells, the numbers 'zs' (the first 'len' are its elements, the rest its spare room), each fitting its kind -/
def IsRow (k : IntKind) (w : World) (a : Option Addr) (len cap : Nat) (zs : List Int) : Prop :=
  (a = none ∧ len = 0 ∧ cap = 0 ∧ zs = []) ∨
  ∃ x, a = some x ∧ len ≤ cap ∧ cap ≤ maxLen ∧ zs.length = cap ∧ (∀ i, i < zs.length → w.cell? (x.add i) = some (.int k (zs.getD i 0))) ∧ ∀ n ∈ zs, (Lit.int k n).wf = true

/-- the slice at a reads as these numbers -/
def Row (w : World) (k : IntKind) (a : Option Addr) (zs : List Int) : Prop :=
  zs = [] ∨ ∃ b off, a = some ⟨b, off, none⟩ ∧ ∀ j, j < zs.length → w.cell? ⟨b, off + j, none⟩ = some (.int k (zs.getD j 0))

theorem Row.mono {w w' : World} {k : IntKind} {a : Option Addr} {zs : List Int} (h : Row w k a zs) (hc : ∀ p v, w.cell? p = some v → w'.cell? p = some v) : Row w' k a zs := by
  rcases h with h | ⟨b, off, rfl, h⟩
  · exact .inl h
  · exact .inr ⟨b, off, rfl, fun j hj => hc _ _ (h j hj)⟩
theorem Row.drewN {w : World} {k : IntKind} {a : Option Addr} {zs : List Int} (h : Row w k a zs) (n : Nat) : Row (w.drewN n) k a zs := h

theorem cell_lt {w : World} {p : Addr} {v : Value} (h : w.cell? p = some v) : p.block < w.heap.size := by
  by_cases hb : p.block < w.heap.size
  · exact hb
  · exfalso; have e : w.heap[p.block]? = none := by simp; omega
    simp [World.cell?, e] at h
theorem Row.below {w w' : World} {k : IntKind} {a : Option Addr} {zs : List Int} (h : Row w k a zs) (hb : Below w.heap.size w w') : Row w' k a zs :=
  h.mono fun p v hv => by rw [hb.cell (cell_lt hv)]; exact hv
/-- the elements of a slice that came in -/
theorem IsRow.row {k : IntKind} {w : World} {a : Option Addr} {len cap : Nat} {zs : List Int} (h : IsRow k w a len cap zs) : Row w k a (zs.take len) ∧ (zs.take len).length = len ∧ len ≤ maxLen ∧ ∀ n ∈ zs.take len, (Lit.int k n).wf = true := by
  rcases h with ⟨rfl, rfl, rfl, rfl⟩ | ⟨x, rfl, hl, hm, hz, hc, hw⟩
  · exact ⟨.inl rfl, rfl, Nat.zero_le _, by simp⟩
  · have e : (zs.take len).length = len := by simp; omega
    refine ⟨?_, e, by omega, fun n hn => hw n (List.mem_of_mem_take hn)⟩
    by_cases h0 : len = 0
    · subst h0; exact .inl rfl
    · obtain ⟨b, off, spot⟩ := x
      have hc0 := hc 0 (by omega)
      have hs : spot = none := by simpa [Addr.add] using World.cell?_spot hc0
      subst hs
      refine .inr ⟨b, off, rfl, fun j hj => ?_⟩
      have := hc j (by omega)
      rw [e] at hj
      have ea : (⟨b, off, none⟩ : Addr).add j = ⟨b, off + j, none⟩ := by simp [Addr.add]
      rw [ea] at this
      simpa [List.getD, List.getElem?_take, hj] using this

def tot : List Int → Int
  | [] => 0
  | a :: l => a + tot l
theorem tot_append (l r : List Int) : tot (l ++ r) = tot l + tot r := by
  induction l with
  | nil => simp [tot]
  | cons a l ih => simp [tot, ih]; omega
theorem take_snoc (l : List Int) (k : Nat) (h : k < l.length) : l.take (k + 1) = l.take k ++ [l.getD k 0] := by
  rw [List.take_succ_eq_append_getElem h]; simp [List.getD, h]
theorem tot_snoc (l : List Int) (k : Nat) (h : k < l.length) : tot (l.take (k + 1)) = tot (l.take k) + l.getD k 0 := by
  rw [take_snoc l k h, tot_append]; simp [tot]
theorem tot_drop (l : List Int) (k : Nat) : tot l = tot (l.take k) + tot (l.drop k) := by
  rw [← tot_append, List.take_append_drop]
theorem getD_i64 {l : List Int} (h : ∀ n ∈ l, I64 n) (k : Nat) : I64 (l.getD k 0) := by
  by_cases hk : k < l.length
  · simp [List.getD, hk]; exact h _ (List.getElem_mem hk)
  · simp [List.getD, hk]; decide
theorem tot_bd (l : List Int) (h : ∀ n ∈ l, I64 n) : -9223372036854775808 * (l.length : Int) ≤ tot l ∧ tot l ≤ 9223372036854775807 * (l.length : Int) := by
  induction l with
  | nil => simp [tot]
  | cons a l ih =>
    have h1 := ih (fun n hn => h n (by simp [hn]))
    have h2 := h a (by simp)
    simp only [tot, List.length_cons]; unfold I64 at h2; omega
/-- draws alone -/
def Qt (w w' : World) : Prop := ∃ n, w' = w.drewN n
theorem Qt.refl (w : World) : Qt w w := ⟨0, rfl⟩
theorem Qt.add {w w' : World} (h : Qt w w') (n : Nat) : Qt w (w'.drewN n) := by
  obtain ⟨m, rfl⟩ := h; exact ⟨m + n, by rw [World.drewN_drewN]⟩
theorem Qt.drew {w w' : World} (h : Qt w w') : Qt w w'.drew := h.add 1
theorem Qt.trans {w w' w2 : World} (h : Qt w w') (k : Qt w' w2) : Qt w w2 := by
  obtain ⟨m, rfl⟩ := k; exact h.add m
theorem Qt.cell {w w' : World} (h : Qt w w') {p : Addr} {v : Value} (hc : w.cell? p = some v) : w'.cell? p = some v := by
  obtain ⟨m, rfl⟩ := h; exact hc
theorem Qt.below {B : Nat} {W w w' : World} (h : Qt w w') (hb : Below B W w) : Below B W w' := by
  obtain ⟨m, rfl⟩ := h; exact below_drewN hb m
theorem Qt.b {w w' : World} (h : Qt w w') : Below w.heap.size w w' := h.below (Below.refl _ _)
end Go.Proofs.YtppgameimddimaaGreat
