/- A row of ints of the call's own, and what one more makes of it. -/
import Derived.Test.YtjbjkegjcpplaaaSortTop
namespace Go.Proofs.Ytjbjkegjcpplaaa
open Go.ChangeShapes Go.WideShapes Go.ChangeAt Go.RowKit
set_option linter.unusedVariables false
/-- a row of ints of the call's own -/
structure OwnZ (B : Nat) (w : World) (A : Option Addr) (n c : Nat) (zs : List Int) : Prop where
  own : w.ownsRow B 3 1 (.slice A n c) n (zs.map (Value.int .i64))
  len : n = zs.length
  cap : n ≤ c ∧ c ≤ maxLen
  nil : A = none → n = 0 ∧ c = 0
section
variable {w w' w1 w2 : World} {A A' : Option Addr} {n c c' B m : Nat} {zs rs ps : List Int}
theorem OwnZ.empty (B : Nat) (w : World) : OwnZ B w none 0 0 [] := ⟨World.ownsRow_nil _ _ _ _, rfl, ⟨Nat.le_refl _, Nat.zero_le _⟩, fun _ => ⟨rfl, rfl⟩⟩
theorem OwnZ.over (h : OwnZ B w A n c zs) (hb : Below w.heap.size w w') : OwnZ B w' A n c zs := ⟨own_turned h.own (Turned.of_below hb []) (by simp), h.len, h.cap, h.nil⟩
theorem OwnZ.app (h : OwnZ B w1 A n c rs) (ha : App B 3 1 w1 A A' (n + m) c' (rs.map (Value.int .i64) ++ ps.map (Value.int .i64)) w2) (hm : m = ps.length) : OwnZ B w2 A' (n + m) c' (rs ++ ps) :=
  ⟨by rw [List.map_append]; exact ha.own, by rw [List.length_append, h.len, hm], ha.cap, ha.nil⟩
theorem OwnZ.row (h : OwnZ B w A n c zs) : Row w .i64 A zs := Lies.row (B := w.heap.size) (Lies.of_own h.own)
theorem OwnZ.fps (h : OwnZ B w A n c zs) : ∀ k ∈ fp A, B ≤ k := fun k hk => (own_fp h.own k hk).1
end
theorem Lies.newCell1 (w : World) (v : Value) (T : TypeId) : Lies (w.heap.size + 1) (w.alloc (.cells #[v] T)) (some ⟨w.heap.size, 0, none⟩) [v] := Lies.newCells w [v] T
theorem App.size {B : Nat} {e : TypeId} {size : Nat} {w w' : World} {A A' : Option Addr} {n c : Nat} {xs : List Value} (h : App B e size w A A' n c xs w') (o : Obj) : w.heap.size ≤ (w'.alloc o).heap.size := by have := h.turned.size; simp; omega
theorem App.below0 {B : Nat} {e : TypeId} {size : Nat} {w w' : World} {A' : Option Addr} {n c : Nat} {xs : List Value} (h : App B e size w none A' n c xs w') : Below w.heap.size w w' := h.turned.below (Nat.le_refl _) (by simp [fp])
theorem one_ints (zs : List Int) : ∀ u ∈ zs.map (Value.int .i64), u.oneCell' = true := fun u hu => by obtain ⟨n, _, rfl⟩ := List.mem_map.1 hu; rfl
end Go.Proofs.Ytjbjkegjcpplaaa
