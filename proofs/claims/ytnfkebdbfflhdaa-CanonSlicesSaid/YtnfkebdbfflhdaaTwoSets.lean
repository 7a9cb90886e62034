/- canon: a set's one form and the set turned round, each in a box of its own. -/
import Derived.Test.YtnfkebdbfflhdaaRefCanon2
namespace Go.Proofs.Ytnfkebdbfflhdaa
open Go.ChangeShapes Go.WideShapes Go.ChangeAt Go.RowKit
set_option linter.unusedVariables false
theorem SetBox.keep {w w' : World} {g : Nat} {s : SetR} (h : SetBox w g s) (k : Keeps w w') : SetBox w' g s := ⟨k _ _ h.1, k _ _ h.2.1, k _ _ h.2.2.1, k _ _ h.2.2.2⟩
/-- x's rows lie below block B -/
def Under (x : SetR) (B : Nat) : Prop := (∀ k ∈ fp x.ta, k < B) ∧ ∀ j, j < x.tasks.length → ∀ k ∈ fp (x.tasks.getD j default).pa, k < B
theorem OwnS.under {B : Nat} {w : World} {x : SetR} (h : OwnS B w x) : Under x w.heap.size := ⟨fun k hk => (own_fp h.ot.own k hk).2, fun j hj k hk => (own_fp (h.op j hj).own k hk).2⟩
structure TwoSets (v : World) (s : SetR) (zs ts : List Int) (g4 g5 : Nat) (x y : SetR) (B2 : Nat) (u : World) : Prop where
  ax : Arr s x zs
  ay : Arr s y ts
  ox : OwnS v.heap.size u x
  kx : SetOk u x
  oy : OwnS B2 u y
  ky : SetOk u y
  hB : v.heap.size ≤ B2
  xB : Under x B2
  b4 : Bk u g4 25 #[.int .i64 x.proto, .slice x.ca x.cores.length x.cc, .slice x.ha x.homes.length x.hc, .slice x.ta x.tasks.length x.tc]
  b5 : Bk u g5 25 #[.int .i64 y.proto, .slice y.ca y.cores.length y.cc, .slice y.ha y.homes.length y.hc, .slice y.ta y.tasks.length y.tc]
  x4 : Far x g4
  x5 : Far x g5
  y4 : Far y g4
  y5 : Far y g5
  ne : g4 ≠ g5
  v4 : v.heap.size ≤ g4
  v5 : v.heap.size ≤ g5
  hb : Below v.heap.size v u
end Go.Proofs.Ytnfkebdbfflhdaa
