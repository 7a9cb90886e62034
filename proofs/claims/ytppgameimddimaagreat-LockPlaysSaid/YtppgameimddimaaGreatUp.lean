/- Objects of the call's own: what an operation on one leaves. Plain laws over any program. -/
import Derived.Test.YtppgameimddimaaGreatOwn
namespace Go.Proofs.YtppgameimddimaaGreat
open Go.ChangeShapes Go.WideShapes Go.ChangeAt Go.RowKit
set_option linter.unusedVariables false

/-- an operation on an object whose blocks are F: what it answers, the object behind it -/
def Stepped (w : World) (F : List Nat) (Q : World → List Nat → Prop) (e0 e : Ending) (w' : World) : Prop := e = e0 ∧ ∃ F', Q w' F' ∧ Turned F w w' ∧ ∀ k ∈ F', k ∈ F ∨ w.heap.size ≤ k
/-- an object of the call's own -/
structure Up (B : Nat) (W w : World) (F : List Nat) : Prop where
  below : Below B W w
  blocks : ∀ k ∈ F, B ≤ k
  base : B ≤ W.heap.size
theorem Up.step {B : Nat} {W w w' : World} {F : List Nat} {Q : World → List Nat → Prop} {e0 e : Ending} (h : Up B W w F) (hs : Stepped w F Q e0 e w') : e = e0 ∧ ∃ F', Q w' F' ∧ Up B W w' F' := by
  obtain ⟨he, F', hq, ht, hf⟩ := hs
  have h1 := h.below.size
  have h2 := h.base
  refine ⟨he, F', hq, h.below.trans (ht.below (by omega) h.blocks), fun k hk => ?_, h2⟩
  rcases hf k hk with h3 | h3
  · exact h.blocks k h3
  · omega
theorem Up.turned {B : Nat} {W w w' : World} {F G : List Nat} (h : Up B W w F) (ht : Turned G w w') (hG : ∀ k ∈ G, k ∈ F) : Up B W w' F :=
  ⟨h.below.trans (ht.below (by have := h.below.size; have := h.base; omega) (fun k hk => h.blocks k (hG k hk))), h.blocks, h.base⟩
theorem Up.over {B : Nat} {W w w' : World} {F : List Nat} (h : Up B W w F) (hb : Below w.heap.size w w') : Up B W w' F :=
  ⟨h.below.trans (hb.mono (by have := h.below.size; have := h.base; omega)), h.blocks, h.base⟩
theorem Up.sub {B : Nat} {W w : World} {F G : List Nat} (h : Up B W w F) (hG : ∀ k ∈ G, k ∈ F) : Up B W w G := ⟨h.below, fun k hk => h.blocks k (hG k hk), h.base⟩
theorem Up.join {B : Nat} {W w : World} {F G : List Nat} (h : Up B W w F) (hG : ∀ k ∈ G, B ≤ k) : Up B W w (F ++ G) :=
  ⟨h.below, fun k hk => (List.mem_append.1 hk).elim (h.blocks k) (hG k), h.base⟩
theorem Up.since {W w w' : World} {F : List Nat} (hb : Below W.heap.size W w) (h : Up w.heap.size w w' F) : Up W.heap.size W w' F :=
  ⟨hb.trans (h.below.mono hb.size), fun k hk => Nat.le_trans hb.size (h.blocks k hk), Nat.le_refl _⟩
theorem Up.old {W w : World} {F : List Nat} {p : Addr} {v : Value} (h : Up W.heap.size W w F) (hc : W.cell? p = some v) : w.cell? p = some v :=
  (h.below.cell (cell_lt hc)).trans hc
theorem u8_bd {zs : List Int} (hz : ∀ n ∈ zs, (Lit.int .u8 n).wf = true) (k : Nat) (hk : k < zs.length) : 0 ≤ zs.getD k 0 ∧ zs.getD k 0 ≤ 255 := by
  have h := hz (zs.getD k 0) (by simp [List.getD, hk])
  generalize zs.getD k 0 = x at h
  simp [Lit.wf, IntKind.min, IntKind.max, IntKind.signed, IntKind.bits] at h
  omega
theorem u8_all {zs : List Int} (hz : ∀ n ∈ zs, (Lit.int .u8 n).wf = true) : ∀ n ∈ zs, 0 ≤ n ∧ n ≤ 255 := by
  intro n hn
  have h := hz n hn
  simp [Lit.wf, IntKind.min, IntKind.max, IntKind.signed, IntKind.bits] at h
  omega
theorem u8_one {zs : List Int} : ∀ u ∈ zs.map (Value.int .u8), u.oneCell' = true := fun u hu => by obtain ⟨n, _, rfl⟩ := List.mem_map.1 hu; rfl
theorem row_wf {k : IntKind} {w : World} {a : Option Addr} {len cap : Nat} {zs : List Int} (h : IsRow k w a len cap zs) : len ≤ cap ∧ cap ≤ maxLen ∧ (a = none → len = 0 ∧ cap = 0) := by
  rcases h with ⟨rfl, rfl, rfl, rfl⟩ | ⟨x, rfl, hl, hm, _⟩
  · exact ⟨Nat.le_refl _, Nat.zero_le _, fun _ => ⟨rfl, rfl⟩⟩
  · exact ⟨hl, hm, fun e => by cases e⟩
end Go.Proofs.YtppgameimddimaaGreat
