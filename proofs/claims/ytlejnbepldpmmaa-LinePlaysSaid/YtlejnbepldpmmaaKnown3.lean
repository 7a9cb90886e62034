/- swingbridgelaw3's known answers are as known. -/
import Derived.Test.YtlejnbepldpmmaaLineDel
namespace Go.Proofs.Ytlejnbepldpmmaa
open Go.ChangeShapes Go.WideShapes Go.ChangeAt Go.RowKit
set_option linter.unusedVariables false

/-- a line of the call's own: all its blocks are from B on, below B the world is as W was -/
structure LnB (B : Nat) (W w : World) (b : Nat) (R : Int) (zs : List Int) (cs : Array Value) (A : Option Addr) (c : Nat) : Prop where
  ln : Ln w b 0 94 cs R zs A c
  below : Below B W w
  hb : B ≤ b
  hA : ∀ k ∈ fp A, B ≤ k
  hB : B ≤ W.heap.size
theorem LnB.post {B : Nat} {W w w' : World} {b : Nat} {R : Int} {zs zs' : List Int} {cs : Array Value} {A : Option Addr} {c : Nat} {e0 e : Ending} (h : LnB B W w b R zs cs A c) (hp : LnPost w b 0 94 cs R A zs' e0 e w') :
    e = e0 ∧ ∃ cs' A' c', LnB B W w' b R zs' cs' A' c' := by
  obtain ⟨he, A', c', h1, h2, h3⟩ := hp
  have hs := h.below.size
  have hB := h.hB
  refine ⟨he, _, A', c', h1, h.below.trans (h2.below (by omega) ?_), h.hb, ?_, h.hB⟩
  · intro k hk
    rcases List.mem_cons.1 hk with rfl | hk
    · exact h.hb
    · exact h.hA k hk
  · intro k hk
    rcases h3 k hk with h4 | h4
    · exact h.hA k h4
    · omega
theorem LnB.drewN {B : Nat} {W w : World} {b : Nat} {R : Int} {zs : List Int} {cs : Array Value} {A : Option Addr} {c : Nat} (h : LnB B W w b R zs cs A c) (n : Nat) : LnB B W (w.drewN n) b R zs cs A c :=
  ⟨h.ln.turned ((Turned.refl [] w).drewN n) (by simp) (by simp), below_drewN h.below n, h.hb, h.hA, h.hB⟩
theorem LnB.drewEx {B : Nat} {W w w' : World} {b : Nat} {R : Int} {zs : List Int} {cs : Array Value} {A : Option Addr} {c : Nat} (h : LnB B W w b R zs cs A c) (hw : ∃ n, w' = w.drewN n) : LnB B W w' b R zs cs A c := by
  obtain ⟨n, rfl⟩ := hw; exact h.drewN n
theorem LnB.over {B : Nat} {W w w' : World} {b : Nat} {R : Int} {zs : List Int} {cs : Array Value} {A : Option Addr} {c : Nat} (h : LnB B W w b R zs cs A c) (hb : Below w.heap.size w w') : LnB B W w' b R zs cs A c := by
  have hs := h.below.size
  have hB := h.hB
  exact ⟨h.ln.turned (F := []) (Turned.of_below hb []) (by simp) (by simp), h.below.trans (hb.mono (by omega)), h.hb, h.hA, h.hB⟩
def NewPost (w : World) (R : Int) (e : Ending) (w' : World) : Prop := ∃ b cs A c, e = .returned (.pointer (some ⟨b, 0, none⟩)) ∧ LnB w.heap.size w w' b R [] cs A c
theorem newB (n R : Int) (w : World) (hn : I64 n) (hR : heldR n = R) : Calls Try.prog 14 #[.int .i64 n] w (NewPost w R) := by
  refine (new_any n w hn).mono ?_
  rintro e w' ⟨rfl, rfl⟩
  subst hR
  exact ⟨_, _, none, 0, rfl, Ln.new w n, (Below.refl _ _).alloc (Nat.le_refl _) _, Nat.le_refl _, by simp [fp], Nat.le_refl _⟩

theorem known3_any (w : World) : Calls Try.prog 13 #[] w fun e w' => e = .returned (.bool true) ∧ Below w.heap.size w w' := by
  have p1 : plK [1] 1 = true := by decide
  have p2 : plK [1] 3 = false := by decide
  have p3 : plK [] 1 = false := by decide
  go_enter Try.func13, Try.ntmps13
  go_wp2_with fail
  refine (newB 2 2 _ (by decide) (by decide)).mono ?_
  rintro e w1 ⟨b, cs, A, c, rfl, h⟩
  go_wp2_with fail
  refine (take_nil h.ln).mono ?_
  rintro e w2 ⟨rfl, rfl⟩
  go_wp2_with fail
  refine (put_ok (id := 3) h.ln (by simp) (by decide)).mono ?_
  intro e w2 hp
  obtain ⟨rfl, cs2, A2, c2, h2⟩ := h.post hp
  clear hp h
  go_wp2_with fail
  refine (put_ok (id := 1) h2.ln (by simp) (by decide)).mono ?_
  intro e w3 hp
  obtain ⟨rfl, cs3, A3, c3, h3⟩ := h2.post hp
  clear hp h2
  go_wp2_with fail
  refine (put_full (id := 2) h3.ln (by simp)).mono ?_
  rintro e w4 ⟨rfl, hw⟩
  have h4 := h3.drewEx hw
  clear h3 hw
  go_wp2_with fail
  refine (first_cons h4.ln).mono ?_
  rintro e w5 ⟨rfl, rfl⟩
  go_wp2_with fail
  refine (take_cons h4.ln).mono ?_
  intro e w5 hp
  obtain ⟨rfl, cs5, A5, c5, h5⟩ := h4.post hp
  clear hp h4
  go_wp2_with fail
  refine (has_any (id := 1) h5.ln).mono ?_
  rintro e w6 ⟨rfl, rfl⟩
  go_wp2_with fail
  refine (has_any (id := 3) h5.ln).mono ?_
  rintro e w6 ⟨rfl, rfl⟩
  go_wp2_with fail
  refine (len_any h5.ln).mono ?_
  rintro e w6 ⟨rfl, rfl⟩
  go_wp2_with fail
  refine (drop_yes (id := 1) h5.ln p1).mono ?_
  intro e w6 hp
  obtain ⟨rfl, cs6, A6, c6, h6⟩ := h5.post hp
  clear hp h5
  go_wp2_with fail
  refine (drop_not (id := 1) h6.ln (by decide)).mono ?_
  rintro e w7 ⟨rfl, rfl⟩
  go_wp2_with fail
  refine (all_any h6.ln).mono ?_
  rintro e w7 ⟨A7, c7, rfl, h7, hb7⟩
  go_wp2_with fail
  go_ret
  exact ⟨rfl, (h6.over hb7).below⟩
end Go.Proofs.Ytlejnbepldpmmaa
