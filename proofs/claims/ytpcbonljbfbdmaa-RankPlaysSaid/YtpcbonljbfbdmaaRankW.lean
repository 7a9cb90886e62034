/- rank: a rank of the call's own, next to what was there; what RankSorts keeps going. -/
import Derived.Test.YtpcbonljbfbdmaaRankI
import Derived.Test.YtpcbonljbfbdmaaRankT
import Derived.Test.YtpcbonljbfbdmaaUp
namespace Go.Proofs.Ytpcbonljbfbdmaa
open Go.ChangeShapes Go.WideShapes Go.ChangeAt Go.RowKit
set_option linter.unusedVariables false
set_option linter.unusedSimpArgs false
structure RkUp (B : Nat) (W w : World) (b : Nat) (R P : Int) (l : List EntM) (A : Option Addr) (c : Nat) : Prop where
  rk : Rk w b R P l A c
  up : Up B W w (b :: fp A)
theorem RkUp.put {B : Nat} {W w w' : World} {b : Nat} {R P Q : Int} {l m : List EntM} {A : Option Addr} {c : Nat} {r e : Ending} (h : RkUp B W w b R P l A c) (hp : RkPost w b R Q m A r e w') :
    e = r ∧ ∃ A' c', RkUp B W w' b R Q m A' c' := by
  obtain ⟨he, A', c', h2, ht, hf⟩ := hp
  refine ⟨he, A', c', h2, h.up.below.trans (ht.below (Nat.le_trans h.up.base h.up.below.size) h.up.blocks), fun k hk => ?_, h.up.base⟩
  rcases List.mem_cons.1 hk with rfl | hk
  · exact h.up.blocks _ List.mem_cons_self
  · rcases hf k hk with g | g
    · exact h.up.blocks _ (List.mem_cons_of_mem _ g)
    · exact Nat.le_trans (Nat.le_trans h.up.base h.up.below.size) g
theorem RkUp.took {B : Nat} {W w w' : World} {b : Nat} {R P : Int} {l m : List EntM} {A : Option Addr} {c : Nat} (h : RkUp B W w b R P l A c) (h2 : Rk w' b R P m A c) (ht : Turned (b :: fp A) w w') : RkUp B W w' b R P m A c :=
  ⟨h2, h.up.turned ht (fun _ hk => hk)⟩
theorem RkUp.drewN {B : Nat} {W w : World} {b : Nat} {R P : Int} {l : List EntM} {A : Option Addr} {c : Nat} (h : RkUp B W w b R P l A c) (n : Nat) : RkUp B W (w.drewN n) b R P l A c :=
  ⟨h.rk.drewN n, h.up.turned ((Turned.refl (b :: fp A) w).drewN n) (fun _ hk => hk)⟩
theorem RkUp.old {W w : World} {b : Nat} {R P : Int} {l : List EntM} {A : Option Addr} {c : Nat} {p : Addr} {v : Value} (h : RkUp W.heap.size W w b R P l A c) (hc : W.cell? p = some v) : w.cell? p = some v := h.up.old hc
theorem RkUp.new_ {W w : World} {R : Int} (hb : Below W.heap.size W w) : RkUp W.heap.size W (w.alloc (.cells #[.int .i64 R, .int .i64 0, .slice none 0 0] 53)) w.heap.size R 0 [] none 0 :=
  ⟨Rk.new w R, hb.alloc hb.size _, fun k hk => by simp [fp] at hk; rw [hk]; exact hb.size, Nat.le_refl _⟩
/-- of a row of keys so many were put -/
structure RsIn (key : Nat → Int) (k : Nat) (l : List EntM) : Prop where
  heap : HeapE l
  dist : DistE l
  mem : ∀ x ∈ l, x.turn = x.id ∧ 0 ≤ x.id ∧ x.id < k ∧ x.key = key x.id.toNat
theorem RsIn.nil (key : Nat → Int) : RsIn key 0 [] := ⟨fun i _ h => absurd h (by simp), fun i _ h => absurd h (by simp), fun x hx => absurd hx (by simp)⟩
theorem RsIn.put {key : Nat → Int} {k : Nat} {l : List EntM} (h : RsIn key k l) {y : Int} (hy : key k = y) : RsIn key (k + 1) (riseL (l ++ [⟨y, k, k⟩]) l.length) := by
  have hd : DistE (l ++ [⟨y, k, k⟩]) := by
    rw [distE_iff, List.map_append, List.nodup_append]
    refine ⟨(distE_iff l).1 h.dist, by simp, fun a ha b hb => ?_⟩
    obtain ⟨x, hx, rfl⟩ := List.mem_map.1 ha
    simp at hb
    subst hb
    have := h.mem x hx
    omega
  have hp := riseL_perm (l ++ [⟨y, k, k⟩]) l.length (by simp)
  refine ⟨put_heap h.heap hd, hd.perm hp, fun x hx => ?_⟩
  have := hp.mem_iff.1 hx
  rcases List.mem_append.1 this with g | g
  · have := h.mem x g
    omega
  · simp at g
    subst g
    exact ⟨rfl, by dsimp only; omega, by dsimp only; omega, by dsimp only; rw [Int.toNat_natCast]; exact hy.symm⟩
/-- what is left is behind the last one that went -/
def RsAfter (key : Nat → Int) (k : Nat) (last : Int) (l : List EntM) : Prop :=
  (last = -1 ∨ (0 ≤ last ∧ last < k)) ∧ (0 ≤ last → ∀ x ∈ l, lessE ⟨key last.toNat, last, last⟩ x = true)
theorem RsIn.take {key : Nat → Int} {k : Nat} {l : List EntM} (h : RsIn key k l) (hl : 0 < l.length) {last : Int} (ha : RsAfter key k last l) :
    RsIn key k (removeL l 0) ∧ ∃ x : Nat, (l.getD 0 default).id = (x : Int) ∧ x < k ∧ RsAfter key k (x : Int) (removeL l 0) ∧
      (0 ≤ last → key last.toNat < key x ∨ key last.toNat = key x ∧ last < (x : Int)) := by
  have hp := remove_perm hl
  have hm : atE l 0 ∈ l := by rw [atE_get hl]; exact List.getElem_mem hl
  obtain ⟨m1, m2, m3, m4⟩ := h.mem _ hm
  refine ⟨⟨remove_heap hl h.heap h.dist, remove_dist hl h.dist, fun x hx => h.mem x (hp.mem_iff.1 (List.mem_cons_of_mem _ hx))⟩, (atE l 0).id.toNat, ?_, by omega, ⟨.inr ⟨by omega, by omega⟩, fun _ x hx => ?_⟩, fun h0 => ?_⟩
  · rw [Int.toNat_of_nonneg m2]
  · have := remove_first hl h.heap h.dist x hx
    rw [Int.toNat_natCast, Int.toNat_of_nonneg m2]
    rw [show atE l 0 = ⟨(atE l 0).key, (atE l 0).turn, (atE l 0).id⟩ from rfl, m1, m4] at this
    exact this
  · have := ha.2 h0 _ hm
    unfold lessE at this
    rw [Bool.or_eq_true, Bool.and_eq_true, decide_eq_true_iff, decide_eq_true_iff, decide_eq_true_iff] at this
    dsimp only at this
    rw [m1, m4] at this
    omega
theorem removeL_len {l : List EntM} (hl : 0 < l.length) : (removeL l 0).length = l.length - 1 := by
  have := (remove_perm hl).length_eq
  simp at this
  omega
end Go.Proofs.Ytpcbonljbfbdmaa
