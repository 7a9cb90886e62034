/- rank: a heap of entries as a list; what a rank on the heap is. -/
import Derived.Test.YtppgameimddimaaGreatRankP
namespace Go.Proofs.YtppgameimddimaaGreat
open Go.ChangeShapes Go.WideShapes Go.ChangeAt Go.RowKit
set_option linter.unusedVariables false
set_option linter.unusedSimpArgs false
/-! ### lists -/
theorem setE_get {l : List EntM} {i j : Nat} {a : EntM} (hi : i < l.length) : (l.set i a).getD j default = if i = j then a else l.getD j default := by
  simp only [List.getD_eq_getElem?_getD, List.getElem?_set]
  by_cases e : i = j
  · subst e; simp [hi]
  · simp [e]
def swapE (l : List EntM) (i j : Nat) : List EntM := (l.set i (l.getD j default)).set j (l.getD i default)
theorem swapE_len (l : List EntM) (i j : Nat) : (swapE l i j).length = l.length := by simp [swapE]
theorem swapE_get {l : List EntM} {i j : Nat} (hi : i < l.length) (hj : j < l.length) (k : Nat) : (swapE l i j).getD k default = if j = k then l.getD i default else if i = k then l.getD j default else l.getD k default := by
  unfold swapE
  rw [setE_get (by simpa using hj), setE_get hi]
theorem swapE_perm {l : List EntM} {i j : Nat} (hi : i < l.length) (hj : j < l.length) : (swapE l i j).Perm l := by
  unfold swapE
  have e1 : l.getD j default = l[j] := by simp [List.getD, hj]
  have e2 : l.getD i default = l[i] := by simp [List.getD, hi]
  rw [e1, e2]
  exact List.set_set_perm hi hj
/-- the entry at k goes up -/
def riseL (l : List EntM) (k : Nat) : List EntM :=
  if h : k = 0 then l else if lessE (l.getD ((k - 1) / 2) default) (l.getD k default) = true then l else riseL (swapE l ((k - 1) / 2) k) ((k - 1) / 2)
termination_by k
decreasing_by omega
/-- the one of the two below that is ahead -/
def downE (l : List EntM) (k : Nat) : Nat := if 2 * k + 2 < l.length ∧ lessE (l.getD (2 * k + 2) default) (l.getD (2 * k + 1) default) = true then 2 * k + 2 else 2 * k + 1
theorem downE_bd (l : List EntM) (k : Nat) : 2 * k + 1 ≤ downE l k ∧ downE l k ≤ 2 * k + 2 := by unfold downE; split <;> omega
/-- the entry at k goes down -/
def sinkL (l : List EntM) (k : Nat) : List EntM :=
  if h : l.length ≤ downE l k then l else if lessE (l.getD k default) (l.getD (downE l k) default) = true then l else sinkL (swapE l k (downE l k)) (downE l k)
termination_by l.length - k
decreasing_by have := downE_bd l k; rw [swapE_len]; omega
theorem riseL_perm (l : List EntM) (k : Nat) (hk : k < l.length) : (riseL l k).Perm l := by
  induction k using Nat.strongRecOn generalizing l with
  | _ k ih =>
    rw [riseL]
    split
    · exact .refl _
    · split
      · exact .refl _
      · rename_i h0 _
        exact (ih ((k - 1) / 2) (by omega) _ (by rw [swapE_len]; omega)).trans (swapE_perm (by omega) hk)
theorem riseL_len (l : List EntM) (k : Nat) (hk : k < l.length) : (riseL l k).length = l.length := (riseL_perm l k hk).length_eq
theorem sinkL_perm (n : Nat) : ∀ (l : List EntM) (k : Nat), l.length - k ≤ n → (sinkL l k).Perm l := by
  induction n with
  | zero =>
    intro l k hk
    rw [sinkL]
    have := downE_bd l k
    rw [dif_pos (by omega)]
  | succ n ih =>
    intro l k hk
    rw [sinkL]
    have := downE_bd l k
    split
    · exact .refl _
    · split
      · exact .refl _
      · exact (ih _ _ (by rw [swapE_len]; omega)).trans (swapE_perm (by omega) (by omega))
theorem sinkL_len (l : List EntM) (k : Nat) : (sinkL l k).length = l.length := (sinkL_perm _ l k (Nat.le_refl _)).length_eq

/-! ### memory -/
theorem ownE_put {w : World} {base : Nat} {e : TypeId} {size n m c g : Nat} {xs : List Value} (h : w.ownsRow base e size (.slice (some ⟨g, 0, none⟩) m c) n xs) (k : Nat) (hk : k < n * size) (u : Value) :
    (w.setCell ⟨g, k, none⟩ u).ownsRow base e size (.slice (some ⟨g, 0, none⟩) m c) n (xs.set k u) := by
  obtain ⟨h1, h2⟩ := h
  refine ⟨by rw [List.length_set]; exact h1, ?_⟩
  rcases h2 with ⟨hv, _⟩ | ⟨g', cap, cur, hv, hb, hg, h3, h4, h5, h6⟩
  · cases hv
  · injection hv with e1 e2 e3
    injection e1 with e1
    injection e1 with e1
    subst e1; subst e2; subst e3
    refine .inr ⟨g, _, cur.setIfInBounds k u, rfl, hb, ?_, h3, h4, by simpa using h5, ?_⟩
    · exact (Bk.put (cs := cur) hg k u)
    · rw [Array.toList_setIfInBounds, List.take_set, h6]
theorem ownE_at {w : World} {base : Nat} {e : TypeId} {size n m : Nat} {A : Option Addr} {c : Nat} {xs : List Value} (h : w.ownsRow base e size (.slice A m c) n xs) (hn : 0 < n) : ∃ g, A = some ⟨g, 0, none⟩ ∧ base ≤ g ∧ g < w.heap.size := by
  rcases h.2 with ⟨_, h0⟩ | ⟨g, cap, cur, hv, hb, hg, _⟩
  · omega
  · injection hv with e1
    exact ⟨g, e1, hb, (Array.getElem?_eq_some_iff.1 hg).1⟩
theorem ownE_frozen {w : World} {base : Nat} {e : TypeId} {size n m c g : Nat} {xs : List Value} (h : w.ownsRow base e size (.slice (some ⟨g, 0, none⟩) m c) n xs) (k : Nat) : w.frozen? ⟨g, k, none⟩ = false := by
  rcases h.2 with ⟨hv, _⟩ | ⟨g', cap, cur, hv, hb, hg, _⟩
  · cases hv
  · injection hv with e1; injection e1 with e1; injection e1 with e1; subst e1
    exact Bk.frozen (cs := cur) hg k
theorem etc_set (l : List EntM) (i : Nat) (hi : i < l.length) (x : EntM) : (((etc_ l).set (i * 3) (.int .i64 x.key)).set (i * 3 + 1) (.int .i64 x.turn)).set (i * 3 + 2) (.int .i64 x.id) = etc_ (l.set i x) := by
  induction l generalizing i with
  | nil => simp at hi
  | cons a l ih =>
    cases i with
    | zero => rfl
    | succ i =>
      have e : (i + 1) * 3 = i * 3 + 1 + 1 + 1 := by omega
      rw [e]
      have e2 : etc_ (a :: l) = .int .i64 a.key :: .int .i64 a.turn :: .int .i64 a.id :: etc_ l := rfl
      rw [e2]
      simp only [List.set_cons_succ]
      have e3 : etc_ (a :: l.set i x) = .int .i64 a.key :: .int .i64 a.turn :: .int .i64 a.id :: etc_ (l.set i x) := rfl
      rw [e3, ← ih i (by simpa using hi)]
theorem OwnE.put3 {B : Nat} {w : World} {g n c : Nat} {l : List EntM} (h : OwnE B w (some ⟨g, 0, none⟩) n c l) {i : Nat} (hi : i < l.length) (x : EntM) :
    OwnE B (((w.setCell ⟨g, i * 3, none⟩ (.int .i64 x.key)).setCell ⟨g, i * 3 + 1, none⟩ (.int .i64 x.turn)).setCell ⟨g, i * 3 + 2, none⟩ (.int .i64 x.id)) (some ⟨g, 0, none⟩) n c (l.set i x) := by
  have hl := h.len
  refine ⟨?_, by rw [List.length_set]; exact hl, h.cap, fun e => by cases e⟩
  rw [← etc_set l i hi x]
  exact ownE_put (ownE_put (ownE_put h.own (i * 3) (by omega) _) (i * 3 + 1) (by omega) _) (i * 3 + 2) (by omega) _
theorem OwnE.cells {B : Nat} {w : World} {g n c : Nat} {l : List EntM} (h : OwnE B w (some ⟨g, 0, none⟩) n c l) {i : Nat} (hi : i < l.length) : w.cell? ⟨g, i * 3, none⟩ = some (.int .i64 (l.getD i default).key) ∧ w.cell? ⟨g, i * 3 + 1, none⟩ = some (.int .i64 (l.getD i default).turn) ∧ w.cell? ⟨g, i * 3 + 2, none⟩ = some (.int .i64 (l.getD i default).id) := by
  rcases h.ents with e | ⟨b, off, e, hc⟩
  · subst e; simp at hi
  · injection e with e
    injection e with e1 e2
    subst e1; subst e2
    have := hc i hi
    unfold EntCells at this
    rw [Nat.zero_add] at this
    exact this
theorem OwnE.at_ {B : Nat} {w : World} {A : Option Addr} {n c : Nat} {l : List EntM} (h : OwnE B w A n c l) (hl : 0 < l.length) : ∃ g, A = some ⟨g, 0, none⟩ ∧ B ≤ g ∧ g < w.heap.size := ownE_at h.own (by rw [h.len]; exact hl)
/-- a rank in the cells ofs to ofs + 2 of block b: its room, how many were put, its heap -/
structure Rk (w : World) (b ofs : Nat) (KT : TypeId) (kcs : Array Value) (R P : Int) (l : List EntM) (A : Option Addr) (c : Nat) : Prop where
  blk : Bk w b KT kcs
  room : kcs[ofs]? = some (.int .i64 R)
  puts : kcs[ofs + 1]? = some (.int .i64 P)
  hdr : kcs[ofs + 2]? = some (.slice A l.length c)
  own : OwnE 0 w A l.length c l
  ne : b ∉ fp A
section
variable {w w' : World} {b ofs : Nat} {KT : TypeId} {kcs : Array Value} {R P : Int} {l : List EntM} {A : Option Addr} {c : Nat}
theorem Rk.cell0 (h : Rk w b ofs KT kcs R P l A c) : w.cell? ⟨b, ofs, none⟩ = some (.int .i64 R) := (h.blk.cell _).trans h.room
theorem Rk.cell1 (h : Rk w b ofs KT kcs R P l A c) : w.cell? ⟨b, ofs + 1, none⟩ = some (.int .i64 P) := (h.blk.cell _).trans h.puts
theorem Rk.cell2 (h : Rk w b ofs KT kcs R P l A c) : w.cell? ⟨b, ofs + 2, none⟩ = some (.slice A l.length c) := (h.blk.cell _).trans h.hdr
theorem Rk.size (h : Rk w b ofs KT kcs R P l A c) : ofs + 2 < kcs.size := by
  have := h.hdr
  by_cases hs : ofs + 2 < kcs.size
  · exact hs
  · rw [Array.getElem?_eq_none (by omega)] at this; cases this
theorem Rk.turned {F : List Nat} (h : Rk w b ofs KT kcs R P l A c) (ht : Turned F w w') (hb : b ∉ F) (hF : ∀ k ∈ fp A, k ∉ F) : Rk w' b ofs KT kcs R P l A c := ⟨h.blk.turned ht hb, h.room, h.puts, h.hdr, h.own.turned ht hF, h.ne⟩
theorem Rk.drewN (h : Rk w b ofs KT kcs R P l A c) (n : Nat) : Rk (w.drewN n) b ofs KT kcs R P l A c := ⟨h.blk.drewN n, h.room, h.puts, h.hdr, h.own.turned ((Turned.refl [] w).drewN n) (by simp), h.ne⟩
theorem Rk.put3 {g : Nat} (h : Rk w b ofs KT kcs R P l (some ⟨g, 0, none⟩) c) {i : Nat} (hi : i < l.length) (x : EntM) :
    Rk (((w.setCell ⟨g, i * 3, none⟩ (.int .i64 x.key)).setCell ⟨g, i * 3 + 1, none⟩ (.int .i64 x.turn)).setCell ⟨g, i * 3 + 2, none⟩ (.int .i64 x.id)) b ofs KT kcs R P (l.set i x) (some ⟨g, 0, none⟩) c := by
  have hne : b ≠ g := fun e => h.ne (by simp [fp, e])
  refine ⟨((h.blk.far hne _).far hne _).far hne _, h.room, h.puts, by rw [List.length_set]; exact h.hdr, ?_, h.ne⟩
  have := h.own.put3 hi x
  rw [List.length_set]; exact this
end
/-- the rank's cells as they are laid anew: the row's slice, how many were put -/
def rkCs (kcs : Array Value) (ofs : Nat) (P : Int) (A : Option Addr) (n c : Nat) : Array Value := (kcs.setIfInBounds (ofs + 2) (.slice A n c)).setIfInBounds (ofs + 1) (.int .i64 P)
theorem Rk.hdr_ {w : World} {b ofs : Nat} {KT : TypeId} {kcs : Array Value} {R P : Int} {l : List EntM} {A : Option Addr} {c : Nat} (h : Rk w b ofs KT kcs R P l A c) {l' : List EntM} {A' : Option Addr} {c' : Nat} {w' : World} (hb : Bk w' b KT kcs) (ho : OwnE 0 w' A' l'.length c' l') (hn : b ∉ fp A') :
    Rk (w'.setCell ⟨b, ofs + 2, none⟩ (.slice A' l'.length c')) b ofs KT (rkCs kcs ofs P A' l'.length c') R P l' A' c' := by
  have hs := h.size
  have T2 : Turned [b] w' (w'.setCell ⟨b, ofs + 2, none⟩ (.slice A' l'.length c')) := (Turned.refl [b] w').setCell (p := ⟨b, ofs + 2, none⟩) (.inl (by simp)) _
  have e : rkCs kcs ofs P A' l'.length c' = kcs.setIfInBounds (ofs + 2) (.slice A' l'.length c') := by
    unfold rkCs
    refine Array.ext' ?_
    rw [Array.toList_setIfInBounds]
    have h2 : (kcs.setIfInBounds (ofs + 2) (.slice A' l'.length c')).toList[ofs + 1]? = some (.int .i64 P) := by rw [Array.getElem?_toList, Array.getElem?_setIfInBounds, if_neg (by omega)]; exact h.puts
    obtain ⟨hi, hv⟩ := List.getElem?_eq_some_iff.1 h2
    rw [← hv, List.set_getElem_self]
  rw [e]
  exact ⟨hb.put _ _, by rw [Array.getElem?_setIfInBounds, if_neg (by omega)]; exact h.room, by rw [Array.getElem?_setIfInBounds, if_neg (by omega)]; exact h.puts, by rw [Array.getElem?_setIfInBounds, if_pos rfl, if_pos hs], ho.turned T2 (fun j hj hm => by simp at hm; subst hm; exact hn hj), hn⟩
theorem Rk.puts_ {w : World} {b ofs : Nat} {KT : TypeId} {kcs : Array Value} {R P : Int} {l : List EntM} {A : Option Addr} {c : Nat} (h : Rk w b ofs KT (rkCs kcs ofs P A l.length c) R P l A c) (Q : Int) :
    Rk (w.setCell ⟨b, ofs + 1, none⟩ (.int .i64 Q)) b ofs KT (rkCs kcs ofs Q A l.length c) R Q l A c := by
  have hs := h.size
  have T2 : Turned [b] w (w.setCell ⟨b, ofs + 1, none⟩ (.int .i64 Q)) := (Turned.refl [b] w).setCell (p := ⟨b, ofs + 1, none⟩) (.inl (by simp)) _
  have hb := h.blk.put (ofs + 1) (.int .i64 Q)
  have e : (rkCs kcs ofs P A l.length c).setIfInBounds (ofs + 1) (.int .i64 Q) = rkCs kcs ofs Q A l.length c := by
    unfold rkCs
    refine Array.ext' ?_
    simp only [Array.toList_setIfInBounds, List.set_set]
  have h0 := h.room
  have h2 := h.hdr
  rw [e] at hb
  refine ⟨hb, ?_, ?_, ?_, h.own.turned T2 (fun j hj hm => by simp at hm; subst hm; exact h.ne hj), h.ne⟩
  · rw [← e, Array.getElem?_setIfInBounds, if_neg (by omega)]; exact h0
  · rw [← e, Array.getElem?_setIfInBounds, if_pos rfl, if_pos (by omega)]
  · rw [← e, Array.getElem?_setIfInBounds, if_neg (by omega)]; exact h2
theorem Rk.same {w : World} {b ofs : Nat} {KT : TypeId} {kcs : Array Value} {R P : Int} {l : List EntM} {A : Option Addr} {c : Nat} (h : Rk w b ofs KT kcs R P l A c) : rkCs kcs ofs P A l.length c = kcs := by
  unfold rkCs
  have set_same : ∀ {cs : Array Value} {i : Nat} {v : Value}, cs[i]? = some v → cs.setIfInBounds i v = cs := fun {cs i v} h => by
    refine Array.ext' ?_
    rw [Array.toList_setIfInBounds]
    have h2 : cs.toList[i]? = some v := by rw [Array.getElem?_toList]; exact h
    obtain ⟨hi, hv⟩ := List.getElem?_eq_some_iff.1 h2
    rw [← hv, List.set_getElem_self]
  rw [set_same h.hdr, set_same h.puts]
end Go.Proofs.YtppgameimddimaaGreat
