/- SortedRules' numbers: rows numbered one by one, sorted: what came first of one key is first. Plain numbers; rows whose cells are written. -/
import Derived.Test.YtlejnbepldpmmaaSortNums
namespace Go.Proofs.Ytlejnbepldpmmaa
open Go.ChangeShapes Go.WideShapes Go.ChangeAt Go.RowKit
set_option linter.unusedVariables false

theorem own_put1 {w : World} {base : Nat} {e : TypeId} {size n m c g : Nat} {xs : List Value} (h : w.ownsRow base e size (.slice (some ⟨g, 0, none⟩) m c) n xs) (k : Nat) (hk : k < n * size) (u : Value) :
    (w.setCell ⟨g, k, none⟩ u).ownsRow base e size (.slice (some ⟨g, 0, none⟩) m c) n (xs.set k u) := by
  obtain ⟨h1, h2⟩ := h
  refine ⟨by rw [List.length_set]; exact h1, ?_⟩
  rcases h2 with ⟨hv, _⟩ | ⟨g', cap, cur, hv, hb, hg, h3, h4, h5, h6⟩
  · cases hv
  · injection hv with e1 e2 e3
    injection e1 with e1
    injection e1 with e1
    subst e1; subst e2; subst e3
    refine .inr ⟨g, _, cur.setIfInBounds k u, rfl, hb, ?_, h3, h4, by simpa using h5, ?_⟩
    · exact (Bk.put (cs := cur) hg k u)
    · rw [Array.toList_setIfInBounds, List.take_set, h6]
theorem own_some {w : World} {base : Nat} {e : TypeId} {size n m : Nat} {A : Option Addr} {c : Nat} {xs : List Value} (h : w.ownsRow base e size (.slice A m c) n xs) (hn : 0 < n) : ∃ g, A = some ⟨g, 0, none⟩ ∧ base ≤ g ∧ g < w.heap.size ∧ m = n := by
  obtain ⟨g, cap, hv, hb, hlt⟩ := h.form hn
  injection hv with e1 e2 e3
  exact ⟨g, e1, hb, hlt, e2⟩
theorem own_free {w : World} {base : Nat} {e : TypeId} {size n m c g : Nat} {xs : List Value} (h : w.ownsRow base e size (.slice (some ⟨g, 0, none⟩) m c) n xs) (k : Nat) : w.frozen? ⟨g, k, none⟩ = false := by
  rcases h.2 with ⟨hv, _⟩ | ⟨g', cap, cur, hv, _, hg, _⟩
  · cases hv
  · injection hv with e1
    injection e1 with e1
    injection e1 with e1
    subst e1
    exact (Bk.frozen (cs := cur) hg k)
/-- the rows numbered from k on -/
def tag : Nat → List (Int × Int) → List (Int × Int)
  | _, [] => []
  | k, p :: l => (p.1, (k : Int)) :: tag (k + 1) l
theorem tag_len (k : Nat) (l : List (Int × Int)) : (tag k l).length = l.length := by
  induction l generalizing k with
  | nil => rfl
  | cons p l ih => simp [tag, ih]
theorem tag_snoc (k : Nat) (l : List (Int × Int)) (p : Int × Int) : tag k (l ++ [p]) = tag k l ++ [(p.1, ((k + l.length : Nat) : Int))] := by
  induction l generalizing k with
  | nil => simp [tag]
  | cons q l ih => simp [tag, ih]; omega
theorem tag_get (k : Nat) (l : List (Int × Int)) (i : Nat) (hi : i < l.length) : (tag k l).getD i (0, 0) = ((l.getD i (0, 0)).1, ((k + i : Nat) : Int)) := by
  induction l generalizing k i with
  | nil => simp at hi
  | cons p l ih =>
    cases i with
    | zero => simp [tag]
    | succ i =>
      have := ih (k + 1) i (by simpa using hi)
      simp only [tag, List.getD_cons_succ, this]
      congr 2; omega
theorem getD_mem1 {l : List (Int × Int)} {i : Nat} (hi : i < l.length) : l.getD i (0, 0) ∈ l := by simp [List.getD, hi]
theorem mem_getD1 {l : List (Int × Int)} {p : Int × Int} (h : p ∈ l) : ∃ i, i < l.length ∧ l.getD i (0, 0) = p := by
  obtain ⟨i, hi, rfl⟩ := List.getElem_of_mem h
  exact ⟨i, hi, by simp [List.getD, hi]⟩
theorem tag_mem {l : List (Int × Int)} {p : Int × Int} (h : p ∈ tag 0 l) : ∃ d : Nat, d < l.length ∧ p = ((l.getD d (0, 0)).1, (d : Int)) := by
  obtain ⟨i, hi, rfl⟩ := mem_getD1 h
  rw [tag_len] at hi
  exact ⟨i, hi, by rw [tag_get 0 l i hi]; simp⟩
theorem tag_fit {l : List (Int × Int)} (h : ∀ p ∈ l, I64 p.1 ∧ I64 p.2) (hl : l.length ≤ 1000) : ∀ p ∈ tag 0 l, I64 p.1 ∧ I64 p.2 := fun p hp => by
  obtain ⟨d, hd, rfl⟩ := tag_mem hp
  exact ⟨(h _ (getD_mem1 hd)).1, by unfold I64; dsimp only; omega⟩
/-- the first k numbered, the others as they were -/
def half (l : List (Int × Int)) (k : Nat) : List (Int × Int) := tag 0 (l.take k) ++ l.drop k
theorem half_len (l : List (Int × Int)) (k : Nat) : (half l k).length = l.length := by
  unfold half; rw [List.length_append, tag_len, ← List.length_append, List.take_append_drop]
theorem half_zero (l : List (Int × Int)) : half l 0 = l := by simp [half, tag]
theorem half_all (l : List (Int × Int)) : half l l.length = tag 0 l := by simp [half]
theorem half_at {l : List (Int × Int)} {k : Nat} (hk : k < l.length) : (half l k).getD k (0, 0) = l.getD k (0, 0) := by
  have e : (tag 0 (l.take k)).length = k := by rw [tag_len, List.length_take]; omega
  unfold half
  simp only [List.getD]
  rw [List.getElem?_append_right (by omega), e, Nat.sub_self, List.getElem?_drop, Nat.add_zero]
theorem half_set {l : List (Int × Int)} {k : Nat} (hk : k < l.length) : (half l k).set k ((l.getD k (0, 0)).1, (k : Int)) = half l (k + 1) := by
  have e : (tag 0 (l.take k)).length = k := by rw [tag_len, List.length_take]; omega
  have e2 : l.take (k + 1) = l.take k ++ [l.getD k (0, 0)] := by rw [List.take_succ_eq_append_getElem hk]; simp [List.getD, hk]
  unfold half
  rw [e2, tag_snoc, List.set_append_right _ _ (by omega), e, Nat.sub_self, List.drop_eq_getElem_cons hk, List.set_cons_zero]
  simp [List.length_take, Nat.min_eq_left (Nat.le_of_lt hk)]
theorem pcs_set (ps : List (Int × Int)) (k : Nat) (hk : k < ps.length) (y : Int) : (pcs ps).set (k * 2 + 1) (.int .i64 y) = pcs (ps.set k ((ps.getD k (0, 0)).1, y)) := by
  induction ps generalizing k with
  | nil => simp at hk
  | cons p ps ih =>
    cases k with
    | zero => simp [pcs]
    | succ k =>
      have := ih k (by simpa using hk)
      rw [show (k + 1) * 2 + 1 = k * 2 + 1 + 1 + 1 by omega]
      simp only [pcs, List.flatMap_cons, List.cons_append, List.nil_append, List.set_cons_succ, List.getD_cons_succ] at *
      rw [this]
theorem OwnI.put2 {B : Nat} {w : World} {g n c : Nat} {ps : List (Int × Int)} (h : OwnI B w (some ⟨g, 0, none⟩) n c ps) {k : Nat} (hk : k < ps.length) {y : Int} (hy : I64 y) : OwnI B (w.setCell ⟨g, k * 2 + 1, none⟩ (.int .i64 y)) (some ⟨g, 0, none⟩) n c (ps.set k ((ps.getD k (0, 0)).1, y)) :=
  ⟨by rw [← pcs_set ps k hk]; exact own_put1 h.own _ (by have := h.len; omega) _, by rw [List.length_set]; exact h.len, h.cap, h.nil, fun p hp => by
    rcases List.mem_or_eq_of_mem_set hp with h1 | h1
    · exact h.fit p h1
    · subst h1; exact ⟨(h.fit _ (getD_mem1 hk)).1, hy⟩⟩
def Lex (l : List (Int × Int)) : Prop := l.Pairwise fun a b => a.1 < b.1 ∨ a.1 = b.1 ∧ a.2 < b.2
theorem ins_lex {l : List (Int × Int)} {x : Int × Int} (h : Lex l) (hs : Srt l) (hx : ∀ y ∈ l, y.2 < x.2) : Lex (ins l x) := by
  induction l with
  | nil => simp [ins, Lex]
  | cons y l ih =>
    unfold ins
    have hp := List.pairwise_cons.1 h
    have hps := List.pairwise_cons.1 hs
    split
    · rename_i hlt
      refine List.pairwise_cons.2 ⟨fun z hz => ?_, h⟩
      rcases List.mem_cons.1 hz with rfl | hz
      · exact .inl hlt
      · have := hps.1 z hz; left; omega
    · rename_i hge
      refine List.pairwise_cons.2 ⟨fun z hz => ?_, ih hp.2 hps.2 (fun z hz => hx z (by simp [hz]))⟩
      rcases List.mem_cons.1 ((ins_perm l x).mem_iff.1 hz) with rfl | hz
      · have := hx y (by simp)
        by_cases e : y.1 = z.1
        · exact .inr ⟨e, this⟩
        · left; omega
      · exact hp.1 z hz
theorem tag_lex (l : List (Int × Int)) : Lex (isort (tag 0 l)) := by
  induction l using snoc_ind with
  | nil => simp [tag, isort, Lex]
  | snoc m x ih =>
    rw [tag_snoc, isort_snoc]
    refine ins_lex ih (isort_srt _) (fun y hy => ?_)
    obtain ⟨d, hd, rfl⟩ := tag_mem ((isort_perm _).mem_iff.1 hy)
    dsimp only; omega
theorem tag_nodup (l : List (Int × Int)) : ((tag 0 l).map Prod.snd).Nodup := by
  induction l using snoc_ind with
  | nil => simp [tag]
  | snoc m x ih =>
    rw [tag_snoc, List.map_append]
    refine List.nodup_append.2 ⟨ih, by simp, fun a ha b hb => ?_⟩
    obtain ⟨p, hp, rfl⟩ := List.mem_map.1 ha
    obtain ⟨d, hd, rfl⟩ := tag_mem hp
    simp at hb; subst hb
    dsimp only; omega
/-- which numbers stand among the first k -/
def seenL (S : List (Int × Int)) (n k : Nat) : List Value := (List.range n).map fun (d : Nat) => Value.bool (decide ((d : Int) ∈ (S.take k).map Prod.snd))
theorem seen_len (S : List (Int × Int)) (n k : Nat) : (seenL S n k).length = n := by simp [seenL]
theorem seen_at {S : List (Int × Int)} {n k d : Nat} (hd : d < n) : (seenL S n k)[d]? = some (Value.bool (decide ((d : Int) ∈ (S.take k).map Prod.snd))) := by simp [seenL, hd]
theorem seen_put {S : List (Int × Int)} {n k d : Nat} (hk : k < S.length) (he : (S.getD k (0, 0)).2 = (d : Int)) (hd : d < n) : (seenL S n k).set d (.bool true) = seenL S n (k + 1) := by
  have e2 : S.take (k + 1) = S.take k ++ [S.getD k (0, 0)] := by rw [List.take_succ_eq_append_getElem hk]; simp [List.getD, hk]
  refine List.ext_getElem (by simp [seen_len]) (fun i h1 h2 => ?_)
  rw [List.length_set, seen_len] at h1
  rw [List.getElem_set]
  unfold seenL
  simp only [List.getElem_map, List.getElem_range, e2, List.map_append, List.map_cons, List.map_nil, List.mem_append, List.mem_singleton, he]
  by_cases e : d = i
  · subst e; simp
  · rw [if_neg e]
    have : ¬ (i : Int) = (d : Int) := by omega
    simp [this]
theorem seen_zero (S : List (Int × Int)) (n : Nat) : (madeCells #[Value.bool false] (n * 1)).toList = seenL S n 0 := by
  unfold seenL
  refine List.ext_getElem? (fun i => ?_)
  by_cases h : i < n
  · simp [madeCells, h, Nat.mod_one]
  · simp [madeCells, h]
/-- all that is told of the sorted row -/
theorem rules_told {l S : List (Int × Int)} (hS : isort (tag 0 l) = S) (k : Nat) (hk : k < l.length) :
    ∃ d : Nat, d < l.length ∧ (S.getD k (0, 0)).2 = (d : Int) ∧ (l.getD d (0, 0)).1 = (S.getD k (0, 0)).1 ∧ ¬ (d : Int) ∈ (S.take k).map Prod.snd ∧ (0 < k → (S.getD (k - 1) (0, 0)).1 = (S.getD k (0, 0)).1 → (S.getD (k - 1) (0, 0)).2 < (d : Int)) := by
  have hp := isort_perm (tag 0 l)
  rw [hS] at hp
  have hl : S.length = l.length := by rw [hp.length_eq, tag_len]
  have hkS : k < S.length := by omega
  obtain ⟨d, hd, e⟩ := tag_mem (hp.mem_iff.1 (getD_mem1 hkS))
  refine ⟨d, hd, by rw [e], by rw [e], ?_, fun h0 he => ?_⟩
  · have hn : (S.map Prod.snd).Nodup := (hp.map Prod.snd).nodup_iff.2 (tag_nodup l)
    have e2 : S.take (k + 1) = S.take k ++ [S.getD k (0, 0)] := by rw [List.take_succ_eq_append_getElem hkS]; simp [List.getD, hkS]
    have hn2 : ((S.take (k + 1)).map Prod.snd).Nodup := ((List.take_sublist _ _).map _).nodup hn
    rw [e2, List.map_append] at hn2
    intro hm
    exact (List.nodup_append.1 hn2).2.2 _ hm (d : Int) (by rw [e]; simp) rfl
  · have hx := tag_lex l
    rw [hS] at hx
    have h3 := List.pairwise_iff_getElem.1 hx (k - 1) k (by omega) hkS (by omega)
    have g1 : S.getD (k - 1) (0, 0) = S[k - 1] := by simp [List.getD, show k - 1 < S.length by omega]
    have g2 : S.getD k (0, 0) = S[k] := by simp [List.getD, hkS]
    rw [g1, g2] at he
    rw [g1]
    rw [g2] at e
    rcases h3 with h4 | h4
    · omega
    · have : S[k].2 = (d : Int) := by rw [e]
      omega
end Go.Proofs.Ytlejnbepldpmmaa
