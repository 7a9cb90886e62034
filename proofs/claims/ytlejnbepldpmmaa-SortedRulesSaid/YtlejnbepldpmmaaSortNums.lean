/- For layer 2's laws: rows that came in; sums of the greatest. -/
import Derived.Test.YtlejnbepldpmmaaKnown2
import Derived.Test.YtlejnbepldpmmaaPairs
namespace Go.Proofs.Ytlejnbepldpmmaa
set_option maxRecDepth 100000
open Go.ChangeShapes Go.WideShapes Go.ChangeAt Go.RowKit
set_option linter.unusedVariables false
theorem pcs_get (ps : List (Int × Int)) (j : Nat) (v : Value) (h : (pcs ps)[j]? = some v) : j / 2 < ps.length ∧ (j % 2 = 0 ∧ v = .int .i64 (ps.getD (j / 2) (0, 0)).1 ∨ j % 2 = 1 ∧ v = .int .i64 (ps.getD (j / 2) (0, 0)).2) := by
  have hl : j < (pcs ps).length := (List.getElem?_eq_some_iff.1 h).1
  rw [pcs_len] at hl
  have hk : j / 2 < ps.length := by omega
  refine ⟨hk, ?_⟩
  obtain ⟨a, b⟩ := pcs_at ps (j / 2) hk
  rcases (show j % 2 = 0 ∨ j % 2 = 1 by omega) with e | e
  · left
    rw [show j / 2 * 2 = j by omega, h] at a
    exact ⟨e, by injection a⟩
  · right
    rw [show j / 2 * 2 + 1 = j by omega, h] at b
    exact ⟨e, by injection b⟩
theorem RdI.of_pairs {w : World} {a : Option Addr} {len cap : Nat} {ps : List (Int × Int)} (h : IsPairs w a len cap ps) : RdI w a len cap ps := by
  obtain ⟨h1, h2, h3, h4, h6, h5⟩ := h.row
  refine ⟨?_, h1.symm, ⟨by omega, h3⟩, h6, h4⟩
  rcases h5 with rfl | ⟨b, off, rfl, hc⟩
  · exact .inl rfl
  · by_cases h0 : ps = []
    · subst h0; exact .inl rfl
    · have hp : 0 < ps.length := List.length_pos_iff.2 h0
      refine .inr ⟨b, off, rfl, cell_lt (hc 0 hp).1, fun j v hj => ?_⟩
      obtain ⟨hk, h6⟩ := pcs_get ps j v hj
      obtain ⟨c1, c2⟩ := hc (j / 2) hk
      rcases h6 with ⟨e, rfl⟩ | ⟨e, rfl⟩
      · rw [show off + j / 2 * 2 = off + j by omega] at c1; exact c1
      · rw [show off + j / 2 * 2 + 1 = off + j by omega] at c2; exact c2

/-! sums -/
theorem sumW_tot {l : List Int} (hl : l.length ≤ 1000) (hb : ∀ x ∈ l, 0 ≤ x ∧ x ≤ 65535) : sumW l = tot l ∧ 0 ≤ tot l ∧ tot l ≤ 65535 * l.length := by
  induction l using snoc_ind with
  | nil => simp [sumW, tot]
  | snoc m x ih =>
    simp at hl
    obtain ⟨i1, i2, i3⟩ := ih (by omega) (fun y hy => hb y (by simp [hy]))
    have hx := hb x (by simp)
    have e : sumW (m ++ [x]) = wrap64 (sumW m + x) := by unfold sumW; rw [List.foldl_append]; rfl
    rw [e, tot_append, i1]
    simp only [tot, List.length_append, List.length_cons, List.length_nil]
    rw [IntWalk.wrap64_in _ (by omega)]
    omega
theorem tot_perm {a b : List Int} (h : a.Perm b) : tot a = tot b := by
  induction h with
  | nil => rfl
  | cons x _ ih => simp only [tot, ih]
  | swap x y l => simp only [tot]; omega
  | trans _ _ h1 h2 => rw [h1, h2]
theorem tot_nonneg {l : List Int} (hb : ∀ x ∈ l, 0 ≤ x) : 0 ≤ tot l := by
  induction l with
  | nil => simp [tot]
  | cons y l ih => simp only [tot]; have := hb y (by simp); have := ih (fun x hx => hb x (by simp [hx])); omega
theorem tot_take_le {l : List Int} (hb : ∀ x ∈ l, 0 ≤ x) (i j : Nat) (h : i ≤ j) : tot (l.take i) ≤ tot (l.take j) := by
  have e : l.take j = l.take i ++ (l.take j).drop i := by
    have := List.take_append_drop i (l.take j)
    rw [List.take_take, Nat.min_eq_left h] at this
    exact this.symm
  rw [e, tot_append]
  have := tot_nonneg (l := (l.take j).drop i) (fun x hx => hb x (List.mem_of_mem_take (List.mem_of_mem_drop hx)))
  omega
/-- a number put into a row whose greatest is first -/
def dins : List Int → Int → List Int
  | [], m => [m]
  | y :: l, m => if y < m then m :: y :: l else y :: dins l m
theorem dins_perm (l : List Int) (m : Int) : (dins l m).Perm (m :: l) := by
  induction l with
  | nil => exact List.Perm.refl _
  | cons y l ih =>
    simp only [dins]
    split
    · exact List.Perm.refl _
    · exact (List.Perm.cons y ih).trans (List.Perm.swap m y l)
theorem dins_srt {l : List Int} (m : Int) (h : l.Pairwise fun a b => b ≤ a) : (dins l m).Pairwise fun a b => b ≤ a := by
  induction l with
  | nil => simp [dins]
  | cons y l ih =>
    have h2 := List.pairwise_cons.1 h
    simp only [dins]
    split
    · rename_i hx
      refine List.pairwise_cons.2 ⟨fun z hz => ?_, h⟩
      rcases List.mem_cons.1 hz with rfl | hz
      · omega
      · have := h2.1 z hz; omega
    · rename_i hx
      refine List.pairwise_cons.2 ⟨fun z hz => ?_, ih h2.2⟩
      rcases List.mem_cons.1 ((dins_perm l m).mem_iff.1 hz) with rfl | hz
      · omega
      · exact h2.1 z hz
theorem desc_snoc (zs : List Int) (m : Int) : desc (zs ++ [m]) = dins (desc zs) m :=
  desc_eq ((dins_perm _ _).trans ((List.Perm.cons m (desc_perm zs)).trans (List.perm_append_singleton m zs).symm)) (dins_srt m (desc_srt zs))
theorem take_shift {l : List Int} {y : Int} (hs : (y :: l).Pairwise fun a b => b ≤ a) (hn : ∀ x ∈ y :: l, 0 ≤ x) (j : Nat) : tot (l.take j) ≤ tot ((y :: l).take j) := by
  induction l generalizing y j with
  | nil => simp only [List.take_nil, tot]; exact tot_nonneg fun x hx => hn x (List.mem_of_mem_take hx)
  | cons z l ih =>
    cases j with
    | zero => simp [tot]
    | succ j =>
      have h2 := List.pairwise_cons.1 hs
      have := ih h2.2 (fun x hx => hn x (by simp only [List.mem_cons] at hx ⊢; exact .inr hx)) j
      have := h2.1 z (by simp)
      simp only [List.take_succ_cons, tot] at *; omega
theorem dins_more {l : List Int} {m : Int} (hs : l.Pairwise fun a b => b ≤ a) (hn : ∀ x ∈ l, 0 ≤ x) (hm : 0 ≤ m) (j : Nat) : tot (l.take j) ≤ tot ((dins l m).take j) := by
  induction l generalizing j with
  | nil => simp only [List.take_nil, tot, dins]; exact tot_nonneg fun x hx => by have := List.mem_of_mem_take hx; simp at this; omega
  | cons y l ih =>
    cases j with
    | zero => simp [tot]
    | succ j =>
      have h2 := List.pairwise_cons.1 hs
      simp only [dins]
      split
      · have := take_shift hs hn j
        simp only [List.take_succ_cons, tot] at *; omega
      · have := ih h2.2 (fun x hx => hn x (by simp [hx])) j
        simp only [List.take_succ_cons, tot] at *; omega
theorem tops_bd {zs : List Int} {k : Int} (hb : ∀ x ∈ zs, 0 ≤ x ∧ x ≤ 65535) : ∀ x ∈ tops zs k, 0 ≤ x ∧ x ≤ 65535 := fun x hx => hb x ((desc_perm zs).mem_iff.1 (List.mem_of_mem_take hx))
theorem tops_sum {zs : List Int} {k : Int} (hb : ∀ x ∈ zs, 0 ≤ x ∧ x ≤ 65535) (hl : zs.length ≤ 1000) : sumW (tops zs k) = tot (tops zs k) :=
  (sumW_tot (by rw [tops_len]; have := clampN_le k zs.length; omega) (tops_bd hb)).1
theorem tops_all (zs : List Int) : tot (tops zs zs.length) = tot zs := by
  unfold tops
  rw [List.take_of_length_le (by rw [desc_len]; unfold clampN; omega)]
  exact tot_perm (desc_perm zs)
theorem tops_mono {zs : List Int} (hb : ∀ x ∈ zs, 0 ≤ x ∧ x ≤ 65535) (j k : Int) (h : j ≤ k) : tot (tops zs j) ≤ tot (tops zs k) := by
  unfold tops
  exact tot_take_le (fun x hx => (hb x ((desc_perm zs).mem_iff.1 hx)).1) _ _ (by unfold clampN; omega)
theorem tops_le {zs : List Int} (hb : ∀ x ∈ zs, 0 ≤ x ∧ x ≤ 65535) (j : Int) : tot (tops zs j) ≤ tot zs := by
  have h := tops_all zs
  have h2 : tot (tops zs j) ≤ tot (tops zs zs.length) := by
    unfold tops
    exact tot_take_le (fun x hx => (hb x ((desc_perm zs).mem_iff.1 hx)).1) _ _ (by unfold clampN; omega)
  omega
theorem tops_more {zs : List Int} {m : Int} (hb : ∀ x ∈ zs, 0 ≤ x ∧ x ≤ 65535) (hm : 0 ≤ m) (j : Int) : tot (tops zs j) ≤ tot (tops (zs ++ [m]) j) := by
  unfold tops
  rw [desc_snoc]
  have hn : ∀ x ∈ desc zs, 0 ≤ x := fun x hx => (hb x ((desc_perm zs).mem_iff.1 hx)).1
  have h1 := dins_more (desc_srt zs) hn hm (clampN j zs.length)
  have hn2 : ∀ x ∈ dins (desc zs) m, 0 ≤ x := fun x hx => by
    rcases List.mem_cons.1 ((dins_perm (desc zs) m).mem_iff.1 hx) with rfl | hx
    · exact hm
    · exact hn x hx
  have h2 := tot_take_le hn2 (clampN j zs.length) (clampN j (zs ++ [m]).length) (by unfold clampN; simp; omega)
  omega
theorem tops_neg (zs : List Int) : tops zs (-1) = [] := by
  unfold tops
  rw [show clampN (-1) zs.length = 0 by unfold clampN; omega]; rfl
end Go.Proofs.Ytlejnbepldpmmaa
