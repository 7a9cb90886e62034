/- clock: rows in order of time are told by what they hold of each time. Plain. -/
import Derived.Test.YtkjobhocgiefdaaClkB
import Derived.Test.YtkjobhocgiefdaaClkA
namespace Go.Proofs.Ytkjobhocgiefdaa
set_option linter.unusedVariables false
set_option linter.unusedSimpArgs false
def SrtD (l : List DueM) : Prop := l.Pairwise fun a b => a.time ≤ b.time
def atD (l : List DueM) (t : Int) : List DueM := l.filter fun d => d.time == t
theorem insG_at' (x : DueM) (t : Int) : ∀ r : List DueM, (insG x r).filter (fun d => d.time == t) = if x.time = t then x :: r.filter (fun d => d.time == t) else r.filter (fun d => d.time == t)
  | [] => by by_cases h : x.time = t <;> simp [insG, h]
  | y :: r => by
    unfold insG
    by_cases he : erl x y = true
    · have hxy : x.time < y.time := by simpa [erl] using he
      rw [if_pos he, List.filter_cons, insG_at' x t r]
      by_cases h : x.time = t
      · have : ¬ y.time = t := by omega
        simp [h, this]
      · simp [h, List.filter_cons]
    · rw [if_neg he]
      by_cases h : x.time = t <;> simp [h, List.filter_cons]
theorem insE_flt (l : List DueM) (x : DueM) (t : Int) : atD (insE l x) t = atD l t ++ (if x.time = t then [x] else []) := by
  unfold insE atD
  rw [List.filter_reverse, insG_at']
  by_cases h : x.time = t
  · simp [h, List.filter_reverse]
  · simp [h, List.filter_reverse]
theorem sortE_flt (l : List DueM) (t : Int) : atD (sortE l) t = atD l t := by
  have : ∀ (l a : List DueM), atD (l.foldl insE a) t = atD a t ++ atD l t := fun l => by
    induction l with
    | nil => intro a; simp [atD]
    | cons x l ih =>
      intro a
      rw [List.foldl_cons, ih, insE_flt]
      unfold atD
      rw [List.filter_cons]
      by_cases h : x.time = t <;> simp [h]
  have h := this l []
  simpa [sortE, atD] using h
theorem insG_srt {x : DueM} : ∀ {r : List DueM}, r.Pairwise (fun a b => b.time ≤ a.time) → (insG x r).Pairwise (fun a b => b.time ≤ a.time)
  | [], _ => by simp [insG]
  | y :: r, h => by
    have h1 := List.pairwise_cons.1 h
    unfold insG
    by_cases he : erl x y = true
    · have hxy : x.time < y.time := by simpa [erl] using he
      rw [if_pos he]
      refine List.pairwise_cons.2 ⟨fun z hz => ?_, insG_srt h1.2⟩
      rcases List.mem_cons.1 ((insG_perm x r).mem_iff.1 hz) with rfl | hz
      · omega
      · exact h1.1 z hz
    · have hxy : ¬ x.time < y.time := by simpa [erl] using he
      rw [if_neg he]
      refine List.pairwise_cons.2 ⟨fun z hz => ?_, h⟩
      rcases List.mem_cons.1 hz with rfl | hz
      · omega
      · have := h1.1 z hz; omega
theorem insE_srt {l : List DueM} (x : DueM) (h : SrtD l) : SrtD (insE l x) := by
  unfold SrtD insE at *
  rw [List.pairwise_reverse]
  refine insG_srt ?_
  rw [List.pairwise_reverse]
  exact h
theorem sortE_srt (l : List DueM) : SrtD (sortE l) := by
  have : ∀ (l a : List DueM), SrtD a → SrtD (l.foldl insE a) := fun l => by
    induction l with
    | nil => exact fun a h => h
    | cons x l ih => exact fun a h => ih _ (insE_srt x h)
  exact this l [] (by simp [SrtD])
theorem srt_uniq : ∀ {A B : List DueM}, SrtD A → SrtD B → (∀ t, atD A t = atD B t) → A = B
  | [], [], _, _, _ => rfl
  | [], b :: B, _, _, h => by have := h b.time; simp [atD] at this
  | a :: A, [], _, _, h => by have := h a.time; simp [atD] at this
  | a :: A, b :: B, ha, hb, h => by
    have h1 := List.pairwise_cons.1 ha
    have h2 := List.pairwise_cons.1 hb
    have e1 : a.time ≤ b.time := by
      have hm : b ∈ atD (a :: A) b.time := by rw [h b.time]; simp [atD]
      rcases List.mem_cons.1 (List.mem_filter.1 hm).1 with rfl | hm
      · exact Int.le_refl _
      · exact h1.1 b hm
    have e2 : b.time ≤ a.time := by
      have hm : a ∈ atD (b :: B) a.time := by rw [← h a.time]; simp [atD]
      rcases List.mem_cons.1 (List.mem_filter.1 hm).1 with rfl | hm
      · exact Int.le_refl _
      · exact h2.1 a hm
    have et : a.time = b.time := by omega
    have h3 := h a.time
    simp [atD, et] at h3
    obtain ⟨rfl, h3⟩ := h3
    congr 1
    refine srt_uniq h1.2 h2.2 (fun t => ?_)
    have h4 := h t
    unfold atD at *
    by_cases ht : a.time = t
    · simpa [ht] using h4
    · simpa [ht] using h4
theorem sort_eq {A B : List DueM} (h : ∀ t, atD A t = atD B t) : sortE A = sortE B := srt_uniq (sortE_srt _) (sortE_srt _) (fun t => by rw [sortE_flt, sortE_flt, h t])
theorem atD_spl (L : List DueM) (i : Nat) (t : Int) : atD (splD L i) t = if t.tmod 4 = (i : Int) then atD L t else [] := by
  unfold atD splD
  rw [List.filter_filter]
  by_cases h : t.tmod 4 = (i : Int)
  · rw [if_pos h]
    congr 1
    funext d
    by_cases hd : d.time = t
    · simp [hd, h]
    · simp [hd]
  · rw [if_neg h, List.filter_eq_nil_iff]
    intro d _
    by_cases hd : d.time = t
    · simp [hd, h]
    · simp [hd]
theorem catR_sort {m : Nat → SpM} {L : List DueM} (h3 : ∀ i, i < 4 → (m i).rows = splD L i) (h0 : ∀ d ∈ L, 0 ≤ d.time) : sortE (catR m 4) = sortE L := by
  refine sort_eq (fun t => ?_)
  have e : catR m 4 = ((([] ++ splD L 0) ++ splD L 1) ++ splD L 2) ++ splD L 3 := by
    show ((([] ++ (m 0).rows) ++ (m 1).rows) ++ (m 2).rows) ++ (m 3).rows = _
    rw [h3 0 (by omega), h3 1 (by omega), h3 2 (by omega), h3 3 (by omega)]
  have ea : atD (catR m 4) t = atD (splD L 0) t ++ atD (splD L 1) t ++ atD (splD L 2) t ++ atD (splD L 3) t := by
    rw [e]; unfold atD; simp
  rw [ea, atD_spl, atD_spl, atD_spl, atD_spl]
  by_cases ht : 0 ≤ t
  · obtain ⟨i, hi, hm⟩ := mod4_ex ht
    rcases i with _ | _ | _ | _ | i
    · simp [hm]
    · simp [hm]
    · simp [hm]
    · simp [hm]
    · omega
  · have : atD L t = [] := by
      unfold atD
      rw [List.filter_eq_nil_iff]
      intro d hd
      have := h0 d hd
      simp; omega
    rw [this]
    simp
/-! ### one that goes -/
theorem first_erase : ∀ {l : List DueM} {d : DueM} {k : Nat}, k < l.length → l.getD k default = d → (∀ j, j < k → l.getD j default ≠ d) → l.eraseIdx k = l.erase d
  | [], d, k, h, _, _ => by simp at h
  | y :: l, d, 0, _, h, _ => by simp at h; subst h; simp
  | y :: l, d, k + 1, h, h1, h2 => by
    have hy : y ≠ d := by simpa using h2 0 (by omega)
    have ih := first_erase (l := l) (d := d) (k := k) (by simpa using h) (by simpa using h1) (fun j hj => by simpa using h2 (j + 1) (by omega))
    rw [List.eraseIdx_cons_succ, ih, List.erase_cons_tail (by simpa using hy)]
theorem first_of_mem : ∀ {l : List DueM} {d : DueM}, d ∈ l → ∃ k, k < l.length ∧ l.getD k default = d ∧ ∀ j, j < k → l.getD j default ≠ d
  | y :: l, d, h => by
    by_cases hy : y = d
    · exact ⟨0, by simp, by simpa using hy, fun j hj => by omega⟩
    · obtain ⟨k, h1, h2, h3⟩ := first_of_mem (l := l) (d := d) ((List.mem_cons.1 h).resolve_left (Ne.symm hy))
      refine ⟨k + 1, by simp; omega, by simpa using h2, fun j hj => ?_⟩
      rcases j with _ | j
      · simpa using hy
      · simpa using h3 j (by omega)
theorem splD_erase (L : List DueM) (d : DueM) (i : Nat) : splD (L.erase d) i = if d.time.tmod 4 = (i : Int) then (splD L i).erase d else splD L i := by
  unfold splD
  rw [List.erase_filter]
  induction L with
  | nil => simp
  | cons y L ih =>
    by_cases hy : y = d
    · subst hy
      by_cases h : y.time.tmod 4 = (i : Int)
      · simp [h]
      · simp [h]
    · by_cases h : d.time.tmod 4 = (i : Int)
      · rw [if_pos h]
      · rw [if_neg h] at ih ⊢
        rw [List.erase_cons_tail (by simpa using hy), List.filter_cons, List.filter_cons, ih]
/-- the first of the row in order that is of that id -/
def HasId (S : List DueM) (id : Int) (k : Nat) : Prop := k < S.length ∧ (S.getD k default).id = id ∧ ∀ j, j < k → (S.getD j default).id ≠ id
theorem dueN_erase {l : List DueM} {d : DueM} (h : d ∈ l) (t : Int) : dueN l t = dueN (l.erase d) t + (if d.time = t then 1 else 0) := by
  unfold dueN
  have h1 := (List.perm_cons_erase h).countP_eq (fun d => d.time == t)
  rw [h1, List.countP_cons]
  by_cases hd : d.time = t <;> simp [hd]
end Go.Proofs.Ytkjobhocgiefdaa
