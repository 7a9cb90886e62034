/- clock: its state as one row of dues in the order in which they were put; New, Now, Len, Put, Step by it. -/
import Derived.Test.YtkjobhocgiefdaaClk10
namespace Go.Proofs.Ytkjobhocgiefdaa
open Go.ChangeShapes Go.WideShapes Go.ChangeAt Go.RowKit Go.Conc
set_option linter.unusedVariables false
set_option linter.unusedSimpArgs false
/-- those of spoke i -/
def splD (L : List DueM) (i : Nat) : List DueM := L.filter fun d => d.time.tmod 4 == (i : Int)
theorem splD_app (L : List DueM) (d : DueM) (i : Nat) : splD (L ++ [d]) i = splD L i ++ (if d.time.tmod 4 = (i : Int) then [d] else []) := by
  unfold splD
  rw [List.filter_append]
  congr 1
  by_cases h : d.time.tmod 4 = (i : Int) <;> simp [h]
theorem mod4_ex {t : Int} (h : 0 ≤ t) : ∃ i : Nat, i < 4 ∧ t.tmod 4 = (i : Int) := by
  rw [Int.tmod_eq_emod_of_nonneg h]
  exact ⟨(t % 4).toNat, by omega, by omega⟩
theorem splD_sum : ∀ (L : List DueM), (∀ d ∈ L, 0 ≤ d.time) → (splD L 0).length + (splD L 1).length + (splD L 2).length + (splD L 3).length = L.length
  | [], _ => rfl
  | d :: L, h => by
    have ih := splD_sum L (fun x hx => h x (by simp [hx]))
    obtain ⟨i, hi, hm⟩ := mod4_ex (h d (by simp))
    unfold splD at *
    simp only [List.filter_cons]
    rcases i with _ | _ | _ | _ | i
    · simp [hm] at ih ⊢; omega
    · simp [hm] at ih ⊢; omega
    · simp [hm] at ih ⊢; omega
    · simp [hm] at ih ⊢; omega
    · omega
theorem splD_not (L : List DueM) (i : Nat) (t : Int) : notAt (splD L i) t = splD (notAt L t) i := by
  unfold notAt splD
  rw [List.filter_filter, List.filter_filter]
  congr 1
  funext d
  rw [Bool.and_comm]
theorem splD_ids (L : List DueM) {i : Nat} {t : Int} (h : t.tmod 4 = (i : Int)) : idsAt (splD L i) t = idsAt L t := by
  unfold idsAt splD
  rw [List.filter_filter]
  congr 2
  funext d
  by_cases hd : d.time = t
  · simp [hd, h]
  · simp [hd]
theorem splD_due (L : List DueM) {i : Nat} {t : Int} (h : t.tmod 4 = (i : Int)) : dueN (splD L i) t = dueN L t := by
  unfold dueN splD
  rw [List.countP_filter]
  congr 1
  funext d
  by_cases hd : d.time = t
  · simp [hd, h]
  · simp [hd]
theorem splD_none (L : List DueM) {i : Nat} {t : Int} (h : t.tmod 4 ≠ (i : Int)) : dueN (splD L i) t = 0 := by
  unfold dueN splD
  rw [List.countP_filter, List.countP_eq_zero]
  intro d hd
  by_cases hd : d.time = t
  · simp [hd, h]
  · simp [hd]
theorem splD_notme (L : List DueM) {i : Nat} {t : Int} (h : t.tmod 4 ≠ (i : Int)) : splD (notAt L t) i = splD L i := by
  rw [← splD_not]
  exact (none_at (splD_none L h)).2
/-- what is due may be so -/
structure DuesFit (now : Int) (L : List DueM) : Prop where
  n0 : 0 ≤ now ∧ now ≤ 1000000
  fit : ∀ d ∈ L, I64 d.id ∧ now ≤ d.time ∧ d.time ≤ 1000000
  len : L.length ≤ 64
/-- a clock of which these are due, put in that order; its blocks are F -/
def ClkL (w : World) (b o : Nat) (T : TypeId) (cs : Array Value) (F : List Nat) (now : Int) (L : List DueM) : Prop :=
  ∃ m, Clk w b o T cs now m ∧ F = fps m ∧ (∀ i, i < 4 → (m i).rows = splD L i) ∧ (∀ i, i < 4 → (m i).k = dueN (splD L i) now) ∧ DuesFit now L
section
variable {w : World} {b o : Nat} {T : TypeId} {cs : Array Value} {F : List Nat} {now : Int} {L : List DueM}
theorem ClkL.fit (h : ClkL w b o T cs F now L) : DuesFit now L := by obtain ⟨m, _, _, _, _, h⟩ := h; exact h
theorem ClkL.blk (h : ClkL w b o T cs F now L) : Bk w b T cs := by obtain ⟨m, h, _⟩ := h; exact h.blk
theorem ClkL.fps (h : ClkL w b o T cs F now L) : ∀ k ∈ F, k < w.heap.size ∧ k ≠ b := by
  obtain ⟨m, h, rfl, _⟩ := h
  intro k hk
  obtain ⟨i, hi, hk⟩ := mem_fps.1 hk
  exact ⟨(h.sp i hi).fps k hk, fun e => (h.sp i hi).ne (e ▸ hk)⟩
theorem ClkL.turned {G : List Nat} {w' : World} (h : ClkL w b o T cs F now L) (ht : Turned G w w') (hb : b ∉ G) (hF : ∀ k ∈ F, k ∉ G) : ClkL w' b o T cs F now L := by
  obtain ⟨m, h, rfl, h3, h4, h5⟩ := h
  exact ⟨m, h.turned ht hb hF, rfl, h3, h4, h5⟩
theorem ClkL.over {w' : World} (h : ClkL w b o T cs F now L) (hb : Below w.heap.size w w') : ClkL w' b o T cs F now L := h.turned (Turned.of_below hb []) (by simp) (by simp)
theorem tot_len {m : Nat → SpM} (h3 : ∀ i, i < 4 → (m i).rows = splD L i) (h5 : DuesFit now L) : totC m 4 = L.length := by
  have h := splD_sum L (fun d hd => Int.le_trans h5.n0.1 (h5.fit d hd).2.1)
  show 0 + (m 0).rows.length + (m 1).rows.length + (m 2).rows.length + (m 3).rows.length = _
  rw [h3 0 (by omega), h3 1 (by omega), h3 2 (by omega), h3 3 (by omega)]
  omega
theorem row_le {m : Nat → SpM} (h3 : ∀ i, i < 4 → (m i).rows = splD L i) : ∀ i, i < 4 → (m i).rows.length ≤ L.length := fun i hi => by
  rw [h3 i hi]; exact List.length_filter_le _ _
theorem cnew_any (w : World) : Calls Try.prog 8 #[] w fun e w' => e = .returned (.pointer (some ⟨w.heap.size, 0, none⟩)) ∧ ∃ cs, ClkL w' w.heap.size 0 55 cs [] 0 [] ∧ cs.size = 9 ∧ Below w.heap.size w w' := by
  refine (new_any w).mono ?_
  rintro e w' ⟨rfl, rfl⟩
  exact ⟨rfl, _, ⟨_, Clk.new w, rfl, fun i hi => rfl, fun i hi => rfl, ⟨by omega, by simp, by simp⟩⟩, rfl, (Below.refl _ _).alloc (Nat.le_refl _) _⟩
theorem cnow_any (h : ClkL w b o T cs F now L) : Calls Try.prog 18 #[.pointer (some ⟨b, o, none⟩)] w fun e w' => e = .returned (.int .i64 now) ∧ w = w' := by
  obtain ⟨m, h, _⟩ := h
  exact now_any h
theorem clen_any (h : ClkL w b o T cs F now L) : Calls Try.prog 19 #[.pointer (some ⟨b, o, none⟩)] w fun e w' => e = .returned (.int .i64 L.length) ∧ Below w.heap.size w w' := by
  obtain ⟨m, h, _, h3, _, h5⟩ := h
  have C := len_any h (fun i hi => Nat.le_trans (row_le h3 i hi) h5.len)
  rw [tot_len h3 h5] at C
  exact C
theorem cput_form (h : ClkL w b o T cs F now L) (d : DueM) (hd : d.time < now ∨ 1000000 < d.time) : Calls Try.prog 9 #[.pointer (some ⟨b, o, none⟩), .agg #[.int .i64 d.time, .int .i64 d.id]] w fun e w' => e = .returned (.int .i64 10) ∧ Below w.heap.size w w' := by
  obtain ⟨m, h, _⟩ := h
  exact put_form h d hd
theorem cput_full (h : ClkL w b o T cs F now L) (hl : L.length = 64) (d : DueM) (hd : now ≤ d.time ∧ d.time ≤ 1000000) : Calls Try.prog 9 #[.pointer (some ⟨b, o, none⟩), .agg #[.int .i64 d.time, .int .i64 d.id]] w fun e w' => e = .returned (.int .i64 12) ∧ Below w.heap.size w w' := by
  obtain ⟨m, h, _, h3, _, h5⟩ := h
  exact put_full h (fun i hi => Nat.le_trans (row_le h3 i hi) h5.len) ((tot_len h3 h5).trans hl) d hd
def CPut (w : World) (b o : Nat) (T : TypeId) (cs : Array Value) (F : List Nat) (now : Int) (L : List DueM) (w' : World) : Prop := ∃ cs' F', ClkL w' b o T cs' F' now L ∧ Fr w b o 9 T cs F w' cs' F'
theorem cput_ok (h : ClkL w b o T cs F now L) (hl : L.length < 64) (d : DueM) (hd : now ≤ d.time ∧ d.time ≤ 1000000) (hid : I64 d.id) : Calls Try.prog 9 #[.pointer (some ⟨b, o, none⟩), .agg #[.int .i64 d.time, .int .i64 d.id]] w fun e w' => e = .returned (.int .i64 0) ∧ CPut w b o T cs F now (L ++ [d]) w' := by
  obtain ⟨m, h, rfl, h3, h4, h5⟩ := h
  obtain ⟨i, hi, hm⟩ := mod4_ex (Int.le_trans h5.n0.1 hd.1)
  have hrl := row_le h3
  have C := put_ok h (fun j hj => Nat.le_trans (hrl j hj) h5.len) (by rw [tot_len h3 h5]; exact hl) d ⟨h5.n0.1, hd⟩ hid hi hm (by
    rw [h4 i hi]
    exact Nat.lt_of_le_of_lt (dueN_le _ _) (by rw [← h3 i hi]; exact Nat.lt_of_le_of_lt (hrl i hi) hl)) (Nat.lt_of_le_of_lt (hrl i hi) hl)
  refine C.mono ?_
  rintro e w' ⟨rfl, m', cs', hc, hf, hr, hk, ho⟩
  refine ⟨rfl, cs', _, ⟨m', hc, rfl, fun j hj => ?_, fun j hj => ?_, ⟨h5.n0, fun x hx => ?_, by rw [List.length_append]; simp; omega⟩⟩, hf⟩
  · by_cases hji : j = i
    · subst hji
      rw [hr, splD_app, if_pos hm, h3 j hj]
    · rw [ho j hji, splD_app, if_neg (by rw [hm]; omega), List.append_nil, h3 j hj]
  · by_cases hji : j = i
    · subst hji
      rw [hk, splD_app, if_pos hm, h4 j hj]
      unfold dueN
      rw [List.countP_append]
      simp [List.countP_cons]
    · rw [ho j hji, splD_app, if_neg (by rw [hm]; omega), List.append_nil, h4 j hj]
  · rcases List.mem_append.1 hx with h1 | h1
    · exact h5.fit x h1
    · rw [List.mem_singleton.1 h1]; exact ⟨hid, hd⟩
/-- what Step tells, and leaves -/
structure CStepOk (w : World) (b o : Nat) (T : TypeId) (cs : Array Value) (F : List Nat) (now : Int) (L : List DueM) (w' : World) (cs' : Array Value) (F' : List Nat) (A : Option Addr) (c : Nat) : Prop where
  clk : ClkL w' b o T cs' F' (min (now + 1) 1000000) (notAt L now)
  fr : Fr w b o 9 T cs F w' cs' F'
  ids : Row w' .i64 A (idsAt L now)
  nil : A = none → (idsAt L now).length = 0 ∧ c = 0
  cap : (idsAt L now).length ≤ c ∧ c ≤ maxLen
  far : ∀ k ∈ fp A, w.heap.size ≤ k ∧ k < w'.heap.size ∧ k ∉ b :: F'
def CStep (w : World) (b o : Nat) (T : TypeId) (cs : Array Value) (F : List Nat) (now : Int) (L : List DueM) (e : Ending) (w' : World) : Prop :=
  ∃ A c cs' F', e = .returned (.slice A (idsAt L now).length c) ∧ CStepOk w b o T cs F now L w' cs' F' A c
theorem cstep_any (h : ClkL w b o T cs F now L) : Calls Try.prog 14 #[.pointer (some ⟨b, o, none⟩)] w (CStep w b o T cs F now L) := by
  obtain ⟨m, h, rfl, h3, h4, h5⟩ := h
  obtain ⟨i, hi, hm⟩ := mod4_ex h5.n0.1
  obtain ⟨i', hi', hm'⟩ := mod4_ex (t := now + 1) (by have := h5.n0.1; omega)
  have C := step_any h h5.n0 hi hi' hm hm' (fun j hj => Nat.le_trans (row_le h3 j hj) h5.len) (by rw [h4 i hi, h3 i hi]) (fun j hj hji => by rw [h4 j hj]; exact splD_none L (by rw [hm]; omega))
  refine C.mono ?_
  rintro e w' ⟨A, c, m', cs', rfl, hok⟩
  have e1 : idsAt (m i).rows now = idsAt L now := by rw [h3 i hi, splD_ids L hm]
  rw [e1] at hok ⊢
  have hr : ∀ j, j < 4 → (m' j).rows = splD (notAt L now) j := fun j hj => by
    rw [hok.rows j]
    by_cases hji : j = i
    · subst hji; rw [if_pos rfl, h3 j hj, splD_not]
    · rw [if_neg hji, h3 j hj, splD_notme L (by rw [hm]; omega)]
  refine ⟨A, c, cs', _, rfl, ⟨⟨m', hok.clk, rfl, hr, fun j hj => ?_, ⟨by have := h5.n0; omega, fun d hd => ?_, ?_⟩⟩, hok.fr, hok.ids_, hok.nil, hok.cap, fun k hk => by
    have h6 := hok.far k hk
    refine ⟨h6.1, h6.2.1, fun hh => ?_⟩
    rcases List.mem_cons.1 hh with rfl | hh
    · have := h.blk.lt; omega
    · exact h6.2.2 hh⟩⟩
  · rw [hok.ks j hj, hr j hj]
    by_cases hn : now < 1000000
    · rw [show min (now + 1) 1000000 = now + 1 by omega]
      by_cases hji : j = i'
      · rw [if_pos ⟨hji, hn⟩]
      · rw [if_neg (fun hh => hji hh.1)]
        exact (splD_none _ (by rw [hm']; omega)).symm
    · rw [if_neg (fun hh => hn hh.2), show min (now + 1) 1000000 = now by have := h5.n0; omega]
      refine Eq.symm ?_
      unfold dueN splD notAt
      rw [List.countP_filter, List.countP_filter, List.countP_eq_zero]
      intro d _
      by_cases hd : d.time = now <;> simp [hd]
  · have h1 := (List.mem_filter.1 hd)
    have h2 := h5.fit d h1.1
    have h3 : ¬ d.time = now := by simpa using h1.2
    exact ⟨h2.1, by omega, h2.2.2⟩
  · exact Nat.le_trans (List.length_filter_le _ _) h5.len
end
end Go.Proofs.Ytkjobhocgiefdaa
