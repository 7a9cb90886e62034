/- Whether a trace's jobs, its waits are right: as the code looks at them, and as the document says it. Plain numbers. -/
import Derived.Test.YtmchjmgifipfoaaLegSame
namespace Go.Proofs.Ytmchjmgifipfoaa
open Go.ChangeShapes Go.WideShapes Go.ChangeAt Go.RowKit
set_option linter.unusedVariables false

/-! ### jobs -/
def aheadJ (q : Int) (l : List DoneM) : Option DoneM := l.find? fun y => decide (y.task = q)
def nearJ (s : SetR) (x y : DoneM) : Bool := decide (x.rel < y.fin) || decide (x.rel - y.rel < (s.tasks.getD x.task.toNat default).per)
def jobAt (s : SetR) (tk : Int) (xs : List DoneM) (i : Nat) : Bool :=
  !jbBad s tk (xs.getD i default) && match aheadJ (xs.getD i default).task (xs.take i).reverse with
    | none => true
    | some y => !nearJ s (xs.getD i default) y
structure JbDesc (xs : List DoneM) (k : Nat) (st : List DoneM) : Prop where
  len : st.length = 6
  at_ : ∀ j : Nat, j < 6 → match aheadJ j (xs.take k).reverse with
    | none => (st.getD j default).fin = 0
    | some y => st.getD j default = y ∧ 0 < y.fin
theorem revD_snoc {xs : List DoneM} {k : Nat} (hk : k < xs.length) : (xs.take (k + 1)).reverse = xs.getD k default :: (xs.take k).reverse := by
  rw [take_snocD xs k hk, List.reverse_append]; rfl
theorem setD_get {l : List DoneM} {i j : Nat} {a : DoneM} (hj : j < l.length) : (l.set i a).getD j default = if i = j then a else l.getD j default := by
  simp only [List.getD_eq_getElem?_getD, List.getElem?_set]
  by_cases e : i = j
  · subst e; simp [hj]
  · simp [e]
theorem jobs_step {s : SetR} {tk : Int} {xs : List DoneM} {k : Nat} {st : List DoneM} (hg : Good s) (hk : k < xs.length) (hd : JbDesc xs k st) :
    (jobAt s tk xs k = false → jbNext s tk st (xs.getD k default) = none) ∧ (jobAt s tk xs k = true → ∃ st', jbNext s tk st (xs.getD k default) = some st' ∧ JbDesc xs (k + 1) st') := by
  obtain ⟨x, hx⟩ : ∃ x, xs.getD k default = x := ⟨_, rfl⟩
  unfold jobAt
  rw [hx]
  cases hb : jbBad s tk x with
  | true => exact ⟨fun _ => by unfold jbNext; rw [hb]; rfl, fun h => by cases h⟩
  | false =>
    have hb2 := hb
    unfold jbBad at hb2
    rw [Bool.or_eq_false_iff] at hb2
    have h1 := inB_true.1 (show inB x.task 0 ((s.tasks.length : Int) - 1) = true by simpa using hb2.1)
    have h2 := timedB_true.1 (show timedB tk x.rel x.fin = true by simpa using hb2.2)
    obtain ⟨q, hq⟩ : ∃ q : Nat, x.task = q := ⟨x.task.toNat, by omega⟩
    have h6 : q < 6 := by have := hg.ntasks.2; omega
    have hat := hd.at_ q h6
    have hnear : jbNear s st x = (decide (0 < (st.getD q default).fin) && nearJ s x (st.getD q default)) := by unfold jbNear nearJ; rw [hq]; rfl
    have hnext : ∀ b, jbNear s st x = b → jbNext s tk st x = if b then none else some (st.set q x) := fun b e => by unfold jbNext; rw [hb, e, Bool.false_or, hq]; rfl
    have hdesc : JbDesc xs (k + 1) (st.set q x) := by
      refine ⟨by simp [hd.len], fun j hj => ?_⟩
      rw [revD_snoc hk, hx]
      unfold aheadJ
      rw [List.find?_cons]
      by_cases e : j = q
      · subst e
        rw [decide_eq_true hq]
        dsimp only
        rw [setD_get (by rw [hd.len]; exact hj), if_pos rfl]
        exact ⟨rfl, by omega⟩
      · rw [decide_eq_false (show ¬ x.task = (j : Int) by omega)]
        dsimp only
        rw [setD_get (by rw [hd.len]; exact hj), if_neg (fun h => e h.symm)]
        exact hd.at_ j hj
    rw [hq]
    cases ha : aheadJ (q : Int) (xs.take k).reverse with
    | none =>
      rw [ha] at hat
      have hn : jbNear s st x = false := by rw [hnear, hat]; rfl
      refine ⟨(fun h => by cases h), fun _ => ⟨_, by rw [hnext _ hn]; rfl, hdesc⟩⟩
    | some y =>
      rw [ha] at hat
      obtain ⟨e, hy⟩ := hat
      have hn : jbNear s st x = nearJ s x y := by rw [hnear, e, decide_eq_true hy, Bool.true_and]
      cases hny : nearJ s x y with
      | true => exact ⟨fun _ => by rw [hnext _ hn, hny]; rfl, fun h => by simp [hny] at h⟩
      | false => exact ⟨fun h => by simp [hny] at h, fun _ => ⟨_, by rw [hnext _ hn, hny]; rfl, hdesc⟩⟩
def jobsQ (s : SetR) (t : TraceR) : Bool := (List.range t.jobs.length).all (jobAt s t.ticks t.jobs)
theorem jobs_desc {s : SetR} {tk : Int} {xs : List DoneM} (hg : Good s) : ∀ k, k ≤ xs.length → (∀ i, i < k → jobAt s tk xs i = true) → ∃ st, foldO (jbNext s tk) (xs.take k) jb0 = some st ∧ JbDesc xs k st := by
  intro k
  induction k with
  | zero =>
    refine fun _ _ => ⟨jb0, rfl, rfl, fun j hj => ?_⟩
    show (jb0.getD j default).fin = 0
    unfold jb0
    rw [List.getD_eq_getElem?_getD, List.getElem?_replicate, if_pos hj]
    rfl
  | succ k ih =>
    intro hk h
    obtain ⟨st, e, hd⟩ := ih (by omega) (fun i hi => h i (by omega))
    obtain ⟨st', e', hd'⟩ := (jobs_step (tk := tk) hg (by omega) hd).2 (h k (by omega))
    exact ⟨st', by rw [foldO_snoc (by omega) e]; exact e', hd'⟩
theorem jobs_same {s : SetR} {t : TraceR} (hg : Good s) : jobsB s t = jobsQ s t := by
  unfold jobsB jobsQ
  rcases first_fail (jobAt s t.ticks t.jobs) t.jobs.length with h | ⟨k, hk, hf, hmin⟩
  · obtain ⟨st, e, _⟩ := jobs_desc (tk := t.ticks) hg t.jobs.length (Nat.le_refl _) h
    rw [List.take_length] at e
    rw [e, List.all_eq_true.2 (fun i hi => h i (List.mem_range.1 hi))]
    rfl
  · obtain ⟨st, e, hd⟩ := jobs_desc (tk := t.ticks) hg k (by omega) hmin
    rw [foldO_stop hk e ((jobs_step hg hk hd).1 hf)]
    have : (List.range t.jobs.length).all (jobAt s t.ticks t.jobs) = false := by
      rw [List.all_eq_false]
      exact ⟨k, List.mem_range.2 hk, by simp [hf]⟩
    rw [this]
    rfl

/-! ### waits -/
def clashW (s : SetR) (x y : WaitM) : Bool := decide (resI s y = resI s x) && (decide (x.got < y.fin) && decide (y.got < x.fin))
def waitAt (s : SetR) (tk : Int) (xs : List WaitM) (i : Nat) : Bool := !wtBad s tk (xs.getD i default) && (xs.take i).all fun y => !clashW s (xs.getD i default) y
def overW (s : SetR) (r z : Int) (y : WaitM) : Bool := decide (resI s y = r) && (decide (y.got ≤ z) && decide (z < y.fin))
structure WtDesc (s : SetR) (tk : Int) (xs : List WaitM) (k : Nat) (st : List (List Bool)) : Prop where
  len : st.length = s.homes.length
  lens : ∀ r, r < s.homes.length → (st.getD r []).length = tk.toNat
  at_ : ∀ r, r < s.homes.length → ∀ z, z < tk.toNat → (st.getD r []).getD z false = (xs.take k).any (overW s (r : Int) (z : Int))
  ok : ∀ y ∈ xs.take k, 0 ≤ y.got ∧ y.got < y.fin ∧ y.fin ≤ tk ∧ resL s y = true
theorem res_in {s : SetR} {y : WaitM} (hg : Good s) (h : resL s y = true) : 0 ≤ resI s y ∧ resI s y < s.homes.length := by
  unfold resL at h
  rw [Bool.and_eq_true] at h
  obtain ⟨hi, hk⟩ := h
  have e := (res_yes hi).1
  have hi2 := of_decide_eq_true hi
  have hk2 := of_decide_eq_true hk
  have h1 : s.tasks.getD y.task.toNat default ∈ s.tasks := getD_mem (by omega)
  have h2 : prtAt s y ∈ (s.tasks.getD y.task.toNat default).parts := getD_mem (by omega)
  rw [e]
  exact ((hg.parts _ h1).good _ h2).2.2.2 hk2
theorem setL_get {l : List (List Bool)} {i j : Nat} {a : List Bool} (hj : j < l.length) : (l.set i a).getD j [] = if i = j then a else l.getD j [] := by
  simp only [List.getD_eq_getElem?_getD, List.getElem?_set]
  by_cases e : i = j
  · subst e; simp [hj]
  · simp [e]
theorem waits_step {s : SetR} {tk : Int} {xs : List WaitM} {k : Nat} {st : List (List Bool)} (hg : Good s) (hk : k < xs.length) (hd : WtDesc s tk xs k st) :
    (waitAt s tk xs k = false → wtNext s tk st (xs.getD k default) = none) ∧ (waitAt s tk xs k = true → ∃ st', wtNext s tk st (xs.getD k default) = some st' ∧ WtDesc s tk xs (k + 1) st') := by
  obtain ⟨x, hx⟩ : ∃ x, xs.getD k default = x := ⟨_, rfl⟩
  unfold waitAt
  rw [hx]
  cases hb : wtBad s tk x with
  | true => exact ⟨fun _ => by unfold wtNext; rw [hb]; rfl, fun h => by cases h⟩
  | false =>
    have hb2 := hb
    unfold wtBad at hb2
    rw [Bool.or_eq_false_iff, Bool.or_eq_false_iff] at hb2
    have hl : resL s x = true := by simpa using hb2.1.1
    have h1 := inB_true.1 (show inB x.ask 0 x.got = true by simpa using hb2.1.2)
    have h2 := timedB_true.1 (show timedB tk x.got x.fin = true by simpa using hb2.2)
    have hr := res_in hg hl
    obtain ⟨r, hre⟩ : ∃ r : Nat, resI s x = r := ⟨(resI s x).toNat, by omega⟩
    have hrn : r < s.homes.length := by omega
    obtain ⟨row, hrow⟩ : ∃ row, st.getD r [] = row := ⟨_, rfl⟩
    have hlen := hd.lens r hrn
    have hat := hd.at_ r hrn
    rw [hrow] at hlen hat
    have hfree : freeR row x.got.toNat (x.fin - x.got).toNat = (xs.take k).all fun y => !clashW s x y := by
      rw [Bool.eq_iff_iff, freeR_iff, List.all_eq_true]
      constructor
      · intro h y hy
        have hyo := hd.ok y hy
        cases hc : clashW s x y with
        | false => rfl
        | true =>
          exfalso
          unfold clashW at hc
          simp only [Bool.and_eq_true, decide_eq_true_iff] at hc
          obtain ⟨c1, c2, c3⟩ := hc
          have hz := h (max x.got y.got - x.got).toNat (by omega)
          rw [hat _ (by omega)] at hz
          have := List.any_eq_false.1 hz y hy
          apply this
          unfold overW
          simp only [Bool.and_eq_true, decide_eq_true_iff]
          refine ⟨by omega, by omega, by omega⟩
      · intro h i hi
        rw [hat _ (by omega), List.any_eq_false]
        intro y hy hc
        have hn := h y hy
        unfold overW at hc
        simp only [Bool.and_eq_true, decide_eq_true_iff] at hc
        obtain ⟨c1, c2, c3⟩ := hc
        have : clashW s x y = true := by
          unfold clashW
          simp only [Bool.and_eq_true, decide_eq_true_iff]
          exact ⟨by omega, by omega, by omega⟩
        rw [this] at hn
        cases hn
    have hnext : wtNext s tk st x = if freeR row x.got.toNat (x.fin - x.got).toNat then some (st.set r (setR row x.got.toNat (x.fin - x.got).toNat)) else none := by
      unfold wtNext
      rw [hb, hre]
      simp only [Int.toNat_natCast]
      rw [hrow]
      rfl
    rw [hnext, hfree]
    simp only [Bool.not_false, Bool.true_and]
    refine ⟨fun h => by rw [h]; rfl, fun h => ⟨_, by rw [h]; rfl, ?_⟩⟩
    refine ⟨by simp [hd.len], fun q hq => ?_, fun q hq z hz => ?_, fun y hy => ?_⟩
    · rw [setL_get (by rw [hd.len]; exact hq)]
      by_cases e : r = q
      · rw [if_pos e, setR_len]; exact hlen
      · rw [if_neg e]; exact hd.lens q hq
    · rw [setL_get (by rw [hd.len]; exact hq), take_snocD xs k hk, List.any_append, hx]
      by_cases e : r = q
      · subst e
        rw [if_pos rfl, setR_at _ _ _ _ (by omega), hat z hz]
        congr 1
        simp only [List.any_cons, List.any_nil, Bool.or_false]
        unfold overW
        rw [decide_eq_true hre, Bool.true_and, ← Bool.decide_and, decide_eq_decide]
        omega
      · rw [if_neg e, hd.at_ q hq z hz]
        simp only [List.any_cons, List.any_nil, Bool.or_false]
        unfold overW
        rw [decide_eq_false (show ¬ resI s x = (q : Int) by omega)]
        simp
    · rw [take_snocD xs k hk, hx] at hy
      rcases List.mem_append.1 hy with hy | hy
      · exact hd.ok y hy
      · simp at hy; subst hy; exact ⟨by omega, h2.2.1, h2.2.2, hl⟩
def waitsQ (s : SetR) (t : TraceR) : Bool := (List.range t.waits.length).all (waitAt s t.ticks t.waits)
theorem waits_desc {s : SetR} {tk : Int} {xs : List WaitM} (hg : Good s) : ∀ k, k ≤ xs.length → (∀ i, i < k → waitAt s tk xs i = true) → ∃ st, foldO (wtNext s tk) (xs.take k) (wt0 s tk) = some st ∧ WtDesc s tk xs k st := by
  intro k
  induction k with
  | zero =>
    refine fun _ _ => ⟨wt0 s tk, rfl, by unfold wt0; simp, fun r hr => ?_, fun r hr z hz => ?_, fun y hy => by simp at hy⟩
    · unfold wt0
      rw [List.getD_eq_getElem?_getD, List.getElem?_replicate, if_pos hr]; simp
    · have e : (wt0 s tk).getD r [] = List.replicate tk.toNat false := by
        unfold wt0
        rw [List.getD_eq_getElem?_getD, List.getElem?_replicate, if_pos hr]; rfl
      rw [e, rep_get]
      rfl
  | succ k ih =>
    intro hk h
    obtain ⟨st, e, hd⟩ := ih (by omega) (fun i hi => h i (by omega))
    obtain ⟨st', e', hd'⟩ := (waits_step (tk := tk) hg (by omega) hd).2 (h k (by omega))
    exact ⟨st', by rw [foldO_snoc (by omega) e]; exact e', hd'⟩
theorem waits_same {s : SetR} {t : TraceR} (hg : Good s) : waitsB s t = waitsQ s t := by
  unfold waitsB waitsQ
  rcases first_fail (waitAt s t.ticks t.waits) t.waits.length with h | ⟨k, hk, hf, hmin⟩
  · obtain ⟨st, e, _⟩ := waits_desc (tk := t.ticks) hg t.waits.length (Nat.le_refl _) h
    rw [List.take_length] at e
    rw [e, List.all_eq_true.2 (fun i hi => h i (List.mem_range.1 hi))]
    rfl
  · obtain ⟨st, e, hd⟩ := waits_desc (tk := t.ticks) hg k (by omega) hmin
    rw [foldO_stop hk e ((waits_step hg hk hd).1 hf)]
    have : (List.range t.waits.length).all (waitAt s t.ticks t.waits) = false := by
      rw [List.all_eq_false]
      exact ⟨k, List.mem_range.2 hk, by simp [hf]⟩
    rw [this]
    rfl
end Go.Proofs.Ytmchjmgifipfoaa
