/- Whether a trace is right: as the code looks at it, and as the document says it. Plain numbers. -/
import Derived.Test.YtmchjmgifipfoaaLegNums
namespace Go.Proofs.Ytmchjmgifipfoaa
open Go.ChangeShapes Go.WideShapes Go.ChangeAt Go.RowKit
set_option linter.unusedVariables false

theorem first_fail (f : Nat → Bool) (n : Nat) : (∀ i, i < n → f i = true) ∨ ∃ k, k < n ∧ f k = false ∧ ∀ i, i < k → f i = true := by
  induction n with
  | zero => exact .inl fun i hi => by omega
  | succ n ih =>
    rcases ih with h | ⟨k, hk, hf, hm⟩
    · cases hn : f n with
      | false => exact .inr ⟨n, by omega, hn, h⟩
      | true =>
        refine .inl fun i hi => ?_
        by_cases e : i = n
        · subst e; exact hn
        · exact h i (by omega)
    · exact .inr ⟨k, by omega, hf, hm⟩
theorem foldO_none {σ α : Type} {f : σ → α → Option σ} (a b : List α) (st : σ) (h : foldO f a st = none) : foldO f (a ++ b) st = none := by rw [foldO_append, h]; rfl
/-! ### slots -/
/-- how many of those of x's tick ahead of it (the last one first) are at its cluster; none: one is of its task, or of a later cluster -/
def scanS (x : SlotM) : List SlotM → Option Nat
  | [] => some 0
  | y :: ys => if y.time = x.time then (if y.task = x.task ∨ x.cl < y.cl then none else (scanS x ys).map (· + if y.cl = x.cl then 1 else 0)) else some 0
def runOf (z : Int) (l : List SlotM) : List SlotM := l.takeWhile fun y => decide (y.time = z)
theorem scanS_is (x : SlotM) (l : List SlotM) : scanS x l = if (runOf x.time l).any (fun y => decide (y.task = x.task) || decide (x.cl < y.cl)) then none else some ((runOf x.time l).countP fun y => decide (y.cl = x.cl)) := by
  induction l with
  | nil => rfl
  | cons y l ih =>
    unfold scanS runOf
    by_cases h : y.time = x.time
    · rw [if_pos h, List.takeWhile_cons, decide_eq_true h]
      simp only [if_true, List.any_cons, List.countP_cons]
      by_cases g : y.task = x.task ∨ x.cl < y.cl
      · rw [if_pos g, if_pos]
        rw [show (decide (y.task = x.task) || decide (x.cl < y.cl)) = true by simpa using g]
        rfl
      · rw [if_neg g, ih]
        have g2 : (decide (y.task = x.task) || decide (x.cl < y.cl)) = false := by simpa using g
        rw [g2, Bool.false_or]
        unfold runOf
        by_cases k : ((l.takeWhile fun y => decide (y.time = x.time)).any fun y => decide (y.task = x.task) || decide (x.cl < y.cl)) = true
        · rw [if_pos k, if_pos k]; rfl
        · rw [if_neg k, if_neg k]
          simp
    · rw [if_neg h, List.takeWhile_cons, decide_eq_false h]
      rfl
def slotAt (s : SetR) (tk : Int) (xs : List SlotM) (i : Nat) : Bool :=
  placedB s tk (xs.getD i default) && match scanS (xs.getD i default) (xs.take i).reverse with
    | none => false
    | some c => decide ((c : Int) + 1 ≤ s.cores.getD (xs.getD i default).cl.toNat 0) && (decide (i = 0) || decide ((xs.getD (i - 1) default).time ≤ (xs.getD i default).time))
/-- what the state tells of the slots so far -/
structure SlDesc (s : SetR) (xs : List SlotM) (k : Nat) (st : SlSt) : Prop where
  zero : k = 0 → st = sl0
  last : 0 < k → st.last = xs.getD (k - 1) default
  time : -1 ≤ st.last.time
  cl : ∀ y ∈ runOf st.last.time (xs.take k).reverse, y.cl ≤ st.last.cl
  len : st.ran.length = 6
  ran : ∀ j, j < 6 → st.ran.getD j false = (runOf st.last.time (xs.take k).reverse).any fun y => decide (y.task = j)
  used : 0 < k → st.used = ((runOf st.last.time (xs.take k).reverse).countP fun y => decide (y.cl = st.last.cl) : Nat)
  most : 0 < k → st.used ≤ s.cores.getD st.last.cl.toNat 0
theorem rev_snoc {xs : List SlotM} {k : Nat} (hk : k < xs.length) : (xs.take (k + 1)).reverse = xs.getD k default :: (xs.take k).reverse := by
  rw [take_snocD xs k hk, List.reverse_append]; rfl
theorem rev_head {xs : List SlotM} {k : Nat} (hk : k ≤ xs.length) (h0 : 0 < k) : (xs.take k).reverse = xs.getD (k - 1) default :: (xs.take (k - 1)).reverse := by
  have := rev_snoc (xs := xs) (k := k - 1) (by omega)
  rwa [show k - 1 + 1 = k by omega] at this
theorem set_getB {l : List Bool} {i j : Nat} (hj : j < l.length) : (l.set i true).getD j false = (l.getD j false || decide (i = j)) := by
  simp only [List.getD_eq_getElem?_getD, List.getElem?_set]
  by_cases e : i = j
  · subst e; simp [hj]
  · simp [e]
theorem rep_get (n m : Nat) : (List.replicate m false).getD n false = false := by rw [List.getD_eq_getElem?_getD, List.getElem?_replicate]; split <;> rfl
theorem placed_parts {s : SetR} {tk : Int} {x : SlotM} (h : placedB s tk x = true) : (0 ≤ x.time ∧ x.time ≤ tk - 1) ∧ (0 ≤ x.cl ∧ x.cl ≤ (s.cores.length : Int) - 1) ∧ (0 ≤ x.task ∧ x.task ≤ (s.tasks.length : Int) - 1) := by
  unfold placedB at h
  simp only [Bool.and_eq_true] at h
  exact ⟨inB_true.1 h.1.1.1, inB_true.1 h.1.1.2, inB_true.1 h.1.2⟩
theorem slots_step {s : SetR} {tk : Int} {xs : List SlotM} {k : Nat} {st : SlSt} (hg : Good s) (hk : k < xs.length) (hd : SlDesc s xs k st) :
    (slotAt s tk xs k = false → slNext s tk st (xs.getD k default) = none) ∧ (slotAt s tk xs k = true → ∃ st', slNext s tk st (xs.getD k default) = some st' ∧ SlDesc s xs (k + 1) st') := by
  obtain ⟨x, hx⟩ : ∃ x, xs.getD k default = x := ⟨_, rfl⟩
  unfold slotAt
  rw [hx]
  by_cases hp : placedB s tk x = true
  · obtain ⟨hpt, hpc, hpk⟩ := placed_parts hp
    have hcore : 1 ≤ s.cores.getD x.cl.toNat 0 := (hg.cores _ (by
      have : x.cl.toNat < s.cores.length := by omega
      simp [List.getD, this])).1
    have h6 : x.task.toNat < 6 := by have := hg.ntasks.2; omega
    rw [hp, Bool.true_and, scanS_is]
    have hb1 : ∀ (a : Prop) [Decidable a], slBad s tk st x = (decide (x.time < st.last.time) || (decide (x.time = st.last.time) && decide (x.cl < st.last.cl))) := fun _ _ => by unfold slBad; rw [hp]; rfl
    have hbad := hb1 True
    clear hb1
    by_cases h1 : st.last.time < x.time
    · -- a later tick
      have hrun : runOf x.time (xs.take k).reverse = [] := by
        by_cases h0 : k = 0
        · subst h0; rfl
        · rw [rev_head (by omega) (by omega), ← hd.last (by omega)]
          unfold runOf
          rw [List.takeWhile_cons, decide_eq_false (by omega)]
          rfl
      have hu : slUsed st x = 0 := if_pos (.inl h1)
      have hr : slRan st x = List.replicate 6 false := if_pos h1
      have hz : (List.replicate 6 false).getD x.task.toNat false = false := rep_get _ _
      have hfull : slFull s st x = false := by
        unfold slFull
        rw [hu, hr, hz, Bool.or_false]
        exact beq_eq_false_iff_ne.2 (by omega)
      have hb : slBad s tk st x = false := by rw [hbad, decide_eq_false (by omega), decide_eq_false (show ¬ x.time = st.last.time by omega)]; rfl
      rw [hrun]
      have horder : (decide (k = 0) || decide ((xs.getD (k - 1) default).time ≤ x.time)) = true := by
        by_cases h0 : k = 0
        · simp [h0]
        · rw [← hd.last (by omega), decide_eq_true (show st.last.time ≤ x.time by omega), Bool.or_true]
      have hrunx : runOf x.time (xs.take (k + 1)).reverse = [x] := by
        rw [rev_snoc hk, hx]
        unfold runOf at hrun ⊢
        rw [List.takeWhile_cons, decide_eq_true rfl, if_pos rfl, hrun]
      refine ⟨fun h => ?_, fun _ => ⟨_, slNext_ok hb hfull, ?_⟩⟩
      · rw [List.any_nil, if_neg (by decide)] at h
        dsimp only at h
        rw [horder, Bool.and_true, List.countP_nil] at h
        have := of_decide_eq_false h
        omega
      · rw [hu, hr]
        refine ⟨fun e => by omega, fun _ => by simp only [Nat.add_sub_cancel]; exact hx.symm, by dsimp only; omega, ?_, by simp, ?_, ?_, ?_⟩
        · dsimp only; rw [hrunx]; intro y hy; simp at hy; rw [hy]; exact Int.le_refl _
        · intro j hj
          dsimp only
          rw [hrunx, set_getB (by simpa using hj)]
          simp only [List.any_cons, List.any_nil, Bool.or_false]
          have : (List.replicate 6 false).getD j false = false := rep_get _ _
          rw [this, Bool.false_or, decide_eq_decide]
          omega
        · intro _; dsimp only; rw [hrunx]; simp
        · intro _; dsimp only; omega
    · have h0 : 0 < k := by
        by_cases h0 : k = 0
        · have := hd.zero h0
          rw [this] at h1
          exact absurd (show (-1 : Int) < x.time by omega) h1
        · omega
      by_cases h2 : x.time < st.last.time
      · -- out of order
        have hb : slBad s tk st x = true := by rw [hbad, decide_eq_true h2]; rfl
        refine ⟨fun _ => slNext_bad hb, fun h => ?_⟩
        exfalso
        have hrun : runOf x.time (xs.take k).reverse = [] := by
          rw [rev_head (by omega) h0, ← hd.last h0]
          unfold runOf
          rw [List.takeWhile_cons, decide_eq_false (by omega)]
          rfl
        rw [hrun, List.any_nil, if_neg (by decide)] at h
        dsimp only at h
        rw [← hd.last h0, decide_eq_false (show ¬ st.last.time ≤ x.time by omega), decide_eq_false (show ¬ k = 0 by omega)] at h
        simp at h
      · have he : st.last.time = x.time := by omega
        obtain ⟨R, hR⟩ : ∃ R, runOf st.last.time (xs.take k).reverse = R := ⟨_, rfl⟩
        have hRx : runOf x.time (xs.take k).reverse = R := by rw [← he]; exact hR
        have hlast : st.last ∈ R := by
          rw [← hR, rev_head (by omega) h0, ← hd.last h0]
          unfold runOf
          rw [List.takeWhile_cons, decide_eq_true rfl, if_pos rfl]
          exact List.mem_cons_self ..
        have hcl := hd.cl
        have hran := hd.ran
        have hused := hd.used h0
        have hmost := hd.most h0
        rw [hR] at hcl hran hused
        have hrunx : runOf x.time (xs.take (k + 1)).reverse = x :: R := by
          rw [rev_snoc hk, hx]
          unfold runOf at hRx ⊢
          rw [List.takeWhile_cons, decide_eq_true rfl, if_pos rfl, hRx]
        have hslr : slRan st x = st.ran := if_neg h1
        rw [hRx]
        have horder : (decide (k = 0) || decide ((xs.getD (k - 1) default).time ≤ x.time)) = true := by
          rw [← hd.last h0, decide_eq_true (show st.last.time ≤ x.time by omega), Bool.or_true]
        simp only [horder, Bool.and_true]
        by_cases h3 : x.cl < st.last.cl
        · have hb : slBad s tk st x = true := by rw [hbad, decide_eq_true he.symm, decide_eq_true h3]; simp
          refine ⟨fun _ => slNext_bad hb, fun h => ?_⟩
          exfalso
          rw [if_pos (List.any_eq_true.2 ⟨st.last, hlast, by rw [decide_eq_true h3]; simp⟩)] at h
          exact absurd h (by simp)
        · have hb : slBad s tk st x = false := by rw [hbad, decide_eq_false h2, decide_eq_false h3]; simp
          by_cases h4 : st.ran.getD x.task.toNat false = true
          · have hfull : slFull s st x = true := by unfold slFull; rw [hslr, h4]; simp
            refine ⟨fun _ => slNext_full hfull, fun h => ?_⟩
            exfalso
            rw [hran _ h6] at h4
            obtain ⟨y, hy, hyt⟩ := List.any_eq_true.1 h4
            rw [if_pos (List.any_eq_true.2 ⟨y, hy, by rw [decide_eq_true (show y.task = x.task by have := of_decide_eq_true hyt; omega)]; rfl⟩)] at h
            exact absurd h (by simp)
          · have h4 : st.ran.getD x.task.toNat false = false := by simpa using h4
            have hno : ¬ (R.any fun y => decide (y.task = x.task) || decide (x.cl < y.cl)) = true := by
              intro h
              obtain ⟨y, hy, hyt⟩ := List.any_eq_true.1 h
              rw [Bool.or_eq_true] at hyt
              rcases hyt with hyt | hyt
              · have hyt := of_decide_eq_true hyt
                rw [hran _ h6] at h4
                have := List.any_eq_false.1 h4 y hy
                exact this (decide_eq_true (by omega))
              · have := of_decide_eq_true hyt
                have := hcl y hy
                omega
            rw [if_neg hno]
            -- how many are at x's cluster
            have hcnt : (R.countP (fun y => decide (y.cl = x.cl)) : Nat) = slUsed st x := by
              unfold slUsed
              by_cases h5 : st.last.cl < x.cl
              · rw [if_pos (.inr h5)]
                have : R.countP (fun y => decide (y.cl = x.cl)) = 0 := by
                  rw [List.countP_eq_zero]
                  intro y hy
                  have := hcl y hy
                  simp; omega
                rw [this]; rfl
              · rw [if_neg (fun h => h.elim h1 h5)]
                have hc : x.cl = st.last.cl := by omega
                rw [hused, hc]
            have hu0 : 0 ≤ slUsed st x := by rw [← hcnt]; omega
            have hum : slUsed st x ≤ s.cores.getD x.cl.toNat 0 := by
              unfold slUsed
              by_cases h5 : st.last.cl < x.cl
              · rw [if_pos (.inr h5)]; omega
              · rw [if_neg (fun h => h.elim h1 h5)]
                have hc : x.cl = st.last.cl := by omega
                rw [hc]; exact hmost
            have hfi : slFull s st x = (slUsed st x == s.cores.getD x.cl.toNat 0) := by unfold slFull; rw [hslr, h4, Bool.or_false]
            dsimp only
            rw [hcnt]
            refine ⟨fun h => slNext_full ?_, fun h => ⟨_, slNext_ok hb ?_, ?_⟩⟩
            · have := of_decide_eq_false h
              rw [hfi]
              exact beq_iff_eq.2 (by omega)
            · have := of_decide_eq_true h
              rw [hfi]
              exact beq_eq_false_iff_ne.2 (by omega)
            · have hle := of_decide_eq_true h
              rw [hslr]
              refine ⟨fun e => by omega, fun _ => by simp only [Nat.add_sub_cancel]; exact hx.symm, by dsimp only; omega, ?_, by simp [hd.len], ?_, ?_, ?_⟩
              · dsimp only; rw [hrunx]; intro y hy
                rcases List.mem_cons.1 hy with rfl | hy
                · exact Int.le_refl _
                · have := hcl y hy; omega
              · intro j hj
                dsimp only
                rw [hrunx, set_getB (by rw [hd.len]; exact hj), hran j hj, List.any_cons, Bool.or_comm]
                congr 1
                rw [decide_eq_decide]
                omega
              · intro _
                dsimp only
                rw [hrunx, List.countP_cons, decide_eq_true rfl, if_pos rfl]
                omega
              · intro _; dsimp only; exact hle
  · have hp : placedB s tk x = false := by simpa using hp
    refine ⟨fun _ => slNext_bad (by unfold slBad; rw [hp]; rfl), fun h => ?_⟩
    rw [hp] at h; cases h
def slotsQ (s : SetR) (t : TraceR) : Bool := (List.range t.slots.length).all (slotAt s t.ticks t.slots)
theorem slDesc0 (s : SetR) (xs : List SlotM) : SlDesc s xs 0 sl0 := ⟨fun _ => rfl, fun h => by omega, by decide, fun y hy => by simp [runOf] at hy, rfl, fun j hj => by
  simp only [List.take_zero, List.reverse_nil, runOf, List.takeWhile_nil, List.any_nil]
  exact rep_get _ _, fun h => by omega, fun h => by omega⟩
theorem slots_desc {s : SetR} {tk : Int} {xs : List SlotM} (hg : Good s) : ∀ k, k ≤ xs.length → (∀ i, i < k → slotAt s tk xs i = true) → ∃ st, foldO (slNext s tk) (xs.take k) sl0 = some st ∧ SlDesc s xs k st := by
  intro k
  induction k with
  | zero => exact fun _ _ => ⟨sl0, rfl, slDesc0 s xs⟩
  | succ k ih =>
    intro hk h
    obtain ⟨st, e, hd⟩ := ih (by omega) (fun i hi => h i (by omega))
    obtain ⟨st', e', hd'⟩ := (slots_step (tk := tk) hg (by omega) hd).2 (h k (by omega))
    exact ⟨st', by rw [foldO_snoc (by omega) e]; exact e', hd'⟩
theorem slots_same {s : SetR} {t : TraceR} (hg : Good s) : slotsB s t = slotsQ s t := by
  unfold slotsB slotsQ
  rcases first_fail (slotAt s t.ticks t.slots) t.slots.length with h | ⟨k, hk, hf, hmin⟩
  · obtain ⟨st, e, _⟩ := slots_desc (tk := t.ticks) hg t.slots.length (Nat.le_refl _) h
    rw [List.take_length] at e
    rw [e, List.all_eq_true.2 (fun i hi => h i (List.mem_range.1 hi))]
    rfl
  · skip
    obtain ⟨st, e, hd⟩ := slots_desc (tk := t.ticks) hg k (by omega) hmin
    rw [foldO_stop hk e ((slots_step hg hk hd).1 hf)]
    have : (List.range t.slots.length).all (slotAt s t.ticks t.slots) = false := by
      rw [List.all_eq_false]
      exact ⟨k, List.mem_range.2 hk, by simp [hf]⟩
    rw [this]
    rfl
end Go.Proofs.Ytmchjmgifipfoaa
