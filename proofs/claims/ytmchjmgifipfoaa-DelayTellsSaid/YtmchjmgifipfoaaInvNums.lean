/- The ticks in which a job was blocked: by moments, as the document counts them. Plain numbers. -/
import Derived.Test.YtmchjmgifipfoaaDelay5
namespace Go.Proofs.Ytmchjmgifipfoaa
open Go.ChangeShapes Go.WideShapes Go.ChangeAt Go.RowKit
set_option linter.unusedVariables false

/-- the sum of the first n holds -/
def hsum (ms : List MomM) : Nat → Int
  | 0 => 0
  | n + 1 => hsum ms n + (ms.getD n default).holds
def blk (ms : List MomM) (n : Nat) : Bool := !(ms.getD n default).ran && (!decide (0 < hsum ms (n + 1)) && (ms.getD n default).lower)
def blkN (ms : List MomM) : Nat → Nat
  | 0 => 0
  | n + 1 => blkN ms n + if blk ms n then 1 else 0
theorem invG_is (ms : List MomM) (n : Nat) (hn : n ≤ ms.length) : invG (ms.take n) = (hsum ms n, blkN ms n) := by
  induction n with
  | zero => simp [invG, hsum, blkN]
  | succ n ih =>
    rw [invG_snoc ms (by omega), ih (by omega)]
    have e : hsum ms n + (ms.getD n default).holds = hsum ms (n + 1) := rfl
    show ((hsum ms n + (ms.getD n default).holds, if (ms.getD n default).ran = true ∨ 0 < hsum ms n + (ms.getD n default).holds ∨ (ms.getD n default).lower = false then blkN ms n else blkN ms n + 1) : Int × Nat) = (hsum ms (n + 1), blkN ms n + if blk ms n then 1 else 0)
    rw [e]
    unfold blk
    generalize hsum ms (n + 1) = H
    generalize (ms.getD n default).ran = R
    generalize (ms.getD n default).lower = L
    congr 1
    by_cases h2 : 0 < H
    · rw [if_pos (.inr (.inl h2)), decide_eq_true h2]; simp
    · rw [decide_eq_false h2]
      cases R <;> cases L <;> simp [h2]
def ranAt (t : TraceR) (d : DoneM) (z : Int) : Bool := t.slots.any fun x => decide (x.time = z) && (x.task == d.task)
def lowAt (s : SetR) (t : TraceR) (d : DoneM) (z : Int) : Bool := t.slots.any fun x => decide (x.time = z) && lowB s x d.task.toNat
def holdsAt (d : DoneM) (z : Int) (x : WaitM) : Bool := decide (x.task = d.task) && (decide (x.got ≤ z) && decide (z < x.fin))
def holdAt (t : TraceR) (d : DoneM) (z : Int) : Bool := t.waits.any (holdsAt d z)
theorem set_at {ms : List MomM} {i j : Nat} {a : MomM} (hj : j < ms.length) : (ms.set i a).getD j default = if i = j then a else ms.getD j default := by
  simp only [List.getD_eq_getElem?_getD, List.getElem?_set]
  by_cases e : i = j
  · subst e; simp [hj]
  · simp [e]
theorem slotStep_at {s : SetR} {d : DoneM} {ms : List MomM} {x : SlotM} {i : Nat} (hi : i < ms.length) (hl : ms.length = (toD d - fromD d).toNat) :
    ((slotStep s d ms x).getD i default).ran = ((ms.getD i default).ran || (decide (x.time = fromD d + i) && (x.task == d.task))) ∧
    ((slotStep s d ms x).getD i default).lower = ((ms.getD i default).lower || (decide (x.time = fromD d + i) && lowB s x d.task.toNat)) ∧
    ((slotStep s d ms x).getD i default).holds = (ms.getD i default).holds := by
  unfold slotStep
  by_cases h : x.time < fromD d ∨ toD d ≤ x.time
  · rw [if_pos h, decide_eq_false (by omega)]; simp
  · rw [if_neg h, set_at hi]
    by_cases e : (x.time - fromD d).toNat = i
    · rw [if_pos e, e, decide_eq_true (by omega)]; simp
    · rw [if_neg e, decide_eq_false (by omega)]; simp
theorem slots_at {s : SetR} {d : DoneM} (xs : List SlotM) {ms : List MomM} {i : Nat} (hi : i < ms.length) (hl : ms.length = (toD d - fromD d).toNat) :
    ((xs.foldl (slotStep s d) ms).getD i default).ran = ((ms.getD i default).ran || xs.any fun x => decide (x.time = fromD d + i) && (x.task == d.task)) ∧
    ((xs.foldl (slotStep s d) ms).getD i default).lower = ((ms.getD i default).lower || xs.any fun x => decide (x.time = fromD d + i) && lowB s x d.task.toNat) ∧
    ((xs.foldl (slotStep s d) ms).getD i default).holds = (ms.getD i default).holds := by
  induction xs generalizing ms with
  | nil => simp
  | cons a l ih =>
    rw [List.foldl_cons]
    obtain ⟨h1, h2, h3⟩ := ih (ms := slotStep s d ms a) (by rw [slotStep_len]; exact hi) (by rw [slotStep_len]; exact hl)
    obtain ⟨g1, g2, g3⟩ := slotStep_at (s := s) (x := a) hi hl
    refine ⟨by rw [h1, g1, List.any_cons, Bool.or_assoc], by rw [h2, g2, List.any_cons, Bool.or_assoc], by rw [h3, g3]⟩
theorem addH_at {ms : List MomM} {i j : Nat} {z : Int} (hj : j < ms.length) : ((addH ms i z).getD j default).ran = (ms.getD j default).ran ∧ ((addH ms i z).getD j default).lower = (ms.getD j default).lower ∧ ((addH ms i z).getD j default).holds = (ms.getD j default).holds + if i = j then z else 0 := by
  unfold addH
  rw [set_at hj]
  by_cases e : i = j
  · subst e; simp
  · rw [if_neg e, if_neg e]; simp
theorem hsum_addH {ms : List MomM} {i n : Nat} {z : Int} (hn : n ≤ ms.length) : hsum (addH ms i z) n = hsum ms n + if i < n then z else 0 := by
  induction n with
  | zero => simp [hsum]
  | succ n ih =>
    simp only [hsum]
    rw [ih (by omega), (addH_at (by omega)).2.2]
    by_cases h1 : i < n
    · rw [if_pos h1, if_neg (by omega), if_pos (by omega)]; omega
    · by_cases h2 : i = n
      · rw [if_neg h1, if_pos h2, if_pos (by omega)]; omega
      · rw [if_neg h1, if_neg h2, if_neg (by omega)]; omega
theorem waitStep_at {d : DoneM} {ms : List MomM} {x : WaitM} {i : Nat} (hi : i < ms.length) : ((waitStep d ms x).getD i default).ran = (ms.getD i default).ran ∧ ((waitStep d ms x).getD i default).lower = (ms.getD i default).lower := by
  unfold waitStep
  split
  · exact ⟨rfl, rfl⟩
  · split
    · have h1 := addH_at (ms := ms) (i := (max x.got (fromD d) - fromD d).toNat) (z := 1) hi
      have h2 := addH_at (ms := addH ms (max x.got (fromD d) - fromD d).toNat 1) (i := (min x.fin (toD d) - fromD d).toNat) (z := -1) (j := i) (by rw [addH_len]; exact hi)
      exact ⟨by rw [h2.1, h1.1], by rw [h2.2.1, h1.2.1]⟩
    · have h1 := addH_at (ms := ms) (i := (max x.got (fromD d) - fromD d).toNat) (z := 1) hi
      exact ⟨h1.1, h1.2.1⟩
theorem hsum_wait {d : DoneM} {ms : List MomM} {x : WaitM} {i : Nat} (hi : i < ms.length) (hl : ms.length = (toD d - fromD d).toNat) : hsum (waitStep d ms x) (i + 1) = hsum ms (i + 1) + if holdsAt d (fromD d + i) x then 1 else 0 := by
  unfold waitStep
  by_cases h : x.task ≠ d.task ∨ min x.fin (toD d) ≤ max x.got (fromD d)
  · rw [if_pos h, if_neg]
    · omega
    · unfold holdsAt
      simp only [Bool.and_eq_true, decide_eq_true_iff]
      rintro ⟨h1, h2, h3⟩
      rcases h with h | h
      · exact h h1
      · omega
  · rw [if_neg h]
    have hx : x.task = d.task := by
      by_cases e : x.task = d.task
      · exact e
      · exact absurd (.inl e) h
    have hG : max x.got (fromD d) < min x.fin (toD d) := by
      by_cases e : max x.got (fromD d) < min x.fin (toD d)
      · exact e
      · exact absurd (.inr (by omega)) h
    have hH : (holdsAt d (fromD d + i) x = true) ↔ (x.got ≤ fromD d + i ∧ fromD d + i < x.fin) := by
      unfold holdsAt
      simp [hx]
    by_cases h2 : min x.fin (toD d) < toD d
    · rw [if_pos h2, hsum_addH (by rw [addH_len]; omega), hsum_addH (by omega)]
      by_cases a : x.got ≤ fromD d + i
      · rw [if_pos (show (max x.got (fromD d) - fromD d).toNat < i + 1 by omega)]
        by_cases b : fromD d + i < x.fin
        · rw [if_neg (show ¬ (min x.fin (toD d) - fromD d).toNat < i + 1 by omega), if_pos (hH.2 ⟨a, b⟩)]; omega
        · rw [if_pos (show (min x.fin (toD d) - fromD d).toNat < i + 1 by omega), if_neg (fun e => b (hH.1 e).2)]; omega
      · rw [if_neg (show ¬ (max x.got (fromD d) - fromD d).toNat < i + 1 by omega), if_neg (show ¬ (min x.fin (toD d) - fromD d).toNat < i + 1 by omega), if_neg (fun e => a (hH.1 e).1)]; omega
    · rw [if_neg h2, hsum_addH (by omega)]
      by_cases a : x.got ≤ fromD d + i
      · rw [if_pos (show (max x.got (fromD d) - fromD d).toNat < i + 1 by omega), if_pos (hH.2 ⟨a, by omega⟩)]
      · rw [if_neg (show ¬ (max x.got (fromD d) - fromD d).toNat < i + 1 by omega), if_neg (fun e => a (hH.1 e).1)]
def cntH (d : DoneM) (z : Int) : List WaitM → Int
  | [] => 0
  | x :: xs => (if holdsAt d z x then 1 else 0) + cntH d z xs
theorem cntH_nn (d : DoneM) (z : Int) (xs : List WaitM) : 0 ≤ cntH d z xs := by
  induction xs with
  | nil => simp [cntH]
  | cons a l ih => simp only [cntH]; split <;> omega
theorem cntH_any (d : DoneM) (z : Int) (xs : List WaitM) : decide (0 < cntH d z xs) = xs.any (holdsAt d z) := by
  induction xs with
  | nil => simp [cntH]
  | cons a l ih =>
    have := cntH_nn d z l
    rw [List.any_cons, ← ih]
    by_cases h : holdsAt d z a = true
    · have e : cntH d z (a :: l) = 1 + cntH d z l := by simp [cntH, h]
      rw [e, h, Bool.true_or]; exact decide_eq_true (by omega)
    · have e : cntH d z (a :: l) = cntH d z l := by simp [cntH, h]
      have h : holdsAt d z a = false := by simpa using h
      rw [e, h, Bool.false_or]
theorem waits_at {d : DoneM} (xs : List WaitM) {ms : List MomM} {i : Nat} (hi : i < ms.length) (hl : ms.length = (toD d - fromD d).toNat) :
    ((xs.foldl (waitStep d) ms).getD i default).ran = (ms.getD i default).ran ∧ ((xs.foldl (waitStep d) ms).getD i default).lower = (ms.getD i default).lower ∧
    hsum (xs.foldl (waitStep d) ms) (i + 1) = hsum ms (i + 1) + cntH d (fromD d + i) xs := by
  induction xs generalizing ms with
  | nil => simp [cntH]
  | cons a l ih =>
    rw [List.foldl_cons]
    obtain ⟨h1, h2, h3⟩ := ih (ms := waitStep d ms a) (by rw [waitStep_len]; exact hi) (by rw [waitStep_len]; exact hl)
    obtain ⟨g1, g2⟩ := waitStep_at (d := d) (x := a) hi
    have g3 := hsum_wait (x := a) hi hl
    refine ⟨by rw [h1, g1], by rw [h2, g2], by rw [h3, g3]; simp only [cntH]; omega⟩
theorem hsum_0 (n m : Nat) : hsum (mom0 n) m = 0 := by
  induction m with
  | zero => rfl
  | succ m ih =>
    simp only [hsum]
    rw [ih]
    unfold mom0
    by_cases h : m < n
    · simp [List.getD, h]
    · simp [List.getD, h]; rfl
theorem hsum_slots {s : SetR} {d : DoneM} (xs : List SlotM) {ms : List MomM} {n : Nat} (hn : n ≤ ms.length) (hl : ms.length = (toD d - fromD d).toNat) : hsum (xs.foldl (slotStep s d) ms) n = hsum ms n := by
  induction n with
  | zero => rfl
  | succ n ih => simp only [hsum]; rw [ih (by omega), (slots_at (s := s) xs (by omega) hl).2.2]
def invA (s : SetR) (t : TraceR) (d : DoneM) (z : Int) : Bool := lowAt s t d z && !(ranAt t d z || holdAt t d z)
def invN (s : SetR) (t : TraceR) (d : DoneM) (F : Int) : Nat → Nat
  | 0 => 0
  | n + 1 => invN s t d F n + if invA s t d (F + n) then 1 else 0
theorem inv_same {s : SetR} {t : TraceR} {d : DoneM} (h : fromD d < toD d) : (invG (momL s t d)).2 = invN s t d (fromD d) (toD d - fromD d).toNat := by
  obtain ⟨N, hN⟩ : ∃ N, (toD d - fromD d).toNat = N := ⟨_, rfl⟩
  have h0 : (mom0 N).length = N := by unfold mom0; simp
  have hA : (t.slots.foldl (slotStep s d) (mom0 N)).length = N := by rw [slots_len]; exact h0
  have hM : momL s t d = t.waits.foldl (waitStep d) (t.slots.foldl (slotStep s d) (mom0 N)) := by unfold momL; rw [if_neg (by omega), hN]
  have hl : (momL s t d).length = N := by rw [hM, waits_len]; exact hA
  have e := invG_is (momL s t d) N (by omega)
  rw [List.take_of_length_le (by omega)] at e
  rw [e, hN]
  show blkN (momL s t d) N = _
  have hk : ∀ n, n ≤ N → blkN (momL s t d) n = invN s t d (fromD d) n := by
    intro n hn
    induction n with
    | zero => rfl
    | succ n ih =>
      simp only [blkN, invN]
      rw [ih (by omega)]
      congr 1
      have hw := waits_at (d := d) t.waits (ms := t.slots.foldl (slotStep s d) (mom0 N)) (i := n) (by omega) (by omega)
      have hs := slots_at (s := s) (d := d) t.slots (ms := mom0 N) (i := n) (by omega) (by omega)
      have hz : (mom0 N).getD n default = ⟨false, false, 0⟩ := by unfold mom0; simp [List.getD, show n < N by omega]
      have hb : blk (momL s t d) n = invA s t d (fromD d + n) := by
        unfold blk invA
        rw [hM, hw.1, hw.2.1, hw.2.2, hs.1, hs.2.1, hsum_slots t.slots (by omega) (by omega), hsum_0, hz, Int.zero_add, cntH_any]
        simp only [Bool.false_or]
        unfold ranAt lowAt holdAt
        cases t.slots.any (fun x => decide (x.time = fromD d + n) && (x.task == d.task)) <;> cases t.waits.any (holdsAt d (fromD d + n)) <;> simp
      rw [hb]
  exact hk N (Nat.le_refl _)
end Go.Proofs.Ytmchjmgifipfoaa
