/- wait: the numbers: what a job waits for, by the set's protocol. Plain numbers. -/
import Derived.Test.YtjjlpaampmpdfaaGreatDoorToken3
import Derived.Test.YtjjlpaampmpdfaaGreatDoorAgent3
namespace Go.Proofs.YtjjlpaampmpdfaaGreatDoor
open Go.ChangeShapes Go.WideShapes Go.ChangeAt Go.RowKit
set_option linter.unusedVariables false

def waitV (s : SetR) (bs : List Int) (of part : Int) : Int :=
  if bs.length = s.tasks.length then (if s.proto = 1 then fairV s of part else if s.proto = 2 then agentV s bs of part else tokV s of part) else 0
def waitK (s : SetR) (bs : List Int) (of part : Int) : Bool :=
  if bs.length = s.tasks.length then (if s.proto = 2 then agentK s bs of part else fairK s of part) else false
theorem lock_part {s : SetR} {of part : Int} (h : fairK s of part = true) : okS s = true ∧ 1 ≤ (partAt s of part).len ∧ (partAt s of part).len ≤ 60 ∧ (partAt s of part).kind = 3 := by
  obtain ⟨f1, f2, f3, f4⟩ := fairK_iff.1 h
  obtain ⟨ho, r1, r2⟩ := thereB_true.1 f1
  have hp : partAt s of part ∈ (s.tasks.getD of.toNat default).parts := by unfold partAt; exact getD_mem (by omega)
  have hlen := ((Good.of ho).parts _ (getD_mem (by omega : of.toNat < s.tasks.length))).lens _ hp
  exact ⟨ho, hlen.1, hlen.2, f4⟩
theorem fairV_bd (s : SetR) (of part : Int) : 0 ≤ fairV s of part ∧ fairV s of part ≤ 420 := by
  unfold fairV
  split
  · rename_i h
    obtain ⟨ho, h1, h2, _⟩ := lock_part h
    have hg := Good.of ho
    have hb := tot_small (fun x (hx : x ∈ othL of 0 s.tasks) => by have := othL_bd (fun q hq => (hg.parts q hq).lens) x hx; omega)
    have hl := Nat.le_trans (othL_len of 0 s.tasks) hg.ntasks.2
    omega
  · omega
theorem agent_lock {s : SetR} {bs : List Int} {of part : Int} (h : agentK s bs of part = true) : fairK s of part = true ∧ bs.length = s.tasks.length := by
  cases e : agentB s bs of part with
  | true => exact agentB_true.1 e
  | false => unfold agentK agentO at h; rw [e] at h; cases h
theorem agentV_no {s : SetR} {bs : List Int} {of part : Int} (h : agentK s bs of part = false) : agentV s bs of part = 0 := by
  unfold agentK at h
  unfold agentV
  cases e : agentO s bs of part with
  | none => rfl
  | some v => rw [e] at h; cases h
theorem agentV_in {s : SetR} {bs : List Int} {of part : Int} (h : agentK s bs of part = true) : leastV s of part ≤ agentV s bs of part ∧ agentV s bs of part ≤ 3000 := by
  obtain ⟨k1, k2⟩ := agent_lock h
  obtain ⟨ho, h1, h2, _⟩ := lock_part k1
  have hlo := lowerV_bd s of (homeV s of part)
  have hb : agentB s bs of part = true := agentB_true.2 ⟨k1, k2⟩
  unfold agentK agentO at h
  unfold agentV agentO
  rw [if_pos hb] at h ⊢
  cases e : fixO (winF (leastV s of part) (rivL s bs (prioOf s of) (homeV s of part) 0 s.tasks)) (leastV s of part) with
  | none => rw [e] at h; cases h
  | some v =>
    obtain ⟨a, b, _, _⟩ := fixO_some (by unfold leastV; omega) e
    exact ⟨a, b⟩
theorem agentV_bd (s : SetR) (bs : List Int) (of part : Int) : 0 ≤ agentV s bs of part ∧ agentV s bs of part ≤ 3000 := by
  cases e : agentK s bs of part with
  | true =>
    obtain ⟨a, b⟩ := agentV_in e
    obtain ⟨k1, k2⟩ := agent_lock e
    obtain ⟨ho, h1, h2, _⟩ := lock_part k1
    have hlo := lowerV_bd s of (homeV s of part)
    unfold leastV at a; omega
  | false => rw [agentV_no e]; omega
theorem tokV_bd (s : SetR) (of part : Int) : 0 ≤ tokV s of part ∧ tokV s of part ≤ 2940 := by
  have h1 := insV_bd s of part
  have h2 := outV_bd s of
  unfold tokV; split <;> omega
theorem waitV_bd (s : SetR) (bs : List Int) (of part : Int) : 0 ≤ waitV s bs of part ∧ waitV s bs of part ≤ 3000 := by
  have h1 := fairV_bd s of part
  have h2 := agentV_bd s bs of part
  have h3 := tokV_bd s of part
  unfold waitV
  split
  · split
    · omega
    · split <;> omega
  · omega
theorem waitK_lock {s : SetR} {bs : List Int} {of part : Int} (h : waitK s bs of part = true) : fairK s of part = true ∧ bs.length = s.tasks.length := by
  unfold waitK at h
  split at h
  · rename_i e
    split at h
    · exact agent_lock h
    · exact ⟨h, e⟩
  · cases h
/-- what a part takes, and whether that is told -/
def pW (s : SetR) (bs : List Int) (of : Int) (k : Nat) : Int := if (partAt s of k).kind = 3 then waitV s bs of k else 0
def pK (s : SetR) (bs : List Int) (of : Int) (k : Nat) : Bool := if (partAt s of k).kind = 3 then waitK s bs of k else true
def upTo (f : Nat → Bool) : Nat → Bool
  | 0 => true
  | k + 1 => upTo f k && f k
theorem upTo_iff (f : Nat → Bool) (n : Nat) : upTo f n = true ↔ ∀ k, k < n → f k = true := by
  induction n with
  | zero => simp [upTo]
  | succ n ih =>
    simp only [upTo, Bool.and_eq_true, ih]
    constructor
    · rintro ⟨a, b⟩ k hk
      by_cases e : k = n
      · subst e; exact b
      · exact a k (by omega)
    · intro h; exact ⟨fun k hk => h k (by omega), h n (by omega)⟩
theorem upTo_not {f : Nat → Bool} {n k : Nat} (hk : k < n) (h : f k = false) : upTo f n = false := by
  rw [Bool.eq_false_iff]; intro h2
  rw [(upTo_iff f n).1 h2 k hk] at h; cases h
def partsOf (s : SetR) (of : Int) : List PartM := (s.tasks.getD of.toNat default).parts
def waitsK (s : SetR) (bs : List Int) (of : Int) : Bool := thereB s of && upTo (pK s bs of) (partsOf s of).length
def waitsL (s : SetR) (bs : List Int) (of : Int) : List Int := if waitsK s bs of = true then (List.range (partsOf s of).length).map (pW s bs of) else []
theorem pW_bd (s : SetR) (bs : List Int) (of : Int) (k : Nat) : 0 ≤ pW s bs of k ∧ pW s bs of k ≤ 3000 := by
  have := waitV_bd s bs of k
  unfold pW; split <;> omega
theorem waits_no {s : SetR} {bs : List Int} {of : Int} (h : thereB s of = false) : waitsK s bs of = false ∧ waitsL s bs of = [] := by
  have e : waitsK s bs of = false := by unfold waitsK; rw [h]; rfl
  exact ⟨e, by unfold waitsL; rw [e]; rfl⟩
theorem waits_off {s : SetR} {bs : List Int} {of : Int} {k : Nat} (hk : k < (partsOf s of).length) (h : pK s bs of k = false) : waitsK s bs of = false ∧ waitsL s bs of = [] := by
  have e : waitsK s bs of = false := by unfold waitsK; rw [upTo_not hk h, Bool.and_false]
  exact ⟨e, by unfold waitsL; rw [e]; rfl⟩
theorem waits_yes {s : SetR} {bs : List Int} {of : Int} (h : thereB s of = true) (hk : ∀ k, k < (partsOf s of).length → pK s bs of k = true) : waitsK s bs of = true ∧ waitsL s bs of = (List.range (partsOf s of).length).map (pW s bs of) := by
  have e : waitsK s bs of = true := by unfold waitsK; rw [h, (upTo_iff _ _).2 hk]; rfl
  exact ⟨e, by unfold waitsL; rw [if_pos e]⟩
theorem range_snoc (f : Nat → Int) (k : Nat) : (List.range (k + 1)).map f = (List.range k).map f ++ [f k] := by simp [List.range_succ]
theorem waitsL_len (s : SetR) (bs : List Int) (of : Int) : (waitsL s bs of).length ≤ 6 ∧ ∀ n ∈ waitsL s bs of, 0 ≤ n ∧ n ≤ 3000 := by
  by_cases e : waitsK s bs of = true
  · have h : thereB s of = true := by
      cases h : thereB s of with
      | true => rfl
      | false => rw [(waits_no (bs := bs) h).1] at e; cases e
    obtain ⟨ho, r1, r2⟩ := thereB_true.1 h
    have hl := ((Good.of ho).parts _ (getD_mem (by omega : of.toNat < s.tasks.length))).len
    unfold waitsL
    rw [if_pos e]
    refine ⟨by simp; exact hl.2, fun n hn => ?_⟩
    obtain ⟨k, _, rfl⟩ := List.mem_map.1 hn
    exact pW_bd _ _ _ _
  · unfold waitsL; rw [if_neg e]; simp
theorem tot_cap {l : List Int} {c : Int} (h : ∀ n ∈ l, 0 ≤ n ∧ n ≤ c) : 0 ≤ tot l ∧ tot l ≤ c * (l.length : Int) := by
  induction l with
  | nil => simp [tot]
  | cons a l ih =>
    have h1 := ih (fun n hn => h n (by simp [hn]))
    have h2 := h a (by simp)
    simp only [tot, List.length_cons]
    rw [Int.natCast_succ, Int.mul_add, Int.mul_one]
    omega
theorem waitsT_bd (s : SetR) (bs : List Int) (of : Int) : 0 ≤ tot (waitsL s bs of) ∧ tot (waitsL s bs of) ≤ 18000 := by
  obtain ⟨h1, h2⟩ := waitsL_len s bs of
  have := tot_cap h2
  omega
end Go.Proofs.YtjjlpaampmpdfaaGreatDoor
