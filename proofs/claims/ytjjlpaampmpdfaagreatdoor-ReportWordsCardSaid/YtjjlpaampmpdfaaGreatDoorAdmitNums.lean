/- admit: the numbers: the soonest bounds, the next ones, where they come to rest, what is told. Plain numbers. -/
import Derived.Test.YtjjlpaampmpdfaaGreatDoorBoundMono
import Derived.Test.YtjjlpaampmpdfaaGreatDoorDemandNums
namespace Go.Proofs.YtjjlpaampmpdfaaGreatDoor
open Go.ChangeShapes Go.WideShapes Go.ChangeAt Go.RowKit
set_option linter.unusedVariables false

def soonL (s : SetR) : List Int := s.tasks.map fun t => allK t.parts
def nextRow (s : SetR) (bs : List Int) : List Int := (List.range s.tasks.length).map fun i : Nat => nextV s bs i
def stepB (s : SetR) (bs : List Int) (i : Nat) : Bool := nextK s bs i && decide (nextV s bs i ≤ (s.tasks.getD i default).dl)
def roundB (s : SetR) (bs : List Int) : Bool := upTo (stepB s bs) s.tasks.length
def roundL (s : SetR) (bs : List Int) : List Int := if roundB s bs = true then nextRow s bs else []
/-- where so many rounds lead from these bounds: the bounds, and what is told -/
def setL (s : SetR) : Nat → List Int → List Int × Int
  | 0, bs => (bs, 20)
  | k + 1, bs => if roundB s bs = true then (if nextRow s bs = bs then (bs, 0) else setL s k (nextRow s bs)) else ([], 19)
theorem setL_succ (s : SetR) (k : Nat) (bs : List Int) : setL s (k + 1) bs = if roundB s bs = true then (if nextRow s bs = bs then (bs, 0) else setL s k (nextRow s bs)) else ([], 19) := rfl
def settle (s : SetR) : List Int × Int := setL s 200 (soonL s)
def anE (s : SetR) : Int := if chkE s = 0 then (settle s).2 else chkE s
def anB (s : SetR) : List Int := if anE s = 0 then (settle s).1 else []
def anW (s : SetR) : List (List Int) := if anE s = 0 then (List.range s.tasks.length).map (fun i : Nat => waitsL s (settle s).1 i) else []
theorem soonL_len (s : SetR) : (soonL s).length = s.tasks.length := by simp [soonL]
theorem nextRow_len (s : SetR) (bs : List Int) : (nextRow s bs).length = s.tasks.length := by simp [nextRow]
theorem nextRow_ok (s : SetR) (bs : List Int) : ∀ n ∈ nextRow s bs, 0 ≤ n ∧ n ≤ 6100000 := fun n hn => by
  obtain ⟨i, _, rfl⟩ := List.mem_map.1 hn
  exact nextV_bd s bs i
theorem soonL_ok {s : SetR} (ho : okS s = true) : ∀ n ∈ soonL s, 0 ≤ n ∧ n ≤ 360 := fun n hn => by
  obtain ⟨t, ht, rfl⟩ := List.mem_map.1 hn
  have hg := (Good.of ho).parts t ht
  have := allK_bd hg.lens
  have := hg.len
  omega
theorem setL_zero {s : SetR} {k : Nat} {bs : List Int} (h : (setL s k bs).2 = 0) : ∃ cs, (setL s k bs).1 = cs ∧ roundB s cs = true ∧ nextRow s cs = cs := by
  induction k generalizing bs with
  | zero => simp [setL] at h
  | succ k ih =>
    unfold setL at h ⊢
    by_cases e : roundB s bs = true
    · rw [if_pos e] at h ⊢
      by_cases e2 : nextRow s bs = bs
      · rw [if_pos e2]; exact ⟨bs, rfl, e, e2⟩
      · rw [if_neg e2] at h ⊢; exact ih h
    · rw [if_neg e] at h; simp at h
theorem setL_err (s : SetR) (k : Nat) (bs : List Int) : (setL s k bs).2 = 0 ∨ (setL s k bs).2 = 19 ∨ (setL s k bs).2 = 20 := by
  induction k generalizing bs with
  | zero => exact .inr (.inr rfl)
  | succ k ih =>
    unfold setL
    by_cases e : roundB s bs = true
    · rw [if_pos e]
      by_cases e2 : nextRow s bs = bs
      · rw [if_pos e2]; exact .inl rfl
      · rw [if_neg e2]; exact ih _
    · rw [if_neg e]; exact .inr (.inl rfl)
theorem okS_chk (s : SetR) : okS s = true ↔ chkE s = 0 := by unfold okS; simp
theorem anE_zero {s : SetR} (h : anE s = 0) : okS s = true ∧ (settle s).2 = 0 := by
  unfold anE at h
  by_cases e : chkE s = 0
  · rw [if_pos e] at h; exact ⟨(okS_chk s).2 e, h⟩
  · rw [if_neg e] at h; exact absurd h e
/-- of who is admitted: the bounds are at rest -/
theorem anB_rest {s : SetR} (h : anE s = 0) : anB s = (settle s).1 ∧ roundB s (anB s) = true ∧ nextRow s (anB s) = anB s ∧ (anB s).length = s.tasks.length := by
  have e : anB s = (settle s).1 := by unfold anB; rw [if_pos h]
  obtain ⟨cs, h1, h2, h3⟩ := setL_zero (anE_zero h).2
  have h4 : anB s = cs := by rw [e]; exact h1
  rw [h4]
  exact ⟨by rw [← h4]; exact e, h2, h3, by rw [← h3, nextRow_len]⟩
def holdB (s : SetR) (bs : List Int) (i : Nat) : Bool := nextK s bs i && (decide (nextV s bs i ≤ bs.getD i 0) && (decide (1 ≤ bs.getD i 0) && decide (bs.getD i 0 ≤ (s.tasks.getD i default).dl)))
def holdsV (s : SetR) (bs : List Int) : Bool := okS s && (decide (bs.length = s.tasks.length) && upTo (holdB s bs) s.tasks.length)
end Go.Proofs.YtjjlpaampmpdfaaGreatDoor
