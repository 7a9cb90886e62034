/- bound: the numbers: own ticks, what others do in a window, what comes of both. Plain numbers. -/
import Derived.Test.YtjjlpaampmpdfaaGreatDoorWaitNums
namespace Go.Proofs.YtjjlpaampmpdfaaGreatDoor
open Go.ChangeShapes Go.WideShapes Go.ChangeAt Go.RowKit
set_option linter.unusedVariables false

def taskAt (s : SetR) (of : Int) : TaskR := s.tasks.getD of.toNat default
def eachV (s : SetR) (of other : Int) : Int :=
  (if s.proto = 2 then atV s of (taskAt s other).cl else if (taskAt s of).cl = (taskAt s other).cl then sumK 3 (taskAt s of).parts else 0) +
  (if (taskAt s of).cl = (taskAt s other).cl ∧ (taskAt s of).prio < (taskAt s other).prio then sumK 1 (taskAt s of).parts else 0)
theorem eachV_bd {s : SetR} (ho : okS s = true) (of other : Int) : 0 ≤ eachV s of other ∧ eachV s of other ≤ 720 := by
  have h1 := atV_bd s of (taskAt s other).cl
  have hk : ∀ k, 0 ≤ sumK k (taskAt s of).parts ∧ sumK k (taskAt s of).parts ≤ 360 := fun k => by
    by_cases hl : of.toNat < s.tasks.length
    · have hg := (Good.of ho).parts _ (getD_mem (α := TaskR) hl)
      have := sumK_bd k hg.lens
      have := hg.len
      unfold taskAt; omega
    · have e : taskAt s of = default := by unfold taskAt; simp [List.getD, hl]
      rw [e]; show 0 ≤ sumK k [] ∧ sumK k [] ≤ 360; simp [sumK]
  have h2 := hk 3
  have h3 := hk 1
  unfold eachV
  (repeat' split) <;> omega
/-- what all but one do in a window, from number k on -/
def othW (s : SetR) (bs : List Int) (of wd : Int) : Nat → List TaskR → Int
  | _, [] => 0
  | k, t :: ts => (if (k : Int) = of then 0 else workV wd (bs.getD k 0) t.per (eachV s k of)) + othW s bs of wd (k + 1) ts
theorem othW_append (s : SetR) (bs : List Int) (of wd : Int) (k : Nat) (a b : List TaskR) : othW s bs of wd k (a ++ b) = othW s bs of wd k a + othW s bs of wd (k + a.length) b := by
  induction a generalizing k with
  | nil => simp [othW]
  | cons t a ih => simp only [List.cons_append, othW, ih, List.length_cons]; rw [show k + 1 + a.length = k + (a.length + 1) by omega]; omega
theorem othW_snoc (s : SetR) (bs : List Int) (of wd : Int) (ts : List TaskR) (n : Nat) (h : n < ts.length) : othW s bs of wd 0 (ts.take (n + 1)) = othW s bs of wd 0 (ts.take n) + (if (n : Int) = of then 0 else workV wd (bs.getD n 0) (ts.getD n default).per (eachV s n of)) := by
  rw [take_snocD ts n h, othW_append]
  simp [othW, List.length_take, Nat.min_eq_left (Nat.le_of_lt h)]
theorem othW_bd (s : SetR) (bs : List Int) (of wd : Int) (k : Nat) (ts : List TaskR) : 0 ≤ othW s bs of wd k ts ∧ othW s bs of wd k ts ≤ 1000000 * (ts.length : Int) := by
  induction ts generalizing k with
  | nil => simp [othW]
  | cons t ts ih =>
    have h1 := ih (k + 1)
    have h2 := workV_bd wd (bs.getD k 0) t.per (eachV s k of)
    simp only [othW, List.length_cons]
    split <;> omega
/-- no bound is below 0 -/
def nnB (bs : List Int) : Bool := bs.all (fun b => decide (0 ≤ b))
theorem nnB_true {bs : List Int} : nnB bs = true ↔ ∀ b ∈ bs, 0 ≤ b := by simp [nnB]
theorem nn_not {bs : List Int} {k : Nat} (hk : k < bs.length) (h : bs.getD k 0 < 0) : nnB bs = false := by
  rw [Bool.eq_false_iff]; intro h2
  have := nnB_true.1 h2 (bs.getD k 0) (by simp [List.getD, hk])
  omega
theorem nn_yes {bs : List Int} (h : ∀ k, k < bs.length → 0 ≤ bs.getD k 0) : nnB bs = true := by
  rw [nnB_true]; intro b hb
  obtain ⟨k, hk, e⟩ := List.getElem_of_mem hb
  have := h k hk
  simp [List.getD, hk, e] at this
  exact this
def othersB (s : SetR) (bs : List Int) (of : Int) : Bool := thereB s of && decide (bs.length = s.tasks.length)
theorem othersB_true {s : SetR} {bs : List Int} {of : Int} : othersB s bs of = true ↔ thereB s of = true ∧ bs.length = s.tasks.length := by simp [othersB]
def othersV (s : SetR) (bs : List Int) (of wd : Int) : Int := if othersB s bs of = true ∧ nnB bs = true then othW s bs of wd 0 s.tasks / s.cores.getD (taskAt s of).cl.toNat 0 else 0
theorem cores_at {s : SetR} {of : Int} (h : thereB s of = true) : 0 ≤ (taskAt s of).cl ∧ (taskAt s of).cl < s.cores.length ∧ 1 ≤ s.cores.getD (taskAt s of).cl.toNat 0 ∧ s.cores.getD (taskAt s of).cl.toNat 0 ≤ 3 := by
  obtain ⟨ho, r1, r2⟩ := thereB_true.1 h
  have hg := Good.of ho
  have h1 := hg.place (taskAt s of) (getD_mem (by omega))
  have h2 : (taskAt s of).cl.toNat < s.cores.length := by omega
  have h3 := hg.cores (s.cores.getD (taskAt s of).cl.toNat 0) (by simp [List.getD, h2])
  exact ⟨by omega, by omega, h3.1, h3.2⟩
theorem othersV_bd (s : SetR) (bs : List Int) (of wd : Int) : 0 ≤ othersV s bs of wd ∧ othersV s bs of wd ≤ 6000000 := by
  unfold othersV
  split
  · rename_i h
    obtain ⟨h1, _⟩ := othersB_true.1 h.1
    have hc := cores_at h1
    have hn := (Good.of (thereB_true.1 h1).1).ntasks.2
    have hb := othW_bd s bs of wd 0 s.tasks
    refine ⟨Int.ediv_nonneg hb.1 (by omega), Int.le_trans (Int.ediv_le_self _ hb.1) (by omega)⟩
  · omega
def ownV (s : SetR) (bs : List Int) (of : Int) : Int := if waitsK s bs of = true then sumK 1 (taskAt s of).parts + sumK 2 (taskAt s of).parts + tot (waitsL s bs of) else 0
theorem waitsK_there {s : SetR} {bs : List Int} {of : Int} (h : waitsK s bs of = true) : thereB s of = true := by
  cases e : thereB s of with
  | true => rfl
  | false => rw [(waits_no (bs := bs) e).1] at h; cases h
theorem sum12_bd {s : SetR} {of : Int} (h : thereB s of = true) (k : Int) : 0 ≤ sumK k (taskAt s of).parts ∧ sumK k (taskAt s of).parts ≤ 360 := by
  obtain ⟨ho, r1, r2⟩ := thereB_true.1 h
  have hg := (Good.of ho).parts (taskAt s of) (getD_mem (by omega))
  have := sumK_bd k hg.lens
  have := hg.len
  omega
theorem ownV_bd (s : SetR) (bs : List Int) (of : Int) : 0 ≤ ownV s bs of ∧ ownV s bs of ≤ 18720 := by
  unfold ownV
  split
  · rename_i h
    have h1 := sum12_bd (waitsK_there h) 1
    have h2 := sum12_bd (waitsK_there h) 2
    have h3 := waitsT_bd s bs of
    omega
  · omega
def nextK (s : SetR) (bs : List Int) (of : Int) : Bool := waitsK s bs of && decide (bs.length = s.tasks.length)
def nextV (s : SetR) (bs : List Int) (of : Int) : Int := if nextK s bs of = true then ownV s bs of + othersV s bs of (bs.getD of.toNat 0) else 0
theorem nextK_true {s : SetR} {bs : List Int} {of : Int} : nextK s bs of = true ↔ waitsK s bs of = true ∧ bs.length = s.tasks.length := by simp [nextK]
theorem nextV_bd (s : SetR) (bs : List Int) (of : Int) : 0 ≤ nextV s bs of ∧ nextV s bs of ≤ 6100000 := by
  have h1 := ownV_bd s bs of
  have h2 := othersV_bd s bs of (bs.getD of.toNat 0)
  unfold nextV; split <;> omega
end Go.Proofs.YtjjlpaampmpdfaaGreatDoor
