/- Plain numbers of layer 11: what a task asks cluster by cluster; who asks cluster by cluster. -/
import Derived.Test.YtjjlpaampmpdfaaGreatDoorDemand3
namespace Go.Proofs.YtjjlpaampmpdfaaGreatDoor
open Go.ChangeShapes Go.WideShapes Go.ChangeAt Go.RowKit
set_option linter.unusedVariables false

/-- a Lock whose resource's home is a cluster below c -/
def upB (homes : List Int) (c : Int) (p : PartM) : Bool := decide (p.kind = 3) && decide (homes.getD p.res.toNat 0 < c)
theorem sum_up (homes : List Int) (c : Int) (ps : List PartM) : sumK 3 (ps.filter (upB homes (c + 1))) = sumK 3 (ps.filter (upB homes c)) + sumK 3 (ps.filter (srvB homes c)) := by
  induction ps with
  | nil => simp [sumK]
  | cons p ps ih =>
    by_cases k : p.kind = 3
    · rcases Int.lt_trichotomy (homes.getD p.res.toNat 0) c with h | h | h
      · rw [List.filter_cons_of_pos (by unfold upB; rw [Bool.and_eq_true]; exact ⟨by simp [k], by rw [decide_eq_true_eq]; omega⟩), List.filter_cons_of_pos (by unfold upB; rw [Bool.and_eq_true]; exact ⟨by simp [k], by rw [decide_eq_true_eq]; omega⟩), List.filter_cons_of_neg (by unfold srvB; rw [Bool.and_eq_true, decide_eq_true_eq, decide_eq_true_eq]; omega)]
        simp only [sumK]; omega
      · rw [List.filter_cons_of_pos (by unfold upB; rw [Bool.and_eq_true]; exact ⟨by simp [k], by rw [decide_eq_true_eq]; omega⟩), List.filter_cons_of_neg (by unfold upB; rw [Bool.and_eq_true, decide_eq_true_eq, decide_eq_true_eq]; omega), List.filter_cons_of_pos (by unfold srvB; rw [Bool.and_eq_true]; exact ⟨by simp [k], by rw [decide_eq_true_eq]; omega⟩)]
        simp only [sumK]; omega
      · rw [List.filter_cons_of_neg (by unfold upB; rw [Bool.and_eq_true, decide_eq_true_eq, decide_eq_true_eq]; omega), List.filter_cons_of_neg (by unfold upB; rw [Bool.and_eq_true, decide_eq_true_eq, decide_eq_true_eq]; omega), List.filter_cons_of_neg (by unfold srvB; rw [Bool.and_eq_true, decide_eq_true_eq, decide_eq_true_eq]; omega)]
        exact ih
    · rw [List.filter_cons_of_neg (by simp [upB, k]), List.filter_cons_of_neg (by simp [upB, k]), List.filter_cons_of_neg (by simp [srvB, k])]
      exact ih
theorem max_up (homes : List Int) (c : Int) (ps : List PartM) : maxL (ps.filter (upB homes (c + 1))) = max (maxL (ps.filter (upB homes c))) (maxL (ps.filter (srvB homes c))) := by
  induction ps with
  | nil => simp [maxL]
  | cons p ps ih =>
    by_cases k : p.kind = 3
    · rcases Int.lt_trichotomy (homes.getD p.res.toNat 0) c with h | h | h
      · rw [List.filter_cons_of_pos (by unfold upB; rw [Bool.and_eq_true]; exact ⟨by simp [k], by rw [decide_eq_true_eq]; omega⟩), List.filter_cons_of_pos (by unfold upB; rw [Bool.and_eq_true]; exact ⟨by simp [k], by rw [decide_eq_true_eq]; omega⟩), List.filter_cons_of_neg (by unfold srvB; rw [Bool.and_eq_true, decide_eq_true_eq, decide_eq_true_eq]; omega)]
        simp only [maxL]; omega
      · rw [List.filter_cons_of_pos (by unfold upB; rw [Bool.and_eq_true]; exact ⟨by simp [k], by rw [decide_eq_true_eq]; omega⟩), List.filter_cons_of_neg (by unfold upB; rw [Bool.and_eq_true, decide_eq_true_eq, decide_eq_true_eq]; omega), List.filter_cons_of_pos (by unfold srvB; rw [Bool.and_eq_true]; exact ⟨by simp [k], by rw [decide_eq_true_eq]; omega⟩)]
        simp only [maxL]; omega
      · rw [List.filter_cons_of_neg (by unfold upB; rw [Bool.and_eq_true, decide_eq_true_eq, decide_eq_true_eq]; omega), List.filter_cons_of_neg (by unfold upB; rw [Bool.and_eq_true, decide_eq_true_eq, decide_eq_true_eq]; omega), List.filter_cons_of_neg (by unfold srvB; rw [Bool.and_eq_true, decide_eq_true_eq, decide_eq_true_eq]; omega)]
        exact ih
    · rw [List.filter_cons_of_neg (by simp [upB, k]), List.filter_cons_of_neg (by simp [upB, k]), List.filter_cons_of_neg (by simp [srvB, k])]
      exact ih
/-- where the Locks' homes are -/
def HomeIn (homes : List Int) (n : Int) (ps : List PartM) : Prop := ∀ p ∈ ps, p.kind = 3 → 0 ≤ homes.getD p.res.toNat 0 ∧ homes.getD p.res.toNat 0 < n
theorem up_none {homes : List Int} {n : Int} {ps : List PartM} (h : HomeIn homes n ps) : ps.filter (upB homes 0) = [] := by
  rw [List.filter_eq_nil_iff]
  intro p hp he
  unfold upB at he
  rw [Bool.and_eq_true, decide_eq_true_eq, decide_eq_true_eq] at he
  have := h p hp he.1
  omega
theorem up_all {homes : List Int} {n : Int} {ps : List PartM} (h : HomeIn homes n ps) : sumK 3 (ps.filter (upB homes n)) = sumK 3 ps ∧ maxL (ps.filter (upB homes n)) = maxL ps := by
  induction ps with
  | nil => simp
  | cons p ps ih =>
    obtain ⟨i1, i2⟩ := ih (fun q hq => h q (by simp [hq]))
    have := maxL_nn ps
    by_cases k : p.kind = 3
    · have h1 := h p (by simp) k
      rw [List.filter_cons_of_pos (by unfold upB; rw [Bool.and_eq_true]; exact ⟨by simp [k], by rw [decide_eq_true_eq]; omega⟩)]
      simp only [sumK, maxL, i1, i2]
      exact ⟨trivial, trivial⟩
    · rw [List.filter_cons_of_neg (by simp [upB, k])]
      simp only [sumK, maxL, i1, i2, if_neg k]
      omega
theorem Good.homeIn {s : SetR} (h : Good s) {t : TaskR} (ht : t ∈ s.tasks) : HomeIn s.homes s.cores.length t.parts := by
  intro p hp hk
  have h1 := ((h.parts t ht).good p hp).2.2.2 hk
  have h2 : p.res.toNat < s.homes.length := by omega
  have := h.homes (s.homes.getD p.res.toNat 0) (by simp [List.getD, h2])
  omega
/-- the Lens of all parts -/
def allK : List PartM → Int
  | [] => 0
  | p :: ps => p.len + allK ps
theorem allK_append (a b : List PartM) : allK (a ++ b) = allK a + allK b := by
  induction a with
  | nil => simp [allK]
  | cons p a ih => simp only [List.cons_append, allK, ih]; omega
theorem allK_snoc (ps : List PartM) (n : Nat) (h : n < ps.length) : allK (ps.take (n + 1)) = allK (ps.take n) + (ps.getD n default).len := by
  rw [take_snocD ps n h, allK_append]; simp [allK]
theorem allK_is {ps : List PartM} {res : Int} (h : ∀ p ∈ ps, PartGood p res) : allK ps = sumK 1 ps + sumK 2 ps + sumK 3 ps := by
  induction ps with
  | nil => simp [allK, sumK]
  | cons p ps ih =>
    have h1 := (h p (by simp)).1
    simp only [allK, sumK, ih (fun q hq => h q (by simp [hq]))]
    rcases h1 with e | e | e <;> simp [e] <;> omega
theorem allK_bd {ps : List PartM} (h : LenOk ps) : 0 ≤ allK ps ∧ allK ps ≤ 60 * (ps.length : Int) := by
  induction ps with
  | nil => simp [allK]
  | cons p ps ih =>
    have h1 := ih (fun q hq => h q (by simp [hq]))
    have h2 := h p (by simp)
    simp only [allK, List.length_cons]; omega
/-- tasks with a Lock at clusters below c; all of them -/
def askUp (c : Int) : List TaskR → Int
  | [] => 0
  | t :: ts => (if t.cl < c ∧ sumK 3 t.parts ≠ 0 then 1 else 0) + askUp c ts
def lockN : List TaskR → Int
  | [] => 0
  | t :: ts => (if sumK 3 t.parts ≠ 0 then 1 else 0) + lockN ts
theorem askUp_succ (c : Int) (ts : List TaskR) : askUp (c + 1) ts = askUp c ts + askN c ts := by
  induction ts with
  | nil => simp [askUp, askN]
  | cons t ts ih =>
    simp only [askUp, askN, ih]
    by_cases h : sumK 3 t.parts = 0
    · rw [if_neg (fun g => g.2 h), if_neg (fun g => g.2 h), if_neg (fun g => g.2 h)]; omega
    · rcases Int.lt_trichotomy t.cl c with g | g | g
      · rw [if_pos ⟨by omega, h⟩, if_pos ⟨by omega, h⟩, if_neg (by omega)]; omega
      · rw [if_pos ⟨by omega, h⟩, if_neg (by omega), if_pos ⟨by omega, h⟩]; omega
      · rw [if_neg (by omega), if_neg (by omega), if_neg (by omega)]; omega
theorem askUp_zero {ts : List TaskR} (h : ∀ t ∈ ts, 0 ≤ t.cl) : askUp 0 ts = 0 := by
  induction ts with
  | nil => rfl
  | cons t ts ih =>
    have h1 := h t (by simp)
    simp only [askUp, ih (fun q hq => h q (by simp [hq]))]
    rw [if_neg (by omega)]; omega
theorem askUp_all {c : Int} {ts : List TaskR} (h : ∀ t ∈ ts, t.cl < c) : askUp c ts = lockN ts := by
  induction ts with
  | nil => rfl
  | cons t ts ih =>
    have h1 := h t (by simp)
    simp only [askUp, lockN, ih (fun q hq => h q (by simp [hq])), h1, true_and]
theorem askUp_bd (c : Int) (ts : List TaskR) : 0 ≤ askUp c ts ∧ askUp c ts ≤ ts.length := by
  induction ts with
  | nil => simp [askUp]
  | cons p ts ih => simp only [askUp, List.length_cons]; split <;> omega
theorem lockN_append (a b : List TaskR) : lockN (a ++ b) = lockN a + lockN b := by
  induction a with
  | nil => simp [lockN]
  | cons p a ih => simp only [List.cons_append, lockN, ih]; omega
theorem lockN_snoc (ts : List TaskR) (n : Nat) (h : n < ts.length) : lockN (ts.take (n + 1)) = lockN (ts.take n) + if sumK 3 (ts.getD n default).parts ≠ 0 then 1 else 0 := by
  rw [take_snocD ts n h, lockN_append]; simp only [lockN, Int.add_zero]
theorem lockN_bd (ts : List TaskR) : 0 ≤ lockN ts ∧ lockN ts ≤ ts.length := by
  induction ts with
  | nil => simp [lockN]
  | cons p ts ih => simp only [lockN, List.length_cons]; split <;> omega
theorem srv_in {s : SetR} (h : okS s = true) {i : Nat} (hi : i < s.tasks.length) (c : Int) : srv s i c = (s.tasks.getD i default).parts.filter (srvB s.homes c) := by
  unfold srv; rw [if_pos ⟨h, by omega, by omega⟩]; simp
end Go.Proofs.YtjjlpaampmpdfaaGreatDoor
