/- canon: the order of a set's tasks, the numbers turned round, what a task is besides where it lies. Plain numbers. -/
import Derived.Test.YtnfkebdbfflhdaaSortMath
import Derived.Test.YtnfkebdbfflhdaaTaskCopy
namespace Go.Proofs.Ytnfkebdbfflhdaa
open Go.ChangeShapes Go.WideShapes Go.ChangeAt Go.RowKit
set_option linter.unusedVariables false

/-- the items that are sorted: a task's priority, its number -/
def itsN (ts : List TaskR) (n : Nat) : List (Int × Int) := (List.range n).map fun i => ((ts.getD i default).prio, (i : Int))
def its (ts : List TaskR) : List (Int × Int) := itsN ts ts.length
def ordL (ts : List TaskR) : List Int := (isort (its ts)).map (·.2)
theorem itsN_snoc (ts : List TaskR) (n : Nat) : itsN ts (n + 1) = itsN ts n ++ [((ts.getD n default).prio, (n : Int))] := by
  unfold itsN; rw [List.range_succ, List.map_append]; rfl
theorem itsN_len (ts : List TaskR) (n : Nat) : (itsN ts n).length = n := by simp [itsN]
theorem ordL_len (ts : List TaskR) : (ordL ts).length = ts.length := by simp [ordL, isort_len, its, itsN_len]
theorem ordL_perm (ts : List TaskR) : (ordL ts).Perm ((List.range ts.length).map (fun i : Nat => (i : Int))) := by
  have h := (isort_perm (its ts)).map (·.2)
  have e : (its ts).map (·.2) = (List.range ts.length).map (fun i : Nat => (i : Int)) := by simp [its, itsN, Function.comp_def]
  rw [e] at h
  exact h
theorem ordL_in {ts : List TaskR} {z : Int} (h : z ∈ ordL ts) : 0 ≤ z ∧ z < (ts.length : Int) := by
  have := (ordL_perm ts).mem_iff.1 h
  obtain ⟨i, hi, rfl⟩ := List.mem_map.1 this
  have := List.mem_range.1 hi
  omega
theorem its_in {ts : List TaskR} {n : Nat} {p : Int × Int} (h : p ∈ itsN ts n) : ∃ i : Nat, i < n ∧ p = ((ts.getD i default).prio, (i : Int)) := by
  obtain ⟨i, hi, rfl⟩ := List.mem_map.1 h
  exact ⟨i, List.mem_range.1 hi, rfl⟩
/-- put in behind k of them -/
theorem ins_at {l : List (Int × Int)} {x : Int × Int} {k : Nat} (hk : k ≤ l.length) (h1 : ∀ y ∈ l.take k, y.1 ≤ x.1) (h2 : ∀ y ∈ l.drop k, x.1 < y.1) : ins l x = l.take k ++ x :: l.drop k := by
  induction k generalizing l with
  | zero =>
    cases l with
    | nil => simp [ins]
    | cons y l => simp only [ins]; rw [if_pos (h2 y (by simp))]; simp
  | succ k ih =>
    cases l with
    | nil => simp at hk
    | cons y l =>
      have h0 := h1 y (by simp)
      simp only [ins]
      rw [if_neg (by omega), ih (by simpa using hk) (fun z hz => h1 z (by simp [hz])) (fun z hz => h2 z (by simpa using hz))]
      simp
/-- the numbers below n, from k on, round -/
def turL (k n : Nat) (m : Nat) : List Int := (List.range m).map fun i => (((k + i) % n : Nat) : Int)
theorem turL_snoc (k n m : Nat) : turL k n (m + 1) = turL k n m ++ [(((k + m) % n : Nat) : Int)] := by
  unfold turL; rw [List.range_succ, List.map_append]; rfl
theorem turL_len (k n m : Nat) : (turL k n m).length = m := by simp [turL]
theorem turL_in {k n m : Nat} {z : Int} (hn : 0 < n) (h : z ∈ turL k n m) : 0 ≤ z ∧ z < (n : Int) := by
  obtain ⟨i, _, rfl⟩ := List.mem_map.1 h
  have := Nat.mod_lt (k + i) hn
  omega
/-- where the turning begins -/
def startN (b : Int) (n : Nat) : Nat := (b % (n : Int)).toNat
theorem startN_eq {b : Int} {n : Nat} (hn : 0 < n) : ((startN b n : Nat) : Int) = b % (n : Int) := by
  unfold startN; rw [Int.toNat_of_nonneg (Int.emod_nonneg _ (by omega))]
theorem startN_lt {b : Int} {n : Nat} (hn : 0 < n) : startN b n < n := by
  have h1 := startN_eq (b := b) hn
  have h2 := Int.emod_lt_of_pos b (show (0 : Int) < (n : Int) by omega)
  omega
/-- Go's remainder, made one that isn't negative -/
theorem rest_pos {b : Int} {n : Nat} (hn : 0 < n) : (b.tmod (n : Int) + (n : Int)).tmod (n : Int) = b % (n : Int) := by
  have h1 := Int.lt_tmod_of_pos b (show (0 : Int) < (n : Int) by omega)
  rw [Int.tmod_eq_emod_of_nonneg (by omega), Int.add_emod_right]
  have h2 := Int.add_mul_emod_self_left (b.tmod (n : Int)) (n : Int) (b.tdiv (n : Int))
  rw [Int.tmod_add_mul_tdiv] at h2
  exact h2.symm
/-- what a task is, besides where its parts lie -/
def core (t : TaskR) : TaskR := ⟨t.name, t.per, t.dl, t.prio, t.cl, none, 0, t.parts⟩
theorem core_iff {a b : TaskR} : sameF a b ↔ core a = core b := by
  unfold sameF core
  constructor
  · rintro ⟨h0, h1, h2, h3, h4, h5⟩; rw [h0, h1, h2, h3, h4, h5]
  · intro h; injection h with h0 h1 h2 h3 h4 h5 h6 h7; exact ⟨h0, h1, h2, h3, h4, h7⟩
/-- x is s with the tasks of these numbers -/
structure Arr (s x : SetR) (zs : List Int) : Prop where
  proto : x.proto = s.proto
  cores : x.cores = s.cores
  homes : x.homes = s.homes
  tasks : x.tasks.map core = zs.map fun z => core (s.tasks.getD z.toNat default)
theorem Arr.len {s x : SetR} {zs : List Int} (h : Arr s x zs) : x.tasks.length = zs.length := by have := congrArg List.length h.tasks; simpa using this
theorem mapD {α β : Type} [Inhabited α] [Inhabited β] (f : α → β) {l : List α} {i : Nat} (hi : i < l.length) : (l.map f).getD i default = f (l.getD i default) := by simp [List.getD, hi]
theorem same_cores {x y : SetR} (h1 : x.proto = y.proto) (h2 : x.cores = y.cores) (h3 : x.homes = y.homes) (h4 : x.tasks.map core = y.tasks.map core) : sameS x y = true := by
  have hl : x.tasks.length = y.tasks.length := by have := congrArg List.length h4; simpa using this
  unfold sameS
  have ht : sameTs x.tasks y.tasks = true := sameTs_true hl (fun k hk => by
    have e := congrArg (fun l => l.getD k default) h4
    rw [mapD core hk, mapD core (by omega)] at e
    exact (core_iff.2 e).T)
  rw [h1, h2, h3, ht]
  simp
theorem Arr.same {s x y : SetR} {zs : List Int} (h : Arr s x zs) (k : Arr s y zs) : sameS x y = true :=
  same_cores (h.proto.trans k.proto.symm) (h.cores.trans k.cores.symm) (h.homes.trans k.homes.symm) (h.tasks.trans k.tasks.symm)
end Go.Proofs.Ytnfkebdbfflhdaa
