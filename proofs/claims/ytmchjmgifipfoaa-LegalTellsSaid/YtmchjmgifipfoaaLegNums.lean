/- Whether a trace is right, as plain data. Imports nothing of the dump's functions. -/
import Derived.Test.YtmchjmgifipfoaaTraceM
import Derived.Test.YtmchjmgifipfoaaSound
namespace Go.Proofs.Ytmchjmgifipfoaa
open Go.ChangeShapes Go.WideShapes Go.ChangeAt Go.RowKit
set_option linter.unusedVariables false

def foldO {σ α : Type} (f : σ → α → Option σ) : List α → σ → Option σ
  | [], st => some st
  | x :: xs, st => (f st x).bind (foldO f xs)
section
variable {σ α : Type} [Inhabited α] {f : σ → α → Option σ}
omit [Inhabited α] in
theorem foldO_append (a b : List α) (st : σ) : foldO f (a ++ b) st = (foldO f a st).bind (foldO f b) := by
  induction a generalizing st with
  | nil => rfl
  | cons x a ih =>
    rw [List.cons_append, foldO, foldO]
    cases h : f st x with
    | none => rfl
    | some st' => exact ih st'
theorem foldO_snoc {xs : List α} {st0 st : σ} {k : Nat} (hk : k < xs.length) (h : foldO f (xs.take k) st0 = some st) : foldO f (xs.take (k + 1)) st0 = f st (xs.getD k default) := by
  rw [take_snocD xs k hk, foldO_append, h]
  show (f st (xs.getD k default)).bind (foldO f []) = _
  cases f st (xs.getD k default) <;> rfl
theorem foldO_stop {xs : List α} {st0 st : σ} {k : Nat} (hk : k < xs.length) (h : foldO f (xs.take k) st0 = some st) (hn : f st (xs.getD k default) = none) : foldO f xs st0 = none := by
  have e := foldO_snoc hk h
  rw [hn] at e
  rw [← List.take_append_drop (k + 1) xs, foldO_append, e]
  rfl
omit [Inhabited α] in
theorem foldO_end {xs : List α} {st0 st : σ} {k : Nat} (hk : ¬ k < xs.length) (h : foldO f (xs.take k) st0 = some st) : foldO f xs st0 = some st := by
  rwa [List.take_of_length_le (by omega)] at h
end

def timedB (tk a b : Int) : Bool := decide (0 ≤ a ∧ a < b ∧ b ≤ tk)
def placedB (s : SetR) (tk : Int) (x : SlotM) : Bool :=
  inB x.time 0 (tk - 1) && inB x.cl 0 ((s.cores.length : Int) - 1) && inB x.task 0 ((s.tasks.length : Int) - 1) && ((x.cl == (s.tasks.getD x.task.toNat default).cl) || (x.held && (s.proto == 2)))
/-! ### slots -/
structure SlSt where
  last : SlotM
  used : Int
  ran : List Bool
def sl0 : SlSt := ⟨⟨-1, 0, 0, false⟩, 0, List.replicate 6 false⟩
def slBad (s : SetR) (tk : Int) (st : SlSt) (x : SlotM) : Bool := !placedB s tk x || decide (x.time < st.last.time) || (decide (x.time = st.last.time) && decide (x.cl < st.last.cl))
def slUsed (st : SlSt) (x : SlotM) : Int := if st.last.time < x.time ∨ st.last.cl < x.cl then 0 else st.used
def slRan (st : SlSt) (x : SlotM) : List Bool := if st.last.time < x.time then List.replicate 6 false else st.ran
def slFull (s : SetR) (st : SlSt) (x : SlotM) : Bool := (slUsed st x == s.cores.getD x.cl.toNat 0) || (slRan st x).getD x.task.toNat false
def slNext (s : SetR) (tk : Int) (st : SlSt) (x : SlotM) : Option SlSt := if slBad s tk st x || slFull s st x then none else some ⟨x, slUsed st x + 1, (slRan st x).set x.task.toNat true⟩
def slotsB (s : SetR) (t : TraceR) : Bool := (foldO (slNext s t.ticks) t.slots sl0).isSome
/-! ### jobs -/
def jbBad (s : SetR) (tk : Int) (d : DoneM) : Bool := !inB d.task 0 ((s.tasks.length : Int) - 1) || !timedB tk d.rel d.fin
def jbNear (s : SetR) (last : List DoneM) (d : DoneM) : Bool :=
  decide (0 < (last.getD d.task.toNat default).fin) && (decide (d.rel < (last.getD d.task.toNat default).fin) || decide (d.rel - (last.getD d.task.toNat default).rel < (s.tasks.getD d.task.toNat default).per))
def jbNext (s : SetR) (tk : Int) (last : List DoneM) (d : DoneM) : Option (List DoneM) := if jbBad s tk d || jbNear s last d then none else some (last.set d.task.toNat d)
def jb0 : List DoneM := List.replicate 6 ⟨0, 0, 0⟩
def jobsB (s : SetR) (t : TraceR) : Bool := (foldO (jbNext s t.ticks) t.jobs jb0).isSome
/-! ### waits -/
def freeR (row : List Bool) (a : Nat) : Nat → Bool
  | 0 => true
  | n + 1 => freeR row a n && !row.getD (a + n) false
def setR (row : List Bool) (a : Nat) : Nat → List Bool
  | 0 => row
  | n + 1 => (setR row a n).set (a + n) true
theorem setR_len (row : List Bool) (a n : Nat) : (setR row a n).length = row.length := by
  induction n with
  | zero => rfl
  | succ n ih => simp [setR, ih]
theorem setR_at (row : List Bool) (a n j : Nat) (hj : j < row.length) : (setR row a n).getD j false = (row.getD j false || decide (a ≤ j ∧ j < a + n)) := by
  induction n with
  | zero => simp [setR]; omega
  | succ n ih =>
    have hl := setR_len row a n
    by_cases e : j = a + n
    · subst e
      simp only [setR, List.getD_eq_getElem?_getD]
      rw [List.getElem?_set_self (by omega)]
      simp
    · simp only [setR, List.getD_eq_getElem?_getD] at ih ⊢
      rw [List.getElem?_set_ne (by omega), ih]
      congr 1
      rw [decide_eq_decide]; omega
theorem freeR_iff (row : List Bool) (a n : Nat) : freeR row a n = true ↔ ∀ i, i < n → row.getD (a + i) false = false := by
  induction n with
  | zero => simp [freeR]
  | succ n ih =>
    simp only [freeR, Bool.and_eq_true, ih]
    constructor
    · rintro ⟨h, g⟩ i hi
      by_cases e : i = n
      · subst e; simpa using g
      · exact h i (by omega)
    · intro h
      exact ⟨fun i hi => h i (by omega), by simpa using h n (by omega)⟩
theorem freeR_no {row : List Bool} {a n i : Nat} (hi : i < n) (h : row.getD (a + i) false = true) : freeR row a n = false := by
  cases hf : freeR row a n with
  | false => rfl
  | true => rw [(freeR_iff row a n).1 hf i hi] at h; exact absurd h (by decide)
def wtBad (s : SetR) (tk : Int) (x : WaitM) : Bool := !resL s x || !inB x.ask 0 x.got || !timedB tk x.got x.fin
def wtNext (s : SetR) (tk : Int) (held : List (List Bool)) (x : WaitM) : Option (List (List Bool)) :=
  if wtBad s tk x then none else
  if freeR (held.getD (resI s x).toNat []) x.got.toNat (x.fin - x.got).toNat then some (held.set (resI s x).toNat (setR (held.getD (resI s x).toNat []) x.got.toNat (x.fin - x.got).toNat)) else none
def wt0 (s : SetR) (tk : Int) : List (List Bool) := List.replicate s.homes.length (List.replicate tk.toNat false)
def waitsB (s : SetR) (t : TraceR) : Bool := (foldO (wtNext s t.ticks) t.waits (wt0 s t.ticks)).isSome
def checkB (s : SetR) (t : TraceR) : Bool := okS s && (inB t.ticks 0 20000 && (slotsB s t && (jobsB s t && waitsB s t)))
theorem timedB_true {tk a b : Int} : timedB tk a b = true ↔ 0 ≤ a ∧ a < b ∧ b ≤ tk := by unfold timedB; exact decide_eq_true_iff
theorem timedB_false {tk a b : Int} (h : ¬ (0 ≤ a ∧ a < b ∧ b ≤ tk)) : timedB tk a b = false := decide_eq_false h
/-! ### the loops' steps -/
section
variable {s : SetR} {t : TraceR} {k : Nat}
theorem slNext_bad {tk : Int} {st : SlSt} {y : SlotM} (h : slBad s tk st y = true) : slNext s tk st y = none := by unfold slNext; rw [h]; rfl
theorem slNext_full {tk : Int} {st : SlSt} {y : SlotM} (h : slFull s st y = true) : slNext s tk st y = none := by unfold slNext; rw [h, Bool.or_true]; rfl
theorem slNext_ok {tk : Int} {st : SlSt} {y : SlotM} (h : slBad s tk st y = false) (g : slFull s st y = false) : slNext s tk st y = some ⟨y, slUsed st y + 1, (slRan st y).set y.task.toNat true⟩ := by unfold slNext; rw [h, g]; rfl
theorem slots_stop {st : SlSt} {y : SlotM} (hk : k < t.slots.length) (h : foldO (slNext s t.ticks) (t.slots.take k) sl0 = some st) (hy : t.slots.getD k default = y) (hn : slNext s t.ticks st y = none) : slotsB s t = false := by
  unfold slotsB; rw [foldO_stop hk h (hy ▸ hn)]; rfl
theorem slots_go {st st' : SlSt} {y : SlotM} (hk : k < t.slots.length) (h : foldO (slNext s t.ticks) (t.slots.take k) sl0 = some st) (hy : t.slots.getD k default = y) (hn : slNext s t.ticks st y = some st') : foldO (slNext s t.ticks) (t.slots.take (k + 1)) sl0 = some st' := by
  rw [foldO_snoc hk h, hy]; exact hn
theorem slots_end {st : SlSt} (hk : ¬ k < t.slots.length) (h : foldO (slNext s t.ticks) (t.slots.take k) sl0 = some st) : slotsB s t = true := by
  unfold slotsB; rw [foldO_end hk h]; rfl
theorem jobs_stop {st : List DoneM} {y : DoneM} (hk : k < t.jobs.length) (h : foldO (jbNext s t.ticks) (t.jobs.take k) jb0 = some st) (hy : t.jobs.getD k default = y) (hn : jbNext s t.ticks st y = none) : jobsB s t = false := by
  unfold jobsB; rw [foldO_stop hk h (hy ▸ hn)]; rfl
theorem jobs_go {st st' : List DoneM} {y : DoneM} (hk : k < t.jobs.length) (h : foldO (jbNext s t.ticks) (t.jobs.take k) jb0 = some st) (hy : t.jobs.getD k default = y) (hn : jbNext s t.ticks st y = some st') : foldO (jbNext s t.ticks) (t.jobs.take (k + 1)) jb0 = some st' := by
  rw [foldO_snoc hk h, hy]; exact hn
theorem jobs_end {st : List DoneM} (hk : ¬ k < t.jobs.length) (h : foldO (jbNext s t.ticks) (t.jobs.take k) jb0 = some st) : jobsB s t = true := by
  unfold jobsB; rw [foldO_end hk h]; rfl
theorem waits_stop {st : List (List Bool)} {y : WaitM} (hk : k < t.waits.length) (h : foldO (wtNext s t.ticks) (t.waits.take k) (wt0 s t.ticks) = some st) (hy : t.waits.getD k default = y) (hn : wtNext s t.ticks st y = none) : waitsB s t = false := by
  unfold waitsB; rw [foldO_stop hk h (hy ▸ hn)]; rfl
theorem waits_go {st st' : List (List Bool)} {y : WaitM} (hk : k < t.waits.length) (h : foldO (wtNext s t.ticks) (t.waits.take k) (wt0 s t.ticks) = some st) (hy : t.waits.getD k default = y) (hn : wtNext s t.ticks st y = some st') : foldO (wtNext s t.ticks) (t.waits.take (k + 1)) (wt0 s t.ticks) = some st' := by
  rw [foldO_snoc hk h, hy]; exact hn
theorem waits_end {st : List (List Bool)} (hk : ¬ k < t.waits.length) (h : foldO (wtNext s t.ticks) (t.waits.take k) (wt0 s t.ticks) = some st) : waitsB s t = true := by
  unfold waitsB; rw [foldO_end hk h]; rfl
end
end Go.Proofs.Ytmchjmgifipfoaa
