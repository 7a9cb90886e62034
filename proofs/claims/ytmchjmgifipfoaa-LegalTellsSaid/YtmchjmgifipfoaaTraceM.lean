/- Traces as plain data, and where they lie in memory. Imports nothing of the dump's functions. -/
import Derived.Test.YtmchjmgifipfoaaSetM
namespace Go.Proofs.Ytmchjmgifipfoaa
open Go.ChangeShapes Go.WideShapes Go.ChangeAt Go.RowKit Go.Deep
set_option linter.unusedVariables false

structure SlotM where
  time : Int
  cl : Int
  task : Int
  held : Bool
deriving DecidableEq
instance : Inhabited SlotM := ⟨⟨0, 0, 0, false⟩⟩
structure DoneM where
  task : Int
  rel : Int
  fin : Int
deriving DecidableEq
instance : Inhabited DoneM := ⟨⟨0, 0, 0⟩⟩
structure WaitM where
  task : Int
  part : Int
  ask : Int
  got : Int
  fin : Int
deriving DecidableEq
instance : Inhabited WaitM := ⟨⟨0, 0, 0, 0, 0⟩⟩
structure TraceR where
  ticks : Int
  sa : Option Addr
  sc : Nat
  slots : List SlotM
  ja : Option Addr
  jc : Nat
  jobs : List DoneM
  wa : Option Addr
  wc : Nat
  waits : List WaitM
def SlotM.wf (x : SlotM) : Prop := I64 x.time ∧ I64 x.cl ∧ I64 x.task
def DoneM.wf (x : DoneM) : Prop := I64 x.task ∧ I64 x.rel ∧ I64 x.fin
def WaitM.wf (x : WaitM) : Prop := I64 x.task ∧ I64 x.part ∧ I64 x.ask ∧ I64 x.got ∧ I64 x.fin

def SlotCells (w : World) (b off : Nat) (x : SlotM) : Prop :=
  w.cell? ⟨b, off, none⟩ = some (.int .i64 x.time) ∧ w.cell? ⟨b, off + 1, none⟩ = some (.int .i64 x.cl) ∧ w.cell? ⟨b, off + 2, none⟩ = some (.int .i64 x.task) ∧ w.cell? ⟨b, off + 3, none⟩ = some (.bool x.held)
def DoneCells (w : World) (b off : Nat) (x : DoneM) : Prop :=
  w.cell? ⟨b, off, none⟩ = some (.int .i64 x.task) ∧ w.cell? ⟨b, off + 1, none⟩ = some (.int .i64 x.rel) ∧ w.cell? ⟨b, off + 2, none⟩ = some (.int .i64 x.fin)
def WaitCells (w : World) (b off : Nat) (x : WaitM) : Prop :=
  w.cell? ⟨b, off, none⟩ = some (.int .i64 x.task) ∧ w.cell? ⟨b, off + 1, none⟩ = some (.int .i64 x.part) ∧ w.cell? ⟨b, off + 2, none⟩ = some (.int .i64 x.ask) ∧ w.cell? ⟨b, off + 3, none⟩ = some (.int .i64 x.got) ∧ w.cell? ⟨b, off + 4, none⟩ = some (.int .i64 x.fin)
def SlotsAt (w : World) (a : Option Addr) (xs : List SlotM) : Prop :=
  xs = [] ∨ ∃ b off, a = some ⟨b, off, none⟩ ∧ ∀ i, i < xs.length → SlotCells w b (off + i * 4) (xs.getD i default)
def DonesAt (w : World) (a : Option Addr) (xs : List DoneM) : Prop :=
  xs = [] ∨ ∃ b off, a = some ⟨b, off, none⟩ ∧ ∀ i, i < xs.length → DoneCells w b (off + i * 3) (xs.getD i default)
def WaitsAt (w : World) (a : Option Addr) (xs : List WaitM) : Prop :=
  xs = [] ∨ ∃ b off, a = some ⟨b, off, none⟩ ∧ ∀ i, i < xs.length → WaitCells w b (off + i * 5) (xs.getD i default)
structure TraceOk (w : World) (t : TraceR) : Prop where
  ticks : I64 t.ticks
  ssl : SlOk t.sa t.slots.length t.sc
  slots : SlotsAt w t.sa t.slots
  swf : ∀ x ∈ t.slots, x.wf
  jsl : SlOk t.ja t.jobs.length t.jc
  jobs : DonesAt w t.ja t.jobs
  jwf : ∀ x ∈ t.jobs, x.wf
  wsl : SlOk t.wa t.waits.length t.wc
  waits : WaitsAt w t.wa t.waits
  wwf : ∀ x ∈ t.waits, x.wf

section
variable {w w' : World}
theorem SlotCells.keep {b off : Nat} {x : SlotM} (h : SlotCells w b off x) (k : Keeps w w') : SlotCells w' b off x := ⟨k _ _ h.1, k _ _ h.2.1, k _ _ h.2.2.1, k _ _ h.2.2.2⟩
theorem DoneCells.keep {b off : Nat} {x : DoneM} (h : DoneCells w b off x) (k : Keeps w w') : DoneCells w' b off x := ⟨k _ _ h.1, k _ _ h.2.1, k _ _ h.2.2⟩
theorem WaitCells.keep {b off : Nat} {x : WaitM} (h : WaitCells w b off x) (k : Keeps w w') : WaitCells w' b off x := ⟨k _ _ h.1, k _ _ h.2.1, k _ _ h.2.2.1, k _ _ h.2.2.2.1, k _ _ h.2.2.2.2⟩
theorem SlotsAt.keep {a : Option Addr} {xs : List SlotM} (h : SlotsAt w a xs) (k : Keeps w w') : SlotsAt w' a xs := by
  rcases h with h | ⟨b, off, e, h⟩
  · exact .inl h
  · exact .inr ⟨b, off, e, fun i hi => (h i hi).keep k⟩
theorem DonesAt.keep {a : Option Addr} {xs : List DoneM} (h : DonesAt w a xs) (k : Keeps w w') : DonesAt w' a xs := by
  rcases h with h | ⟨b, off, e, h⟩
  · exact .inl h
  · exact .inr ⟨b, off, e, fun i hi => (h i hi).keep k⟩
theorem WaitsAt.keep {a : Option Addr} {xs : List WaitM} (h : WaitsAt w a xs) (k : Keeps w w') : WaitsAt w' a xs := by
  rcases h with h | ⟨b, off, e, h⟩
  · exact .inl h
  · exact .inr ⟨b, off, e, fun i hi => (h i hi).keep k⟩
theorem TraceOk.keep {t : TraceR} (h : TraceOk w t) (k : Keeps w w') : TraceOk w' t := { h with slots := h.slots.keep k, jobs := h.jobs.keep k, waits := h.waits.keep k }
end

/-- the part that a wait names, if there is one -/
def prtAt (s : SetR) (x : WaitM) : PartM := (s.tasks.getD x.task.toNat default).parts.getD x.part.toNat default
def inS (s : SetR) (x : WaitM) : Bool := decide (0 ≤ x.task ∧ x.task < s.tasks.length ∧ 0 ≤ x.part ∧ x.part < (s.tasks.getD x.task.toNat default).parts.length)
/-- the resource that a wait is for; whether it is for one -/
def resI (s : SetR) (x : WaitM) : Int := if inS s x then (prtAt s x).res else 0
def resL (s : SetR) (x : WaitM) : Bool := inS s x && decide ((prtAt s x).kind = 3)
theorem inS_true {s : SetR} {x : WaitM} (h0 : 0 ≤ x.task) (h1 : x.task < s.tasks.length) (h2 : 0 ≤ x.part) (h3 : x.part < (s.tasks.getD x.task.toNat default).parts.length) : inS s x = true := decide_eq_true ⟨h0, h1, h2, h3⟩
theorem inS_false {s : SetR} {x : WaitM} (h : ¬ (0 ≤ x.task ∧ x.task < s.tasks.length ∧ 0 ≤ x.part ∧ x.part < (s.tasks.getD x.task.toNat default).parts.length)) : inS s x = false := decide_eq_false h
theorem res_no {s : SetR} {x : WaitM} (h : inS s x = false) : resI s x = 0 ∧ resL s x = false := by unfold resI resL; rw [h]; exact ⟨rfl, rfl⟩
theorem res_yes {s : SetR} {x : WaitM} (h : inS s x = true) : resI s x = (prtAt s x).res ∧ resL s x = decide ((prtAt s x).kind = 3) := by unfold resI resL; rw [h]; exact ⟨rfl, by simp⟩
/-! ### boxes -/
structure WaitBox (w : World) (b : Nat) (x : WaitM) : Prop where
  c0 : w.cell? ⟨b, 0, none⟩ = some (.int .i64 x.task)
  c1 : w.cell? ⟨b, 1, none⟩ = some (.int .i64 x.part)
  c2 : w.cell? ⟨b, 2, none⟩ = some (.int .i64 x.ask)
  c3 : w.cell? ⟨b, 3, none⟩ = some (.int .i64 x.got)
  c4 : w.cell? ⟨b, 4, none⟩ = some (.int .i64 x.fin)
theorem WaitBox.new (w : World) (x : WaitM) (t : TypeId) : WaitBox (w.alloc (.cells #[.int .i64 x.task, .int .i64 x.part, .int .i64 x.ask, .int .i64 x.got, .int .i64 x.fin] t)) w.heap.size x := ⟨by simp, by simp, by simp, by simp, by simp⟩
theorem WaitBox.keep {w w' : World} {b : Nat} {x : WaitM} (h : WaitBox w b x) (k : Keeps w w') : WaitBox w' b x := ⟨k _ _ h.c0, k _ _ h.c1, k _ _ h.c2, k _ _ h.c3, k _ _ h.c4⟩
structure TraceBox (w : World) (b : Nat) (t : TraceR) : Prop where
  c0 : w.cell? ⟨b, 0, none⟩ = some (.int .i64 t.ticks)
  c1 : w.cell? ⟨b, 1, none⟩ = some (.slice t.sa t.slots.length t.sc)
  c2 : w.cell? ⟨b, 2, none⟩ = some (.slice t.ja t.jobs.length t.jc)
  c3 : w.cell? ⟨b, 3, none⟩ = some (.slice t.wa t.waits.length t.wc)
theorem TraceBox.new (w : World) (x : TraceR) (t : TypeId) : TraceBox (w.alloc (.cells #[.int .i64 x.ticks, .slice x.sa x.slots.length x.sc, .slice x.ja x.jobs.length x.jc, .slice x.wa x.waits.length x.wc] t)) w.heap.size x := ⟨by simp, by simp, by simp, by simp⟩
theorem TraceBox.keep {w w' : World} {b : Nat} {x : TraceR} (h : TraceBox w b x) (k : Keeps w w') : TraceBox w' b x := ⟨k _ _ h.c0, k _ _ h.c1, k _ _ h.c2, k _ _ h.c3⟩
structure DoneBox (w : World) (b : Nat) (x : DoneM) : Prop where
  c0 : w.cell? ⟨b, 0, none⟩ = some (.int .i64 x.task)
  c1 : w.cell? ⟨b, 1, none⟩ = some (.int .i64 x.rel)
  c2 : w.cell? ⟨b, 2, none⟩ = some (.int .i64 x.fin)
theorem DoneBox.new (w : World) (x : DoneM) (t : TypeId) : DoneBox (w.alloc (.cells #[.int .i64 x.task, .int .i64 x.rel, .int .i64 x.fin] t)) w.heap.size x := ⟨by simp, by simp, by simp⟩
theorem DoneBox.keep {w w' : World} {b : Nat} {x : DoneM} (h : DoneBox w b x) (k : Keeps w w') : DoneBox w' b x := ⟨k _ _ h.c0, k _ _ h.c1, k _ _ h.c2⟩

/-! ### what was waited for -/
def passB (s : SetR) (w x : WaitM) : Bool := resL s x && decide (resI s x = resI s w) && decide (x.task ≠ w.task) && (decide (w.ask ≤ x.got ∧ x.got < w.got) || decide (x.got < w.ask ∧ w.ask < x.fin))
def passN (s : SetR) (w : WaitM) (xs : List WaitM) : Nat := (xs.filter (passB s w)).length
theorem passN_snoc (s : SetR) (w : WaitM) (xs : List WaitM) {k : Nat} (hk : k < xs.length) : passN s w (xs.take (k + 1)) = passN s w (xs.take k) + if passB s w (xs.getD k default) then 1 else 0 := by
  unfold passN
  rw [List.take_succ_eq_append_getElem hk, List.filter_append, List.length_append]
  congr 1
  simp only [List.getD_eq_getElem?_getD, List.getElem?_eq_getElem hk, Option.getD_some]
  by_cases h : passB s w xs[k] = true
  · simp [h]
  · simp [h]
theorem passN_le (s : SetR) (w : WaitM) (xs : List WaitM) : passN s w xs ≤ xs.length := List.length_filter_le _ _
theorem passB_no1 {s : SetR} {w x : WaitM} (h : resL s x = false) : passB s w x = false := by unfold passB; rw [h]; simp
theorem passB_no2 {s : SetR} {w x : WaitM} (h : resI s x ≠ resI s w) : passB s w x = false := by unfold passB; simp [h]
theorem passB_no3 {s : SetR} {w x : WaitM} (h : x.task = w.task) : passB s w x = false := by unfold passB; simp [h]
theorem passB_yes {s : SetR} {w x : WaitM} (h : resL s x = true) (h1 : resI s x = resI s w) (h2 : x.task ≠ w.task) : passB s w x = (decide (w.ask ≤ x.got ∧ x.got < w.got) || decide (x.got < w.ask ∧ w.ask < x.fin)) := by unfold passB; simp [h, h1, h2]
end Go.Proofs.Ytmchjmgifipfoaa
