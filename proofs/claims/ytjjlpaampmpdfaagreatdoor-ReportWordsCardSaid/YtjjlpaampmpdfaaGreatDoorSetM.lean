/- Sets of tasks as plain data, where they lie in memory, and what a set that came in reads as. Plain laws over any program. Imports nothing of the dump's functions. -/
import Derived.Test.YtjjlpaampmpdfaaGreatDoorRows2
import Derived.Deep.Slices
import Derived.Deep.Fields
import Derived.ChangeArms
import Derived.ChangeSame
namespace Go.Proofs.YtjjlpaampmpdfaaGreatDoor
open Go.ChangeShapes Go.WideShapes Go.ChangeAt Go.RowKit Go.Deep
set_option linter.unusedVariables false

structure PartM where
  kind : Int
  len : Int
  res : Int
deriving DecidableEq
instance : Inhabited PartM := ⟨⟨0, 0, 0⟩⟩
/-- a task: pa, pc: where its parts lie -/
structure TaskR where
  name : ByteArray
  per : Int
  dl : Int
  prio : Int
  cl : Int
  pa : Option Addr
  pc : Nat
  parts : List PartM
instance : Inhabited TaskR := ⟨⟨ByteArray.empty, 0, 0, 0, 0, none, 0, []⟩⟩
structure SetR where
  proto : Int
  ca : Option Addr
  cc : Nat
  cores : List Int
  ha : Option Addr
  hc : Nat
  homes : List Int
  ta : Option Addr
  tc : Nat
  tasks : List TaskR

def TaskR.val (t : TaskR) : Value := .agg #[.string t.name, .int .i64 t.per, .int .i64 t.dl, .int .i64 t.prio, .int .i64 t.cl, .slice t.pa t.parts.length t.pc]
def SetR.val (s : SetR) : Value := .agg #[.int .i64 s.proto, .slice s.ca s.cores.length s.cc, .slice s.ha s.homes.length s.hc, .slice s.ta s.tasks.length s.tc]

/-- a slice's three numbers are sound -/
def SlOk (a : Option Addr) (len cap : Nat) : Prop := (a = none → len = 0 ∧ cap = 0) ∧ len ≤ cap ∧ cap ≤ maxLen

/-- at b, off lie the three cells of a part -/
def PartCells (w : World) (b off : Nat) (p : PartM) : Prop :=
  w.cell? ⟨b, off, none⟩ = some (.int .i64 p.kind) ∧ w.cell? ⟨b, off + 1, none⟩ = some (.int .i64 p.len) ∧ w.cell? ⟨b, off + 2, none⟩ = some (.int .i64 p.res)
def PartsAt (w : World) (a : Option Addr) (ps : List PartM) : Prop :=
  ps = [] ∨ ∃ b off, a = some ⟨b, off, none⟩ ∧ ∀ i, i < ps.length → PartCells w b (off + i * 3) (ps.getD i default)
/-- at b, off lie the six cells of a task -/
def TaskCells (w : World) (b off : Nat) (t : TaskR) : Prop :=
  w.cell? ⟨b, off, none⟩ = some (.string t.name) ∧ w.cell? ⟨b, off + 1, none⟩ = some (.int .i64 t.per) ∧ w.cell? ⟨b, off + 2, none⟩ = some (.int .i64 t.dl) ∧
  w.cell? ⟨b, off + 3, none⟩ = some (.int .i64 t.prio) ∧ w.cell? ⟨b, off + 4, none⟩ = some (.int .i64 t.cl) ∧ w.cell? ⟨b, off + 5, none⟩ = some (.slice t.pa t.parts.length t.pc)
def TasksAt (w : World) (a : Option Addr) (ts : List TaskR) : Prop :=
  ts = [] ∨ ∃ b off, a = some ⟨b, off, none⟩ ∧ ∀ i, i < ts.length → TaskCells w b (off + i * 6) (ts.getD i default)

def PartM.wf (p : PartM) : Prop := I64 p.kind ∧ I64 p.len ∧ I64 p.res
/-- a task's own numbers fit; its parts lie where it says -/
structure TaskOk (w : World) (t : TaskR) : Prop where
  name : t.name.size ≤ maxLen
  per : I64 t.per
  dl : I64 t.dl
  prio : I64 t.prio
  cl : I64 t.cl
  sl : SlOk t.pa t.parts.length t.pc
  at_ : PartsAt w t.pa t.parts
  wf : ∀ p ∈ t.parts, p.wf
structure TasksOk (w : World) (a : Option Addr) (c : Nat) (ts : List TaskR) : Prop where
  sl : SlOk a ts.length c
  at_ : TasksAt w a ts
  ok : ∀ t ∈ ts, TaskOk w t
structure IntsOk (w : World) (a : Option Addr) (c : Nat) (zs : List Int) : Prop where
  sl : SlOk a zs.length c
  at_ : Row w .i64 a zs
  wf : ∀ n ∈ zs, I64 n
structure SetOk (w : World) (s : SetR) : Prop where
  proto : I64 s.proto
  cores : IntsOk w s.ca s.cc s.cores
  homes : IntsOk w s.ha s.hc s.homes
  tasks : TasksOk w s.ta s.tc s.tasks

section
variable {w w' : World}
/-- nothing that was there reads otherwise -/
def Keeps (w w' : World) : Prop := ∀ p v, w.cell? p = some v → w'.cell? p = some v
theorem Keeps.refl (w : World) : Keeps w w := fun _ _ h => h
theorem Keeps.trans {w2 : World} (h : Keeps w w') (k : Keeps w' w2) : Keeps w w2 := fun p v hv => k p v (h p v hv)
theorem Keeps.of_below (h : Below w.heap.size w w') : Keeps w w' := fun p v hv => by rw [h.cell (cell_lt hv)]; exact hv
theorem Keeps.of_qt (h : Qt w w') : Keeps w w' := fun p v hv => h.cell hv
theorem Keeps.alloc (w : World) (o : Obj) : Keeps w (w.alloc o) := .of_below ((Below.refl _ _).alloc (Nat.le_refl _) o)
theorem Keeps.drewN (w : World) (n : Nat) : Keeps w (w.drewN n) := fun _ _ h => h
theorem Keeps.drew (w : World) : Keeps w w.drew := fun _ _ h => h
theorem PartCells.keep {b off : Nat} {p : PartM} (h : PartCells w b off p) (k : Keeps w w') : PartCells w' b off p := ⟨k _ _ h.1, k _ _ h.2.1, k _ _ h.2.2⟩
theorem PartsAt.keep {a : Option Addr} {ps : List PartM} (h : PartsAt w a ps) (k : Keeps w w') : PartsAt w' a ps := by
  rcases h with h | ⟨b, off, e, h⟩
  · exact .inl h
  · exact .inr ⟨b, off, e, fun i hi => (h i hi).keep k⟩
theorem TaskCells.keep {b off : Nat} {t : TaskR} (h : TaskCells w b off t) (k : Keeps w w') : TaskCells w' b off t :=
  ⟨k _ _ h.1, k _ _ h.2.1, k _ _ h.2.2.1, k _ _ h.2.2.2.1, k _ _ h.2.2.2.2.1, k _ _ h.2.2.2.2.2⟩
theorem TasksAt.keep {a : Option Addr} {ts : List TaskR} (h : TasksAt w a ts) (k : Keeps w w') : TasksAt w' a ts := by
  rcases h with h | ⟨b, off, e, h⟩
  · exact .inl h
  · exact .inr ⟨b, off, e, fun i hi => (h i hi).keep k⟩
theorem TaskOk.keep {t : TaskR} (h : TaskOk w t) (k : Keeps w w') : TaskOk w' t := { h with at_ := h.at_.keep k }
theorem TasksOk.keep {a : Option Addr} {c : Nat} {ts : List TaskR} (h : TasksOk w a c ts) (k : Keeps w w') : TasksOk w' a c ts :=
  { h with at_ := h.at_.keep k, ok := fun t ht => (h.ok t ht).keep k }
theorem IntsOk.keep {a : Option Addr} {c : Nat} {zs : List Int} (h : IntsOk w a c zs) (k : Keeps w w') : IntsOk w' a c zs := { h with at_ := h.at_.mono k }
theorem SetOk.keep {s : SetR} (h : SetOk w s) (k : Keeps w w') : SetOk w' s :=
  ⟨h.proto, h.cores.keep k, h.homes.keep k, h.tasks.keep k⟩
end

/-! ### What came in -/
section
variable {H : Type} {enc : TypeId × Value → H} {P : Program} {w : World}
/-- one field of a struct of one-cell fields -/
theorem field_of {fs : Array Field} {t : TypeId} {fuel : Nat} {cs : List Value} {x : DataW H × List MemPlace} (ht : P.underlying t = some (.struct fs)) (hone : oneCellFields P fs = true) (hC : P.cellsOf t = fs.size)
    (h : DataW.trod enc P w 0 (fun _ => true) true fuel t cs = some x) : cs.length = fs.size ∧ ∀ (j : Nat) (f : Field), fs[j]? = some f → ∃ v y n, cs[j]? = some v ∧ DataW.trod enc P w 0 (fun _ => true) true n f.type [v] = some y := by
  obtain ⟨xs, n, _, _, hl, hx, hf⟩ := DataW.trod_struct ht h
  rw [hC] at hl
  refine ⟨hl, fun j f hj => ?_⟩
  obtain ⟨ho, hk⟩ := hone_of hone j f hj
  have hjl : j < fs.size := (Array.getElem?_eq_some_iff.1 hj).1
  have h1 := hf j f hj
  rw [ho, hk, take1_drop cs j (.bool false) (by omega), List.getElem?_eq_getElem (by omega)] at h1
  exact ⟨_, _, n, by simp [List.getD, List.getElem?_eq_getElem (show j < cs.length by omega)], h1⟩
theorem int_field {k : IntKind} {t : TypeId} {n : Nat} {v : Value} {y : DataW H × List MemPlace} (u : P.underlying t = some (.int k)) (h : DataW.trod enc P w 0 (fun _ => true) true n t [v] = some y) : ∃ z, v = .int k z ∧ (Lit.int k z).wf = true := by
  obtain ⟨z, e, _, hz⟩ := DataW.trod_int u h
  exact ⟨z, by injection e, hz⟩
/-- a slice of structs, every element by its cells -/
theorem slice_of {t e : TypeId} {k fuel : Nat} {cs : List Value} {x : DataW H × List MemPlace} (ht : P.underlying t = some (.slice e)) (hC : P.cellsOf e = k) (hk : 0 < k) (h : DataW.trod enc P w 0 (fun _ => true) true fuel t cs = some x) :
    ∃ a len cap, cs = [.slice a len cap] ∧ SlOk a len cap ∧ (len = 0 ∨ ∃ b off, a = some ⟨b, off, none⟩ ∧ ∀ i, i < len → ∃ cs' x' n, cs'.length = k ∧ (∀ j, j < k → w.cell? ⟨b, off + i * k + j, none⟩ = cs'[j]?) ∧ DataW.trod enc P w 0 (fun _ => true) true n e cs' = some x') := by
  rcases open_slice ht h with ⟨rfl, _⟩ | ⟨a, len, cap, m, n, D, Pl, rfl, _, hl, hm, hmm, _, hi⟩
  · exact ⟨none, 0, 0, rfl, ⟨fun _ => ⟨rfl, rfl⟩, Nat.le_refl _, Nat.zero_le _⟩, .inl rfl⟩
  · refine ⟨some a, len, cap, rfl, ⟨(fun e => by cases e), hl, hm⟩, ?_⟩
    have hlm : len ≤ m := by rw [hmm]; simpa using hl
    by_cases h0 : len = 0
    · exact .inl h0
    · right
      obtain ⟨b, off, spot⟩ := a
      obtain ⟨c0, hc0, _⟩ := hi 0 (by omega)
      obtain ⟨_, l0, g0⟩ := World.cells?_some hc0
      rw [hC] at l0 g0
      have hs : spot = none := by
        have := g0 0 hk
        rw [List.getElem?_eq_getElem (by omega)] at this
        simpa [Addr.add] using World.cell?_spot this
      subst hs
      refine ⟨b, off, rfl, fun i hlt => ?_⟩
      obtain ⟨c1, hc1, t1⟩ := hi i (by omega)
      obtain ⟨_, l1, g1⟩ := World.cells?_some hc1
      rw [hC] at l1 g1
      refine ⟨c1, _, n, l1, fun j hj => ?_, t1⟩
      have := g1 j hj
      simpa [Addr.add_lit, Nat.add_assoc] using this

/-- the types of a set, as the dump has them -/
structure SetTypes (P : Program) (ints part parts task tasks set : TypeId) : Prop where
  tyInts : ∃ e, P.underlying ints = some (.slice e) ∧ P.underlying e = some (.int .i64) ∧ P.cellsOf e = 1
  tyParts : P.underlying parts = some (.slice part)
  tyPart : ∃ f0 f1 f2, P.underlying part = some (.struct #[f0, f1, f2]) ∧ oneCellFields P #[f0, f1, f2] = true ∧ P.cellsOf part = 3 ∧
    P.underlying f0.type = some (.int .i64) ∧ P.underlying f1.type = some (.int .i64) ∧ P.underlying f2.type = some (.int .i64)
  tyTasks : P.underlying tasks = some (.slice task)
  tyTask : ∃ f0 f1 f2 f3 f4 f5, P.underlying task = some (.struct #[f0, f1, f2, f3, f4, f5]) ∧ oneCellFields P #[f0, f1, f2, f3, f4, f5] = true ∧ P.cellsOf task = 6 ∧
    P.underlying f0.type = some .string ∧ P.underlying f1.type = some (.int .i64) ∧ P.underlying f2.type = some (.int .i64) ∧ P.underlying f3.type = some (.int .i64) ∧ P.underlying f4.type = some (.int .i64) ∧ f5.type = parts
  tySet : ∃ f0 f1 f2 f3, P.underlying set = some (.struct #[f0, f1, f2, f3]) ∧ oneCellFields P #[f0, f1, f2, f3] = true ∧ P.cellsOf set = 4 ∧
    P.underlying f0.type = some (.int .i64) ∧ f1.type = ints ∧ f2.type = ints ∧ f3.type = tasks

variable {ints part parts task tasks set : TypeId}
theorem SetTypes.open_part (T : SetTypes P ints part parts task tasks set) {fuel : Nat} {cs : List Value} {x : DataW H × List MemPlace} (h : DataW.trod enc P w 0 (fun _ => true) true fuel part cs = some x) :
    ∃ p : PartM, p.wf ∧ cs = [.int .i64 p.kind, .int .i64 p.len, .int .i64 p.res] := by
  obtain ⟨f0, f1, f2, he, hone, hC, u0, u1, u2⟩ := T.tyPart
  obtain ⟨hl, hf⟩ := field_of he hone hC h
  obtain ⟨v0, _, _, e0, t0⟩ := hf 0 f0 rfl
  obtain ⟨v1, _, _, e1, t1⟩ := hf 1 f1 rfl
  obtain ⟨v2, _, _, e2, t2⟩ := hf 2 f2 rfl
  obtain ⟨z0, rfl, g0⟩ := int_field u0 t0
  obtain ⟨z1, rfl, g1⟩ := int_field u1 t1
  obtain ⟨z2, rfl, g2⟩ := int_field u2 t2
  refine ⟨⟨z0, z1, z2⟩, ⟨i64_of g0, i64_of g1, i64_of g2⟩, ?_⟩
  match cs, hl with
  | [a, b, c], _ => simp at e0 e1 e2; simp [e0, e1, e2]
theorem SetTypes.open_parts (T : SetTypes P ints part parts task tasks set) {fuel : Nat} {cs : List Value} {x : DataW H × List MemPlace} (h : DataW.trod enc P w 0 (fun _ => true) true fuel parts cs = some x) :
    ∃ a cap ps, cs = [.slice a ps.length cap] ∧ SlOk a ps.length cap ∧ PartsAt w a ps ∧ ∀ p ∈ ps, PartM.wf p := by
  obtain ⟨f0, f1, f2, he, hone, hC, u0, u1, u2⟩ := T.tyPart
  obtain ⟨a, len, cap, rfl, hs, hi⟩ := slice_of T.tyParts hC (by omega) h
  rcases hi with rfl | ⟨b, off, rfl, hi⟩
  · exact ⟨a, cap, [], rfl, hs, .inl rfl, by simp⟩
  · have hp : ∀ i, i < len → ∃ p : PartM, p.wf ∧ PartCells w b (off + i * 3) p := fun i hlt => by
      obtain ⟨cs', x', n, hl, hc, ht⟩ := hi i hlt
      obtain ⟨p, hw, rfl⟩ := T.open_part ht
      exact ⟨p, hw, hc 0 (by omega), hc 1 (by omega), hc 2 (by omega)⟩
    obtain ⟨f, hf⟩ := choose_lt hp
    have hl : ((List.range len).map f).length = len := by simp
    refine ⟨_, cap, (List.range len).map f, by rw [hl], by rw [hl]; exact hs, .inr ⟨b, off, rfl, fun i hlt => ?_⟩, fun p hp => ?_⟩
    · rw [hl] at hlt
      have := (hf i hlt).2
      simpa [List.getD, hlt] using this
    · obtain ⟨i, hlt, rfl⟩ := List.mem_map.1 hp
      exact (hf i (by simpa using hlt)).1
theorem SetTypes.open_task (T : SetTypes P ints part parts task tasks set) {fuel : Nat} {cs : List Value} {x : DataW H × List MemPlace} (h : DataW.trod enc P w 0 (fun _ => true) true fuel task cs = some x) :
    ∃ t : TaskR, TaskOk w t ∧ cs = [.string t.name, .int .i64 t.per, .int .i64 t.dl, .int .i64 t.prio, .int .i64 t.cl, .slice t.pa t.parts.length t.pc] := by
  obtain ⟨f0, f1, f2, f3, f4, f5, he, hone, hC, u0, u1, u2, u3, u4, u5⟩ := T.tyTask
  obtain ⟨hl, hf⟩ := field_of he hone hC h
  obtain ⟨v0, _, _, e0, t0⟩ := hf 0 f0 rfl
  obtain ⟨v1, _, _, e1, t1⟩ := hf 1 f1 rfl
  obtain ⟨v2, _, _, e2, t2⟩ := hf 2 f2 rfl
  obtain ⟨v3, _, _, e3, t3⟩ := hf 3 f3 rfl
  obtain ⟨v4, _, _, e4, t4⟩ := hf 4 f4 rfl
  obtain ⟨v5, _, _, e5, t5⟩ := hf 5 f5 rfl
  obtain ⟨s, es, _, gs⟩ := DataW.trod_string u0 t0
  obtain rfl : v0 = .string s := by injection es
  obtain ⟨z1, rfl, g1⟩ := int_field u1 t1
  obtain ⟨z2, rfl, g2⟩ := int_field u2 t2
  obtain ⟨z3, rfl, g3⟩ := int_field u3 t3
  obtain ⟨z4, rfl, g4⟩ := int_field u4 t4
  rw [u5] at t5
  obtain ⟨a, cap, ps, ep, hs, hp, hw⟩ := T.open_parts t5
  obtain rfl : v5 = .slice a ps.length cap := by injection ep
  refine ⟨⟨s, z1, z2, z3, z4, a, cap, ps⟩, ⟨gs, i64_of g1, i64_of g2, i64_of g3, i64_of g4, hs, hp, hw⟩, ?_⟩
  match cs, hl with
  | [a, b, c, d, e, f], _ => simp at e0 e1 e2 e3 e4 e5; simp [e0, e1, e2, e3, e4, e5]
theorem SetTypes.open_tasks (T : SetTypes P ints part parts task tasks set) {fuel : Nat} {cs : List Value} {x : DataW H × List MemPlace} (h : DataW.trod enc P w 0 (fun _ => true) true fuel tasks cs = some x) :
    ∃ a cap ts, cs = [.slice a ts.length cap] ∧ TasksOk w a cap ts := by
  obtain ⟨f0, f1, f2, f3, f4, f5, he, hone, hC, _⟩ := T.tyTask
  obtain ⟨a, len, cap, rfl, hs, hi⟩ := slice_of T.tyTasks hC (by omega) h
  rcases hi with rfl | ⟨b, off, rfl, hi⟩
  · exact ⟨a, cap, [], rfl, ⟨hs, .inl rfl, by simp⟩⟩
  · have hp : ∀ i, i < len → ∃ t : TaskR, TaskOk w t ∧ TaskCells w b (off + i * 6) t := fun i hlt => by
      obtain ⟨cs', x', n, hl, hc, ht⟩ := hi i hlt
      obtain ⟨t, hw, rfl⟩ := T.open_task ht
      exact ⟨t, hw, hc 0 (by omega), hc 1 (by omega), hc 2 (by omega), hc 3 (by omega), hc 4 (by omega), hc 5 (by omega)⟩
    obtain ⟨f, hf⟩ := choose_lt hp
    have hl : ((List.range len).map f).length = len := by simp
    refine ⟨_, cap, (List.range len).map f, by rw [hl], ⟨by rw [hl]; exact hs, .inr ⟨b, off, rfl, fun i hlt => ?_⟩, fun p hp => ?_⟩⟩
    · rw [hl] at hlt
      have := (hf i hlt).2
      simpa [List.getD, hlt] using this
    · obtain ⟨i, hlt, rfl⟩ := List.mem_map.1 hp
      exact (hf i (by simpa using hlt)).1
theorem SetTypes.open_ints (T : SetTypes P ints part parts task tasks set) {fuel : Nat} {cs : List Value} {x : DataW H × List MemPlace} (h : DataW.trod enc P w 0 (fun _ => true) true fuel ints cs = some x) :
    ∃ a cap zs, cs = [.slice a zs.length cap] ∧ IntsOk w a cap zs := by
  obtain ⟨e, hi0, he, hC⟩ := T.tyInts
  obtain ⟨a, len, cap, rfl, hs, hi⟩ := slice_of hi0 hC (by omega) h
  rcases hi with rfl | ⟨b, off, rfl, hi⟩
  · exact ⟨a, cap, [], rfl, ⟨hs, .inl rfl, by simp⟩⟩
  · have hp : ∀ i, i < len → ∃ z : Int, I64 z ∧ w.cell? ⟨b, off + i, none⟩ = some (.int .i64 z) := fun i hlt => by
      obtain ⟨cs', x', n, hl, hc, ht⟩ := hi i hlt
      match cs', hl with
      | [v], _ =>
        obtain ⟨z, rfl, g⟩ := int_field he ht
        have := hc 0 (by omega)
        exact ⟨z, i64_of g, by simpa using this⟩
    obtain ⟨f, hf⟩ := choose_lt hp
    have hl : ((List.range len).map f).length = len := by simp
    refine ⟨_, cap, (List.range len).map f, by rw [hl], ⟨by rw [hl]; exact hs, .inr ⟨b, off, rfl, fun i hlt => ?_⟩, fun p hp => ?_⟩⟩
    · rw [hl] at hlt
      have := (hf i hlt).2
      simpa [List.getD, hlt] using this
    · obtain ⟨i, hlt, rfl⟩ := List.mem_map.1 hp
      exact (hf i (by simpa using hlt)).1
theorem SetTypes.open_set (T : SetTypes P ints part parts task tasks set) {fuel : Nat} {cs : List Value} {x : DataW H × List MemPlace} (h : DataW.trod enc P w 0 (fun _ => true) true fuel set cs = some x) :
    ∃ s : SetR, SetOk w s ∧ cs = [.int .i64 s.proto, .slice s.ca s.cores.length s.cc, .slice s.ha s.homes.length s.hc, .slice s.ta s.tasks.length s.tc] := by
  obtain ⟨f0, f1, f2, f3, he, hone, hC, u0, u1, u2, u3⟩ := T.tySet
  obtain ⟨hl, hf⟩ := field_of he hone hC h
  obtain ⟨v0, _, _, e0, t0⟩ := hf 0 f0 rfl
  obtain ⟨v1, _, _, e1, t1⟩ := hf 1 f1 rfl
  obtain ⟨v2, _, _, e2, t2⟩ := hf 2 f2 rfl
  obtain ⟨v3, _, _, e3, t3⟩ := hf 3 f3 rfl
  obtain ⟨z0, rfl, g0⟩ := int_field u0 t0
  rw [u1] at t1
  rw [u2] at t2
  rw [u3] at t3
  obtain ⟨a1, c1, zs1, x1, h1⟩ := T.open_ints t1
  obtain rfl : v1 = .slice a1 zs1.length c1 := by injection x1
  obtain ⟨a2, c2, zs2, x2, h2⟩ := T.open_ints t2
  obtain rfl : v2 = .slice a2 zs2.length c2 := by injection x2
  obtain ⟨a3, c3, ts, x3, h3⟩ := T.open_tasks t3
  obtain rfl : v3 = .slice a3 ts.length c3 := by injection x3
  refine ⟨⟨z0, a1, c1, zs1, a2, c2, zs2, a3, c3, ts⟩, ⟨i64_of g0, h1, h2, h3⟩, ?_⟩
  match cs, hl with
  | [a, b, c, d], _ => simp at e0 e1 e2 e3; simp [e0, e1, e2, e3]
/-- a set as an argument -/
theorem SetTypes.arg_set (T : SetTypes P ints part parts task tasks set) {r : Reach} {b0 : Nat} {v : Value} {d : DataW H} {ps : List MemPlace} (hv : Value.okWide P w r b0 set v) (h : DataW.Trod enc P w 0 (fun _ => true) true set v d ps) :
    ∃ s : SetR, SetOk w s ∧ v = s.val := by
  obtain ⟨f0, f1, f2, f3, he, _⟩ := T.tySet
  obtain ⟨cs, rfl, _⟩ := okWide_struct he hv
  obtain ⟨fuel, hf⟩ := h
  obtain ⟨s, hs, e⟩ := T.open_set hf
  obtain ⟨l⟩ := cs
  refine ⟨s, hs, ?_⟩
  simp [Value.cells] at e
  rw [e]; rfl
/-- a task as an argument -/
theorem SetTypes.arg_task (T : SetTypes P ints part parts task tasks set) {r : Reach} {b0 : Nat} {v : Value} {d : DataW H} {ps : List MemPlace} (hv : Value.okWide P w r b0 task v) (h : DataW.Trod enc P w 0 (fun _ => true) true task v d ps) :
    ∃ t : TaskR, TaskOk w t ∧ v = t.val := by
  obtain ⟨f0, f1, f2, f3, f4, f5, he, _⟩ := T.tyTask
  obtain ⟨cs, rfl, _⟩ := okWide_struct he hv
  obtain ⟨fuel, hf⟩ := h
  obtain ⟨s, hs, e⟩ := T.open_task hf
  obtain ⟨l⟩ := cs
  refine ⟨s, hs, ?_⟩
  simp [Value.cells] at e
  rw [e]; rfl
end
theorem setTypes : SetTypes Tryz.prog 22 38 39 41 23 25 where
  tyInts := ⟨_, Tryz.underlying22, Tryz.underlying3, by kernel_rfl⟩
  tyParts := Tryz.underlying39
  tyPart := ⟨_, _, _, Tryz.underlying38, by kernel_rfl, by kernel_rfl, Tryz.underlying3, Tryz.underlying3, Tryz.underlying3⟩
  tyTasks := Tryz.underlying23
  tyTask := ⟨_, _, _, _, _, _, Tryz.underlying41, by kernel_rfl, by kernel_rfl, Tryz.underlying9, Tryz.underlying3, Tryz.underlying3, Tryz.underlying3, Tryz.underlying3, rfl⟩
  tySet := ⟨_, _, _, _, Tryz.underlying25, by kernel_rfl, by kernel_rfl, Tryz.underlying3, rfl, rfl, rfl⟩
end Go.Proofs.YtjjlpaampmpdfaaGreatDoor
