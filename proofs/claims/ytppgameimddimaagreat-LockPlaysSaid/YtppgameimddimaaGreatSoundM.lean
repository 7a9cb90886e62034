/- What a set that may be is; sums over parts. Plain numbers. -/
import Derived.Test.YtppgameimddimaaGreatRows2
import Derived.Deep.Slices
import Derived.Deep.Fields
import Derived.ChangeArms
import Derived.ChangeSame
import Derived.Deep.LoopGhost
import Derived.Deep.QuietTactic
import Derived.BigQuiet
import Derived.Deep.RegionHeld3
namespace Go.Proofs.YtppgameimddimaaGreat
open Go.ChangeShapes Go.WideShapes Go.ChangeAt Go.RowKit Go.Deep
set_option linter.unusedVariables false

structure PartM where
  kind : Int
  len : Int
  res : Int
deriving DecidableEq
instance : Inhabited PartM := ⟨⟨0, 0, 0⟩⟩
/-- a task: pa, pc: where its parts lie -/
structure TaskR where
  name : ByteArray
  per : Int
  dl : Int
  prio : Int
  cl : Int
  pa : Option Addr
  pc : Nat
  parts : List PartM
instance : Inhabited TaskR := ⟨⟨ByteArray.empty, 0, 0, 0, 0, none, 0, []⟩⟩
structure SetR where
  proto : Int
  ca : Option Addr
  cc : Nat
  cores : List Int
  ha : Option Addr
  hc : Nat
  homes : List Int
  ta : Option Addr
  tc : Nat
  tasks : List TaskR

def TaskR.val (t : TaskR) : Value := .agg #[.string t.name, .int .i64 t.per, .int .i64 t.dl, .int .i64 t.prio, .int .i64 t.cl, .slice t.pa t.parts.length t.pc]
def SetR.val (s : SetR) : Value := .agg #[.int .i64 s.proto, .slice s.ca s.cores.length s.cc, .slice s.ha s.homes.length s.hc, .slice s.ta s.tasks.length s.tc]

/-- a slice's three numbers are sound -/
def SlOk (a : Option Addr) (len cap : Nat) : Prop := (a = none → len = 0 ∧ cap = 0) ∧ len ≤ cap ∧ cap ≤ maxLen

/-- at b, off lie the three cells of a part -/
def PartCells (w : World) (b off : Nat) (p : PartM) : Prop :=
  w.cell? ⟨b, off, none⟩ = some (.int .i64 p.kind) ∧ w.cell? ⟨b, off + 1, none⟩ = some (.int .i64 p.len) ∧ w.cell? ⟨b, off + 2, none⟩ = some (.int .i64 p.res)
def PartsAt (w : World) (a : Option Addr) (ps : List PartM) : Prop :=
  ps = [] ∨ ∃ b off, a = some ⟨b, off, none⟩ ∧ ∀ i, i < ps.length → PartCells w b (off + i * 3) (ps.getD i default)
/-- at b, off lie the six cells of a task -/
def TaskCells (w : World) (b off : Nat) (t : TaskR) : Prop :=
  w.cell? ⟨b, off, none⟩ = some (.string t.name) ∧ w.cell? ⟨b, off + 1, none⟩ = some (.int .i64 t.per) ∧ w.cell? ⟨b, off + 2, none⟩ = some (.int .i64 t.dl) ∧
  w.cell? ⟨b, off + 3, none⟩ = some (.int .i64 t.prio) ∧ w.cell? ⟨b, off + 4, none⟩ = some (.int .i64 t.cl) ∧ w.cell? ⟨b, off + 5, none⟩ = some (.slice t.pa t.parts.length t.pc)
def TasksAt (w : World) (a : Option Addr) (ts : List TaskR) : Prop :=
  ts = [] ∨ ∃ b off, a = some ⟨b, off, none⟩ ∧ ∀ i, i < ts.length → TaskCells w b (off + i * 6) (ts.getD i default)

def PartM.wf (p : PartM) : Prop := I64 p.kind ∧ I64 p.len ∧ I64 p.res
/-- a task's own numbers fit; its parts lie where it says -/
structure TaskOk (w : World) (t : TaskR) : Prop where
  name : t.name.size ≤ maxLen
  per : I64 t.per
  dl : I64 t.dl
  prio : I64 t.prio
  cl : I64 t.cl
  sl : SlOk t.pa t.parts.length t.pc
  at_ : PartsAt w t.pa t.parts
  wf : ∀ p ∈ t.parts, p.wf
structure TasksOk (w : World) (a : Option Addr) (c : Nat) (ts : List TaskR) : Prop where
  sl : SlOk a ts.length c
  at_ : TasksAt w a ts
  ok : ∀ t ∈ ts, TaskOk w t
structure IntsOk (w : World) (a : Option Addr) (c : Nat) (zs : List Int) : Prop where
  sl : SlOk a zs.length c
  at_ : Row w .i64 a zs
  wf : ∀ n ∈ zs, I64 n
structure SetOk (w : World) (s : SetR) : Prop where
  proto : I64 s.proto
  cores : IntsOk w s.ca s.cc s.cores
  homes : IntsOk w s.ha s.hc s.homes
  tasks : TasksOk w s.ta s.tc s.tasks

section
variable {w w' : World}
/-- nothing that was there reads otherwise -/
def Keeps (w w' : World) : Prop := ∀ p v, w.cell? p = some v → w'.cell? p = some v
theorem Keeps.refl (w : World) : Keeps w w := fun _ _ h => h
theorem Keeps.trans {w2 : World} (h : Keeps w w') (k : Keeps w' w2) : Keeps w w2 := fun p v hv => k p v (h p v hv)
theorem Keeps.of_below (h : Below w.heap.size w w') : Keeps w w' := fun p v hv => by rw [h.cell (cell_lt hv)]; exact hv
theorem Keeps.of_qt (h : Qt w w') : Keeps w w' := fun p v hv => h.cell hv
theorem Keeps.alloc (w : World) (o : Obj) : Keeps w (w.alloc o) := .of_below ((Below.refl _ _).alloc (Nat.le_refl _) o)
theorem Keeps.drewN (w : World) (n : Nat) : Keeps w (w.drewN n) := fun _ _ h => h
theorem Keeps.drew (w : World) : Keeps w w.drew := fun _ _ h => h
theorem PartCells.keep {b off : Nat} {p : PartM} (h : PartCells w b off p) (k : Keeps w w') : PartCells w' b off p := ⟨k _ _ h.1, k _ _ h.2.1, k _ _ h.2.2⟩
theorem PartsAt.keep {a : Option Addr} {ps : List PartM} (h : PartsAt w a ps) (k : Keeps w w') : PartsAt w' a ps := by
  rcases h with h | ⟨b, off, e, h⟩
  · exact .inl h
  · exact .inr ⟨b, off, e, fun i hi => (h i hi).keep k⟩
theorem TaskCells.keep {b off : Nat} {t : TaskR} (h : TaskCells w b off t) (k : Keeps w w') : TaskCells w' b off t :=
  ⟨k _ _ h.1, k _ _ h.2.1, k _ _ h.2.2.1, k _ _ h.2.2.2.1, k _ _ h.2.2.2.2.1, k _ _ h.2.2.2.2.2⟩
theorem TasksAt.keep {a : Option Addr} {ts : List TaskR} (h : TasksAt w a ts) (k : Keeps w w') : TasksAt w' a ts := by
  rcases h with h | ⟨b, off, e, h⟩
  · exact .inl h
  · exact .inr ⟨b, off, e, fun i hi => (h i hi).keep k⟩
theorem TaskOk.keep {t : TaskR} (h : TaskOk w t) (k : Keeps w w') : TaskOk w' t := { h with at_ := h.at_.keep k }
theorem TasksOk.keep {a : Option Addr} {c : Nat} {ts : List TaskR} (h : TasksOk w a c ts) (k : Keeps w w') : TasksOk w' a c ts :=
  { h with at_ := h.at_.keep k, ok := fun t ht => (h.ok t ht).keep k }
theorem IntsOk.keep {a : Option Addr} {c : Nat} {zs : List Int} (h : IntsOk w a c zs) (k : Keeps w w') : IntsOk w' a c zs := { h with at_ := h.at_.mono k }
theorem SetOk.keep {s : SetR} (h : SetOk w s) (k : Keeps w w') : SetOk w' s :=
  ⟨h.proto, h.cores.keep k, h.homes.keep k, h.tasks.keep k⟩
end

/-! ### What came in -/
section
variable {H : Type} {enc : TypeId × Value → H} {P : Program} {w : World}
/-- one field of a struct of one-cell fields -/
theorem field_of {fs : Array Field} {t : TypeId} {fuel : Nat} {cs : List Value} {x : DataW H × List MemPlace} (ht : P.underlying t = some (.struct fs)) (hone : oneCellFields P fs = true) (hC : P.cellsOf t = fs.size)
    (h : DataW.trod enc P w 0 (fun _ => true) true fuel t cs = some x) : cs.length = fs.size ∧ ∀ (j : Nat) (f : Field), fs[j]? = some f → ∃ v y n, cs[j]? = some v ∧ DataW.trod enc P w 0 (fun _ => true) true n f.type [v] = some y := by
  obtain ⟨xs, n, _, _, hl, hx, hf⟩ := DataW.trod_struct ht h
  rw [hC] at hl
  refine ⟨hl, fun j f hj => ?_⟩
  obtain ⟨ho, hk⟩ := hone_of hone j f hj
  have hjl : j < fs.size := (Array.getElem?_eq_some_iff.1 hj).1
  have h1 := hf j f hj
  rw [ho, hk, take1_drop cs j (.bool false) (by omega), List.getElem?_eq_getElem (by omega)] at h1
  exact ⟨_, _, n, by simp [List.getD, List.getElem?_eq_getElem (show j < cs.length by omega)], h1⟩
theorem int_field {k : IntKind} {t : TypeId} {n : Nat} {v : Value} {y : DataW H × List MemPlace} (u : P.underlying t = some (.int k)) (h : DataW.trod enc P w 0 (fun _ => true) true n t [v] = some y) : ∃ z, v = .int k z ∧ (Lit.int k z).wf = true := by
  obtain ⟨z, e, _, hz⟩ := DataW.trod_int u h
  exact ⟨z, by injection e, hz⟩
/-- a slice of structs, every element by its cells -/
theorem slice_of {t e : TypeId} {k fuel : Nat} {cs : List Value} {x : DataW H × List MemPlace} (ht : P.underlying t = some (.slice e)) (hC : P.cellsOf e = k) (hk : 0 < k) (h : DataW.trod enc P w 0 (fun _ => true) true fuel t cs = some x) :
    ∃ a len cap, cs = [.slice a len cap] ∧ SlOk a len cap ∧ (len = 0 ∨ ∃ b off, a = some ⟨b, off, none⟩ ∧ ∀ i, i < len → ∃ cs' x' n, cs'.length = k ∧ (∀ j, j < k → w.cell? ⟨b, off + i * k + j, none⟩ = cs'[j]?) ∧ DataW.trod enc P w 0 (fun _ => true) true n e cs' = some x') := by
  rcases open_slice ht h with ⟨rfl, _⟩ | ⟨a, len, cap, m, n, D, Pl, rfl, _, hl, hm, hmm, _, hi⟩
  · exact ⟨none, 0, 0, rfl, ⟨fun _ => ⟨rfl, rfl⟩, Nat.le_refl _, Nat.zero_le _⟩, .inl rfl⟩
  · refine ⟨some a, len, cap, rfl, ⟨(fun e => by cases e), hl, hm⟩, ?_⟩
    have hlm : len ≤ m := by rw [hmm]; simpa using hl
    by_cases h0 : len = 0
    · exact .inl h0
    · right
      obtain ⟨b, off, spot⟩ := a
      obtain ⟨c0, hc0, _⟩ := hi 0 (by omega)
      obtain ⟨_, l0, g0⟩ := World.cells?_some hc0
      rw [hC] at l0 g0
      have hs : spot = none := by
        have := g0 0 hk
        rw [List.getElem?_eq_getElem (by omega)] at this
        simpa [Addr.add] using World.cell?_spot this
      subst hs
      refine ⟨b, off, rfl, fun i hlt => ?_⟩
      obtain ⟨c1, hc1, t1⟩ := hi i (by omega)
      obtain ⟨_, l1, g1⟩ := World.cells?_some hc1
      rw [hC] at l1 g1
      refine ⟨c1, _, n, l1, fun j hj => ?_, t1⟩
      have := g1 j hj
      simpa [Addr.add_lit, Nat.add_assoc] using this

/-- the types of a set, as the dump has them -/
structure SetTypes (P : Program) (ints part parts task tasks set : TypeId) : Prop where
  tyInts : ∃ e, P.underlying ints = some (.slice e) ∧ P.underlying e = some (.int .i64) ∧ P.cellsOf e = 1
  tyParts : P.underlying parts = some (.slice part)
  tyPart : ∃ f0 f1 f2, P.underlying part = some (.struct #[f0, f1, f2]) ∧ oneCellFields P #[f0, f1, f2] = true ∧ P.cellsOf part = 3 ∧
    P.underlying f0.type = some (.int .i64) ∧ P.underlying f1.type = some (.int .i64) ∧ P.underlying f2.type = some (.int .i64)
  tyTasks : P.underlying tasks = some (.slice task)
  tyTask : ∃ f0 f1 f2 f3 f4 f5, P.underlying task = some (.struct #[f0, f1, f2, f3, f4, f5]) ∧ oneCellFields P #[f0, f1, f2, f3, f4, f5] = true ∧ P.cellsOf task = 6 ∧
    P.underlying f0.type = some .string ∧ P.underlying f1.type = some (.int .i64) ∧ P.underlying f2.type = some (.int .i64) ∧ P.underlying f3.type = some (.int .i64) ∧ P.underlying f4.type = some (.int .i64) ∧ f5.type = parts
  tySet : ∃ f0 f1 f2 f3, P.underlying set = some (.struct #[f0, f1, f2, f3]) ∧ oneCellFields P #[f0, f1, f2, f3] = true ∧ P.cellsOf set = 4 ∧
    P.underlying f0.type = some (.int .i64) ∧ f1.type = ints ∧ f2.type = ints ∧ f3.type = tasks

variable {ints part parts task tasks set : TypeId}
theorem SetTypes.open_part (T : SetTypes P ints part parts task tasks set) {fuel : Nat} {cs : List Value} {x : DataW H × List MemPlace} (h : DataW.trod enc P w 0 (fun _ => true) true fuel part cs = some x) :
    ∃ p : PartM, p.wf ∧ cs = [.int .i64 p.kind, .int .i64 p.len, .int .i64 p.res] := by
  obtain ⟨f0, f1, f2, he, hone, hC, u0, u1, u2⟩ := T.tyPart
  obtain ⟨hl, hf⟩ := field_of he hone hC h
  obtain ⟨v0, _, _, e0, t0⟩ := hf 0 f0 rfl
  obtain ⟨v1, _, _, e1, t1⟩ := hf 1 f1 rfl
  obtain ⟨v2, _, _, e2, t2⟩ := hf 2 f2 rfl
  obtain ⟨z0, rfl, g0⟩ := int_field u0 t0
  obtain ⟨z1, rfl, g1⟩ := int_field u1 t1
  obtain ⟨z2, rfl, g2⟩ := int_field u2 t2
  refine ⟨⟨z0, z1, z2⟩, ⟨i64_of g0, i64_of g1, i64_of g2⟩, ?_⟩
  match cs, hl with
  | [a, b, c], _ => simp at e0 e1 e2; simp [e0, e1, e2]
theorem SetTypes.open_parts (T : SetTypes P ints part parts task tasks set) {fuel : Nat} {cs : List Value} {x : DataW H × List MemPlace} (h : DataW.trod enc P w 0 (fun _ => true) true fuel parts cs = some x) :
    ∃ a cap ps, cs = [.slice a ps.length cap] ∧ SlOk a ps.length cap ∧ PartsAt w a ps ∧ ∀ p ∈ ps, PartM.wf p := by
  obtain ⟨f0, f1, f2, he, hone, hC, u0, u1, u2⟩ := T.tyPart
  obtain ⟨a, len, cap, rfl, hs, hi⟩ := slice_of T.tyParts hC (by omega) h
  rcases hi with rfl | ⟨b, off, rfl, hi⟩
  · exact ⟨a, cap, [], rfl, hs, .inl rfl, by simp⟩
  · have hp : ∀ i, i < len → ∃ p : PartM, p.wf ∧ PartCells w b (off + i * 3) p := fun i hlt => by
      obtain ⟨cs', x', n, hl, hc, ht⟩ := hi i hlt
      obtain ⟨p, hw, rfl⟩ := T.open_part ht
      exact ⟨p, hw, hc 0 (by omega), hc 1 (by omega), hc 2 (by omega)⟩
    obtain ⟨f, hf⟩ := choose_lt hp
    have hl : ((List.range len).map f).length = len := by simp
    refine ⟨_, cap, (List.range len).map f, by rw [hl], by rw [hl]; exact hs, .inr ⟨b, off, rfl, fun i hlt => ?_⟩, fun p hp => ?_⟩
    · rw [hl] at hlt
      have := (hf i hlt).2
      simpa [List.getD, hlt] using this
    · obtain ⟨i, hlt, rfl⟩ := List.mem_map.1 hp
      exact (hf i (by simpa using hlt)).1
theorem SetTypes.open_task (T : SetTypes P ints part parts task tasks set) {fuel : Nat} {cs : List Value} {x : DataW H × List MemPlace} (h : DataW.trod enc P w 0 (fun _ => true) true fuel task cs = some x) :
    ∃ t : TaskR, TaskOk w t ∧ cs = [.string t.name, .int .i64 t.per, .int .i64 t.dl, .int .i64 t.prio, .int .i64 t.cl, .slice t.pa t.parts.length t.pc] := by
  obtain ⟨f0, f1, f2, f3, f4, f5, he, hone, hC, u0, u1, u2, u3, u4, u5⟩ := T.tyTask
  obtain ⟨hl, hf⟩ := field_of he hone hC h
  obtain ⟨v0, _, _, e0, t0⟩ := hf 0 f0 rfl
  obtain ⟨v1, _, _, e1, t1⟩ := hf 1 f1 rfl
  obtain ⟨v2, _, _, e2, t2⟩ := hf 2 f2 rfl
  obtain ⟨v3, _, _, e3, t3⟩ := hf 3 f3 rfl
  obtain ⟨v4, _, _, e4, t4⟩ := hf 4 f4 rfl
  obtain ⟨v5, _, _, e5, t5⟩ := hf 5 f5 rfl
  obtain ⟨s, es, _, gs⟩ := DataW.trod_string u0 t0
  obtain rfl : v0 = .string s := by injection es
  obtain ⟨z1, rfl, g1⟩ := int_field u1 t1
  obtain ⟨z2, rfl, g2⟩ := int_field u2 t2
  obtain ⟨z3, rfl, g3⟩ := int_field u3 t3
  obtain ⟨z4, rfl, g4⟩ := int_field u4 t4
  rw [u5] at t5
  obtain ⟨a, cap, ps, ep, hs, hp, hw⟩ := T.open_parts t5
  obtain rfl : v5 = .slice a ps.length cap := by injection ep
  refine ⟨⟨s, z1, z2, z3, z4, a, cap, ps⟩, ⟨gs, i64_of g1, i64_of g2, i64_of g3, i64_of g4, hs, hp, hw⟩, ?_⟩
  match cs, hl with
  | [a, b, c, d, e, f], _ => simp at e0 e1 e2 e3 e4 e5; simp [e0, e1, e2, e3, e4, e5]
theorem SetTypes.open_tasks (T : SetTypes P ints part parts task tasks set) {fuel : Nat} {cs : List Value} {x : DataW H × List MemPlace} (h : DataW.trod enc P w 0 (fun _ => true) true fuel tasks cs = some x) :
    ∃ a cap ts, cs = [.slice a ts.length cap] ∧ TasksOk w a cap ts := by
  obtain ⟨f0, f1, f2, f3, f4, f5, he, hone, hC, _⟩ := T.tyTask
  obtain ⟨a, len, cap, rfl, hs, hi⟩ := slice_of T.tyTasks hC (by omega) h
  rcases hi with rfl | ⟨b, off, rfl, hi⟩
  · exact ⟨a, cap, [], rfl, ⟨hs, .inl rfl, by simp⟩⟩
  · have hp : ∀ i, i < len → ∃ t : TaskR, TaskOk w t ∧ TaskCells w b (off + i * 6) t := fun i hlt => by
      obtain ⟨cs', x', n, hl, hc, ht⟩ := hi i hlt
      obtain ⟨t, hw, rfl⟩ := T.open_task ht
      exact ⟨t, hw, hc 0 (by omega), hc 1 (by omega), hc 2 (by omega), hc 3 (by omega), hc 4 (by omega), hc 5 (by omega)⟩
    obtain ⟨f, hf⟩ := choose_lt hp
    have hl : ((List.range len).map f).length = len := by simp
    refine ⟨_, cap, (List.range len).map f, by rw [hl], ⟨by rw [hl]; exact hs, .inr ⟨b, off, rfl, fun i hlt => ?_⟩, fun p hp => ?_⟩⟩
    · rw [hl] at hlt
      have := (hf i hlt).2
      simpa [List.getD, hlt] using this
    · obtain ⟨i, hlt, rfl⟩ := List.mem_map.1 hp
      exact (hf i (by simpa using hlt)).1
theorem SetTypes.open_ints (T : SetTypes P ints part parts task tasks set) {fuel : Nat} {cs : List Value} {x : DataW H × List MemPlace} (h : DataW.trod enc P w 0 (fun _ => true) true fuel ints cs = some x) :
    ∃ a cap zs, cs = [.slice a zs.length cap] ∧ IntsOk w a cap zs := by
  obtain ⟨e, hi0, he, hC⟩ := T.tyInts
  obtain ⟨a, len, cap, rfl, hs, hi⟩ := slice_of hi0 hC (by omega) h
  rcases hi with rfl | ⟨b, off, rfl, hi⟩
  · exact ⟨a, cap, [], rfl, ⟨hs, .inl rfl, by simp⟩⟩
  · have hp : ∀ i, i < len → ∃ z : Int, I64 z ∧ w.cell? ⟨b, off + i, none⟩ = some (.int .i64 z) := fun i hlt => by
      obtain ⟨cs', x', n, hl, hc, ht⟩ := hi i hlt
      match cs', hl with
      | [v], _ =>
        obtain ⟨z, rfl, g⟩ := int_field he ht
        have := hc 0 (by omega)
        exact ⟨z, i64_of g, by simpa using this⟩
    obtain ⟨f, hf⟩ := choose_lt hp
    have hl : ((List.range len).map f).length = len := by simp
    refine ⟨_, cap, (List.range len).map f, by rw [hl], ⟨by rw [hl]; exact hs, .inr ⟨b, off, rfl, fun i hlt => ?_⟩, fun p hp => ?_⟩⟩
    · rw [hl] at hlt
      have := (hf i hlt).2
      simpa [List.getD, hlt] using this
    · obtain ⟨i, hlt, rfl⟩ := List.mem_map.1 hp
      exact (hf i (by simpa using hlt)).1
theorem SetTypes.open_set (T : SetTypes P ints part parts task tasks set) {fuel : Nat} {cs : List Value} {x : DataW H × List MemPlace} (h : DataW.trod enc P w 0 (fun _ => true) true fuel set cs = some x) :
    ∃ s : SetR, SetOk w s ∧ cs = [.int .i64 s.proto, .slice s.ca s.cores.length s.cc, .slice s.ha s.homes.length s.hc, .slice s.ta s.tasks.length s.tc] := by
  obtain ⟨f0, f1, f2, f3, he, hone, hC, u0, u1, u2, u3⟩ := T.tySet
  obtain ⟨hl, hf⟩ := field_of he hone hC h
  obtain ⟨v0, _, _, e0, t0⟩ := hf 0 f0 rfl
  obtain ⟨v1, _, _, e1, t1⟩ := hf 1 f1 rfl
  obtain ⟨v2, _, _, e2, t2⟩ := hf 2 f2 rfl
  obtain ⟨v3, _, _, e3, t3⟩ := hf 3 f3 rfl
  obtain ⟨z0, rfl, g0⟩ := int_field u0 t0
  rw [u1] at t1
  rw [u2] at t2
  rw [u3] at t3
  obtain ⟨a1, c1, zs1, x1, h1⟩ := T.open_ints t1
  obtain rfl : v1 = .slice a1 zs1.length c1 := by injection x1
  obtain ⟨a2, c2, zs2, x2, h2⟩ := T.open_ints t2
  obtain rfl : v2 = .slice a2 zs2.length c2 := by injection x2
  obtain ⟨a3, c3, ts, x3, h3⟩ := T.open_tasks t3
  obtain rfl : v3 = .slice a3 ts.length c3 := by injection x3
  refine ⟨⟨z0, a1, c1, zs1, a2, c2, zs2, a3, c3, ts⟩, ⟨i64_of g0, h1, h2, h3⟩, ?_⟩
  match cs, hl with
  | [a, b, c, d], _ => simp at e0 e1 e2 e3; simp [e0, e1, e2, e3]
/-- a set as an argument -/
theorem SetTypes.arg_set (T : SetTypes P ints part parts task tasks set) {r : Reach} {b0 : Nat} {v : Value} {d : DataW H} {ps : List MemPlace} (hv : Value.okWide P w r b0 set v) (h : DataW.Trod enc P w 0 (fun _ => true) true set v d ps) :
    ∃ s : SetR, SetOk w s ∧ v = s.val := by
  obtain ⟨f0, f1, f2, f3, he, _⟩ := T.tySet
  obtain ⟨cs, rfl, _⟩ := okWide_struct he hv
  obtain ⟨fuel, hf⟩ := h
  obtain ⟨s, hs, e⟩ := T.open_set hf
  obtain ⟨l⟩ := cs
  refine ⟨s, hs, ?_⟩
  simp [Value.cells] at e
  rw [e]; rfl
/-- a task as an argument -/
theorem SetTypes.arg_task (T : SetTypes P ints part parts task tasks set) {r : Reach} {b0 : Nat} {v : Value} {d : DataW H} {ps : List MemPlace} (hv : Value.okWide P w r b0 task v) (h : DataW.Trod enc P w 0 (fun _ => true) true task v d ps) :
    ∃ t : TaskR, TaskOk w t ∧ v = t.val := by
  obtain ⟨f0, f1, f2, f3, f4, f5, he, _⟩ := T.tyTask
  obtain ⟨cs, rfl, _⟩ := okWide_struct he hv
  obtain ⟨fuel, hf⟩ := h
  obtain ⟨s, hs, e⟩ := T.open_task hf
  obtain ⟨l⟩ := cs
  refine ⟨s, hs, ?_⟩
  simp [Value.cells] at e
  rw [e]; rfl
end
theorem setTypes : SetTypes Tryz.prog 22 94 55 57 23 25 where
  tyInts := ⟨_, Tryz.underlying22, Tryz.underlying3, by kernel_rfl⟩
  tyParts := Tryz.underlying55
  tyPart := ⟨_, _, _, Tryz.underlying94, by kernel_rfl, by kernel_rfl, Tryz.underlying3, Tryz.underlying3, Tryz.underlying3⟩
  tyTasks := Tryz.underlying23
  tyTask := ⟨_, _, _, _, _, _, Tryz.underlying57, by kernel_rfl, by kernel_rfl, Tryz.underlying9, Tryz.underlying3, Tryz.underlying3, Tryz.underlying3, Tryz.underlying3, rfl⟩
  tySet := ⟨_, _, _, _, Tryz.underlying25, by kernel_rfl, by kernel_rfl, Tryz.underlying3, rfl, rfl, rfl⟩
end Go.Proofs.YtppgameimddimaaGreat

namespace Go.Proofs.YtppgameimddimaaGreat
open Go.ChangeShapes Go.WideShapes Go.ChangeAt Go.RowKit
set_option linter.unusedVariables false

/-- a byte of a name: a small letter, or, not the first, a digit -/
def okB (i : Nat) (c : Int) : Bool := decide (97 ≤ c ∧ c ≤ 122) || (decide (48 ≤ c ∧ c ≤ 57) && decide (0 < i))
def digB (c : Int) : Bool := decide (48 ≤ c) && decide (c ≤ 57)
def byteAt (s : ByteArray) (i : Nat) : Int := ((s.data.toList.getD i 0).toNat : Int)
def nameB (s : ByteArray) : Bool := decide (1 ≤ s.size ∧ s.size ≤ 8) && (List.range s.size).all fun i => okB i (byteAt s i)

theorem digit_any (c : Int) (w : World) : Calls Tryz.prog 105 #[.int .u8 c] w fun e w' => e = .returned (.bool (digB c)) ∧ w = w' := by
  by_cases h : 48 ≤ c
  · have H : Hid (digB c = decide (c ≤ 57)) := hidp (by simp [digB, h])
    go_enter Tryz.func105, Tryz.ntmps105
    go_wp2
    go_ret
    exact ⟨ret_bool H.out.symm, rfl⟩
  · have H : Hid (digB c = false) := hidp (by simp [digB, h])
    go_enter Tryz.func105, Tryz.ntmps105
    go_wp2
    go_ret
    exact ⟨ret_bool H.out.symm, rfl⟩

theorem byteAt_is (s : ByteArray) (k : Nat) (h : k < s.size) : byteAt s k = (s[k].toNat : Int) := by
  unfold byteAt
  have e : s.data.toList.getD k 0 = s[k] := by
    have hk : k < s.data.toList.length := by simpa using h
    rw [List.getD_eq_getElem?_getD, List.getElem?_eq_getElem hk]; rfl
  rw [e]
theorem nameB_long {s : ByteArray} (h : ¬ (1 ≤ s.size ∧ s.size ≤ 8)) : nameB s = false := by simp [nameB]; intro a b; exact absurd ⟨a, b⟩ h
theorem nameB_all {s : ByteArray} (h : 1 ≤ s.size ∧ s.size ≤ 8) (g : ∀ j, j < s.size → okB j (byteAt s j) = true) : nameB s = true := by
  simp [nameB, h]; exact g
theorem nameB_not {s : ByteArray} {k : Nat} (h : k < s.size) (g : okB k (byteAt s k) = false) : nameB s = false := by
  unfold nameB
  rw [Bool.and_eq_false_iff]
  right
  rw [List.all_eq_false]
  exact ⟨k, by simpa using h, by simp [g]⟩
theorem byte_bd (s : ByteArray) (k : Nat) : 0 ≤ byteAt s k ∧ byteAt s k ≤ 255 := by
  unfold byteAt; have := (s.data.toList.getD k 0).toNat_lt; omega

set_option maxHeartbeats 400000 in
theorem name_any (s : ByteArray) (w : World) (hs : s.size ≤ maxLen) : Calls Tryz.prog 75 #[.string s] w fun e w' => e = .returned (.bool (nameB s)) ∧ w = w' := by
  unfold maxLen at hs
  by_cases h1 : s.size < 1
  · have H := hidp (nameB_long (s := s) (by omega))
    go_enter Tryz.func75, Tryz.ntmps75
    go_wp2
    go_step3
    go_wp2
    try rw [Exit.noGoto_ret]
    go_ret
    exact ⟨ret_bool H.out.symm, rfl⟩
  · by_cases h2 : 8 < s.size
    · have H := hidp (nameB_long (s := s) (by omega))
      go_enter Tryz.func75, Tryz.ntmps75
      go_wp2
      go_step3
      go_wp2
      try rw [Exit.noGoto_ret]
      go_ret
      exact ⟨ret_bool H.out.symm, rfl⟩
    · go_enter Tryz.func75, Tryz.ntmps75
      go_wp2
      go_step3
      go_wp2
      go_step3
      go_wp2
      go_loopg [15] s.size (fun g i wr => ∃ k : Nat, k + g = s.size ∧ i = .int .i64 k ∧ Hid (∀ j, j < k → okB j (byteAt s j) = true) ∧ w = wr)
      case atStart => exact ⟨0, by omega, rfl, hidp (by omega), rfl⟩
      case round =>
        obtain ⟨k, hk, rfl, Ho, rfl⟩ := hrel
        by_cases hlt : k < s.size
        · obtain ⟨c, hc⟩ : ∃ c : Int, (s[k].toNat : Int) = c := ⟨_, rfl⟩
          have Hc : Hid (byteAt s k = c) := hidp (by rw [byteAt_is s k hlt, hc])
          have Hn : Hid (okB k c = true → ∀ j, j < k + 1 → okB j (byteAt s j) = true) := hidp (fun h j hj => by
            by_cases e : j = k
            · subst e; rw [Hc.out]; exact h
            · exact Ho.out j (by omega))
          have Hx : Hid (okB k c = false → nameB s = false) := hidp (fun h => nameB_not hlt (by rw [Hc.out]; exact h))
          have bd := byte_bd s k
          rw [Hc.out] at bd
          obtain ⟨b0, b1⟩ := bd
          by_cases g1 : 97 ≤ c ∧ c ≤ 122
          · obtain ⟨g1, g2⟩ := g1
            have Hy : Hid (okB k c = true) := hidp (by simp [okB, g1, g2])
            go_wp2
            go_roundg (gk - 1)
            case measure => omega
            case rel => exact ⟨k + 1, by omega, by go_num, hidp (Hn.out Hy.out), rfl⟩
          · have g3 : 97 ≤ c ∧ 122 < c ∨ c < 97 := by omega
            clear g1
            rcases g3 with ⟨g1, g2⟩ | g1
            · have d : digB c = false := by simp [digB]; omega
              have Hy : Hid (okB k c = false) := hidp (by simp [okB]; omega)
              go_wp2_with (first | (go_at_call 105; (with_reducible refine (digit_any _ _).mono ?_); rintro e w' ⟨rfl, rfl⟩))
              try rw [Exit.noGoto_ret]
              go_ret
              exact ⟨ret_bool (Hx.out Hy.out).symm, rfl⟩
            · by_cases d : digB c = true
              · have hd : 48 ≤ c ∧ c ≤ 57 := by simpa [digB] using d
                have Hd := hidp hd
                clear hd
                by_cases k0 : k = 0
                · subst k0
                  have Hy : Hid (okB 0 c = false) := hidp (by simp [okB]; omega)
                  go_wp2_with (first | (go_at_call 105; (with_reducible refine (digit_any _ _).mono ?_); rintro e w' ⟨rfl, rfl⟩))
                  try rw [Exit.noGoto_ret]
                  go_ret
                  exact ⟨ret_bool (Hx.out Hy.out).symm, rfl⟩
                · have kp : 0 < k := by omega
                  have Hy : Hid (okB k c = true) := hidp (by simp [okB, Hd.out.1, Hd.out.2, kp])
                  clear k0
                  go_wp2_with (first | (go_at_call 105; (with_reducible refine (digit_any _ _).mono ?_); rintro e w' ⟨rfl, rfl⟩))
                  go_roundg (gk - 1)
                  case measure => omega
                  case rel => exact ⟨k + 1, by omega, by go_num, hidp (Hn.out Hy.out), rfl⟩
              · have d : digB c = false := by simpa using d
                have Hy : Hid (okB k c = false) := hidp (by simp [okB]; simp [digB] at d; omega)
                go_wp2_with (first | (go_at_call 105; (with_reducible refine (digit_any _ _).mono ?_); rintro e w' ⟨rfl, rfl⟩))
                try rw [Exit.noGoto_ret]
                go_ret
                exact ⟨ret_bool (Hx.out Hy.out).symm, rfl⟩
        · have H := hidp (nameB_all (s := s) (by omega) (fun j hj => Ho.out j (by omega)))
          go_wp2
          try rw [Exit.noGoto_ret]
          go_ret
          exact ⟨ret_bool H.out.symm, rfl⟩
end Go.Proofs.YtppgameimddimaaGreat

namespace Go.Proofs.YtppgameimddimaaGreat
open Go.ChangeShapes Go.WideShapes Go.ChangeAt Go.RowKit
set_option linter.unusedVariables false

def inB (x lo hi : Int) : Bool := decide (lo ≤ x) && decide (x ≤ hi)
theorem inB_true {x lo hi : Int} : inB x lo hi = true ↔ lo ≤ x ∧ x ≤ hi := by simp [inB]
theorem inB_false {x lo hi : Int} : inB x lo hi = false ↔ x < lo ∨ hi < x := by simp [inB]; omega
def allB (zs : List Int) (lo hi : Int) : Bool := zs.all fun x => inB x lo hi

theorem within_any (x lo hi : Int) (w : World) : Calls Tryz.prog 53 #[.int .i64 x, .int .i64 lo, .int .i64 hi] w fun e w' => e = .returned (.bool (inB x lo hi)) ∧ w = w' := by
  by_cases h : lo ≤ x
  · have H : Hid (inB x lo hi = decide (x ≤ hi)) := hidp (by simp [inB, h])
    go_enter Tryz.func53, Tryz.ntmps53
    go_wp2
    go_ret
    exact ⟨ret_bool H.out.symm, rfl⟩
  · have H : Hid (inB x lo hi = false) := hidp (by simp [inB, h])
    go_enter Tryz.func53, Tryz.ntmps53
    go_wp2
    go_ret
    exact ⟨ret_bool H.out.symm, rfl⟩

/-- the first place at which it holds; -1: none -/
def firstT (l : List Bool) : Int := if true ∈ l then (l.findIdx id : Nat) else -1
theorem firstT_at {l : List Bool} {k : Nat} (hk : k < l.length) (h0 : ∀ j, j < k → l.getD j false = false) (h1 : l.getD k false = true) : firstT l = k := by
  rw [List.getD_eq_getElem?_getD, List.getElem?_eq_getElem hk] at h1
  simp at h1
  have hm : true ∈ l := by rw [← h1]; exact List.getElem_mem hk
  unfold firstT
  rw [if_pos hm]
  have h2 : l.findIdx id < l.length := List.findIdx_lt_length.2 ⟨true, hm, rfl⟩
  have h3 : id l[l.findIdx id] = true := List.findIdx_getElem (w := h2)
  by_cases h : l.findIdx id = k
  · rw [h]
  · by_cases h4 : l.findIdx id < k
    · have := h0 _ h4
      rw [List.getD_eq_getElem?_getD, List.getElem?_eq_getElem h2] at this
      simp at this h3
      rw [h3] at this; cases this
    · exfalso
      have h5 : k < l.findIdx id := by omega
      have := List.not_of_lt_findIdx h5
      simp [h1] at this
theorem firstT_none {l : List Bool} (h : ∀ j, j < l.length → l.getD j false = false) : firstT l = -1 := by
  unfold firstT
  rw [if_neg]
  intro hm
  obtain ⟨j, hj, e⟩ := List.mem_iff_getElem.1 hm
  have := h j hj
  rw [List.getD_eq_getElem?_getD, List.getElem?_eq_getElem hj] at this
  simp [e] at this
theorem firstT_any (l : List Bool) : decide (0 ≤ firstT l) = l.any id := by
  unfold firstT
  by_cases h : true ∈ l
  · rw [if_pos h]; simp; exact h
  · rw [if_neg h]; simp; exact h
theorem firstT_bd (l : List Bool) : -1 ≤ firstT l := by unfold firstT; split <;> omega
theorem map_getD {α : Type} [Inhabited α] (f : α → Bool) (l : List α) (d : α) (j : Nat) (hj : j < l.length) : (l.map f).getD j false = f (l.getD j d) := by
  simp [List.getD, hj]

theorem out_any (x lo hi : Int) (p q : Addr) (w : World) (h1 : w.cell? p = some (.int .i64 lo)) (h2 : w.cell? q = some (.int .i64 hi)) :
    Calls Tryz.prog 104 #[.int .i64 x, .pointer (some p), .pointer (some q)] w fun e w' => e = .returned (.bool (!inB x lo hi)) ∧ w = w' := by
  go_enter Tryz.func104, Tryz.ntmps104
  go_wp2_with (first | (go_at_call 53; (with_reducible refine (within_any _ _ _ _).mono ?_); rintro e w' ⟨rfl, rfl⟩))
  go_ret
  exact ⟨rfl, rfl⟩

theorem idxInts_any (a : Option Addr) (c : Nat) (zs : List Int) (lo hi : Int) (p q : Addr) (w : World) (h : Row w .i64 a zs) (hl : zs.length ≤ maxLen) (h1 : w.cell? p = some (.int .i64 lo)) (h2 : w.cell? q = some (.int .i64 hi)) :
    Calls Tryz.prog 118 #[.slice a zs.length c, .func (Fn.func 104) #[] #[.pointer (some p), .pointer (some q)]] w fun e w' => e = .returned (.int .i64 (firstT (zs.map fun x => !inB x lo hi))) ∧ w = w' := by
  unfold maxLen at hl
  have HR := hidp h
  clear h
  go_enter Tryz.func118, Tryz.ntmps118
  go_wp2
  go_loopg [8] zs.length (fun g i wr => ∃ k : Nat, k + g = zs.length ∧ i = .int .i64 k ∧ Hid (∀ j, j < k → (zs.map fun x => !inB x lo hi).getD j false = false) ∧ w = wr)
  case atStart => exact ⟨0, by omega, rfl, hidp (by omega), rfl⟩
  case round =>
    obtain ⟨k, hk, rfl, Ho, rfl⟩ := hrel
    by_cases hlt : k < zs.length
    · obtain ⟨g, off, hA, hc⟩ := HR.out.resolve_left (by intro e; simp [e] at hlt)
      subst hA
      obtain ⟨n, HN⟩ : ∃ n, Hid (zs.getD k 0 = n) := ⟨_, rfl⟩
      have ck : w.cell? ⟨g, off + k, none⟩ = some (.int .i64 n) := HN.out ▸ hc k hlt
      clear hc
      have Hg : Hid ((zs.map fun x => !inB x lo hi).getD k false = !inB n lo hi) := hidp (by rw [map_getD _ _ 0 _ hlt, HN.out])
      by_cases hb : inB n lo hi = true
      · have Hn : Hid (∀ j, j < k + 1 → (zs.map fun x => !inB x lo hi).getD j false = false) := hidp (fun j hj => by
          by_cases e : j = k
          · subst e; rw [Hg.out, hb]; rfl
          · exact Ho.out j (by omega))
        go_wp2_with (first | (go_at_call 104; (with_reducible refine (out_any _ _ _ _ _ _ h1 h2).mono ?_); rintro e w' ⟨rfl, rfl⟩))
        go_roundg (gk - 1)
        case measure => omega
        case rel => exact ⟨k + 1, by omega, by go_num, Hn, rfl⟩
      · have hb : inB n lo hi = false := by simpa using hb
        have H := hidp (firstT_at (l := zs.map fun x => !inB x lo hi) (k := k) (by simpa using hlt) Ho.out (by rw [Hg.out, hb]; rfl))
        go_wp2_with (first | (go_at_call 104; (with_reducible refine (out_any _ _ _ _ _ _ h1 h2).mono ?_); rintro e w' ⟨rfl, rfl⟩))
        go_ret
        exact ⟨ret_int H.out.symm, rfl⟩
    · have H := hidp (firstT_none (l := zs.map fun x => !inB x lo hi) (fun j hj => Ho.out j (by simp at hj; omega)))
      go_wp2
      go_ret
      exact ⟨ret_int H.out.symm, rfl⟩
theorem hasInts_any (a : Option Addr) (c : Nat) (zs : List Int) (lo hi : Int) (p q : Addr) (w : World) (h : Row w .i64 a zs) (hl : zs.length ≤ maxLen) (h1 : w.cell? p = some (.int .i64 lo)) (h2 : w.cell? q = some (.int .i64 hi)) :
    Calls Tryz.prog 103 #[.slice a zs.length c, .func (Fn.func 104) #[] #[.pointer (some p), .pointer (some q)]] w fun e w' => e = .returned (.bool (!allB zs lo hi)) ∧ w = w' := by
  have H : Hid (decide (0 ≤ firstT (zs.map fun x => !inB x lo hi)) = !allB zs lo hi) := hidp (by rw [firstT_any, allB, List.any_map, List.not_all_eq_any_not]; rfl)
  have hb := firstT_bd (zs.map fun x => !inB x lo hi)
  go_enter Tryz.func103, Tryz.ntmps103
  go_wp2_with (first | (go_at_call 118; (with_reducible refine (idxInts_any _ _ _ _ _ _ _ _ h hl h1 h2).mono ?_); rintro e w' ⟨rfl, rfl⟩))
  go_ret
  exact ⟨ret_bool H.out, rfl⟩
theorem all_any (a : Option Addr) (c : Nat) (zs : List Int) (lo hi : Int) (w : World) (h : IntsOk w a c zs) :
    Calls Tryz.prog 74 #[.slice a zs.length c, .int .i64 lo, .int .i64 hi] w fun e w' => e = .returned (.bool (allB zs lo hi)) ∧ Below w.heap.size w w' := by
  have hl : zs.length ≤ maxLen := Nat.le_trans h.sl.2.1 h.sl.2.2
  have hk := (h.keep (Keeps.alloc w (.cells #[.int .i64 lo] 3))).keep (Keeps.alloc _ (.cells #[.int .i64 hi] 3))
  have H : Hid ((!!allB zs lo hi) = allB zs lo hi) := hidp (by simp)
  go_enter Tryz.func74, Tryz.ntmps74
  go_wp2_with (first | (go_at_call 103; refine (hasInts_any _ _ _ lo hi _ _ _ hk.at_ hl (by simp) (by simp)).mono ?_; rintro e w' ⟨rfl, rfl⟩))
  go_ret
  exact ⟨ret_bool (by simp), ((Below.refl _ _).alloc (Nat.le_refl _) _).alloc (by simp) _⟩
end Go.Proofs.YtppgameimddimaaGreat

namespace Go.Proofs.YtppgameimddimaaGreat
open Go.ChangeShapes Go.WideShapes Go.ChangeAt Go.RowKit
set_option linter.unusedVariables false

def formB (t : TaskR) : Bool := nameB t.name && (inB t.per 1 3000 && (inB t.dl 1 t.per && inB t.prio 1 1000))
theorem formed_any (t : TaskR) (w : World) (hn : t.name.size ≤ maxLen) : Calls Tryz.prog 52 #[.agg #[.string t.name, .int .i64 t.per, .int .i64 t.dl, .int .i64 t.prio, .int .i64 t.cl, .slice t.pa t.parts.length t.pc]] w fun e w' => e = .returned (.bool (formB t)) ∧ Below w.heap.size w w' := by
  by_cases h1 : nameB t.name = true
  · by_cases h2 : inB t.per 1 3000 = true
    · by_cases h3 : inB t.dl 1 t.per = true
      · have H : Hid (formB t = inB t.prio 1 1000) := hidp (by simp [formB, h1, h2, h3])
        go_enter Tryz.func52, Tryz.ntmps52
        go_wp2_with (first | (go_at_call 75; (with_reducible refine (name_any _ _ hn).mono ?_); rintro e w' ⟨rfl, rfl⟩) | (go_at_call 53; (with_reducible refine (within_any _ _ _ _).mono ?_); rintro e w' ⟨rfl, rfl⟩))
        go_ret
        exact ⟨ret_bool H.out.symm, (Below.refl _ _).alloc (Nat.le_refl _) _⟩
      · have h3 : inB t.dl 1 t.per = false := by simpa using h3
        have H : Hid (formB t = false) := hidp (by simp [formB, h3])
        go_enter Tryz.func52, Tryz.ntmps52
        go_wp2_with (first | (go_at_call 75; (with_reducible refine (name_any _ _ hn).mono ?_); rintro e w' ⟨rfl, rfl⟩) | (go_at_call 53; (with_reducible refine (within_any _ _ _ _).mono ?_); rintro e w' ⟨rfl, rfl⟩))
        go_ret
        exact ⟨ret_bool H.out.symm, (Below.refl _ _).alloc (Nat.le_refl _) _⟩
    · have h2 : inB t.per 1 3000 = false := by simpa using h2
      have H : Hid (formB t = false) := hidp (by simp [formB, h2])
      go_enter Tryz.func52, Tryz.ntmps52
      go_wp2_with (first | (go_at_call 75; (with_reducible refine (name_any _ _ hn).mono ?_); rintro e w' ⟨rfl, rfl⟩) | (go_at_call 53; (with_reducible refine (within_any _ _ _ _).mono ?_); rintro e w' ⟨rfl, rfl⟩))
      go_ret
      exact ⟨ret_bool H.out.symm, (Below.refl _ _).alloc (Nat.le_refl _) _⟩
  · have h1 : nameB t.name = false := by simpa using h1
    have H : Hid (formB t = false) := hidp (by simp [formB, h1])
    go_enter Tryz.func52, Tryz.ntmps52
    go_wp2_with (first | (go_at_call 75; (with_reducible refine (name_any _ _ hn).mono ?_); rintro e w' ⟨rfl, rfl⟩) | (go_at_call 53; (with_reducible refine (within_any _ _ _ _).mono ?_); rintro e w' ⟨rfl, rfl⟩))
    go_ret
    exact ⟨ret_bool H.out.symm, (Below.refl _ _).alloc (Nat.le_refl _) _⟩

/-- alike in name or priority -/
def likeB (t o : TaskR) : Bool := (o.name.toList == t.name.toList) || (o.prio == t.prio)
theorem like_any (t o : TaskR) (b off : Nat) (w : World) (h : TaskCells w b off t) :
    Calls Tryz.prog 77 #[.agg #[.string o.name, .int .i64 o.per, .int .i64 o.dl, .int .i64 o.prio, .int .i64 o.cl, .slice o.pa o.parts.length o.pc], .pointer (some ⟨b, off, none⟩)] w fun e w' => e = .returned (.bool (likeB t o)) ∧ Below w.heap.size w w' := by
  have hb : b < w.heap.size := cell_lt h.1
  obtain ⟨c0, _, _, c3, _, _⟩ := h.keep (Keeps.alloc w (.cells #[.string o.name, .int .i64 o.per, .int .i64 o.dl, .int .i64 o.prio, .int .i64 o.cl, .slice o.pa o.parts.length o.pc] 57))
  clear h
  by_cases h1 : (o.name.toList == t.name.toList) = true
  · have H : Hid (likeB t o = true) := hidp (by unfold likeB; rw [h1]; rfl)
    go_enter Tryz.func77, Tryz.ntmps77
    go_wp2_with fail
    go_ret
    exact ⟨ret_bool H.out.symm, (Below.refl _ _).alloc (Nat.le_refl _) _⟩
  · have h1 : (o.name.toList == t.name.toList) = false := by simpa using h1
    have H : Hid (likeB t o = (o.prio == t.prio)) := hidp (by unfold likeB; rw [h1]; rfl)
    go_enter Tryz.func77, Tryz.ntmps77
    go_wp2_with fail
    go_ret
    exact ⟨ret_bool H.out.symm, (Below.refl _ _).alloc (Nat.le_refl _) _⟩

theorem idxTasks_any (a : Option Addr) (c : Nat) (ts : List TaskR) (t : TaskR) (b0 off0 : Nat) (w : World) (h : TasksAt w a ts) (hl : ts.length ≤ maxLen) (h1 : TaskCells w b0 off0 t) :
    Calls Tryz.prog 106 #[.slice a ts.length c, .func (Fn.func 77) #[] #[.pointer (some ⟨b0, off0, none⟩)]] w fun e w' => e = .returned (.int .i64 (firstT (ts.map fun o => likeB t o))) ∧ Below w.heap.size w w' := by
  unfold maxLen at hl
  have HR := hidp h
  have HT := hidp h1
  clear h h1
  go_enter Tryz.func106, Tryz.ntmps106
  go_wp2
  go_loopg [8] ts.length (fun g i wr => ∃ k : Nat, k + g = ts.length ∧ i = .int .i64 k ∧ Hid (∀ j, j < k → (ts.map fun o => likeB t o).getD j false = false) ∧ Below w.heap.size w wr)
  case atStart => exact ⟨0, by omega, rfl, hidp (by omega), Below.refl _ _⟩
  case round =>
    obtain ⟨k, hk, rfl, Ho, hw⟩ := hrel
    by_cases hlt : k < ts.length
    · obtain ⟨g, off, hA, hc⟩ := HR.out.resolve_left (by intro e; simp [e] at hlt)
      subst hA
      obtain ⟨o, HN⟩ : ∃ o, Hid (ts.getD k default = o) := ⟨_, rfl⟩
      have hc := HN.out ▸ hc k hlt
      obtain ⟨c0, c1, c2, c3, c4, c5⟩ := hc.keep (Keeps.of_below hw)
      have ht := HT.out.keep (Keeps.of_below hw)
      clear hc
      have Hg : Hid ((ts.map fun o => likeB t o).getD k false = likeB t o) := hidp (by rw [map_getD _ _ default _ hlt, HN.out])
      by_cases hb : likeB t o = true
      · have H := hidp (firstT_at (l := ts.map fun o => likeB t o) (k := k) (by simpa using hlt) Ho.out (by rw [Hg.out, hb]))
        go_wp2_with (first | (go_at_call 77; (with_reducible refine (like_any _ _ _ _ _ ht).mono ?_); rintro e w' ⟨rfl, hb2⟩))
        go_ret
        exact ⟨ret_int H.out.symm, hw.trans (hb2.mono hw.size)⟩
      · have hb : likeB t o = false := by simpa using hb
        have Hn : Hid (∀ j, j < k + 1 → (ts.map fun o => likeB t o).getD j false = false) := hidp (fun j hj => by
          by_cases e : j = k
          · subst e; rw [Hg.out, hb]
          · exact Ho.out j (by omega))
        go_wp2_with (first | (go_at_call 77; (with_reducible refine (like_any _ _ _ _ _ ht).mono ?_); rintro e w' ⟨rfl, hb2⟩))
        go_roundg (gk - 1)
        case measure => omega
        case rel => exact ⟨k + 1, by omega, by go_num, Hn, hw.trans (hb2.mono hw.size)⟩
    · have H := hidp (firstT_none (l := ts.map fun o => likeB t o) (fun j hj => Ho.out j (by simp at hj; omega)))
      go_wp2
      go_ret
      exact ⟨ret_int H.out.symm, hw⟩
def takenB (ts : List TaskR) (t : TaskR) : Bool := ts.any fun o => likeB t o
theorem hasTasks_any (a : Option Addr) (c : Nat) (ts : List TaskR) (t : TaskR) (b0 off0 : Nat) (w : World) (h : TasksAt w a ts) (hl : ts.length ≤ maxLen) (h1 : TaskCells w b0 off0 t) :
    Calls Tryz.prog 76 #[.slice a ts.length c, .func (Fn.func 77) #[] #[.pointer (some ⟨b0, off0, none⟩)]] w fun e w' => e = .returned (.bool (takenB ts t)) ∧ Below w.heap.size w w' := by
  have H : Hid (decide (0 ≤ firstT (ts.map fun o => likeB t o)) = takenB ts t) := hidp (by rw [firstT_any, takenB, List.any_map]; rfl)
  have hb := firstT_bd (ts.map fun o => likeB t o)
  go_enter Tryz.func76, Tryz.ntmps76
  go_wp2_with (first | (go_at_call 106; (with_reducible refine (idxTasks_any _ _ _ _ _ _ _ h hl h1).mono ?_); rintro e w' ⟨rfl, hb2⟩))
  go_ret
  exact ⟨ret_bool H.out, hb2⟩
theorem taken_any (a : Option Addr) (c : Nat) (ts : List TaskR) (t : TaskR) (w : World) (h : TasksAt w a ts) (hl : ts.length ≤ maxLen) :
    Calls Tryz.prog 54 #[.slice a ts.length c, .agg #[.string t.name, .int .i64 t.per, .int .i64 t.dl, .int .i64 t.prio, .int .i64 t.cl, .slice t.pa t.parts.length t.pc]] w fun e w' => e = .returned (.bool (takenB ts t)) ∧ Below w.heap.size w w' := by
  have hk := h.keep (Keeps.alloc w (.cells #[.string t.name, .int .i64 t.per, .int .i64 t.dl, .int .i64 t.prio, .int .i64 t.cl, .slice t.pa t.parts.length t.pc] 57))
  have ht : TaskCells (w.alloc (.cells #[.string t.name, .int .i64 t.per, .int .i64 t.dl, .int .i64 t.prio, .int .i64 t.cl, .slice t.pa t.parts.length t.pc] 57)) w.heap.size 0 t := by
    refine ⟨?_, ?_, ?_, ?_, ?_, ?_⟩ <;> simp
  have Hk := hidp hk
  have Ht := hidp ht
  clear hk ht
  go_enter Tryz.func54, Tryz.ntmps54
  go_wp2_with (first | (go_at_call 76; (with_reducible refine (hasTasks_any _ _ _ _ _ _ _ Hk.out hl Ht.out).mono ?_); rintro e w' ⟨rfl, hb2⟩))
  go_ret
  exact ⟨rfl, ((Below.refl _ _).alloc (Nat.le_refl _) _).trans (hb2.mono (by simp))⟩
end Go.Proofs.YtppgameimddimaaGreat

namespace Go.Proofs.YtppgameimddimaaGreat
open Go.ChangeShapes Go.WideShapes Go.ChangeAt Go.RowKit
set_option linter.unusedVariables false

def partB (p : PartM) (res : Int) : Bool :=
  if p.kind = 3 then inB p.len 1 60 && inB p.res 0 (res - 1) else if p.kind = 1 ∨ p.kind = 2 then inB p.len 1 60 && inB p.res 0 0 else false
def partsB (ps : List PartM) (res : Int) : Bool := inB ps.length 1 6 && ps.all fun p => partB p res
theorem all_next {α : Type} [Inhabited α] {f : α → Bool} {l : List α} {k : Nat} {x : α} (hx : l.getD k default = x) (hf : f x = true) (h : ∀ j, j < k → f (l.getD j default) = true) : ∀ j, j < k + 1 → f (l.getD j default) = true := by
  intro j hj
  by_cases e : j = k
  · subst e; rw [hx]; exact hf
  · exact h j (by omega)
theorem all_getD {α : Type} [Inhabited α] {f : α → Bool} {l : List α} (h : ∀ j, j < l.length → f (l.getD j default) = true) : l.all f = true := by
  rw [List.all_eq_true]
  intro x hx
  obtain ⟨j, hj, rfl⟩ := List.mem_iff_getElem.1 hx
  have := h j hj
  simpa [List.getD, hj] using this
theorem not_all_getD {α : Type} [Inhabited α] {f : α → Bool} {l : List α} {k : Nat} {x : α} (hk : k < l.length) (hx : l.getD k default = x) (h : f x = false) : l.all f = false := by
  rw [List.all_eq_false]
  refine ⟨x, ?_, by simp [h]⟩
  rw [← hx]; simp [List.getD, hk]

set_option maxHeartbeats 1000000 in
theorem parted_any (a : Option Addr) (c : Nat) (ps : List PartM) (res : Int) (w : World) (h : PartsAt w a ps) (hl : ps.length ≤ maxLen) (r0 : 0 ≤ res) (r1 : res ≤ 9223372036854775807) :
    Calls Tryz.prog 55 #[.slice a ps.length c, .int .i64 res] w fun e w' => e = .returned (.bool (partsB ps res)) ∧ Below w.heap.size w w' := by
  unfold maxLen at hl
  have HR := hidp h
  clear h
  by_cases h0 : inB ps.length 1 6 = true
  · go_enter Tryz.func55, Tryz.ntmps55
    go_wp2
    go_step3
    go_wp2_with (first | (go_at_call 53; (with_reducible refine (within_any _ _ _ _).mono ?_); rintro e w' ⟨rfl, rfl⟩))
    go_step3
    go_wp2
    go_loopg [14] ps.length (fun g i wr => ∃ k : Nat, k + g = ps.length ∧ i = .int .i64 k ∧ Hid (∀ j, j < k → partB (ps.getD j default) res = true) ∧ Below w.heap.size w wr)
    case atStart => exact ⟨0, by omega, rfl, hidp (by omega), Below.refl _ _⟩
    case round =>
      obtain ⟨k, hk, rfl, Ho, hw⟩ := hrel
      by_cases hlt : k < ps.length
      · obtain ⟨g, off, hA, hc⟩ := HR.out.resolve_left (by intro e; simp [e] at hlt)
        subst hA
        obtain ⟨p, HN⟩ : ∃ p, Hid (ps.getD k default = p) := ⟨_, rfl⟩
        have hc := HN.out ▸ hc k hlt
        obtain ⟨c0, c1, c2⟩ := hc.keep (Keeps.of_below hw)
        clear hc
        have Hn : Hid (partB p res = true → ∀ j, j < k + 1 → partB (ps.getD j default) res = true) := hidp (fun g => all_next (f := fun p => partB p res) HN.out g Ho.out)
        have Hx : Hid (partB p res = false → partsB ps res = false) := hidp (fun g => by rw [partsB, not_all_getD hlt HN.out g]; simp)
        obtain ⟨kd, ln, rs⟩ := p
        by_cases k3 : kd = 3
        · subst k3
          have Hy : Hid (partB ⟨3, ln, rs⟩ res = (inB ln 1 60 && inB rs 0 (res - 1))) := hidp (by simp [partB])
          by_cases g1 : inB ln 1 60 = true
          · by_cases g2 : inB rs 0 (res - 1) = true
            · have Hz := hidp (Hn.out (by rw [Hy.out, g1, g2]; rfl))
              go_wp2_with (first | (go_at_call 53; (with_reducible refine (within_any _ _ _ _).mono ?_); rintro e w' ⟨rfl, rfl⟩))
              go_roundg (gk - 1)
              case measure => omega
              case rel => exact ⟨k + 1, by omega, by go_num, Hz, hw.alloc hw.size _⟩
            · have g2 : inB rs 0 (res - 1) = false := by simpa using g2
              have Hz := hidp (Hx.out (by rw [Hy.out, g1, g2]; rfl))
              go_wp2_with (first | (go_at_call 53; (with_reducible refine (within_any _ _ _ _).mono ?_); rintro e w' ⟨rfl, rfl⟩))
              try rw [Exit.noGoto_ret]
              go_ret
              exact ⟨ret_bool Hz.out.symm, hw.alloc hw.size _⟩
          · have g1 : inB ln 1 60 = false := by simpa using g1
            have Hz := hidp (Hx.out (by rw [Hy.out, g1]; rfl))
            go_wp2_with (first | (go_at_call 53; (with_reducible refine (within_any _ _ _ _).mono ?_); rintro e w' ⟨rfl, rfl⟩))
            try rw [Exit.noGoto_ret]
            go_ret
            exact ⟨ret_bool Hz.out.symm, hw.alloc hw.size _⟩
        · by_cases k1 : kd = 1
          · subst k1
            clear k3
            have Hy : Hid (partB ⟨1, ln, rs⟩ res = (inB ln 1 60 && inB rs 0 (0))) := hidp (by simp [partB])
            by_cases g1 : inB ln 1 60 = true
            · by_cases g2 : inB rs 0 (0) = true
              · have Hz := hidp (Hn.out (by rw [Hy.out, g1, g2]; rfl))
                go_wp2_with (first | (go_at_call 53; (with_reducible refine (within_any _ _ _ _).mono ?_); rintro e w' ⟨rfl, rfl⟩))
                go_roundg (gk - 1)
                case measure => omega
                case rel => exact ⟨k + 1, by omega, by go_num, Hz, hw.alloc hw.size _⟩
              · have g2 : inB rs 0 (0) = false := by simpa using g2
                have Hz := hidp (Hx.out (by rw [Hy.out, g1, g2]; rfl))
                go_wp2_with (first | (go_at_call 53; (with_reducible refine (within_any _ _ _ _).mono ?_); rintro e w' ⟨rfl, rfl⟩))
                try rw [Exit.noGoto_ret]
                go_ret
                exact ⟨ret_bool Hz.out.symm, hw.alloc hw.size _⟩
            · have g1 : inB ln 1 60 = false := by simpa using g1
              have Hz := hidp (Hx.out (by rw [Hy.out, g1]; rfl))
              go_wp2_with (first | (go_at_call 53; (with_reducible refine (within_any _ _ _ _).mono ?_); rintro e w' ⟨rfl, rfl⟩))
              try rw [Exit.noGoto_ret]
              go_ret
              exact ⟨ret_bool Hz.out.symm, hw.alloc hw.size _⟩
          · by_cases k2 : kd = 2
            · subst k2
              clear k3 k1
              have Hy : Hid (partB ⟨2, ln, rs⟩ res = (inB ln 1 60 && inB rs 0 (0))) := hidp (by simp [partB])
              by_cases g1 : inB ln 1 60 = true
              · by_cases g2 : inB rs 0 (0) = true
                · have Hz := hidp (Hn.out (by rw [Hy.out, g1, g2]; rfl))
                  go_wp2_with (first | (go_at_call 53; (with_reducible refine (within_any _ _ _ _).mono ?_); rintro e w' ⟨rfl, rfl⟩))
                  go_roundg (gk - 1)
                  case measure => omega
                  case rel => exact ⟨k + 1, by omega, by go_num, Hz, hw.alloc hw.size _⟩
                · have g2 : inB rs 0 (0) = false := by simpa using g2
                  have Hz := hidp (Hx.out (by rw [Hy.out, g1, g2]; rfl))
                  go_wp2_with (first | (go_at_call 53; (with_reducible refine (within_any _ _ _ _).mono ?_); rintro e w' ⟨rfl, rfl⟩))
                  try rw [Exit.noGoto_ret]
                  go_ret
                  exact ⟨ret_bool Hz.out.symm, hw.alloc hw.size _⟩
              · have g1 : inB ln 1 60 = false := by simpa using g1
                have Hz := hidp (Hx.out (by rw [Hy.out, g1]; rfl))
                go_wp2_with (first | (go_at_call 53; (with_reducible refine (within_any _ _ _ _).mono ?_); rintro e w' ⟨rfl, rfl⟩))
                try rw [Exit.noGoto_ret]
                go_ret
                exact ⟨ret_bool Hz.out.symm, hw.alloc hw.size _⟩
            · have Hz := hidp (Hx.out (by simp [partB, k1, k2, k3]))
              have e3 : (kd == 3) = false := by simpa using k3
              have e1 : (kd == 1) = false := by simpa using k1
              have e2 : (kd == 2) = false := by simpa using k2
              go_wp2_with (first | (go_at_call 53; (with_reducible refine (within_any _ _ _ _).mono ?_); rintro e w' ⟨rfl, rfl⟩))
              try rw [Exit.noGoto_ret]
              go_ret
              exact ⟨ret_bool Hz.out.symm, hw.alloc hw.size _⟩
      · have Hz : Hid (partsB ps res = true) := hidp (by rw [partsB, h0, all_getD (f := fun p => partB p res) (fun j hj => Ho.out j (by omega))]; rfl)
        go_wp2
        try rw [Exit.noGoto_ret]
        go_ret
        exact ⟨ret_bool Hz.out.symm, hw⟩
  · have h0 : inB ps.length 1 6 = false := by simpa using h0
    have Hz : Hid (partsB ps res = false) := hidp (by rw [partsB, h0]; rfl)
    go_enter Tryz.func55, Tryz.ntmps55
    go_wp2
    go_step3
    go_wp2_with (first | (go_at_call 53; (with_reducible refine (within_any _ _ _ _).mono ?_); rintro e w' ⟨rfl, rfl⟩))
    try rw [Exit.noGoto_ret]
    go_ret
    exact ⟨ret_bool Hz.out.symm, Below.refl _ _⟩
end Go.Proofs.YtppgameimddimaaGreat

set_option linter.unusedSimpArgs false
namespace Go.Proofs.YtppgameimddimaaGreat
open Go.ChangeShapes Go.WideShapes Go.ChangeAt Go.RowKit
set_option linter.unusedVariables false

/-- at block b lie the four cells of a set -/
def SetCells (w : World) (b : Nat) (s : SetR) : Prop :=
  w.cell? ⟨b, 0, none⟩ = some (.int .i64 s.proto) ∧ w.cell? ⟨b, 1, none⟩ = some (.slice s.ca s.cores.length s.cc) ∧ w.cell? ⟨b, 2, none⟩ = some (.slice s.ha s.homes.length s.hc) ∧ w.cell? ⟨b, 3, none⟩ = some (.slice s.ta s.tasks.length s.tc)
theorem SetCells.keep {w w' : World} {b : Nat} {s : SetR} (h : SetCells w b s) (k : Keeps w w') : SetCells w' b s := ⟨k _ _ h.1, k _ _ h.2.1, k _ _ h.2.2.1, k _ _ h.2.2.2⟩
theorem SetCells.mk {w : World} {b : Nat} {s : SetR} (h0 : w.cell? ⟨b, 0, none⟩ = some (.int .i64 s.proto)) (h1 : w.cell? ⟨b, 1, none⟩ = some (.slice s.ca s.cores.length s.cc)) (h2 : w.cell? ⟨b, 2, none⟩ = some (.slice s.ha s.homes.length s.hc)) (h3 : w.cell? ⟨b, 3, none⟩ = some (.slice s.ta s.tasks.length s.tc)) : SetCells w b s := ⟨h0, h1, h2, h3⟩
theorem SetCells.new (w : World) (s : SetR) (T : TypeId) : SetCells (w.alloc (.cells #[.int .i64 s.proto, .slice s.ca s.cores.length s.cc, .slice s.ha s.homes.length s.hc, .slice s.ta s.tasks.length s.tc] T)) w.heap.size s := by
  refine ⟨?_, ?_, ?_, ?_⟩ <;> simp
def frameV (s : SetR) : Int :=
  if inB s.proto 1 3 = false then 10 else
  if inB s.cores.length 1 3 = false then 16 else
  if allB s.cores 1 3 = false then 16 else
  if 4 < s.homes.length then 16 else
  if allB s.homes 0 ((s.cores.length : Int) - 1) = false then 16 else
  if 6 < s.tasks.length then 11 else
  if s.tasks.length = 0 then 14 else 0

set_option maxHeartbeats 1000000 in
theorem frame_any (s : SetR) (w : World) (hs : SetOk w s) : Calls Tryz.prog 51 #[.agg #[.int .i64 s.proto, .slice s.ca s.cores.length s.cc, .slice s.ha s.homes.length s.hc, .slice s.ta s.tasks.length s.tc]] w fun e w' => e = .returned (.int .i64 (frameV s)) ∧ Below w.heap.size w w' := by
  have l1 : s.cores.length ≤ maxLen := Nat.le_trans hs.cores.sl.2.1 hs.cores.sl.2.2
  have l2 : s.homes.length ≤ maxLen := Nat.le_trans hs.homes.sl.2.1 hs.homes.sl.2.2
  have l3 : s.tasks.length ≤ maxLen := Nat.le_trans hs.tasks.sl.2.1 hs.tasks.sl.2.2
  unfold maxLen at l1 l2 l3
  have CB := hidp (SetCells.new w s 25)
  have HB := hidp ((Below.refl w.heap.size w).alloc (Nat.le_refl _) (.cells #[.int .i64 s.proto, .slice s.ca s.cores.length s.cc, .slice s.ha s.homes.length s.hc, .slice s.ta s.tasks.length s.tc] 25))
  by_cases h0 : inB s.proto 1 3 = true
  · skip
    by_cases h1 : inB s.cores.length 1 3 = true
    · skip
      by_cases h2 : allB s.cores 1 3 = true
      · skip
        by_cases h3 : 4 < s.homes.length
        · skip
          have H : Hid (frameV s = 16) := hidp (by simp [frameV, h0, h1, h2, h3])
          obtain ⟨c0, c1, c2, c3⟩ := CB.out
          have hb := HB.out
          go_enter Tryz.func51, Tryz.ntmps51
          go_wp2_with (first | (go_at_call 53; (with_reducible refine (within_any _ _ _ _).mono ?_); rintro e w' ⟨rfl, rfl⟩) | (go_at_call 74; (first | (with_reducible refine (all_any _ _ _ 1 3 _ (hs.cores.keep (Keeps.of_below hb))).mono ?_) | (with_reducible refine (all_any _ _ _ 0 _ _ (hs.homes.keep (Keeps.of_below hb))).mono ?_)); rintro e w2 ⟨rfl, hb2⟩; replace hb := hb.trans (hb2.mono hb.size); have CB2 := (SetCells.mk c0 c1 c2 c3).keep (Keeps.of_below hb2); clear c0 c1 c2 c3 hb2; obtain ⟨c0, c1, c2, c3⟩ := CB2))
          go_ret
          exact ⟨ret_int H.out.symm, hb⟩
        · skip
          by_cases h4 : allB s.homes 0 ((s.cores.length : Int) - 1) = true
          · skip
            by_cases h5 : 6 < s.tasks.length
            · skip
              have H : Hid (frameV s = 11) := hidp (by simp [frameV, h0, h1, h2, h3, h4, h5])
              obtain ⟨c0, c1, c2, c3⟩ := CB.out
              have hb := HB.out
              go_enter Tryz.func51, Tryz.ntmps51
              go_wp2_with (first | (go_at_call 53; (with_reducible refine (within_any _ _ _ _).mono ?_); rintro e w' ⟨rfl, rfl⟩) | (go_at_call 74; (first | (with_reducible refine (all_any _ _ _ 1 3 _ (hs.cores.keep (Keeps.of_below hb))).mono ?_) | (with_reducible refine (all_any _ _ _ 0 _ _ (hs.homes.keep (Keeps.of_below hb))).mono ?_)); rintro e w2 ⟨rfl, hb2⟩; replace hb := hb.trans (hb2.mono hb.size); have CB2 := (SetCells.mk c0 c1 c2 c3).keep (Keeps.of_below hb2); clear c0 c1 c2 c3 hb2; obtain ⟨c0, c1, c2, c3⟩ := CB2))
              go_ret
              exact ⟨ret_int H.out.symm, hb⟩
            · skip
              by_cases h6 : s.tasks.length = 0
              · have z : ((s.tasks.length : Int) == 0) = true := by simp [h6]
                have H6 := hidp h6
                have H : Hid (frameV s = 14) := hidp (by simp [frameV, h0, h1, h2, h3, h4, h5, h6])
                clear h6
                obtain ⟨c0, c1, c2, c3⟩ := CB.out
                have hb := HB.out
                go_enter Tryz.func51, Tryz.ntmps51
                go_wp2_with (first | (go_at_call 53; (with_reducible refine (within_any _ _ _ _).mono ?_); rintro e w' ⟨rfl, rfl⟩) | (go_at_call 74; (first | (with_reducible refine (all_any _ _ _ 1 3 _ (hs.cores.keep (Keeps.of_below hb))).mono ?_) | (with_reducible refine (all_any _ _ _ 0 _ _ (hs.homes.keep (Keeps.of_below hb))).mono ?_)); rintro e w2 ⟨rfl, hb2⟩; replace hb := hb.trans (hb2.mono hb.size); have CB2 := (SetCells.mk c0 c1 c2 c3).keep (Keeps.of_below hb2); clear c0 c1 c2 c3 hb2; obtain ⟨c0, c1, c2, c3⟩ := CB2))
                go_ret
                exact ⟨ret_int H.out.symm, hb⟩
              · have z : ((s.tasks.length : Int) == 0) = false := by simp; intro e; exact h6 (by simp [e])
                have H : Hid (frameV s = 0) := hidp (by simp [frameV, h0, h1, h2, h3, h4, h5, h6])
                obtain ⟨c0, c1, c2, c3⟩ := CB.out
                have hb := HB.out
                go_enter Tryz.func51, Tryz.ntmps51
                go_wp2_with (first | (go_at_call 53; (with_reducible refine (within_any _ _ _ _).mono ?_); rintro e w' ⟨rfl, rfl⟩) | (go_at_call 74; (first | (with_reducible refine (all_any _ _ _ 1 3 _ (hs.cores.keep (Keeps.of_below hb))).mono ?_) | (with_reducible refine (all_any _ _ _ 0 _ _ (hs.homes.keep (Keeps.of_below hb))).mono ?_)); rintro e w2 ⟨rfl, hb2⟩; replace hb := hb.trans (hb2.mono hb.size); have CB2 := (SetCells.mk c0 c1 c2 c3).keep (Keeps.of_below hb2); clear c0 c1 c2 c3 hb2; obtain ⟨c0, c1, c2, c3⟩ := CB2))
                go_ret
                exact ⟨ret_int H.out.symm, hb⟩
          · have h4 : allB s.homes 0 ((s.cores.length : Int) - 1) = false := by simpa using h4
            have H : Hid (frameV s = 16) := hidp (by simp [frameV, h0, h1, h2, h3, h4])
            obtain ⟨c0, c1, c2, c3⟩ := CB.out
            have hb := HB.out
            go_enter Tryz.func51, Tryz.ntmps51
            go_wp2_with (first | (go_at_call 53; (with_reducible refine (within_any _ _ _ _).mono ?_); rintro e w' ⟨rfl, rfl⟩) | (go_at_call 74; (first | (with_reducible refine (all_any _ _ _ 1 3 _ (hs.cores.keep (Keeps.of_below hb))).mono ?_) | (with_reducible refine (all_any _ _ _ 0 _ _ (hs.homes.keep (Keeps.of_below hb))).mono ?_)); rintro e w2 ⟨rfl, hb2⟩; replace hb := hb.trans (hb2.mono hb.size); have CB2 := (SetCells.mk c0 c1 c2 c3).keep (Keeps.of_below hb2); clear c0 c1 c2 c3 hb2; obtain ⟨c0, c1, c2, c3⟩ := CB2))
            go_ret
            exact ⟨ret_int H.out.symm, hb⟩
      · have h2 : allB s.cores 1 3 = false := by simpa using h2
        have H : Hid (frameV s = 16) := hidp (by simp [frameV, h0, h1, h2])
        obtain ⟨c0, c1, c2, c3⟩ := CB.out
        have hb := HB.out
        go_enter Tryz.func51, Tryz.ntmps51
        go_wp2_with (first | (go_at_call 53; (with_reducible refine (within_any _ _ _ _).mono ?_); rintro e w' ⟨rfl, rfl⟩) | (go_at_call 74; (first | (with_reducible refine (all_any _ _ _ 1 3 _ (hs.cores.keep (Keeps.of_below hb))).mono ?_) | (with_reducible refine (all_any _ _ _ 0 _ _ (hs.homes.keep (Keeps.of_below hb))).mono ?_)); rintro e w2 ⟨rfl, hb2⟩; replace hb := hb.trans (hb2.mono hb.size); have CB2 := (SetCells.mk c0 c1 c2 c3).keep (Keeps.of_below hb2); clear c0 c1 c2 c3 hb2; obtain ⟨c0, c1, c2, c3⟩ := CB2))
        go_ret
        exact ⟨ret_int H.out.symm, hb⟩
    · have h1 : inB s.cores.length 1 3 = false := by simpa using h1
      have H : Hid (frameV s = 16) := hidp (by simp [frameV, h0, h1])
      obtain ⟨c0, c1, c2, c3⟩ := CB.out
      have hb := HB.out
      go_enter Tryz.func51, Tryz.ntmps51
      go_wp2_with (first | (go_at_call 53; (with_reducible refine (within_any _ _ _ _).mono ?_); rintro e w' ⟨rfl, rfl⟩) | (go_at_call 74; (first | (with_reducible refine (all_any _ _ _ 1 3 _ (hs.cores.keep (Keeps.of_below hb))).mono ?_) | (with_reducible refine (all_any _ _ _ 0 _ _ (hs.homes.keep (Keeps.of_below hb))).mono ?_)); rintro e w2 ⟨rfl, hb2⟩; replace hb := hb.trans (hb2.mono hb.size); have CB2 := (SetCells.mk c0 c1 c2 c3).keep (Keeps.of_below hb2); clear c0 c1 c2 c3 hb2; obtain ⟨c0, c1, c2, c3⟩ := CB2))
      go_ret
      exact ⟨ret_int H.out.symm, hb⟩
  · have h0 : inB s.proto 1 3 = false := by simpa using h0
    have H : Hid (frameV s = 10) := hidp (by simp [frameV, h0])
    obtain ⟨c0, c1, c2, c3⟩ := CB.out
    have hb := HB.out
    go_enter Tryz.func51, Tryz.ntmps51
    go_wp2_with (first | (go_at_call 53; (with_reducible refine (within_any _ _ _ _).mono ?_); rintro e w' ⟨rfl, rfl⟩) | (go_at_call 74; (first | (with_reducible refine (all_any _ _ _ 1 3 _ (hs.cores.keep (Keeps.of_below hb))).mono ?_) | (with_reducible refine (all_any _ _ _ 0 _ _ (hs.homes.keep (Keeps.of_below hb))).mono ?_)); rintro e w2 ⟨rfl, hb2⟩; replace hb := hb.trans (hb2.mono hb.size); have CB2 := (SetCells.mk c0 c1 c2 c3).keep (Keeps.of_below hb2); clear c0 c1 c2 c3 hb2; obtain ⟨c0, c1, c2, c3⟩ := CB2))
    go_ret
    exact ⟨ret_int H.out.symm, hb⟩
end Go.Proofs.YtppgameimddimaaGreat

namespace Go.Proofs.YtppgameimddimaaGreat
open Go.ChangeShapes Go.WideShapes Go.ChangeAt Go.RowKit
set_option linter.unusedVariables false

/-- what is wrong with the task at k -/
def taskE (s : SetR) (k : Nat) : Int :=
  if formB (s.tasks.getD k default) = false then 10 else
  if inB (s.tasks.getD k default).cl 0 ((s.cores.length : Int) - 1) = false then 16 else
  if takenB (s.tasks.take k) (s.tasks.getD k default) = true then 17 else
  if partsB (s.tasks.getD k default).parts s.homes.length = false then 15 else 0
def badAt (s : SetR) : Int := firstT ((List.range s.tasks.length).map fun k => taskE s k != 0)
def chkAt (s : SetR) : Int := if frameV s ≠ 0 then -1 else badAt s
def chkE (s : SetR) : Int := if frameV s ≠ 0 then frameV s else if badAt s = -1 then 0 else taskE s (badAt s).toNat
/-- a set that may be -/
def okS (s : SetR) : Bool := chkE s == 0

theorem bad_here {s : SetR} {k : Nat} (hk : k < s.tasks.length) (h : ∀ j, j < k → taskE s j = 0) (e : taskE s k ≠ 0) : badAt s = k := by
  unfold badAt
  refine firstT_at (by simpa using hk) (fun j hj => ?_) ?_
  · simp [List.getD, show j < s.tasks.length by omega, h j hj]
  · simp [List.getD, hk, e]
theorem bad_none {s : SetR} (h : ∀ j, j < s.tasks.length → taskE s j = 0) : badAt s = -1 := by
  unfold badAt
  refine firstT_none (fun j hj => ?_)
  simp at hj
  simp [List.getD, hj, h j hj]
theorem chk_here {s : SetR} {k : Nat} (hf : frameV s = 0) (hk : k < s.tasks.length) (h : ∀ j, j < k → taskE s j = 0) (e : taskE s k ≠ 0) : chkAt s = k ∧ chkE s = taskE s k := by
  have hb := bad_here hk h e
  unfold chkAt chkE
  rw [hb, if_neg (by simp [hf]), if_neg (by simp [hf]), if_neg (by omega)]
  exact ⟨rfl, by simp⟩
theorem chk_none {s : SetR} (hf : frameV s = 0) (h : ∀ j, j < s.tasks.length → taskE s j = 0) : chkAt s = -1 ∧ chkE s = 0 := by
  have hb := bad_none h
  unfold chkAt chkE
  rw [hb, if_neg (by simp [hf]), if_neg (by simp [hf]), if_pos rfl]
  exact ⟨rfl, rfl⟩
theorem frameV_ok {s : SetR} (h : frameV s = 0) : inB s.proto 1 3 = true ∧ inB s.cores.length 1 3 = true ∧ allB s.cores 1 3 = true ∧ s.homes.length ≤ 4 ∧ allB s.homes 0 ((s.cores.length : Int) - 1) = true ∧ 1 ≤ s.tasks.length ∧ s.tasks.length ≤ 6 := by
  unfold frameV at h
  by_cases h1 : inB s.proto 1 3 = false
  · rw [if_pos h1] at h; omega
  rw [if_neg h1] at h
  by_cases h2 : inB s.cores.length 1 3 = false
  · rw [if_pos h2] at h; omega
  rw [if_neg h2] at h
  by_cases h3 : allB s.cores 1 3 = false
  · rw [if_pos h3] at h; omega
  rw [if_neg h3] at h
  by_cases h4 : 4 < s.homes.length
  · rw [if_pos h4] at h; omega
  rw [if_neg h4] at h
  by_cases h5 : allB s.homes 0 ((s.cores.length : Int) - 1) = false
  · rw [if_pos h5] at h; omega
  rw [if_neg h5] at h
  by_cases h6 : 6 < s.tasks.length
  · rw [if_pos h6] at h; omega
  rw [if_neg h6] at h
  by_cases h7 : s.tasks.length = 0
  · rw [if_pos h7] at h; omega
  exact ⟨by simpa using h1, by simpa using h2, by simpa using h3, by omega, by simpa using h5, by omega, by omega⟩
theorem ret_ii {a b c d : Int} (h : a = b) (g : c = d) : Ending.returned (.tuple #[.int .i64 a, .int .i64 c]) = .returned (.tuple #[.int .i64 b, .int .i64 d]) := by rw [h, g]
theorem taken_n (a : Option Addr) (c n : Nat) (ts : List TaskR) (t : TaskR) (w : World) (hn : Hid (n = ts.length)) (h : TasksAt w a ts) (hl : ts.length ≤ maxLen) :
    Calls Tryz.prog 54 #[.slice a n c, .agg #[.string t.name, .int .i64 t.per, .int .i64 t.dl, .int .i64 t.prio, .int .i64 t.cl, .slice t.pa t.parts.length t.pc]] w fun e w' => e = .returned (.bool (takenB ts t)) ∧ Below w.heap.size w w' := by
  have e := hn.out; subst e; exact taken_any a c ts t w h hl
theorem TasksAt.take {w : World} {a : Option Addr} {ts : List TaskR} (h : TasksAt w a ts) (k : Nat) : TasksAt w a (ts.take k) := by
  rcases h with rfl | ⟨b, off, e, h⟩
  · exact .inl (by simp)
  · refine .inr ⟨b, off, e, fun i hi => ?_⟩
    rw [List.length_take] at hi
    have := h i (by omega)
    simpa [List.getD, List.getElem?_take, show i < k by omega] using this
theorem TaskCells.mk {w : World} {b off : Nat} {t : TaskR} (h0 : w.cell? ⟨b, off, none⟩ = some (.string t.name)) (h1 : w.cell? ⟨b, off + 1, none⟩ = some (.int .i64 t.per)) (h2 : w.cell? ⟨b, off + 2, none⟩ = some (.int .i64 t.dl)) (h3 : w.cell? ⟨b, off + 3, none⟩ = some (.int .i64 t.prio)) (h4 : w.cell? ⟨b, off + 4, none⟩ = some (.int .i64 t.cl)) (h5 : w.cell? ⟨b, off + 5, none⟩ = some (.slice t.pa t.parts.length t.pc)) : TaskCells w b off t := ⟨h0, h1, h2, h3, h4, h5⟩
/-- a task's box: its six cells from 0 on -/
def TaskBox (w : World) (b : Nat) (t : TaskR) : Prop :=
  w.cell? ⟨b, 0, none⟩ = some (.string t.name) ∧ w.cell? ⟨b, 1, none⟩ = some (.int .i64 t.per) ∧ w.cell? ⟨b, 2, none⟩ = some (.int .i64 t.dl) ∧
  w.cell? ⟨b, 3, none⟩ = some (.int .i64 t.prio) ∧ w.cell? ⟨b, 4, none⟩ = some (.int .i64 t.cl) ∧ w.cell? ⟨b, 5, none⟩ = some (.slice t.pa t.parts.length t.pc)
theorem TaskBox.keep {w w' : World} {b : Nat} {t : TaskR} (h : TaskBox w b t) (k : Keeps w w') : TaskBox w' b t :=
  ⟨k _ _ h.1, k _ _ h.2.1, k _ _ h.2.2.1, k _ _ h.2.2.2.1, k _ _ h.2.2.2.2.1, k _ _ h.2.2.2.2.2⟩
theorem TaskBox.new (w : World) (t : TaskR) (T : TypeId) : TaskBox (w.alloc (.cells #[.string t.name, .int .i64 t.per, .int .i64 t.dl, .int .i64 t.prio, .int .i64 t.cl, .slice t.pa t.parts.length t.pc] T)) w.heap.size t := by
  refine ⟨?_, ?_, ?_, ?_, ?_, ?_⟩ <;> simp

set_option maxHeartbeats 2000000 in
theorem check_row (proto : Int) (ca : Option Addr) (cc : Nat) (cores : List Int) (ha : Option Addr) (hc : Nat) (homes : List Int) (g off tc : Nat) (tasks : List TaskR) (w : World)
    (hs : SetOk w ⟨proto, ca, cc, cores, ha, hc, homes, some ⟨g, off, none⟩, tc, tasks⟩) (h0 : frameV ⟨proto, ca, cc, cores, ha, hc, homes, some ⟨g, off, none⟩, tc, tasks⟩ = 0) :
    Calls Tryz.prog 28 #[.agg #[.int .i64 proto, .slice ca cores.length cc, .slice ha homes.length hc, .slice (some ⟨g, off, none⟩) tasks.length tc]] w fun e w' => e = .returned (.tuple #[.int .i64 (chkAt ⟨proto, ca, cc, cores, ha, hc, homes, some ⟨g, off, none⟩, tc, tasks⟩), .int .i64 (chkE ⟨proto, ca, cc, cores, ha, hc, homes, some ⟨g, off, none⟩, tc, tasks⟩)]) ∧ Below w.heap.size w w' := by
  obtain ⟨S, HS⟩ : ∃ S, Hid (SetR.mk proto ca cc cores ha hc homes (some ⟨g, off, none⟩) tc tasks = S) := ⟨_, rfl⟩
  have e1 : Hid (S.cores = cores) := hidp (by rw [← HS.out])
  have e2 : Hid (S.homes = homes) := hidp (by rw [← HS.out])
  have e3 : Hid (S.tasks = tasks) := hidp (by rw [← HS.out])
  have l1 : cores.length ≤ maxLen := Nat.le_trans hs.cores.sl.2.1 hs.cores.sl.2.2
  have l2 : homes.length ≤ maxLen := Nat.le_trans hs.homes.sl.2.1 hs.homes.sl.2.2
  have l3 : tasks.length ≤ maxLen := Nat.le_trans hs.tasks.sl.2.1 hs.tasks.sl.2.2
  have L3 := hidp l3
  have ltc : tasks.length ≤ tc := hs.tasks.sl.2.1
  have ltm : tc ≤ maxLen := hs.tasks.sl.2.2
  unfold maxLen at ltm
  unfold maxLen at l1 l2 l3
  have CB := hidp (SetCells.new w ⟨proto, ca, cc, cores, ha, hc, homes, some ⟨g, off, none⟩, tc, tasks⟩ 25)
  have hb := ((Below.refl w.heap.size w).alloc (Nat.le_refl _) (.cells #[.int .i64 proto, .slice ca cores.length cc, .slice ha homes.length hc, .slice (some ⟨g, off, none⟩) tasks.length tc] 25))
  have Hfr := hidp (frame_any _ _ (hs.keep (Keeps.of_below hb)))
  have f0 := frameV_ok h0
  dsimp only at f0 Hfr
  have Ok := hidp hs.tasks.ok
  obtain ⟨g', off', hA, hcl⟩ := hs.tasks.at_.resolve_left (by intro e; dsimp only at e; rw [e] at f0; simp at f0)
  obtain ⟨rfl, rfl⟩ : g = g' ∧ off = off' := by injection hA with hA; injection hA with h1 h2; exact ⟨h1, h2⟩
  have At := hidp hs.tasks.at_
  dsimp only at hcl At Ok
  have Hc := hidp hcl
  clear hcl hs hA
  have H0 : Hid (frameV S = 0) := hidp (by rw [← HS.out]; exact h0)
  rw [HS.out] at h0 ⊢
  rw [HS.out] at Hfr
  rw [h0] at Hfr
  clear h0
  obtain ⟨f1, f2, f3, f4, f5, f6, f7⟩ := f0
  go_enter Tryz.func28, Tryz.ntmps28
  go_wp2
  go_step3
  go_wp2_with (first | (go_at_call 51; refine Hfr.out.mono ?_; rintro e w2 ⟨rfl, hb2⟩; replace hb := hb.trans (hb2.mono hb.size); have C2 := CB.out.keep (Keeps.of_below hb2); obtain ⟨c0, c1, c2, c3⟩ := C2; dsimp only at c0 c1 c2 c3; clear hb2))
  go_step3
  go_wp2
  --LOOP
  go_loopg [16] tasks.length (fun gg i wr => ∃ k : Nat, k + gg = tasks.length ∧ i = .int .i64 k ∧ Hid (∀ j, j < k → taskE S j = 0) ∧ SetCells wr w.heap.size ⟨proto, ca, cc, cores, ha, hc, homes, some ⟨g, off, none⟩, tc, tasks⟩ ∧ Below w.heap.size w wr)
  case atStart => exact ⟨0, by omega, rfl, hidp (by omega), SetCells.mk c0 c1 c2 c3, hb⟩
  case round =>
    obtain ⟨k, hk, rfl, Ho, sc, hb⟩ := hrel
    clear c0 c1 c2 c3
    have sc3 := sc
    obtain ⟨c0, c1, c2, c3⟩ := sc3
    dsimp only at c0 c1 c2 c3
    by_cases hlt : k < tasks.length
    · obtain ⟨t, HT⟩ : ∃ t, Hid (tasks.getD k default = t) := ⟨_, rfl⟩
      have tcl := (HT.out ▸ Hc.out k hlt).keep (Keeps.of_below hb)
      have Tok : Hid (TaskOk w t) := hidp (HT.out ▸ Ok.out _ (by simp [List.getD, hlt]))
      have Hnm := hidp Tok.out.name
      have Hpt := hidp Tok.out.at_
      have Hpl : Hid (t.parts.length ≤ maxLen) := hidp (Nat.le_trans Tok.out.sl.2.1 Tok.out.sl.2.2)
      have Hk : Hid (Hid (k = (tasks.take k).length)) := hidp (hidp (by rw [List.length_take]; omega))
      have kc : k ≤ tc := by omega
      have kc0 : (0 : Int) ≤ (k : Int) := by omega
      have kc1 : (k : Int) ≤ (tc : Int) := by omega
      have Hkl : Hid ((tasks.take k).length ≤ maxLen) := hidp (Nat.le_trans (by rw [List.length_take]; omega) L3.out)
      clear c0 c1 c2 c3
      obtain ⟨d0, d1, d2, d3, d4, d5⟩ := tcl
      have tb := TaskBox.new wr t 57
      replace sc := sc.keep (Keeps.alloc wr (.cells #[.string t.name, .int .i64 t.per, .int .i64 t.dl, .int .i64 t.prio, .int .i64 t.cl, .slice t.pa t.parts.length t.pc] 57))
      replace hb := hb.alloc hb.size (.cells #[.string t.name, .int .i64 t.per, .int .i64 t.dl, .int .i64 t.prio, .int .i64 t.cl, .slice t.pa t.parts.length t.pc] 57)
      have sc3 := sc
      obtain ⟨c0, c1, c2, c3⟩ := sc3
      dsimp only at c0 c1 c2 c3
      by_cases p1 : formB t = true
      · by_cases p2 : inB t.cl 0 ((cores.length : Int) - 1) = true
        · by_cases p3 : takenB (tasks.take k) t = true
          · skip
            have Hy : Hid (taskE S k = 17) := hidp (by unfold taskE; rw [e1.out, e2.out, e3.out, HT.out, p1, p2, p3]; simp)
            have Hz := hidp (chk_here H0.out (by rw [e3.out]; exact hlt) Ho.out (by rw [Hy.out]; decide))
            go_wp2_with (first | (go_at_call 52; (with_reducible refine (formed_any _ _ Hnm.out).mono ?_); rintro e u ⟨rfl, hb3⟩; replace hb := hb.trans (hb3.mono hb.size); replace tb := tb.keep (Keeps.of_below hb3); replace sc := sc.keep (Keeps.of_below hb3); have tb2 := tb; have sc2 := sc; obtain ⟨b0, b1, b2, b3, b4, b5⟩ := tb2; obtain ⟨c0, c1, c2, c3⟩ := sc2; dsimp only at c0 c1 c2 c3; clear hb3) | (go_at_call 53; (with_reducible refine (within_any _ _ _ _).mono ?_); rintro e w' ⟨rfl, rfl⟩) | (go_at_call 55; (with_reducible refine (parted_any _ _ _ _ _ (Hpt.out.keep (Keeps.of_below hb)) Hpl.out (by omega) (by omega)).mono ?_); rintro e u ⟨rfl, hb3⟩; replace hb := hb.trans (hb3.mono hb.size); replace tb := tb.keep (Keeps.of_below hb3); replace sc := sc.keep (Keeps.of_below hb3); have tb2 := tb; have sc2 := sc; obtain ⟨b0, b1, b2, b3, b4, b5⟩ := tb2; obtain ⟨c0, c1, c2, c3⟩ := sc2; dsimp only at c0 c1 c2 c3; clear hb3))
            replace sc := sc.keep (Keeps.drew _)
            replace tb := tb.keep (Keeps.drew _)
            replace hb := hb.drew
            go_region_held3 (fun w' => w'.cell? ⟨w.heap.size, 3, none⟩ = some (.slice (some ⟨g, off, none⟩) tasks.length tc) ∧ w'.cell? ⟨wr.heap.size, 0, none⟩ = some (.string t.name) ∧ w'.cell? ⟨wr.heap.size, 1, none⟩ = some (.int .i64 t.per) ∧ w'.cell? ⟨wr.heap.size, 2, none⟩ = some (.int .i64 t.dl) ∧ w'.cell? ⟨wr.heap.size, 3, none⟩ = some (.int .i64 t.prio) ∧ w'.cell? ⟨wr.heap.size, 4, none⟩ = some (.int .i64 t.cl) ∧ w'.cell? ⟨wr.heap.size, 5, none⟩ = some (.slice t.pa t.parts.length t.pc)) (exact ⟨sc.2.2.2, tb⟩)
              (first
                | (go_at_call 54; refine (taken_n _ _ _ _ _ _ Hk.out ((At.out.keep (Keeps.of_below hb)).take k) Hkl.out).mono ?_; rintro e u ⟨rfl, hb3⟩; replace hb := hb.trans (hb3.mono hb.size); replace tb := tb.keep (Keeps.of_below hb3); replace sc := sc.keep (Keeps.of_below hb3); have tb2 := tb; have sc2 := sc; obtain ⟨b0, b1, b2, b3, b4, b5⟩ := tb2; obtain ⟨c0, c1, c2, c3⟩ := sc2; dsimp only at c0 c1 c2 c3; clear hb3))
            go_wp2_with (first | (go_at_call 52; (with_reducible refine (formed_any _ _ Hnm.out).mono ?_); rintro e u ⟨rfl, hb3⟩; replace hb := hb.trans (hb3.mono hb.size); replace tb := tb.keep (Keeps.of_below hb3); replace sc := sc.keep (Keeps.of_below hb3); have tb2 := tb; have sc2 := sc; obtain ⟨b0, b1, b2, b3, b4, b5⟩ := tb2; obtain ⟨c0, c1, c2, c3⟩ := sc2; dsimp only at c0 c1 c2 c3; clear hb3) | (go_at_call 53; (with_reducible refine (within_any _ _ _ _).mono ?_); rintro e w' ⟨rfl, rfl⟩) | (go_at_call 55; (with_reducible refine (parted_any _ _ _ _ _ (Hpt.out.keep (Keeps.of_below hb)) Hpl.out (by omega) (by omega)).mono ?_); rintro e u ⟨rfl, hb3⟩; replace hb := hb.trans (hb3.mono hb.size); replace tb := tb.keep (Keeps.of_below hb3); replace sc := sc.keep (Keeps.of_below hb3); have tb2 := tb; have sc2 := sc; obtain ⟨b0, b1, b2, b3, b4, b5⟩ := tb2; obtain ⟨c0, c1, c2, c3⟩ := sc2; dsimp only at c0 c1 c2 c3; clear hb3))
            try rw [Exit.noGoto_ret]
            go_ret2
            exact ⟨ret_ii Hz.out.1.symm (by rw [Hz.out.2, Hy.out]), hb⟩
          · have p3 : takenB (tasks.take k) t = false := by simpa using p3
            by_cases p4 : partsB t.parts homes.length = true
            · skip
              have Hy : Hid (taskE S k = 0) := hidp (by unfold taskE; rw [e1.out, e2.out, e3.out, HT.out, p1, p2, p3, p4]; simp)
              have Hz : Hid (∀ j, j < k + 1 → taskE S j = 0) := hidp (fun j hj => by
                by_cases e : j = k
                · subst e; exact Hy.out
                · exact Ho.out j (by omega))
              go_wp2_with (first | (go_at_call 52; (with_reducible refine (formed_any _ _ Hnm.out).mono ?_); rintro e u ⟨rfl, hb3⟩; replace hb := hb.trans (hb3.mono hb.size); replace tb := tb.keep (Keeps.of_below hb3); replace sc := sc.keep (Keeps.of_below hb3); have tb2 := tb; have sc2 := sc; obtain ⟨b0, b1, b2, b3, b4, b5⟩ := tb2; obtain ⟨c0, c1, c2, c3⟩ := sc2; dsimp only at c0 c1 c2 c3; clear hb3) | (go_at_call 53; (with_reducible refine (within_any _ _ _ _).mono ?_); rintro e w' ⟨rfl, rfl⟩) | (go_at_call 55; (with_reducible refine (parted_any _ _ _ _ _ (Hpt.out.keep (Keeps.of_below hb)) Hpl.out (by omega) (by omega)).mono ?_); rintro e u ⟨rfl, hb3⟩; replace hb := hb.trans (hb3.mono hb.size); replace tb := tb.keep (Keeps.of_below hb3); replace sc := sc.keep (Keeps.of_below hb3); have tb2 := tb; have sc2 := sc; obtain ⟨b0, b1, b2, b3, b4, b5⟩ := tb2; obtain ⟨c0, c1, c2, c3⟩ := sc2; dsimp only at c0 c1 c2 c3; clear hb3))
              replace sc := sc.keep (Keeps.drew _)
              replace tb := tb.keep (Keeps.drew _)
              replace hb := hb.drew
              go_region_held3 (fun w' => w'.cell? ⟨w.heap.size, 3, none⟩ = some (.slice (some ⟨g, off, none⟩) tasks.length tc) ∧ w'.cell? ⟨wr.heap.size, 0, none⟩ = some (.string t.name) ∧ w'.cell? ⟨wr.heap.size, 1, none⟩ = some (.int .i64 t.per) ∧ w'.cell? ⟨wr.heap.size, 2, none⟩ = some (.int .i64 t.dl) ∧ w'.cell? ⟨wr.heap.size, 3, none⟩ = some (.int .i64 t.prio) ∧ w'.cell? ⟨wr.heap.size, 4, none⟩ = some (.int .i64 t.cl) ∧ w'.cell? ⟨wr.heap.size, 5, none⟩ = some (.slice t.pa t.parts.length t.pc)) (exact ⟨sc.2.2.2, tb⟩)
                (first
                  | (go_at_call 54; refine (taken_n _ _ _ _ _ _ Hk.out ((At.out.keep (Keeps.of_below hb)).take k) Hkl.out).mono ?_; rintro e u ⟨rfl, hb3⟩; replace hb := hb.trans (hb3.mono hb.size); replace tb := tb.keep (Keeps.of_below hb3); replace sc := sc.keep (Keeps.of_below hb3); have tb2 := tb; have sc2 := sc; obtain ⟨b0, b1, b2, b3, b4, b5⟩ := tb2; obtain ⟨c0, c1, c2, c3⟩ := sc2; dsimp only at c0 c1 c2 c3; clear hb3))
              go_wp2_with (first | (go_at_call 52; (with_reducible refine (formed_any _ _ Hnm.out).mono ?_); rintro e u ⟨rfl, hb3⟩; replace hb := hb.trans (hb3.mono hb.size); replace tb := tb.keep (Keeps.of_below hb3); replace sc := sc.keep (Keeps.of_below hb3); have tb2 := tb; have sc2 := sc; obtain ⟨b0, b1, b2, b3, b4, b5⟩ := tb2; obtain ⟨c0, c1, c2, c3⟩ := sc2; dsimp only at c0 c1 c2 c3; clear hb3) | (go_at_call 53; (with_reducible refine (within_any _ _ _ _).mono ?_); rintro e w' ⟨rfl, rfl⟩) | (go_at_call 55; (with_reducible refine (parted_any _ _ _ _ _ (Hpt.out.keep (Keeps.of_below hb)) Hpl.out (by omega) (by omega)).mono ?_); rintro e u ⟨rfl, hb3⟩; replace hb := hb.trans (hb3.mono hb.size); replace tb := tb.keep (Keeps.of_below hb3); replace sc := sc.keep (Keeps.of_below hb3); have tb2 := tb; have sc2 := sc; obtain ⟨b0, b1, b2, b3, b4, b5⟩ := tb2; obtain ⟨c0, c1, c2, c3⟩ := sc2; dsimp only at c0 c1 c2 c3; clear hb3))
              go_roundg (gk - 1)
              case measure => omega
              case rel => exact ⟨k + 1, by omega, by go_num, Hz, sc, hb⟩
            · have p4 : partsB t.parts homes.length = false := by simpa using p4
              have Hy : Hid (taskE S k = 15) := hidp (by unfold taskE; rw [e1.out, e2.out, e3.out, HT.out, p1, p2, p3, p4]; simp)
              have Hz := hidp (chk_here H0.out (by rw [e3.out]; exact hlt) Ho.out (by rw [Hy.out]; decide))
              go_wp2_with (first | (go_at_call 52; (with_reducible refine (formed_any _ _ Hnm.out).mono ?_); rintro e u ⟨rfl, hb3⟩; replace hb := hb.trans (hb3.mono hb.size); replace tb := tb.keep (Keeps.of_below hb3); replace sc := sc.keep (Keeps.of_below hb3); have tb2 := tb; have sc2 := sc; obtain ⟨b0, b1, b2, b3, b4, b5⟩ := tb2; obtain ⟨c0, c1, c2, c3⟩ := sc2; dsimp only at c0 c1 c2 c3; clear hb3) | (go_at_call 53; (with_reducible refine (within_any _ _ _ _).mono ?_); rintro e w' ⟨rfl, rfl⟩) | (go_at_call 55; (with_reducible refine (parted_any _ _ _ _ _ (Hpt.out.keep (Keeps.of_below hb)) Hpl.out (by omega) (by omega)).mono ?_); rintro e u ⟨rfl, hb3⟩; replace hb := hb.trans (hb3.mono hb.size); replace tb := tb.keep (Keeps.of_below hb3); replace sc := sc.keep (Keeps.of_below hb3); have tb2 := tb; have sc2 := sc; obtain ⟨b0, b1, b2, b3, b4, b5⟩ := tb2; obtain ⟨c0, c1, c2, c3⟩ := sc2; dsimp only at c0 c1 c2 c3; clear hb3))
              replace sc := sc.keep (Keeps.drew _)
              replace tb := tb.keep (Keeps.drew _)
              replace hb := hb.drew
              go_region_held3 (fun w' => w'.cell? ⟨w.heap.size, 3, none⟩ = some (.slice (some ⟨g, off, none⟩) tasks.length tc) ∧ w'.cell? ⟨wr.heap.size, 0, none⟩ = some (.string t.name) ∧ w'.cell? ⟨wr.heap.size, 1, none⟩ = some (.int .i64 t.per) ∧ w'.cell? ⟨wr.heap.size, 2, none⟩ = some (.int .i64 t.dl) ∧ w'.cell? ⟨wr.heap.size, 3, none⟩ = some (.int .i64 t.prio) ∧ w'.cell? ⟨wr.heap.size, 4, none⟩ = some (.int .i64 t.cl) ∧ w'.cell? ⟨wr.heap.size, 5, none⟩ = some (.slice t.pa t.parts.length t.pc)) (exact ⟨sc.2.2.2, tb⟩)
                (first
                  | (go_at_call 54; refine (taken_n _ _ _ _ _ _ Hk.out ((At.out.keep (Keeps.of_below hb)).take k) Hkl.out).mono ?_; rintro e u ⟨rfl, hb3⟩; replace hb := hb.trans (hb3.mono hb.size); replace tb := tb.keep (Keeps.of_below hb3); replace sc := sc.keep (Keeps.of_below hb3); have tb2 := tb; have sc2 := sc; obtain ⟨b0, b1, b2, b3, b4, b5⟩ := tb2; obtain ⟨c0, c1, c2, c3⟩ := sc2; dsimp only at c0 c1 c2 c3; clear hb3))
              go_wp2_with (first | (go_at_call 52; (with_reducible refine (formed_any _ _ Hnm.out).mono ?_); rintro e u ⟨rfl, hb3⟩; replace hb := hb.trans (hb3.mono hb.size); replace tb := tb.keep (Keeps.of_below hb3); replace sc := sc.keep (Keeps.of_below hb3); have tb2 := tb; have sc2 := sc; obtain ⟨b0, b1, b2, b3, b4, b5⟩ := tb2; obtain ⟨c0, c1, c2, c3⟩ := sc2; dsimp only at c0 c1 c2 c3; clear hb3) | (go_at_call 53; (with_reducible refine (within_any _ _ _ _).mono ?_); rintro e w' ⟨rfl, rfl⟩) | (go_at_call 55; (with_reducible refine (parted_any _ _ _ _ _ (Hpt.out.keep (Keeps.of_below hb)) Hpl.out (by omega) (by omega)).mono ?_); rintro e u ⟨rfl, hb3⟩; replace hb := hb.trans (hb3.mono hb.size); replace tb := tb.keep (Keeps.of_below hb3); replace sc := sc.keep (Keeps.of_below hb3); have tb2 := tb; have sc2 := sc; obtain ⟨b0, b1, b2, b3, b4, b5⟩ := tb2; obtain ⟨c0, c1, c2, c3⟩ := sc2; dsimp only at c0 c1 c2 c3; clear hb3))
              try rw [Exit.noGoto_ret]
              go_ret2
              exact ⟨ret_ii Hz.out.1.symm (by rw [Hz.out.2, Hy.out]), hb⟩
        · have p2 : inB t.cl 0 ((cores.length : Int) - 1) = false := by simpa using p2
          have Hy : Hid (taskE S k = 16) := hidp (by unfold taskE; rw [e1.out, e2.out, e3.out, HT.out, p1, p2]; simp)
          have Hz := hidp (chk_here H0.out (by rw [e3.out]; exact hlt) Ho.out (by rw [Hy.out]; decide))
          go_wp2_with (first | (go_at_call 52; (with_reducible refine (formed_any _ _ Hnm.out).mono ?_); rintro e u ⟨rfl, hb3⟩; replace hb := hb.trans (hb3.mono hb.size); replace tb := tb.keep (Keeps.of_below hb3); replace sc := sc.keep (Keeps.of_below hb3); have tb2 := tb; have sc2 := sc; obtain ⟨b0, b1, b2, b3, b4, b5⟩ := tb2; obtain ⟨c0, c1, c2, c3⟩ := sc2; dsimp only at c0 c1 c2 c3; clear hb3) | (go_at_call 53; (with_reducible refine (within_any _ _ _ _).mono ?_); rintro e w' ⟨rfl, rfl⟩) | (go_at_call 55; (with_reducible refine (parted_any _ _ _ _ _ (Hpt.out.keep (Keeps.of_below hb)) Hpl.out (by omega) (by omega)).mono ?_); rintro e u ⟨rfl, hb3⟩; replace hb := hb.trans (hb3.mono hb.size); replace tb := tb.keep (Keeps.of_below hb3); replace sc := sc.keep (Keeps.of_below hb3); have tb2 := tb; have sc2 := sc; obtain ⟨b0, b1, b2, b3, b4, b5⟩ := tb2; obtain ⟨c0, c1, c2, c3⟩ := sc2; dsimp only at c0 c1 c2 c3; clear hb3))
          try rw [Exit.noGoto_ret]
          go_ret2
          exact ⟨ret_ii Hz.out.1.symm (by rw [Hz.out.2, Hy.out]), hb⟩
      · have p1 : formB t = false := by simpa using p1
        have Hy : Hid (taskE S k = 10) := hidp (by unfold taskE; rw [e1.out, e2.out, e3.out, HT.out, p1]; simp)
        have Hz := hidp (chk_here H0.out (by rw [e3.out]; exact hlt) Ho.out (by rw [Hy.out]; decide))
        go_wp2_with (first | (go_at_call 52; (with_reducible refine (formed_any _ _ Hnm.out).mono ?_); rintro e u ⟨rfl, hb3⟩; replace hb := hb.trans (hb3.mono hb.size); replace tb := tb.keep (Keeps.of_below hb3); replace sc := sc.keep (Keeps.of_below hb3); have tb2 := tb; have sc2 := sc; obtain ⟨b0, b1, b2, b3, b4, b5⟩ := tb2; obtain ⟨c0, c1, c2, c3⟩ := sc2; dsimp only at c0 c1 c2 c3; clear hb3) | (go_at_call 53; (with_reducible refine (within_any _ _ _ _).mono ?_); rintro e w' ⟨rfl, rfl⟩) | (go_at_call 55; (with_reducible refine (parted_any _ _ _ _ _ (Hpt.out.keep (Keeps.of_below hb)) Hpl.out (by omega) (by omega)).mono ?_); rintro e u ⟨rfl, hb3⟩; replace hb := hb.trans (hb3.mono hb.size); replace tb := tb.keep (Keeps.of_below hb3); replace sc := sc.keep (Keeps.of_below hb3); have tb2 := tb; have sc2 := sc; obtain ⟨b0, b1, b2, b3, b4, b5⟩ := tb2; obtain ⟨c0, c1, c2, c3⟩ := sc2; dsimp only at c0 c1 c2 c3; clear hb3))
        try rw [Exit.noGoto_ret]
        go_ret2
        exact ⟨ret_ii Hz.out.1.symm (by rw [Hz.out.2, Hy.out]), hb⟩
    · have Hz := hidp (chk_none H0.out (fun j hj => Ho.out j (by rw [e3.out] at hj; omega)))
      go_wp2
      try rw [Exit.noGoto_ret]
      go_ret2
      exact ⟨ret_ii Hz.out.1.symm Hz.out.2.symm, hb⟩
theorem check_any (s : SetR) (w : World) (hs : SetOk w s) : Calls Tryz.prog 28 #[.agg #[.int .i64 s.proto, .slice s.ca s.cores.length s.cc, .slice s.ha s.homes.length s.hc, .slice s.ta s.tasks.length s.tc]] w fun e w' => e = .returned (.tuple #[.int .i64 (chkAt s), .int .i64 (chkE s)]) ∧ Below w.heap.size w w' := by
  by_cases h0 : frameV s = 0
  · have f0 := frameV_ok h0
    obtain ⟨g, off, hA, _⟩ := hs.tasks.at_.resolve_left (by intro e; rw [e] at f0; simp at f0)
    obtain ⟨proto, ca, cc, cores, ha, hc, homes, ta, tc, tasks⟩ := s
    dsimp only at hA
    subst hA
    exact check_row proto ca cc cores ha hc homes g off tc tasks w hs h0
  · have H1 : Hid (chkAt s = -1) := hidp (by unfold chkAt; rw [if_pos h0])
    have H2 : Hid (chkE s = frameV s) := hidp (by unfold chkE; rw [if_pos h0])
    have hb := ((Below.refl w.heap.size w).alloc (Nat.le_refl _) (.cells #[.int .i64 s.proto, .slice s.ca s.cores.length s.cc, .slice s.ha s.homes.length s.hc, .slice s.ta s.tasks.length s.tc] 25))
    have hfr := frame_any _ _ (hs.keep (Keeps.of_below hb))
    have h0 : (frameV s == 0) = false := by simpa using h0
    have Hfr := hidp hfr
    clear hs hfr
    go_enter Tryz.func28, Tryz.ntmps28
    go_wp2
    go_step3
    go_wp2_with (first | (go_at_call 51; refine Hfr.out.mono ?_; rintro e w2 ⟨rfl, hb2⟩; replace hb := hb.trans (hb2.mono hb.size); clear hb2))
    try rw [Exit.noGoto_ret]
    go_ret2
    exact ⟨ret_ii H1.out.symm H2.out.symm, hb⟩
end Go.Proofs.YtppgameimddimaaGreat

namespace Go.Proofs.YtppgameimddimaaGreat
open Go.ChangeShapes Go.WideShapes Go.ChangeAt Go.RowKit
set_option linter.unusedVariables false

theorem firstT_neg {l : List Bool} (h : firstT l = -1) : ∀ j, j < l.length → l.getD j false = false := by
  intro j hj
  unfold firstT at h
  split at h
  · omega
  · rename_i hm
    cases hb : l.getD j false with
    | false => rfl
    | true =>
      rw [List.getD_eq_getElem?_getD, List.getElem?_eq_getElem hj] at hb
      simp at hb
      exact absurd (hb ▸ List.getElem_mem hj) hm
theorem firstT_pos {l : List Bool} (h : firstT l ≠ -1) : ∃ k, k < l.length ∧ firstT l = k ∧ l.getD k false = true := by
  unfold firstT at h ⊢
  split at h
  · rename_i hm
    have h2 : l.findIdx id < l.length := List.findIdx_lt_length.2 ⟨true, hm, rfl⟩
    refine ⟨l.findIdx id, h2, by rw [if_pos hm], ?_⟩
    rw [List.getD_eq_getElem?_getD, List.getElem?_eq_getElem h2]
    have h3 : id l[l.findIdx id] = true := List.findIdx_getElem (w := h2)
    simpa using h3
  · exact absurd rfl h
theorem okS_iff (s : SetR) : okS s = true ↔ frameV s = 0 ∧ ∀ k, k < s.tasks.length → taskE s k = 0 := by
  unfold okS chkE
  constructor
  · intro h
    by_cases hf : frameV s = 0
    · refine ⟨hf, ?_⟩
      rw [if_neg (by simp [hf])] at h
      by_cases hb : badAt s = -1
      · intro k hk
        have := firstT_neg hb k (by simpa using hk)
        simpa [List.getD, hk] using this
      · rw [if_neg hb] at h
        obtain ⟨k, hk, e, g⟩ := firstT_pos hb
        simp at hk
        simp [List.getD, hk] at g
        have e2 : (badAt s).toNat = k := by unfold badAt; rw [e]; simp
        rw [e2] at h
        exact absurd (by simpa using h) g
    · rw [if_pos hf] at h
      exact absurd (by simpa using h) hf
  · rintro ⟨hf, h⟩
    rw [if_neg (by simp [hf]), if_pos (bad_none h)]
    rfl
theorem taskE_ok {s : SetR} {k : Nat} (h : taskE s k = 0) : formB (s.tasks.getD k default) = true ∧ inB (s.tasks.getD k default).cl 0 ((s.cores.length : Int) - 1) = true ∧ takenB (s.tasks.take k) (s.tasks.getD k default) = false ∧ partsB (s.tasks.getD k default).parts s.homes.length = true := by
  unfold taskE at h
  by_cases h1 : formB (s.tasks.getD k default) = false
  · rw [if_pos h1] at h; omega
  rw [if_neg h1] at h
  by_cases h2 : inB (s.tasks.getD k default).cl 0 ((s.cores.length : Int) - 1) = false
  · rw [if_pos h2] at h; omega
  rw [if_neg h2] at h
  by_cases h3 : takenB (s.tasks.take k) (s.tasks.getD k default) = true
  · rw [if_pos h3] at h; omega
  rw [if_neg h3] at h
  by_cases h4 : partsB (s.tasks.getD k default).parts s.homes.length = false
  · rw [if_pos h4] at h; omega
  exact ⟨by simpa using h1, by simpa using h2, by simpa using h3, by simpa using h4⟩
theorem allB_at {zs : List Int} {lo hi : Int} (h : allB zs lo hi = true) : ∀ z ∈ zs, lo ≤ z ∧ z ≤ hi := by
  intro z hz
  exact inB_true.1 (List.all_eq_true.1 h z hz)
/-- a part that may be, among so many resources -/
def PartGood (p : PartM) (res : Int) : Prop := (p.kind = 1 ∨ p.kind = 2 ∨ p.kind = 3) ∧ 1 ≤ p.len ∧ p.len ≤ 60 ∧ (p.kind = 3 → 0 ≤ p.res ∧ p.res < res)
theorem partB_good {p : PartM} {res : Int} (h : partB p res = true) : PartGood p res := by
  unfold partB at h
  unfold PartGood
  by_cases h3 : p.kind = 3
  · rw [if_pos h3, Bool.and_eq_true] at h
    have h1 := inB_true.1 h.1
    have h2 := inB_true.1 h.2
    exact ⟨.inr (.inr h3), h1.1, h1.2, fun _ => by omega⟩
  · rw [if_neg h3] at h
    by_cases h12 : p.kind = 1 ∨ p.kind = 2
    · rw [if_pos h12, Bool.and_eq_true] at h
      have h1 := inB_true.1 h.1
      exact ⟨by omega, h1.1, h1.2, fun e => absurd e h3⟩
    · rw [if_neg h12] at h; cases h
/-- the parts of a task that may be -/
structure PartsGood (ps : List PartM) (res : Int) : Prop where
  len : 1 ≤ ps.length ∧ ps.length ≤ 6
  good : ∀ p ∈ ps, PartGood p res
theorem partsB_good {ps : List PartM} {res : Int} (h : partsB ps res = true) : PartsGood ps res := by
  unfold partsB at h
  rw [Bool.and_eq_true] at h
  have h1 := inB_true.1 h.1
  exact ⟨by omega, fun p hp => partB_good (List.all_eq_true.1 h.2 p hp)⟩
/-- a set that may be -/
structure Good (s : SetR) : Prop where
  proto : 1 ≤ s.proto ∧ s.proto ≤ 3
  ncores : 1 ≤ s.cores.length ∧ s.cores.length ≤ 3
  cores : ∀ n ∈ s.cores, 1 ≤ n ∧ n ≤ 3
  nhomes : s.homes.length ≤ 4
  homes : ∀ n ∈ s.homes, 0 ≤ n ∧ n ≤ (s.cores.length : Int) - 1
  ntasks : 1 ≤ s.tasks.length ∧ s.tasks.length ≤ 6
  parts : ∀ t ∈ s.tasks, PartsGood t.parts s.homes.length
  place : ∀ t ∈ s.tasks, 0 ≤ t.cl ∧ t.cl ≤ (s.cores.length : Int) - 1
  form : ∀ t ∈ s.tasks, formB t = true
  apart : ∀ k, k < s.tasks.length → takenB (s.tasks.take k) (s.tasks.getD k default) = false
theorem mem_getD {α : Type} [Inhabited α] {l : List α} {x : α} (h : x ∈ l) : ∃ k, k < l.length ∧ l.getD k default = x := by
  obtain ⟨k, hk, e⟩ := List.mem_iff_getElem.1 h
  exact ⟨k, hk, by simp [List.getD, hk, e]⟩
theorem getD_mem {α : Type} [Inhabited α] {l : List α} {k : Nat} (h : k < l.length) : l.getD k default ∈ l := by
  simp [List.getD, h]
theorem Good.of {s : SetR} (h : okS s = true) : Good s := by
  obtain ⟨hf, ht⟩ := (okS_iff s).1 h
  obtain ⟨f1, f2, f3, f4, f5, f6, f7⟩ := frameV_ok hf
  have g2 := inB_true.1 f2
  refine ⟨inB_true.1 f1, by omega, allB_at f3, f4, allB_at f5, ⟨f6, f7⟩, fun t hm => ?_, fun t hm => ?_, fun t hm => ?_, fun k hk => ?_⟩
  · obtain ⟨k, hk, rfl⟩ := mem_getD hm
    exact partsB_good (taskE_ok (ht k hk)).2.2.2
  · obtain ⟨k, hk, rfl⟩ := mem_getD hm
    exact inB_true.1 (taskE_ok (ht k hk)).2.1
  · obtain ⟨k, hk, rfl⟩ := mem_getD hm
    exact (taskE_ok (ht k hk)).1
  · exact (taskE_ok (ht k hk)).2.2.1

/-- the Lens of the parts of a kind -/
def sumK (k : Int) : List PartM → Int
  | [] => 0
  | p :: ps => (if p.kind = k then p.len else 0) + sumK k ps
theorem sumK_append (k : Int) (a b : List PartM) : sumK k (a ++ b) = sumK k a + sumK k b := by
  induction a with
  | nil => simp [sumK]
  | cons p a ih => simp only [List.cons_append, sumK, ih]; omega
theorem take_snocD {α : Type} [Inhabited α] (l : List α) (k : Nat) (h : k < l.length) : l.take (k + 1) = l.take k ++ [l.getD k default] := by
  rw [List.take_succ_eq_append_getElem h]; simp [List.getD, h]
theorem sumK_snoc (k : Int) (ps : List PartM) (n : Nat) (h : n < ps.length) : sumK k (ps.take (n + 1)) = sumK k (ps.take n) + if (ps.getD n default).kind = k then (ps.getD n default).len else 0 := by
  rw [take_snocD ps n h, sumK_append]; simp [sumK]
/-- Lens within their bounds -/
def LenOk (ps : List PartM) : Prop := ∀ p ∈ ps, 1 ≤ p.len ∧ p.len ≤ 60
theorem PartsGood.lens {ps : List PartM} {res : Int} (h : PartsGood ps res) : LenOk ps := fun p hp => ⟨(h.good p hp).2.1, (h.good p hp).2.2.1⟩
theorem LenOk.take {ps : List PartM} (h : LenOk ps) (n : Nat) : LenOk (ps.take n) := fun p hp => h p (List.mem_of_mem_take hp)
theorem sumK_bd (k : Int) {ps : List PartM} (h : LenOk ps) : 0 ≤ sumK k ps ∧ sumK k ps ≤ 60 * (ps.length : Int) := by
  induction ps with
  | nil => simp [sumK]
  | cons p ps ih =>
    have h1 := ih (fun q hq => h q (by simp [hq]))
    have h2 := h p (by simp)
    simp only [sumK, List.length_cons]
    split <;> omega
/-- the greatest Len of a Lock; 0: none -/
def maxL : List PartM → Int
  | [] => 0
  | p :: ps => max (if p.kind = 3 then p.len else 0) (maxL ps)
theorem maxL_nn (ps : List PartM) : 0 ≤ maxL ps := by
  induction ps with
  | nil => simp [maxL]
  | cons p a ih => simp only [maxL]; omega
theorem maxL_append (a b : List PartM) : maxL (a ++ b) = max (maxL a) (maxL b) := by
  induction a with
  | nil => have := maxL_nn b; simp [maxL]; omega
  | cons p a ih => simp only [List.cons_append, maxL, ih]; omega
theorem maxL_snoc (ps : List PartM) (n : Nat) (h : n < ps.length) : maxL (ps.take (n + 1)) = max (maxL (ps.take n)) (if (ps.getD n default).kind = 3 then (ps.getD n default).len else 0) := by
  rw [take_snocD ps n h, maxL_append]
  have := maxL_nn (ps.take n)
  simp only [maxL]; split <;> omega
theorem maxL_bd {ps : List PartM} (h : LenOk ps) : maxL ps ≤ 60 := by
  induction ps with
  | nil => simp [maxL]
  | cons p ps ih =>
    have h1 := ih (fun q hq => h q (by simp [hq]))
    have h2 := h p (by simp)
    simp only [maxL]
    split <;> omega
theorem maxL_le_sum {ps : List PartM} (h : LenOk ps) : maxL ps ≤ sumK 3 ps := by
  induction ps with
  | nil => simp [maxL, sumK]
  | cons p ps ih =>
    have h1 := ih (fun q hq => h q (by simp [hq]))
    have h2 := h p (by simp)
    have h3 := sumK_bd 3 (ps := ps) (fun q hq => h q (by simp [hq]))
    have h4 := maxL_nn ps
    simp only [maxL, sumK]
    split <;> omega
theorem sum_le_maxL {ps : List PartM} (h : LenOk ps) (h0 : maxL ps = 0) : sumK 3 ps = 0 := by
  induction ps with
  | nil => simp [sumK]
  | cons p ps ih =>
    have h2 := h p (by simp)
    have h4 := maxL_nn ps
    simp only [maxL] at h0
    have h1 := ih (fun q hq => h q (by simp [hq])) (by omega)
    simp only [sumK]
    split
    · rename_i e; rw [if_pos e] at h0; omega
    · omega
end Go.Proofs.YtppgameimddimaaGreat
