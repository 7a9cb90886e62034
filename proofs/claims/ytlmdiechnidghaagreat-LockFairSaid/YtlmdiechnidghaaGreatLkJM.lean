/- lock: Grant. -/
import Derived.Test.YtlmdiechnidghaaGreatLkLh
import Derived.Conc.SmallLaws
import Derived.Test.YtlmdiechnidghaaGreatRows2
import Derived.Deep.Slices
import Derived.Deep.Fields
import Derived.ChangeArms
import Derived.ChangeSame
import Derived.Deep.LoopGhost
import Derived.Deep.QuietTactic
import Derived.BigQuiet
import Derived.Deep.RegionHeld3
import Derived.Sort.OwnSortedInts
namespace Go.Proofs.YtlmdiechnidghaaGreat
open Go.ChangeShapes Go.WideShapes Go.ChangeAt Go.RowKit Go.Conc
set_option linter.unusedVariables false
set_option linter.unusedSimpArgs false
theorem infoKeyV : (Tryz.prog.info? 85).map (fun i => (i.zero, i.size, i.bytes)) = some (some (.agg #[]), 0, 0) := by kernel_rfl
theorem make_key (w : World) : (Instr.makeChan 86 (.int .i64 1)).run Tryz.prog w = .ok (.chan (some w.heap.size)) (w.alloc (.chan 1 #[] false 0 0 false)) := by
  obtain ⟨i, hi, hz, hs, hb⟩ := info_parts infoKeyV
  simpa using run_makeChan (P := Tryz.prog) (w := w) Tryz.underlying86 hi .i64 1 (by omega) (by rw [hb]; omega)
theorem key_new (w : World) (o : Obj) : (w.alloc o).heap[w.heap.size]? = some o := by
  show (w.heap.push o)[w.heap.size]? = some o
  simp
def NewKey (w : World) (e : Ending) (w' : World) : Prop := e = .returned (.chan (some w.heap.size)) ∧ KeyOk w' w.heap.size true ∧ Below w.heap.size w w' ∧ w'.heap.size = w.heap.size + 1
theorem newKey_any (w : World) : Calls Tryz.prog 56 #[] w (NewKey w) := by
  have hmc := make_key
  have hg : (w.alloc (.chan 1 #[] false 0 0 false)).heap[w.heap.size]? = some (.chan 1 #[] false 0 0 false) := key_new w _
  go_enter Tryz.func56, Tryz.ntmps56
  go_upto_region 2 with fail
  refine wpS_region [0, 1, 2] (by rfl) ?_
  refine wpS_quick (v := ?_) rfl rfl ?_ ?_
  rotate_left 1
  · (go_simp; (try with_reducible rfl))
  simp only [Act.put, List.setIfInBounds_toArray, List.set_cons_zero, List.set_cons_succ, List.getElem_toArray, List.getElem_cons_zero, List.getElem_cons_succ]
  refine wpS_quick (v := ?_) rfl rfl ?_ ?_
  rotate_left 1
  · (go_simp; (try with_reducible rfl))
  simp only [Act.put, List.setIfInBounds_toArray, List.set_cons_zero, List.set_cons_succ, List.getElem_toArray, List.getElem_cons_zero, List.getElem_cons_succ]
  refine wpS_send (w1 := w.alloc (.chan 1 #[] false 0 0 false)) (c := w.heap.size) (v := .agg #[]) (z' := .tuple #[]) (cap := 1) (buf := #[]) (s := 0) (r := 0) (tm := false) rfl rfl (by simp [go_sem, execOp, scase, Act.eval]) hg (by decide) ?_
  refine wpS_done ?_
  go_wp2_with fail
  go_ret
  have hb := (Below.refl w.heap.size w).alloc (Nat.le_refl _) (.chan 1 #[] false 0 0 false)
  have ht : Turned [w.heap.size] (w.alloc (.chan 1 #[] false 0 0 false)) ((w.alloc (.chan 1 #[] false 0 0 false)).setChan w.heap.size 1 #[.agg #[]] false 1 0 false) := (Turned.refl _ _).setChan (.inl (by simp)) _ _ _ _ _ _
  have hlt : w.heap.size < (w.alloc (.chan 1 #[] false 0 0 false)).heap.size := by simp
  exact ⟨rfl, ⟨1, 0, by simp [World.setChan]⟩, hb.trans (ht.below (by simp) (by simp)), by simp [World.setChan]⟩
end Go.Proofs.YtlmdiechnidghaaGreat

namespace Go.Proofs.YtlmdiechnidghaaGreat
open Go.ChangeShapes Go.WideShapes Go.ChangeAt Go.RowKit Go.Conc
set_option linter.unusedVariables false
set_option linter.unusedSimpArgs false
theorem infoKeyT : (Tryz.prog.info? 86).map (fun i => (i.zero, i.size, i.bytes)) = some (some (.chan none), 1, 8) := by kernel_rfl
theorem keyV_len (ks : List Nat) : (keyV ks).length = ks.length := by simp [keyV]
theorem keyV_one (ks : List Nat) : ∀ u ∈ keyV ks, u.oneCell' = true := fun u hu => by obtain ⟨c, _, rfl⟩ := List.mem_map.1 hu; rfl
/-- a row of keys that begins at a block from B on, all free, each from block B0 on, none where the row lies -/
structure KRow (B B0 : Nat) (w : World) (A : Option Addr) (n c : Nat) (ks : List Nat) : Prop where
  own : w.ownsRow B 86 1 (.slice A n c) n (keyV ks)
  len : n = ks.length
  cap : n ≤ c ∧ c ≤ maxLen
  nil : A = none → n = 0 ∧ c = 0
  keys : ∀ k ∈ ks, KeyOk w k true ∧ B0 ≤ k ∧ k ∉ fp A
theorem KRow.empty (B B0 : Nat) (w : World) : KRow B B0 w none 0 0 [] := ⟨World.ownsRow_nil _ _ _ _, rfl, by decide, fun _ => ⟨rfl, rfl⟩, by simp⟩
theorem KRow.turned {B B0 : Nat} {F : List Nat} {w w' : World} {A : Option Addr} {n c : Nat} {ks : List Nat} (h : KRow B B0 w A n c ks) (ht : Turned F w w') (hF : ∀ k ∈ fp A, k ∉ F) (hk : ∀ k ∈ ks, k ∉ F) : KRow B B0 w' A n c ks :=
  ⟨own_turned h.own ht hF, h.len, h.cap, h.nil, fun k hm => ⟨(h.keys k hm).1.turned ht (hk k hm), (h.keys k hm).2⟩⟩
theorem KRow.over {B B0 : Nat} {w w' : World} {A : Option Addr} {n c : Nat} {ks : List Nat} (h : KRow B B0 w A n c ks) (hb : Below w.heap.size w w') : KRow B B0 w' A n c ks := h.turned (Turned.of_below hb []) (by simp) (by simp)
/-- one key more: k is a key that is there already -/
theorem KRow.app {B B0 : Nat} {w w2 : World} {A A' : Option Addr} {n c c' k : Nat} {ks : List Nat} (h : KRow B B0 w A n c ks) (ha : App B 86 1 w A A' (n + 1) c' (keyV ks ++ [.chan (some k)]) w2) (hk : KeyOk w k true) (hB : B0 ≤ k) (hkA : k ∉ fp A) : KRow B B0 w2 A' (n + 1) c' (ks ++ [k]) := by
  have lt : ∀ j, j ∈ ks ++ [k] → KeyOk w j true ∧ B0 ≤ j ∧ j ∉ fp A := fun j hj => by
    rcases List.mem_append.1 hj with h1 | h1
    · exact h.keys j h1
    · simp at h1; subst h1; exact ⟨hk, hB, hkA⟩
  refine ⟨?_, by rw [List.length_append, ← h.len]; rfl, ha.cap, ha.nil, fun j hj => ⟨(lt j hj).1.turned ha.turned (lt j hj).2.2, (lt j hj).2.1, fun hm => ?_⟩⟩
  · have e : keyV (ks ++ [k]) = keyV ks ++ [.chan (some k)] := by simp [keyV]
    rw [e]; exact ha.own
  · rcases ha.fps j hm with h1 | h1
    · exact (lt j hj).2.2 h1
    · have := (lt j hj).1.lt; omega
theorem KRow.at_ {B B0 : Nat} {w : World} {A : Option Addr} {n c : Nat} {ks : List Nat} (h : KRow B B0 w A n c ks) {i : Nat} (hi : i < ks.length) : ∃ g, A = some ⟨g, 0, none⟩ ∧ w.cell? ⟨g, i, none⟩ = some (.chan (some (ks.getD i 0))) := by
  obtain ⟨g, hg, _, _⟩ := ownE_at h.own (by have := h.len; omega)
  refine ⟨g, hg, ?_⟩
  have hu := h.own
  rw [hg] at hu
  rcases Lies.of_own hu with h1 | ⟨b', off, e, _, hcc⟩
  · have := congrArg List.length h1
    rw [keyV_len, List.length_nil] at this
    omega
  · injection e with e
    injection e with e1 e2
    subst e1; subst e2
    have := hcc i (.chan (some (ks.getD i 0))) (by simp [keyV, List.getD, hi])
    simpa using this
end Go.Proofs.YtlmdiechnidghaaGreat

namespace Go.Proofs.YtlmdiechnidghaaGreat
open Go.ChangeShapes Go.WideShapes Go.ChangeAt Go.RowKit Go.Deep
set_option linter.unusedVariables false

structure PartM where
  kind : Int
  len : Int
  res : Int
deriving DecidableEq
instance : Inhabited PartM := ⟨⟨0, 0, 0⟩⟩
/-- a task: pa, pc: where its parts lie -/
structure TaskR where
  name : ByteArray
  per : Int
  dl : Int
  prio : Int
  cl : Int
  pa : Option Addr
  pc : Nat
  parts : List PartM
instance : Inhabited TaskR := ⟨⟨ByteArray.empty, 0, 0, 0, 0, none, 0, []⟩⟩
structure SetR where
  proto : Int
  ca : Option Addr
  cc : Nat
  cores : List Int
  ha : Option Addr
  hc : Nat
  homes : List Int
  ta : Option Addr
  tc : Nat
  tasks : List TaskR

def TaskR.val (t : TaskR) : Value := .agg #[.string t.name, .int .i64 t.per, .int .i64 t.dl, .int .i64 t.prio, .int .i64 t.cl, .slice t.pa t.parts.length t.pc]
def SetR.val (s : SetR) : Value := .agg #[.int .i64 s.proto, .slice s.ca s.cores.length s.cc, .slice s.ha s.homes.length s.hc, .slice s.ta s.tasks.length s.tc]

/-- a slice's three numbers are sound -/
def SlOk (a : Option Addr) (len cap : Nat) : Prop := (a = none → len = 0 ∧ cap = 0) ∧ len ≤ cap ∧ cap ≤ maxLen

/-- at b, off lie the three cells of a part -/
def PartCells (w : World) (b off : Nat) (p : PartM) : Prop :=
  w.cell? ⟨b, off, none⟩ = some (.int .i64 p.kind) ∧ w.cell? ⟨b, off + 1, none⟩ = some (.int .i64 p.len) ∧ w.cell? ⟨b, off + 2, none⟩ = some (.int .i64 p.res)
def PartsAt (w : World) (a : Option Addr) (ps : List PartM) : Prop :=
  ps = [] ∨ ∃ b off, a = some ⟨b, off, none⟩ ∧ ∀ i, i < ps.length → PartCells w b (off + i * 3) (ps.getD i default)
/-- at b, off lie the six cells of a task -/
def TaskCells (w : World) (b off : Nat) (t : TaskR) : Prop :=
  w.cell? ⟨b, off, none⟩ = some (.string t.name) ∧ w.cell? ⟨b, off + 1, none⟩ = some (.int .i64 t.per) ∧ w.cell? ⟨b, off + 2, none⟩ = some (.int .i64 t.dl) ∧
  w.cell? ⟨b, off + 3, none⟩ = some (.int .i64 t.prio) ∧ w.cell? ⟨b, off + 4, none⟩ = some (.int .i64 t.cl) ∧ w.cell? ⟨b, off + 5, none⟩ = some (.slice t.pa t.parts.length t.pc)
def TasksAt (w : World) (a : Option Addr) (ts : List TaskR) : Prop :=
  ts = [] ∨ ∃ b off, a = some ⟨b, off, none⟩ ∧ ∀ i, i < ts.length → TaskCells w b (off + i * 6) (ts.getD i default)

def PartM.wf (p : PartM) : Prop := I64 p.kind ∧ I64 p.len ∧ I64 p.res
/-- a task's own numbers fit; its parts lie where it says -/
structure TaskOk (w : World) (t : TaskR) : Prop where
  name : t.name.size ≤ maxLen
  per : I64 t.per
  dl : I64 t.dl
  prio : I64 t.prio
  cl : I64 t.cl
  sl : SlOk t.pa t.parts.length t.pc
  at_ : PartsAt w t.pa t.parts
  wf : ∀ p ∈ t.parts, p.wf
structure TasksOk (w : World) (a : Option Addr) (c : Nat) (ts : List TaskR) : Prop where
  sl : SlOk a ts.length c
  at_ : TasksAt w a ts
  ok : ∀ t ∈ ts, TaskOk w t
structure IntsOk (w : World) (a : Option Addr) (c : Nat) (zs : List Int) : Prop where
  sl : SlOk a zs.length c
  at_ : Row w .i64 a zs
  wf : ∀ n ∈ zs, I64 n
structure SetOk (w : World) (s : SetR) : Prop where
  proto : I64 s.proto
  cores : IntsOk w s.ca s.cc s.cores
  homes : IntsOk w s.ha s.hc s.homes
  tasks : TasksOk w s.ta s.tc s.tasks

section
variable {w w' : World}
/-- nothing that was there reads otherwise -/
def Keeps (w w' : World) : Prop := ∀ p v, w.cell? p = some v → w'.cell? p = some v
theorem Keeps.refl (w : World) : Keeps w w := fun _ _ h => h
theorem Keeps.trans {w2 : World} (h : Keeps w w') (k : Keeps w' w2) : Keeps w w2 := fun p v hv => k p v (h p v hv)
theorem Keeps.of_below (h : Below w.heap.size w w') : Keeps w w' := fun p v hv => by rw [h.cell (cell_lt hv)]; exact hv
theorem Keeps.of_qt (h : Qt w w') : Keeps w w' := fun p v hv => h.cell hv
theorem Keeps.alloc (w : World) (o : Obj) : Keeps w (w.alloc o) := .of_below ((Below.refl _ _).alloc (Nat.le_refl _) o)
theorem Keeps.drewN (w : World) (n : Nat) : Keeps w (w.drewN n) := fun _ _ h => h
theorem Keeps.drew (w : World) : Keeps w w.drew := fun _ _ h => h
theorem PartCells.keep {b off : Nat} {p : PartM} (h : PartCells w b off p) (k : Keeps w w') : PartCells w' b off p := ⟨k _ _ h.1, k _ _ h.2.1, k _ _ h.2.2⟩
theorem PartsAt.keep {a : Option Addr} {ps : List PartM} (h : PartsAt w a ps) (k : Keeps w w') : PartsAt w' a ps := by
  rcases h with h | ⟨b, off, e, h⟩
  · exact .inl h
  · exact .inr ⟨b, off, e, fun i hi => (h i hi).keep k⟩
theorem TaskCells.keep {b off : Nat} {t : TaskR} (h : TaskCells w b off t) (k : Keeps w w') : TaskCells w' b off t :=
  ⟨k _ _ h.1, k _ _ h.2.1, k _ _ h.2.2.1, k _ _ h.2.2.2.1, k _ _ h.2.2.2.2.1, k _ _ h.2.2.2.2.2⟩
theorem TasksAt.keep {a : Option Addr} {ts : List TaskR} (h : TasksAt w a ts) (k : Keeps w w') : TasksAt w' a ts := by
  rcases h with h | ⟨b, off, e, h⟩
  · exact .inl h
  · exact .inr ⟨b, off, e, fun i hi => (h i hi).keep k⟩
theorem TaskOk.keep {t : TaskR} (h : TaskOk w t) (k : Keeps w w') : TaskOk w' t := { h with at_ := h.at_.keep k }
theorem TasksOk.keep {a : Option Addr} {c : Nat} {ts : List TaskR} (h : TasksOk w a c ts) (k : Keeps w w') : TasksOk w' a c ts :=
  { h with at_ := h.at_.keep k, ok := fun t ht => (h.ok t ht).keep k }
theorem IntsOk.keep {a : Option Addr} {c : Nat} {zs : List Int} (h : IntsOk w a c zs) (k : Keeps w w') : IntsOk w' a c zs := { h with at_ := h.at_.mono k }
theorem SetOk.keep {s : SetR} (h : SetOk w s) (k : Keeps w w') : SetOk w' s :=
  ⟨h.proto, h.cores.keep k, h.homes.keep k, h.tasks.keep k⟩
end

/-! ### What came in -/
section
variable {H : Type} {enc : TypeId × Value → H} {P : Program} {w : World}
/-- one field of a struct of one-cell fields -/
theorem field_of {fs : Array Field} {t : TypeId} {fuel : Nat} {cs : List Value} {x : DataW H × List MemPlace} (ht : P.underlying t = some (.struct fs)) (hone : oneCellFields P fs = true) (hC : P.cellsOf t = fs.size)
    (h : DataW.trod enc P w 0 (fun _ => true) true fuel t cs = some x) : cs.length = fs.size ∧ ∀ (j : Nat) (f : Field), fs[j]? = some f → ∃ v y n, cs[j]? = some v ∧ DataW.trod enc P w 0 (fun _ => true) true n f.type [v] = some y := by
  obtain ⟨xs, n, _, _, hl, hx, hf⟩ := DataW.trod_struct ht h
  rw [hC] at hl
  refine ⟨hl, fun j f hj => ?_⟩
  obtain ⟨ho, hk⟩ := hone_of hone j f hj
  have hjl : j < fs.size := (Array.getElem?_eq_some_iff.1 hj).1
  have h1 := hf j f hj
  rw [ho, hk, take1_drop cs j (.bool false) (by omega), List.getElem?_eq_getElem (by omega)] at h1
  exact ⟨_, _, n, by simp [List.getD, List.getElem?_eq_getElem (show j < cs.length by omega)], h1⟩
theorem int_field {k : IntKind} {t : TypeId} {n : Nat} {v : Value} {y : DataW H × List MemPlace} (u : P.underlying t = some (.int k)) (h : DataW.trod enc P w 0 (fun _ => true) true n t [v] = some y) : ∃ z, v = .int k z ∧ (Lit.int k z).wf = true := by
  obtain ⟨z, e, _, hz⟩ := DataW.trod_int u h
  exact ⟨z, by injection e, hz⟩
/-- a slice of structs, every element by its cells -/
theorem slice_of {t e : TypeId} {k fuel : Nat} {cs : List Value} {x : DataW H × List MemPlace} (ht : P.underlying t = some (.slice e)) (hC : P.cellsOf e = k) (hk : 0 < k) (h : DataW.trod enc P w 0 (fun _ => true) true fuel t cs = some x) :
    ∃ a len cap, cs = [.slice a len cap] ∧ SlOk a len cap ∧ (len = 0 ∨ ∃ b off, a = some ⟨b, off, none⟩ ∧ ∀ i, i < len → ∃ cs' x' n, cs'.length = k ∧ (∀ j, j < k → w.cell? ⟨b, off + i * k + j, none⟩ = cs'[j]?) ∧ DataW.trod enc P w 0 (fun _ => true) true n e cs' = some x') := by
  rcases open_slice ht h with ⟨rfl, _⟩ | ⟨a, len, cap, m, n, D, Pl, rfl, _, hl, hm, hmm, _, hi⟩
  · exact ⟨none, 0, 0, rfl, ⟨fun _ => ⟨rfl, rfl⟩, Nat.le_refl _, Nat.zero_le _⟩, .inl rfl⟩
  · refine ⟨some a, len, cap, rfl, ⟨(fun e => by cases e), hl, hm⟩, ?_⟩
    have hlm : len ≤ m := by rw [hmm]; simpa using hl
    by_cases h0 : len = 0
    · exact .inl h0
    · right
      obtain ⟨b, off, spot⟩ := a
      obtain ⟨c0, hc0, _⟩ := hi 0 (by omega)
      obtain ⟨_, l0, g0⟩ := World.cells?_some hc0
      rw [hC] at l0 g0
      have hs : spot = none := by
        have := g0 0 hk
        rw [List.getElem?_eq_getElem (by omega)] at this
        simpa [Addr.add] using World.cell?_spot this
      subst hs
      refine ⟨b, off, rfl, fun i hlt => ?_⟩
      obtain ⟨c1, hc1, t1⟩ := hi i (by omega)
      obtain ⟨_, l1, g1⟩ := World.cells?_some hc1
      rw [hC] at l1 g1
      refine ⟨c1, _, n, l1, fun j hj => ?_, t1⟩
      have := g1 j hj
      simpa [Addr.add_lit, Nat.add_assoc] using this

/-- the types of a set, as the dump has them -/
structure SetTypes (P : Program) (ints part parts task tasks set : TypeId) : Prop where
  tyInts : ∃ e, P.underlying ints = some (.slice e) ∧ P.underlying e = some (.int .i64) ∧ P.cellsOf e = 1
  tyParts : P.underlying parts = some (.slice part)
  tyPart : ∃ f0 f1 f2, P.underlying part = some (.struct #[f0, f1, f2]) ∧ oneCellFields P #[f0, f1, f2] = true ∧ P.cellsOf part = 3 ∧
    P.underlying f0.type = some (.int .i64) ∧ P.underlying f1.type = some (.int .i64) ∧ P.underlying f2.type = some (.int .i64)
  tyTasks : P.underlying tasks = some (.slice task)
  tyTask : ∃ f0 f1 f2 f3 f4 f5, P.underlying task = some (.struct #[f0, f1, f2, f3, f4, f5]) ∧ oneCellFields P #[f0, f1, f2, f3, f4, f5] = true ∧ P.cellsOf task = 6 ∧
    P.underlying f0.type = some .string ∧ P.underlying f1.type = some (.int .i64) ∧ P.underlying f2.type = some (.int .i64) ∧ P.underlying f3.type = some (.int .i64) ∧ P.underlying f4.type = some (.int .i64) ∧ f5.type = parts
  tySet : ∃ f0 f1 f2 f3, P.underlying set = some (.struct #[f0, f1, f2, f3]) ∧ oneCellFields P #[f0, f1, f2, f3] = true ∧ P.cellsOf set = 4 ∧
    P.underlying f0.type = some (.int .i64) ∧ f1.type = ints ∧ f2.type = ints ∧ f3.type = tasks

variable {ints part parts task tasks set : TypeId}
theorem SetTypes.open_part (T : SetTypes P ints part parts task tasks set) {fuel : Nat} {cs : List Value} {x : DataW H × List MemPlace} (h : DataW.trod enc P w 0 (fun _ => true) true fuel part cs = some x) :
    ∃ p : PartM, p.wf ∧ cs = [.int .i64 p.kind, .int .i64 p.len, .int .i64 p.res] := by
  obtain ⟨f0, f1, f2, he, hone, hC, u0, u1, u2⟩ := T.tyPart
  obtain ⟨hl, hf⟩ := field_of he hone hC h
  obtain ⟨v0, _, _, e0, t0⟩ := hf 0 f0 rfl
  obtain ⟨v1, _, _, e1, t1⟩ := hf 1 f1 rfl
  obtain ⟨v2, _, _, e2, t2⟩ := hf 2 f2 rfl
  obtain ⟨z0, rfl, g0⟩ := int_field u0 t0
  obtain ⟨z1, rfl, g1⟩ := int_field u1 t1
  obtain ⟨z2, rfl, g2⟩ := int_field u2 t2
  refine ⟨⟨z0, z1, z2⟩, ⟨i64_of g0, i64_of g1, i64_of g2⟩, ?_⟩
  match cs, hl with
  | [a, b, c], _ => simp at e0 e1 e2; simp [e0, e1, e2]
theorem SetTypes.open_parts (T : SetTypes P ints part parts task tasks set) {fuel : Nat} {cs : List Value} {x : DataW H × List MemPlace} (h : DataW.trod enc P w 0 (fun _ => true) true fuel parts cs = some x) :
    ∃ a cap ps, cs = [.slice a ps.length cap] ∧ SlOk a ps.length cap ∧ PartsAt w a ps ∧ ∀ p ∈ ps, PartM.wf p := by
  obtain ⟨f0, f1, f2, he, hone, hC, u0, u1, u2⟩ := T.tyPart
  obtain ⟨a, len, cap, rfl, hs, hi⟩ := slice_of T.tyParts hC (by omega) h
  rcases hi with rfl | ⟨b, off, rfl, hi⟩
  · exact ⟨a, cap, [], rfl, hs, .inl rfl, by simp⟩
  · have hp : ∀ i, i < len → ∃ p : PartM, p.wf ∧ PartCells w b (off + i * 3) p := fun i hlt => by
      obtain ⟨cs', x', n, hl, hc, ht⟩ := hi i hlt
      obtain ⟨p, hw, rfl⟩ := T.open_part ht
      exact ⟨p, hw, hc 0 (by omega), hc 1 (by omega), hc 2 (by omega)⟩
    obtain ⟨f, hf⟩ := choose_lt hp
    have hl : ((List.range len).map f).length = len := by simp
    refine ⟨_, cap, (List.range len).map f, by rw [hl], by rw [hl]; exact hs, .inr ⟨b, off, rfl, fun i hlt => ?_⟩, fun p hp => ?_⟩
    · rw [hl] at hlt
      have := (hf i hlt).2
      simpa [List.getD, hlt] using this
    · obtain ⟨i, hlt, rfl⟩ := List.mem_map.1 hp
      exact (hf i (by simpa using hlt)).1
theorem SetTypes.open_task (T : SetTypes P ints part parts task tasks set) {fuel : Nat} {cs : List Value} {x : DataW H × List MemPlace} (h : DataW.trod enc P w 0 (fun _ => true) true fuel task cs = some x) :
    ∃ t : TaskR, TaskOk w t ∧ cs = [.string t.name, .int .i64 t.per, .int .i64 t.dl, .int .i64 t.prio, .int .i64 t.cl, .slice t.pa t.parts.length t.pc] := by
  obtain ⟨f0, f1, f2, f3, f4, f5, he, hone, hC, u0, u1, u2, u3, u4, u5⟩ := T.tyTask
  obtain ⟨hl, hf⟩ := field_of he hone hC h
  obtain ⟨v0, _, _, e0, t0⟩ := hf 0 f0 rfl
  obtain ⟨v1, _, _, e1, t1⟩ := hf 1 f1 rfl
  obtain ⟨v2, _, _, e2, t2⟩ := hf 2 f2 rfl
  obtain ⟨v3, _, _, e3, t3⟩ := hf 3 f3 rfl
  obtain ⟨v4, _, _, e4, t4⟩ := hf 4 f4 rfl
  obtain ⟨v5, _, _, e5, t5⟩ := hf 5 f5 rfl
  obtain ⟨s, es, _, gs⟩ := DataW.trod_string u0 t0
  obtain rfl : v0 = .string s := by injection es
  obtain ⟨z1, rfl, g1⟩ := int_field u1 t1
  obtain ⟨z2, rfl, g2⟩ := int_field u2 t2
  obtain ⟨z3, rfl, g3⟩ := int_field u3 t3
  obtain ⟨z4, rfl, g4⟩ := int_field u4 t4
  rw [u5] at t5
  obtain ⟨a, cap, ps, ep, hs, hp, hw⟩ := T.open_parts t5
  obtain rfl : v5 = .slice a ps.length cap := by injection ep
  refine ⟨⟨s, z1, z2, z3, z4, a, cap, ps⟩, ⟨gs, i64_of g1, i64_of g2, i64_of g3, i64_of g4, hs, hp, hw⟩, ?_⟩
  match cs, hl with
  | [a, b, c, d, e, f], _ => simp at e0 e1 e2 e3 e4 e5; simp [e0, e1, e2, e3, e4, e5]
theorem SetTypes.open_tasks (T : SetTypes P ints part parts task tasks set) {fuel : Nat} {cs : List Value} {x : DataW H × List MemPlace} (h : DataW.trod enc P w 0 (fun _ => true) true fuel tasks cs = some x) :
    ∃ a cap ts, cs = [.slice a ts.length cap] ∧ TasksOk w a cap ts := by
  obtain ⟨f0, f1, f2, f3, f4, f5, he, hone, hC, _⟩ := T.tyTask
  obtain ⟨a, len, cap, rfl, hs, hi⟩ := slice_of T.tyTasks hC (by omega) h
  rcases hi with rfl | ⟨b, off, rfl, hi⟩
  · exact ⟨a, cap, [], rfl, ⟨hs, .inl rfl, by simp⟩⟩
  · have hp : ∀ i, i < len → ∃ t : TaskR, TaskOk w t ∧ TaskCells w b (off + i * 6) t := fun i hlt => by
      obtain ⟨cs', x', n, hl, hc, ht⟩ := hi i hlt
      obtain ⟨t, hw, rfl⟩ := T.open_task ht
      exact ⟨t, hw, hc 0 (by omega), hc 1 (by omega), hc 2 (by omega), hc 3 (by omega), hc 4 (by omega), hc 5 (by omega)⟩
    obtain ⟨f, hf⟩ := choose_lt hp
    have hl : ((List.range len).map f).length = len := by simp
    refine ⟨_, cap, (List.range len).map f, by rw [hl], ⟨by rw [hl]; exact hs, .inr ⟨b, off, rfl, fun i hlt => ?_⟩, fun p hp => ?_⟩⟩
    · rw [hl] at hlt
      have := (hf i hlt).2
      simpa [List.getD, hlt] using this
    · obtain ⟨i, hlt, rfl⟩ := List.mem_map.1 hp
      exact (hf i (by simpa using hlt)).1
theorem SetTypes.open_ints (T : SetTypes P ints part parts task tasks set) {fuel : Nat} {cs : List Value} {x : DataW H × List MemPlace} (h : DataW.trod enc P w 0 (fun _ => true) true fuel ints cs = some x) :
    ∃ a cap zs, cs = [.slice a zs.length cap] ∧ IntsOk w a cap zs := by
  obtain ⟨e, hi0, he, hC⟩ := T.tyInts
  obtain ⟨a, len, cap, rfl, hs, hi⟩ := slice_of hi0 hC (by omega) h
  rcases hi with rfl | ⟨b, off, rfl, hi⟩
  · exact ⟨a, cap, [], rfl, ⟨hs, .inl rfl, by simp⟩⟩
  · have hp : ∀ i, i < len → ∃ z : Int, I64 z ∧ w.cell? ⟨b, off + i, none⟩ = some (.int .i64 z) := fun i hlt => by
      obtain ⟨cs', x', n, hl, hc, ht⟩ := hi i hlt
      match cs', hl with
      | [v], _ =>
        obtain ⟨z, rfl, g⟩ := int_field he ht
        have := hc 0 (by omega)
        exact ⟨z, i64_of g, by simpa using this⟩
    obtain ⟨f, hf⟩ := choose_lt hp
    have hl : ((List.range len).map f).length = len := by simp
    refine ⟨_, cap, (List.range len).map f, by rw [hl], ⟨by rw [hl]; exact hs, .inr ⟨b, off, rfl, fun i hlt => ?_⟩, fun p hp => ?_⟩⟩
    · rw [hl] at hlt
      have := (hf i hlt).2
      simpa [List.getD, hlt] using this
    · obtain ⟨i, hlt, rfl⟩ := List.mem_map.1 hp
      exact (hf i (by simpa using hlt)).1
theorem SetTypes.open_set (T : SetTypes P ints part parts task tasks set) {fuel : Nat} {cs : List Value} {x : DataW H × List MemPlace} (h : DataW.trod enc P w 0 (fun _ => true) true fuel set cs = some x) :
    ∃ s : SetR, SetOk w s ∧ cs = [.int .i64 s.proto, .slice s.ca s.cores.length s.cc, .slice s.ha s.homes.length s.hc, .slice s.ta s.tasks.length s.tc] := by
  obtain ⟨f0, f1, f2, f3, he, hone, hC, u0, u1, u2, u3⟩ := T.tySet
  obtain ⟨hl, hf⟩ := field_of he hone hC h
  obtain ⟨v0, _, _, e0, t0⟩ := hf 0 f0 rfl
  obtain ⟨v1, _, _, e1, t1⟩ := hf 1 f1 rfl
  obtain ⟨v2, _, _, e2, t2⟩ := hf 2 f2 rfl
  obtain ⟨v3, _, _, e3, t3⟩ := hf 3 f3 rfl
  obtain ⟨z0, rfl, g0⟩ := int_field u0 t0
  rw [u1] at t1
  rw [u2] at t2
  rw [u3] at t3
  obtain ⟨a1, c1, zs1, x1, h1⟩ := T.open_ints t1
  obtain rfl : v1 = .slice a1 zs1.length c1 := by injection x1
  obtain ⟨a2, c2, zs2, x2, h2⟩ := T.open_ints t2
  obtain rfl : v2 = .slice a2 zs2.length c2 := by injection x2
  obtain ⟨a3, c3, ts, x3, h3⟩ := T.open_tasks t3
  obtain rfl : v3 = .slice a3 ts.length c3 := by injection x3
  refine ⟨⟨z0, a1, c1, zs1, a2, c2, zs2, a3, c3, ts⟩, ⟨i64_of g0, h1, h2, h3⟩, ?_⟩
  match cs, hl with
  | [a, b, c, d], _ => simp at e0 e1 e2 e3; simp [e0, e1, e2, e3]
/-- a set as an argument -/
theorem SetTypes.arg_set (T : SetTypes P ints part parts task tasks set) {r : Reach} {b0 : Nat} {v : Value} {d : DataW H} {ps : List MemPlace} (hv : Value.okWide P w r b0 set v) (h : DataW.Trod enc P w 0 (fun _ => true) true set v d ps) :
    ∃ s : SetR, SetOk w s ∧ v = s.val := by
  obtain ⟨f0, f1, f2, f3, he, _⟩ := T.tySet
  obtain ⟨cs, rfl, _⟩ := okWide_struct he hv
  obtain ⟨fuel, hf⟩ := h
  obtain ⟨s, hs, e⟩ := T.open_set hf
  obtain ⟨l⟩ := cs
  refine ⟨s, hs, ?_⟩
  simp [Value.cells] at e
  rw [e]; rfl
/-- a task as an argument -/
theorem SetTypes.arg_task (T : SetTypes P ints part parts task tasks set) {r : Reach} {b0 : Nat} {v : Value} {d : DataW H} {ps : List MemPlace} (hv : Value.okWide P w r b0 task v) (h : DataW.Trod enc P w 0 (fun _ => true) true task v d ps) :
    ∃ t : TaskR, TaskOk w t ∧ v = t.val := by
  obtain ⟨f0, f1, f2, f3, f4, f5, he, _⟩ := T.tyTask
  obtain ⟨cs, rfl, _⟩ := okWide_struct he hv
  obtain ⟨fuel, hf⟩ := h
  obtain ⟨s, hs, e⟩ := T.open_task hf
  obtain ⟨l⟩ := cs
  refine ⟨s, hs, ?_⟩
  simp [Value.cells] at e
  rw [e]; rfl
end
theorem setTypes : SetTypes Tryz.prog 22 94 55 57 23 25 where
  tyInts := ⟨_, Tryz.underlying22, Tryz.underlying3, by kernel_rfl⟩
  tyParts := Tryz.underlying55
  tyPart := ⟨_, _, _, Tryz.underlying94, by kernel_rfl, by kernel_rfl, Tryz.underlying3, Tryz.underlying3, Tryz.underlying3⟩
  tyTasks := Tryz.underlying23
  tyTask := ⟨_, _, _, _, _, _, Tryz.underlying57, by kernel_rfl, by kernel_rfl, Tryz.underlying9, Tryz.underlying3, Tryz.underlying3, Tryz.underlying3, Tryz.underlying3, rfl⟩
  tySet := ⟨_, _, _, _, Tryz.underlying25, by kernel_rfl, by kernel_rfl, Tryz.underlying3, rfl, rfl, rfl⟩
end Go.Proofs.YtlmdiechnidghaaGreat

namespace Go.Proofs.YtlmdiechnidghaaGreat
open Go.ChangeShapes Go.WideShapes Go.ChangeAt Go.RowKit
set_option linter.unusedVariables false

/-- a byte of a name: a small letter, or, not the first, a digit -/
def okB (i : Nat) (c : Int) : Bool := decide (97 ≤ c ∧ c ≤ 122) || (decide (48 ≤ c ∧ c ≤ 57) && decide (0 < i))
def digB (c : Int) : Bool := decide (48 ≤ c) && decide (c ≤ 57)
def byteAt (s : ByteArray) (i : Nat) : Int := ((s.data.toList.getD i 0).toNat : Int)
def nameB (s : ByteArray) : Bool := decide (1 ≤ s.size ∧ s.size ≤ 8) && (List.range s.size).all fun i => okB i (byteAt s i)

theorem digit_any (c : Int) (w : World) : Calls Tryz.prog 105 #[.int .u8 c] w fun e w' => e = .returned (.bool (digB c)) ∧ w = w' := by
  by_cases h : 48 ≤ c
  · have H : Hid (digB c = decide (c ≤ 57)) := hidp (by simp [digB, h])
    go_enter Tryz.func105, Tryz.ntmps105
    go_wp2
    go_ret
    exact ⟨ret_bool H.out.symm, rfl⟩
  · have H : Hid (digB c = false) := hidp (by simp [digB, h])
    go_enter Tryz.func105, Tryz.ntmps105
    go_wp2
    go_ret
    exact ⟨ret_bool H.out.symm, rfl⟩

theorem byteAt_is (s : ByteArray) (k : Nat) (h : k < s.size) : byteAt s k = (s[k].toNat : Int) := by
  unfold byteAt
  have e : s.data.toList.getD k 0 = s[k] := by
    have hk : k < s.data.toList.length := by simpa using h
    rw [List.getD_eq_getElem?_getD, List.getElem?_eq_getElem hk]; rfl
  rw [e]
theorem nameB_long {s : ByteArray} (h : ¬ (1 ≤ s.size ∧ s.size ≤ 8)) : nameB s = false := by simp [nameB]; intro a b; exact absurd ⟨a, b⟩ h
theorem nameB_all {s : ByteArray} (h : 1 ≤ s.size ∧ s.size ≤ 8) (g : ∀ j, j < s.size → okB j (byteAt s j) = true) : nameB s = true := by
  simp [nameB, h]; exact g
theorem nameB_not {s : ByteArray} {k : Nat} (h : k < s.size) (g : okB k (byteAt s k) = false) : nameB s = false := by
  unfold nameB
  rw [Bool.and_eq_false_iff]
  right
  rw [List.all_eq_false]
  exact ⟨k, by simpa using h, by simp [g]⟩
theorem byte_bd (s : ByteArray) (k : Nat) : 0 ≤ byteAt s k ∧ byteAt s k ≤ 255 := by
  unfold byteAt; have := (s.data.toList.getD k 0).toNat_lt; omega

set_option maxHeartbeats 400000 in
theorem name_any (s : ByteArray) (w : World) (hs : s.size ≤ maxLen) : Calls Tryz.prog 75 #[.string s] w fun e w' => e = .returned (.bool (nameB s)) ∧ w = w' := by
  unfold maxLen at hs
  by_cases h1 : s.size < 1
  · have H := hidp (nameB_long (s := s) (by omega))
    go_enter Tryz.func75, Tryz.ntmps75
    go_wp2
    go_step3
    go_wp2
    try rw [Exit.noGoto_ret]
    go_ret
    exact ⟨ret_bool H.out.symm, rfl⟩
  · by_cases h2 : 8 < s.size
    · have H := hidp (nameB_long (s := s) (by omega))
      go_enter Tryz.func75, Tryz.ntmps75
      go_wp2
      go_step3
      go_wp2
      try rw [Exit.noGoto_ret]
      go_ret
      exact ⟨ret_bool H.out.symm, rfl⟩
    · go_enter Tryz.func75, Tryz.ntmps75
      go_wp2
      go_step3
      go_wp2
      go_step3
      go_wp2
      go_loopg [15] s.size (fun g i wr => ∃ k : Nat, k + g = s.size ∧ i = .int .i64 k ∧ Hid (∀ j, j < k → okB j (byteAt s j) = true) ∧ w = wr)
      case atStart => exact ⟨0, by omega, rfl, hidp (by omega), rfl⟩
      case round =>
        obtain ⟨k, hk, rfl, Ho, rfl⟩ := hrel
        by_cases hlt : k < s.size
        · obtain ⟨c, hc⟩ : ∃ c : Int, (s[k].toNat : Int) = c := ⟨_, rfl⟩
          have Hc : Hid (byteAt s k = c) := hidp (by rw [byteAt_is s k hlt, hc])
          have Hn : Hid (okB k c = true → ∀ j, j < k + 1 → okB j (byteAt s j) = true) := hidp (fun h j hj => by
            by_cases e : j = k
            · subst e; rw [Hc.out]; exact h
            · exact Ho.out j (by omega))
          have Hx : Hid (okB k c = false → nameB s = false) := hidp (fun h => nameB_not hlt (by rw [Hc.out]; exact h))
          have bd := byte_bd s k
          rw [Hc.out] at bd
          obtain ⟨b0, b1⟩ := bd
          by_cases g1 : 97 ≤ c ∧ c ≤ 122
          · obtain ⟨g1, g2⟩ := g1
            have Hy : Hid (okB k c = true) := hidp (by simp [okB, g1, g2])
            go_wp2
            go_roundg (gk - 1)
            case measure => omega
            case rel => exact ⟨k + 1, by omega, by go_num, hidp (Hn.out Hy.out), rfl⟩
          · have g3 : 97 ≤ c ∧ 122 < c ∨ c < 97 := by omega
            clear g1
            rcases g3 with ⟨g1, g2⟩ | g1
            · have d : digB c = false := by simp [digB]; omega
              have Hy : Hid (okB k c = false) := hidp (by simp [okB]; omega)
              go_wp2_with (first | (go_at_call 105; (with_reducible refine (digit_any _ _).mono ?_); rintro e w' ⟨rfl, rfl⟩))
              try rw [Exit.noGoto_ret]
              go_ret
              exact ⟨ret_bool (Hx.out Hy.out).symm, rfl⟩
            · by_cases d : digB c = true
              · have hd : 48 ≤ c ∧ c ≤ 57 := by simpa [digB] using d
                have Hd := hidp hd
                clear hd
                by_cases k0 : k = 0
                · subst k0
                  have Hy : Hid (okB 0 c = false) := hidp (by simp [okB]; omega)
                  go_wp2_with (first | (go_at_call 105; (with_reducible refine (digit_any _ _).mono ?_); rintro e w' ⟨rfl, rfl⟩))
                  try rw [Exit.noGoto_ret]
                  go_ret
                  exact ⟨ret_bool (Hx.out Hy.out).symm, rfl⟩
                · have kp : 0 < k := by omega
                  have Hy : Hid (okB k c = true) := hidp (by simp [okB, Hd.out.1, Hd.out.2, kp])
                  clear k0
                  go_wp2_with (first | (go_at_call 105; (with_reducible refine (digit_any _ _).mono ?_); rintro e w' ⟨rfl, rfl⟩))
                  go_roundg (gk - 1)
                  case measure => omega
                  case rel => exact ⟨k + 1, by omega, by go_num, hidp (Hn.out Hy.out), rfl⟩
              · have d : digB c = false := by simpa using d
                have Hy : Hid (okB k c = false) := hidp (by simp [okB]; simp [digB] at d; omega)
                go_wp2_with (first | (go_at_call 105; (with_reducible refine (digit_any _ _).mono ?_); rintro e w' ⟨rfl, rfl⟩))
                try rw [Exit.noGoto_ret]
                go_ret
                exact ⟨ret_bool (Hx.out Hy.out).symm, rfl⟩
        · have H := hidp (nameB_all (s := s) (by omega) (fun j hj => Ho.out j (by omega)))
          go_wp2
          try rw [Exit.noGoto_ret]
          go_ret
          exact ⟨ret_bool H.out.symm, rfl⟩
end Go.Proofs.YtlmdiechnidghaaGreat

namespace Go.Proofs.YtlmdiechnidghaaGreat
open Go.ChangeShapes Go.WideShapes Go.ChangeAt Go.RowKit
set_option linter.unusedVariables false

def inB (x lo hi : Int) : Bool := decide (lo ≤ x) && decide (x ≤ hi)
theorem inB_true {x lo hi : Int} : inB x lo hi = true ↔ lo ≤ x ∧ x ≤ hi := by simp [inB]
theorem inB_false {x lo hi : Int} : inB x lo hi = false ↔ x < lo ∨ hi < x := by simp [inB]; omega
def allB (zs : List Int) (lo hi : Int) : Bool := zs.all fun x => inB x lo hi

theorem within_any (x lo hi : Int) (w : World) : Calls Tryz.prog 53 #[.int .i64 x, .int .i64 lo, .int .i64 hi] w fun e w' => e = .returned (.bool (inB x lo hi)) ∧ w = w' := by
  by_cases h : lo ≤ x
  · have H : Hid (inB x lo hi = decide (x ≤ hi)) := hidp (by simp [inB, h])
    go_enter Tryz.func53, Tryz.ntmps53
    go_wp2
    go_ret
    exact ⟨ret_bool H.out.symm, rfl⟩
  · have H : Hid (inB x lo hi = false) := hidp (by simp [inB, h])
    go_enter Tryz.func53, Tryz.ntmps53
    go_wp2
    go_ret
    exact ⟨ret_bool H.out.symm, rfl⟩

/-- the first place at which it holds; -1: none -/
def firstT (l : List Bool) : Int := if true ∈ l then (l.findIdx id : Nat) else -1
theorem firstT_at {l : List Bool} {k : Nat} (hk : k < l.length) (h0 : ∀ j, j < k → l.getD j false = false) (h1 : l.getD k false = true) : firstT l = k := by
  rw [List.getD_eq_getElem?_getD, List.getElem?_eq_getElem hk] at h1
  simp at h1
  have hm : true ∈ l := by rw [← h1]; exact List.getElem_mem hk
  unfold firstT
  rw [if_pos hm]
  have h2 : l.findIdx id < l.length := List.findIdx_lt_length.2 ⟨true, hm, rfl⟩
  have h3 : id l[l.findIdx id] = true := List.findIdx_getElem (w := h2)
  by_cases h : l.findIdx id = k
  · rw [h]
  · by_cases h4 : l.findIdx id < k
    · have := h0 _ h4
      rw [List.getD_eq_getElem?_getD, List.getElem?_eq_getElem h2] at this
      simp at this h3
      rw [h3] at this; cases this
    · exfalso
      have h5 : k < l.findIdx id := by omega
      have := List.not_of_lt_findIdx h5
      simp [h1] at this
theorem firstT_none {l : List Bool} (h : ∀ j, j < l.length → l.getD j false = false) : firstT l = -1 := by
  unfold firstT
  rw [if_neg]
  intro hm
  obtain ⟨j, hj, e⟩ := List.mem_iff_getElem.1 hm
  have := h j hj
  rw [List.getD_eq_getElem?_getD, List.getElem?_eq_getElem hj] at this
  simp [e] at this
theorem firstT_any (l : List Bool) : decide (0 ≤ firstT l) = l.any id := by
  unfold firstT
  by_cases h : true ∈ l
  · rw [if_pos h]; simp; exact h
  · rw [if_neg h]; simp; exact h
theorem firstT_bd (l : List Bool) : -1 ≤ firstT l := by unfold firstT; split <;> omega
theorem map_getD {α : Type} [Inhabited α] (f : α → Bool) (l : List α) (d : α) (j : Nat) (hj : j < l.length) : (l.map f).getD j false = f (l.getD j d) := by
  simp [List.getD, hj]

theorem out_any (x lo hi : Int) (p q : Addr) (w : World) (h1 : w.cell? p = some (.int .i64 lo)) (h2 : w.cell? q = some (.int .i64 hi)) :
    Calls Tryz.prog 104 #[.int .i64 x, .pointer (some p), .pointer (some q)] w fun e w' => e = .returned (.bool (!inB x lo hi)) ∧ w = w' := by
  go_enter Tryz.func104, Tryz.ntmps104
  go_wp2_with (first | (go_at_call 53; (with_reducible refine (within_any _ _ _ _).mono ?_); rintro e w' ⟨rfl, rfl⟩))
  go_ret
  exact ⟨rfl, rfl⟩

theorem idxInts_any (a : Option Addr) (c : Nat) (zs : List Int) (lo hi : Int) (p q : Addr) (w : World) (h : Row w .i64 a zs) (hl : zs.length ≤ maxLen) (h1 : w.cell? p = some (.int .i64 lo)) (h2 : w.cell? q = some (.int .i64 hi)) :
    Calls Tryz.prog 118 #[.slice a zs.length c, .func (Fn.func 104) #[] #[.pointer (some p), .pointer (some q)]] w fun e w' => e = .returned (.int .i64 (firstT (zs.map fun x => !inB x lo hi))) ∧ w = w' := by
  unfold maxLen at hl
  have HR := hidp h
  clear h
  go_enter Tryz.func118, Tryz.ntmps118
  go_wp2
  go_loopg [8] zs.length (fun g i wr => ∃ k : Nat, k + g = zs.length ∧ i = .int .i64 k ∧ Hid (∀ j, j < k → (zs.map fun x => !inB x lo hi).getD j false = false) ∧ w = wr)
  case atStart => exact ⟨0, by omega, rfl, hidp (by omega), rfl⟩
  case round =>
    obtain ⟨k, hk, rfl, Ho, rfl⟩ := hrel
    by_cases hlt : k < zs.length
    · obtain ⟨g, off, hA, hc⟩ := HR.out.resolve_left (by intro e; simp [e] at hlt)
      subst hA
      obtain ⟨n, HN⟩ : ∃ n, Hid (zs.getD k 0 = n) := ⟨_, rfl⟩
      have ck : w.cell? ⟨g, off + k, none⟩ = some (.int .i64 n) := HN.out ▸ hc k hlt
      clear hc
      have Hg : Hid ((zs.map fun x => !inB x lo hi).getD k false = !inB n lo hi) := hidp (by rw [map_getD _ _ 0 _ hlt, HN.out])
      by_cases hb : inB n lo hi = true
      · have Hn : Hid (∀ j, j < k + 1 → (zs.map fun x => !inB x lo hi).getD j false = false) := hidp (fun j hj => by
          by_cases e : j = k
          · subst e; rw [Hg.out, hb]; rfl
          · exact Ho.out j (by omega))
        go_wp2_with (first | (go_at_call 104; (with_reducible refine (out_any _ _ _ _ _ _ h1 h2).mono ?_); rintro e w' ⟨rfl, rfl⟩))
        go_roundg (gk - 1)
        case measure => omega
        case rel => exact ⟨k + 1, by omega, by go_num, Hn, rfl⟩
      · have hb : inB n lo hi = false := by simpa using hb
        have H := hidp (firstT_at (l := zs.map fun x => !inB x lo hi) (k := k) (by simpa using hlt) Ho.out (by rw [Hg.out, hb]; rfl))
        go_wp2_with (first | (go_at_call 104; (with_reducible refine (out_any _ _ _ _ _ _ h1 h2).mono ?_); rintro e w' ⟨rfl, rfl⟩))
        go_ret
        exact ⟨ret_int H.out.symm, rfl⟩
    · have H := hidp (firstT_none (l := zs.map fun x => !inB x lo hi) (fun j hj => Ho.out j (by simp at hj; omega)))
      go_wp2
      go_ret
      exact ⟨ret_int H.out.symm, rfl⟩
theorem hasInts_any (a : Option Addr) (c : Nat) (zs : List Int) (lo hi : Int) (p q : Addr) (w : World) (h : Row w .i64 a zs) (hl : zs.length ≤ maxLen) (h1 : w.cell? p = some (.int .i64 lo)) (h2 : w.cell? q = some (.int .i64 hi)) :
    Calls Tryz.prog 103 #[.slice a zs.length c, .func (Fn.func 104) #[] #[.pointer (some p), .pointer (some q)]] w fun e w' => e = .returned (.bool (!allB zs lo hi)) ∧ w = w' := by
  have H : Hid (decide (0 ≤ firstT (zs.map fun x => !inB x lo hi)) = !allB zs lo hi) := hidp (by rw [firstT_any, allB, List.any_map, List.not_all_eq_any_not]; rfl)
  have hb := firstT_bd (zs.map fun x => !inB x lo hi)
  go_enter Tryz.func103, Tryz.ntmps103
  go_wp2_with (first | (go_at_call 118; (with_reducible refine (idxInts_any _ _ _ _ _ _ _ _ h hl h1 h2).mono ?_); rintro e w' ⟨rfl, rfl⟩))
  go_ret
  exact ⟨ret_bool H.out, rfl⟩
theorem all_any (a : Option Addr) (c : Nat) (zs : List Int) (lo hi : Int) (w : World) (h : IntsOk w a c zs) :
    Calls Tryz.prog 74 #[.slice a zs.length c, .int .i64 lo, .int .i64 hi] w fun e w' => e = .returned (.bool (allB zs lo hi)) ∧ Below w.heap.size w w' := by
  have hl : zs.length ≤ maxLen := Nat.le_trans h.sl.2.1 h.sl.2.2
  have hk := (h.keep (Keeps.alloc w (.cells #[.int .i64 lo] 3))).keep (Keeps.alloc _ (.cells #[.int .i64 hi] 3))
  have H : Hid ((!!allB zs lo hi) = allB zs lo hi) := hidp (by simp)
  go_enter Tryz.func74, Tryz.ntmps74
  go_wp2_with (first | (go_at_call 103; refine (hasInts_any _ _ _ lo hi _ _ _ hk.at_ hl (by simp) (by simp)).mono ?_; rintro e w' ⟨rfl, rfl⟩))
  go_ret
  exact ⟨ret_bool (by simp), ((Below.refl _ _).alloc (Nat.le_refl _) _).alloc (by simp) _⟩
end Go.Proofs.YtlmdiechnidghaaGreat

namespace Go.Proofs.YtlmdiechnidghaaGreat
open Go.ChangeShapes Go.WideShapes Go.ChangeAt Go.RowKit
set_option linter.unusedVariables false

def formB (t : TaskR) : Bool := nameB t.name && (inB t.per 1 3000 && (inB t.dl 1 t.per && inB t.prio 1 1000))
theorem formed_any (t : TaskR) (w : World) (hn : t.name.size ≤ maxLen) : Calls Tryz.prog 52 #[.agg #[.string t.name, .int .i64 t.per, .int .i64 t.dl, .int .i64 t.prio, .int .i64 t.cl, .slice t.pa t.parts.length t.pc]] w fun e w' => e = .returned (.bool (formB t)) ∧ Below w.heap.size w w' := by
  by_cases h1 : nameB t.name = true
  · by_cases h2 : inB t.per 1 3000 = true
    · by_cases h3 : inB t.dl 1 t.per = true
      · have H : Hid (formB t = inB t.prio 1 1000) := hidp (by simp [formB, h1, h2, h3])
        go_enter Tryz.func52, Tryz.ntmps52
        go_wp2_with (first | (go_at_call 75; (with_reducible refine (name_any _ _ hn).mono ?_); rintro e w' ⟨rfl, rfl⟩) | (go_at_call 53; (with_reducible refine (within_any _ _ _ _).mono ?_); rintro e w' ⟨rfl, rfl⟩))
        go_ret
        exact ⟨ret_bool H.out.symm, (Below.refl _ _).alloc (Nat.le_refl _) _⟩
      · have h3 : inB t.dl 1 t.per = false := by simpa using h3
        have H : Hid (formB t = false) := hidp (by simp [formB, h3])
        go_enter Tryz.func52, Tryz.ntmps52
        go_wp2_with (first | (go_at_call 75; (with_reducible refine (name_any _ _ hn).mono ?_); rintro e w' ⟨rfl, rfl⟩) | (go_at_call 53; (with_reducible refine (within_any _ _ _ _).mono ?_); rintro e w' ⟨rfl, rfl⟩))
        go_ret
        exact ⟨ret_bool H.out.symm, (Below.refl _ _).alloc (Nat.le_refl _) _⟩
    · have h2 : inB t.per 1 3000 = false := by simpa using h2
      have H : Hid (formB t = false) := hidp (by simp [formB, h2])
      go_enter Tryz.func52, Tryz.ntmps52
      go_wp2_with (first | (go_at_call 75; (with_reducible refine (name_any _ _ hn).mono ?_); rintro e w' ⟨rfl, rfl⟩) | (go_at_call 53; (with_reducible refine (within_any _ _ _ _).mono ?_); rintro e w' ⟨rfl, rfl⟩))
      go_ret
      exact ⟨ret_bool H.out.symm, (Below.refl _ _).alloc (Nat.le_refl _) _⟩
  · have h1 : nameB t.name = false := by simpa using h1
    have H : Hid (formB t = false) := hidp (by simp [formB, h1])
    go_enter Tryz.func52, Tryz.ntmps52
    go_wp2_with (first | (go_at_call 75; (with_reducible refine (name_any _ _ hn).mono ?_); rintro e w' ⟨rfl, rfl⟩) | (go_at_call 53; (with_reducible refine (within_any _ _ _ _).mono ?_); rintro e w' ⟨rfl, rfl⟩))
    go_ret
    exact ⟨ret_bool H.out.symm, (Below.refl _ _).alloc (Nat.le_refl _) _⟩

/-- alike in name or priority -/
def likeB (t o : TaskR) : Bool := (o.name.toList == t.name.toList) || (o.prio == t.prio)
theorem like_any (t o : TaskR) (b off : Nat) (w : World) (h : TaskCells w b off t) :
    Calls Tryz.prog 77 #[.agg #[.string o.name, .int .i64 o.per, .int .i64 o.dl, .int .i64 o.prio, .int .i64 o.cl, .slice o.pa o.parts.length o.pc], .pointer (some ⟨b, off, none⟩)] w fun e w' => e = .returned (.bool (likeB t o)) ∧ Below w.heap.size w w' := by
  have hb : b < w.heap.size := cell_lt h.1
  obtain ⟨c0, _, _, c3, _, _⟩ := h.keep (Keeps.alloc w (.cells #[.string o.name, .int .i64 o.per, .int .i64 o.dl, .int .i64 o.prio, .int .i64 o.cl, .slice o.pa o.parts.length o.pc] 57))
  clear h
  by_cases h1 : (o.name.toList == t.name.toList) = true
  · have H : Hid (likeB t o = true) := hidp (by unfold likeB; rw [h1]; rfl)
    go_enter Tryz.func77, Tryz.ntmps77
    go_wp2_with fail
    go_ret
    exact ⟨ret_bool H.out.symm, (Below.refl _ _).alloc (Nat.le_refl _) _⟩
  · have h1 : (o.name.toList == t.name.toList) = false := by simpa using h1
    have H : Hid (likeB t o = (o.prio == t.prio)) := hidp (by unfold likeB; rw [h1]; rfl)
    go_enter Tryz.func77, Tryz.ntmps77
    go_wp2_with fail
    go_ret
    exact ⟨ret_bool H.out.symm, (Below.refl _ _).alloc (Nat.le_refl _) _⟩

theorem idxTasks_any (a : Option Addr) (c : Nat) (ts : List TaskR) (t : TaskR) (b0 off0 : Nat) (w : World) (h : TasksAt w a ts) (hl : ts.length ≤ maxLen) (h1 : TaskCells w b0 off0 t) :
    Calls Tryz.prog 106 #[.slice a ts.length c, .func (Fn.func 77) #[] #[.pointer (some ⟨b0, off0, none⟩)]] w fun e w' => e = .returned (.int .i64 (firstT (ts.map fun o => likeB t o))) ∧ Below w.heap.size w w' := by
  unfold maxLen at hl
  have HR := hidp h
  have HT := hidp h1
  clear h h1
  go_enter Tryz.func106, Tryz.ntmps106
  go_wp2
  go_loopg [8] ts.length (fun g i wr => ∃ k : Nat, k + g = ts.length ∧ i = .int .i64 k ∧ Hid (∀ j, j < k → (ts.map fun o => likeB t o).getD j false = false) ∧ Below w.heap.size w wr)
  case atStart => exact ⟨0, by omega, rfl, hidp (by omega), Below.refl _ _⟩
  case round =>
    obtain ⟨k, hk, rfl, Ho, hw⟩ := hrel
    by_cases hlt : k < ts.length
    · obtain ⟨g, off, hA, hc⟩ := HR.out.resolve_left (by intro e; simp [e] at hlt)
      subst hA
      obtain ⟨o, HN⟩ : ∃ o, Hid (ts.getD k default = o) := ⟨_, rfl⟩
      have hc := HN.out ▸ hc k hlt
      obtain ⟨c0, c1, c2, c3, c4, c5⟩ := hc.keep (Keeps.of_below hw)
      have ht := HT.out.keep (Keeps.of_below hw)
      clear hc
      have Hg : Hid ((ts.map fun o => likeB t o).getD k false = likeB t o) := hidp (by rw [map_getD _ _ default _ hlt, HN.out])
      by_cases hb : likeB t o = true
      · have H := hidp (firstT_at (l := ts.map fun o => likeB t o) (k := k) (by simpa using hlt) Ho.out (by rw [Hg.out, hb]))
        go_wp2_with (first | (go_at_call 77; (with_reducible refine (like_any _ _ _ _ _ ht).mono ?_); rintro e w' ⟨rfl, hb2⟩))
        go_ret
        exact ⟨ret_int H.out.symm, hw.trans (hb2.mono hw.size)⟩
      · have hb : likeB t o = false := by simpa using hb
        have Hn : Hid (∀ j, j < k + 1 → (ts.map fun o => likeB t o).getD j false = false) := hidp (fun j hj => by
          by_cases e : j = k
          · subst e; rw [Hg.out, hb]
          · exact Ho.out j (by omega))
        go_wp2_with (first | (go_at_call 77; (with_reducible refine (like_any _ _ _ _ _ ht).mono ?_); rintro e w' ⟨rfl, hb2⟩))
        go_roundg (gk - 1)
        case measure => omega
        case rel => exact ⟨k + 1, by omega, by go_num, Hn, hw.trans (hb2.mono hw.size)⟩
    · have H := hidp (firstT_none (l := ts.map fun o => likeB t o) (fun j hj => Ho.out j (by simp at hj; omega)))
      go_wp2
      go_ret
      exact ⟨ret_int H.out.symm, hw⟩
def takenB (ts : List TaskR) (t : TaskR) : Bool := ts.any fun o => likeB t o
theorem hasTasks_any (a : Option Addr) (c : Nat) (ts : List TaskR) (t : TaskR) (b0 off0 : Nat) (w : World) (h : TasksAt w a ts) (hl : ts.length ≤ maxLen) (h1 : TaskCells w b0 off0 t) :
    Calls Tryz.prog 76 #[.slice a ts.length c, .func (Fn.func 77) #[] #[.pointer (some ⟨b0, off0, none⟩)]] w fun e w' => e = .returned (.bool (takenB ts t)) ∧ Below w.heap.size w w' := by
  have H : Hid (decide (0 ≤ firstT (ts.map fun o => likeB t o)) = takenB ts t) := hidp (by rw [firstT_any, takenB, List.any_map]; rfl)
  have hb := firstT_bd (ts.map fun o => likeB t o)
  go_enter Tryz.func76, Tryz.ntmps76
  go_wp2_with (first | (go_at_call 106; (with_reducible refine (idxTasks_any _ _ _ _ _ _ _ h hl h1).mono ?_); rintro e w' ⟨rfl, hb2⟩))
  go_ret
  exact ⟨ret_bool H.out, hb2⟩
theorem taken_any (a : Option Addr) (c : Nat) (ts : List TaskR) (t : TaskR) (w : World) (h : TasksAt w a ts) (hl : ts.length ≤ maxLen) :
    Calls Tryz.prog 54 #[.slice a ts.length c, .agg #[.string t.name, .int .i64 t.per, .int .i64 t.dl, .int .i64 t.prio, .int .i64 t.cl, .slice t.pa t.parts.length t.pc]] w fun e w' => e = .returned (.bool (takenB ts t)) ∧ Below w.heap.size w w' := by
  have hk := h.keep (Keeps.alloc w (.cells #[.string t.name, .int .i64 t.per, .int .i64 t.dl, .int .i64 t.prio, .int .i64 t.cl, .slice t.pa t.parts.length t.pc] 57))
  have ht : TaskCells (w.alloc (.cells #[.string t.name, .int .i64 t.per, .int .i64 t.dl, .int .i64 t.prio, .int .i64 t.cl, .slice t.pa t.parts.length t.pc] 57)) w.heap.size 0 t := by
    refine ⟨?_, ?_, ?_, ?_, ?_, ?_⟩ <;> simp
  have Hk := hidp hk
  have Ht := hidp ht
  clear hk ht
  go_enter Tryz.func54, Tryz.ntmps54
  go_wp2_with (first | (go_at_call 76; (with_reducible refine (hasTasks_any _ _ _ _ _ _ _ Hk.out hl Ht.out).mono ?_); rintro e w' ⟨rfl, hb2⟩))
  go_ret
  exact ⟨rfl, ((Below.refl _ _).alloc (Nat.le_refl _) _).trans (hb2.mono (by simp))⟩
end Go.Proofs.YtlmdiechnidghaaGreat

namespace Go.Proofs.YtlmdiechnidghaaGreat
open Go.ChangeShapes Go.WideShapes Go.ChangeAt Go.RowKit
set_option linter.unusedVariables false

def partB (p : PartM) (res : Int) : Bool :=
  if p.kind = 3 then inB p.len 1 60 && inB p.res 0 (res - 1) else if p.kind = 1 ∨ p.kind = 2 then inB p.len 1 60 && inB p.res 0 0 else false
def partsB (ps : List PartM) (res : Int) : Bool := inB ps.length 1 6 && ps.all fun p => partB p res
theorem all_next {α : Type} [Inhabited α] {f : α → Bool} {l : List α} {k : Nat} {x : α} (hx : l.getD k default = x) (hf : f x = true) (h : ∀ j, j < k → f (l.getD j default) = true) : ∀ j, j < k + 1 → f (l.getD j default) = true := by
  intro j hj
  by_cases e : j = k
  · subst e; rw [hx]; exact hf
  · exact h j (by omega)
theorem all_getD {α : Type} [Inhabited α] {f : α → Bool} {l : List α} (h : ∀ j, j < l.length → f (l.getD j default) = true) : l.all f = true := by
  rw [List.all_eq_true]
  intro x hx
  obtain ⟨j, hj, rfl⟩ := List.mem_iff_getElem.1 hx
  have := h j hj
  simpa [List.getD, hj] using this
theorem not_all_getD {α : Type} [Inhabited α] {f : α → Bool} {l : List α} {k : Nat} {x : α} (hk : k < l.length) (hx : l.getD k default = x) (h : f x = false) : l.all f = false := by
  rw [List.all_eq_false]
  refine ⟨x, ?_, by simp [h]⟩
  rw [← hx]; simp [List.getD, hk]

set_option maxHeartbeats 1000000 in
theorem parted_any (a : Option Addr) (c : Nat) (ps : List PartM) (res : Int) (w : World) (h : PartsAt w a ps) (hl : ps.length ≤ maxLen) (r0 : 0 ≤ res) (r1 : res ≤ 9223372036854775807) :
    Calls Tryz.prog 55 #[.slice a ps.length c, .int .i64 res] w fun e w' => e = .returned (.bool (partsB ps res)) ∧ Below w.heap.size w w' := by
  unfold maxLen at hl
  have HR := hidp h
  clear h
  by_cases h0 : inB ps.length 1 6 = true
  · go_enter Tryz.func55, Tryz.ntmps55
    go_wp2
    go_step3
    go_wp2_with (first | (go_at_call 53; (with_reducible refine (within_any _ _ _ _).mono ?_); rintro e w' ⟨rfl, rfl⟩))
    go_step3
    go_wp2
    go_loopg [14] ps.length (fun g i wr => ∃ k : Nat, k + g = ps.length ∧ i = .int .i64 k ∧ Hid (∀ j, j < k → partB (ps.getD j default) res = true) ∧ Below w.heap.size w wr)
    case atStart => exact ⟨0, by omega, rfl, hidp (by omega), Below.refl _ _⟩
    case round =>
      obtain ⟨k, hk, rfl, Ho, hw⟩ := hrel
      by_cases hlt : k < ps.length
      · obtain ⟨g, off, hA, hc⟩ := HR.out.resolve_left (by intro e; simp [e] at hlt)
        subst hA
        obtain ⟨p, HN⟩ : ∃ p, Hid (ps.getD k default = p) := ⟨_, rfl⟩
        have hc := HN.out ▸ hc k hlt
        obtain ⟨c0, c1, c2⟩ := hc.keep (Keeps.of_below hw)
        clear hc
        have Hn : Hid (partB p res = true → ∀ j, j < k + 1 → partB (ps.getD j default) res = true) := hidp (fun g => all_next (f := fun p => partB p res) HN.out g Ho.out)
        have Hx : Hid (partB p res = false → partsB ps res = false) := hidp (fun g => by rw [partsB, not_all_getD hlt HN.out g]; simp)
        obtain ⟨kd, ln, rs⟩ := p
        by_cases k3 : kd = 3
        · subst k3
          have Hy : Hid (partB ⟨3, ln, rs⟩ res = (inB ln 1 60 && inB rs 0 (res - 1))) := hidp (by simp [partB])
          by_cases g1 : inB ln 1 60 = true
          · by_cases g2 : inB rs 0 (res - 1) = true
            · have Hz := hidp (Hn.out (by rw [Hy.out, g1, g2]; rfl))
              go_wp2_with (first | (go_at_call 53; (with_reducible refine (within_any _ _ _ _).mono ?_); rintro e w' ⟨rfl, rfl⟩))
              go_roundg (gk - 1)
              case measure => omega
              case rel => exact ⟨k + 1, by omega, by go_num, Hz, hw.alloc hw.size _⟩
            · have g2 : inB rs 0 (res - 1) = false := by simpa using g2
              have Hz := hidp (Hx.out (by rw [Hy.out, g1, g2]; rfl))
              go_wp2_with (first | (go_at_call 53; (with_reducible refine (within_any _ _ _ _).mono ?_); rintro e w' ⟨rfl, rfl⟩))
              try rw [Exit.noGoto_ret]
              go_ret
              exact ⟨ret_bool Hz.out.symm, hw.alloc hw.size _⟩
          · have g1 : inB ln 1 60 = false := by simpa using g1
            have Hz := hidp (Hx.out (by rw [Hy.out, g1]; rfl))
            go_wp2_with (first | (go_at_call 53; (with_reducible refine (within_any _ _ _ _).mono ?_); rintro e w' ⟨rfl, rfl⟩))
            try rw [Exit.noGoto_ret]
            go_ret
            exact ⟨ret_bool Hz.out.symm, hw.alloc hw.size _⟩
        · by_cases k1 : kd = 1
          · subst k1
            clear k3
            have Hy : Hid (partB ⟨1, ln, rs⟩ res = (inB ln 1 60 && inB rs 0 (0))) := hidp (by simp [partB])
            by_cases g1 : inB ln 1 60 = true
            · by_cases g2 : inB rs 0 (0) = true
              · have Hz := hidp (Hn.out (by rw [Hy.out, g1, g2]; rfl))
                go_wp2_with (first | (go_at_call 53; (with_reducible refine (within_any _ _ _ _).mono ?_); rintro e w' ⟨rfl, rfl⟩))
                go_roundg (gk - 1)
                case measure => omega
                case rel => exact ⟨k + 1, by omega, by go_num, Hz, hw.alloc hw.size _⟩
              · have g2 : inB rs 0 (0) = false := by simpa using g2
                have Hz := hidp (Hx.out (by rw [Hy.out, g1, g2]; rfl))
                go_wp2_with (first | (go_at_call 53; (with_reducible refine (within_any _ _ _ _).mono ?_); rintro e w' ⟨rfl, rfl⟩))
                try rw [Exit.noGoto_ret]
                go_ret
                exact ⟨ret_bool Hz.out.symm, hw.alloc hw.size _⟩
            · have g1 : inB ln 1 60 = false := by simpa using g1
              have Hz := hidp (Hx.out (by rw [Hy.out, g1]; rfl))
              go_wp2_with (first | (go_at_call 53; (with_reducible refine (within_any _ _ _ _).mono ?_); rintro e w' ⟨rfl, rfl⟩))
              try rw [Exit.noGoto_ret]
              go_ret
              exact ⟨ret_bool Hz.out.symm, hw.alloc hw.size _⟩
          · by_cases k2 : kd = 2
            · subst k2
              clear k3 k1
              have Hy : Hid (partB ⟨2, ln, rs⟩ res = (inB ln 1 60 && inB rs 0 (0))) := hidp (by simp [partB])
              by_cases g1 : inB ln 1 60 = true
              · by_cases g2 : inB rs 0 (0) = true
                · have Hz := hidp (Hn.out (by rw [Hy.out, g1, g2]; rfl))
                  go_wp2_with (first | (go_at_call 53; (with_reducible refine (within_any _ _ _ _).mono ?_); rintro e w' ⟨rfl, rfl⟩))
                  go_roundg (gk - 1)
                  case measure => omega
                  case rel => exact ⟨k + 1, by omega, by go_num, Hz, hw.alloc hw.size _⟩
                · have g2 : inB rs 0 (0) = false := by simpa using g2
                  have Hz := hidp (Hx.out (by rw [Hy.out, g1, g2]; rfl))
                  go_wp2_with (first | (go_at_call 53; (with_reducible refine (within_any _ _ _ _).mono ?_); rintro e w' ⟨rfl, rfl⟩))
                  try rw [Exit.noGoto_ret]
                  go_ret
                  exact ⟨ret_bool Hz.out.symm, hw.alloc hw.size _⟩
              · have g1 : inB ln 1 60 = false := by simpa using g1
                have Hz := hidp (Hx.out (by rw [Hy.out, g1]; rfl))
                go_wp2_with (first | (go_at_call 53; (with_reducible refine (within_any _ _ _ _).mono ?_); rintro e w' ⟨rfl, rfl⟩))
                try rw [Exit.noGoto_ret]
                go_ret
                exact ⟨ret_bool Hz.out.symm, hw.alloc hw.size _⟩
            · have Hz := hidp (Hx.out (by simp [partB, k1, k2, k3]))
              have e3 : (kd == 3) = false := by simpa using k3
              have e1 : (kd == 1) = false := by simpa using k1
              have e2 : (kd == 2) = false := by simpa using k2
              go_wp2_with (first | (go_at_call 53; (with_reducible refine (within_any _ _ _ _).mono ?_); rintro e w' ⟨rfl, rfl⟩))
              try rw [Exit.noGoto_ret]
              go_ret
              exact ⟨ret_bool Hz.out.symm, hw.alloc hw.size _⟩
      · have Hz : Hid (partsB ps res = true) := hidp (by rw [partsB, h0, all_getD (f := fun p => partB p res) (fun j hj => Ho.out j (by omega))]; rfl)
        go_wp2
        try rw [Exit.noGoto_ret]
        go_ret
        exact ⟨ret_bool Hz.out.symm, hw⟩
  · have h0 : inB ps.length 1 6 = false := by simpa using h0
    have Hz : Hid (partsB ps res = false) := hidp (by rw [partsB, h0]; rfl)
    go_enter Tryz.func55, Tryz.ntmps55
    go_wp2
    go_step3
    go_wp2_with (first | (go_at_call 53; (with_reducible refine (within_any _ _ _ _).mono ?_); rintro e w' ⟨rfl, rfl⟩))
    try rw [Exit.noGoto_ret]
    go_ret
    exact ⟨ret_bool Hz.out.symm, Below.refl _ _⟩
end Go.Proofs.YtlmdiechnidghaaGreat

set_option linter.unusedSimpArgs false
namespace Go.Proofs.YtlmdiechnidghaaGreat
open Go.ChangeShapes Go.WideShapes Go.ChangeAt Go.RowKit
set_option linter.unusedVariables false

/-- at block b lie the four cells of a set -/
def SetCells (w : World) (b : Nat) (s : SetR) : Prop :=
  w.cell? ⟨b, 0, none⟩ = some (.int .i64 s.proto) ∧ w.cell? ⟨b, 1, none⟩ = some (.slice s.ca s.cores.length s.cc) ∧ w.cell? ⟨b, 2, none⟩ = some (.slice s.ha s.homes.length s.hc) ∧ w.cell? ⟨b, 3, none⟩ = some (.slice s.ta s.tasks.length s.tc)
theorem SetCells.keep {w w' : World} {b : Nat} {s : SetR} (h : SetCells w b s) (k : Keeps w w') : SetCells w' b s := ⟨k _ _ h.1, k _ _ h.2.1, k _ _ h.2.2.1, k _ _ h.2.2.2⟩
theorem SetCells.mk {w : World} {b : Nat} {s : SetR} (h0 : w.cell? ⟨b, 0, none⟩ = some (.int .i64 s.proto)) (h1 : w.cell? ⟨b, 1, none⟩ = some (.slice s.ca s.cores.length s.cc)) (h2 : w.cell? ⟨b, 2, none⟩ = some (.slice s.ha s.homes.length s.hc)) (h3 : w.cell? ⟨b, 3, none⟩ = some (.slice s.ta s.tasks.length s.tc)) : SetCells w b s := ⟨h0, h1, h2, h3⟩
theorem SetCells.new (w : World) (s : SetR) (T : TypeId) : SetCells (w.alloc (.cells #[.int .i64 s.proto, .slice s.ca s.cores.length s.cc, .slice s.ha s.homes.length s.hc, .slice s.ta s.tasks.length s.tc] T)) w.heap.size s := by
  refine ⟨?_, ?_, ?_, ?_⟩ <;> simp
def frameV (s : SetR) : Int :=
  if inB s.proto 1 3 = false then 10 else
  if inB s.cores.length 1 3 = false then 16 else
  if allB s.cores 1 3 = false then 16 else
  if 4 < s.homes.length then 16 else
  if allB s.homes 0 ((s.cores.length : Int) - 1) = false then 16 else
  if 6 < s.tasks.length then 11 else
  if s.tasks.length = 0 then 14 else 0

set_option maxHeartbeats 1000000 in
theorem frame_any (s : SetR) (w : World) (hs : SetOk w s) : Calls Tryz.prog 51 #[.agg #[.int .i64 s.proto, .slice s.ca s.cores.length s.cc, .slice s.ha s.homes.length s.hc, .slice s.ta s.tasks.length s.tc]] w fun e w' => e = .returned (.int .i64 (frameV s)) ∧ Below w.heap.size w w' := by
  have l1 : s.cores.length ≤ maxLen := Nat.le_trans hs.cores.sl.2.1 hs.cores.sl.2.2
  have l2 : s.homes.length ≤ maxLen := Nat.le_trans hs.homes.sl.2.1 hs.homes.sl.2.2
  have l3 : s.tasks.length ≤ maxLen := Nat.le_trans hs.tasks.sl.2.1 hs.tasks.sl.2.2
  unfold maxLen at l1 l2 l3
  have CB := hidp (SetCells.new w s 25)
  have HB := hidp ((Below.refl w.heap.size w).alloc (Nat.le_refl _) (.cells #[.int .i64 s.proto, .slice s.ca s.cores.length s.cc, .slice s.ha s.homes.length s.hc, .slice s.ta s.tasks.length s.tc] 25))
  by_cases h0 : inB s.proto 1 3 = true
  · skip
    by_cases h1 : inB s.cores.length 1 3 = true
    · skip
      by_cases h2 : allB s.cores 1 3 = true
      · skip
        by_cases h3 : 4 < s.homes.length
        · skip
          have H : Hid (frameV s = 16) := hidp (by simp [frameV, h0, h1, h2, h3])
          obtain ⟨c0, c1, c2, c3⟩ := CB.out
          have hb := HB.out
          go_enter Tryz.func51, Tryz.ntmps51
          go_wp2_with (first | (go_at_call 53; (with_reducible refine (within_any _ _ _ _).mono ?_); rintro e w' ⟨rfl, rfl⟩) | (go_at_call 74; (first | (with_reducible refine (all_any _ _ _ 1 3 _ (hs.cores.keep (Keeps.of_below hb))).mono ?_) | (with_reducible refine (all_any _ _ _ 0 _ _ (hs.homes.keep (Keeps.of_below hb))).mono ?_)); rintro e w2 ⟨rfl, hb2⟩; replace hb := hb.trans (hb2.mono hb.size); have CB2 := (SetCells.mk c0 c1 c2 c3).keep (Keeps.of_below hb2); clear c0 c1 c2 c3 hb2; obtain ⟨c0, c1, c2, c3⟩ := CB2))
          go_ret
          exact ⟨ret_int H.out.symm, hb⟩
        · skip
          by_cases h4 : allB s.homes 0 ((s.cores.length : Int) - 1) = true
          · skip
            by_cases h5 : 6 < s.tasks.length
            · skip
              have H : Hid (frameV s = 11) := hidp (by simp [frameV, h0, h1, h2, h3, h4, h5])
              obtain ⟨c0, c1, c2, c3⟩ := CB.out
              have hb := HB.out
              go_enter Tryz.func51, Tryz.ntmps51
              go_wp2_with (first | (go_at_call 53; (with_reducible refine (within_any _ _ _ _).mono ?_); rintro e w' ⟨rfl, rfl⟩) | (go_at_call 74; (first | (with_reducible refine (all_any _ _ _ 1 3 _ (hs.cores.keep (Keeps.of_below hb))).mono ?_) | (with_reducible refine (all_any _ _ _ 0 _ _ (hs.homes.keep (Keeps.of_below hb))).mono ?_)); rintro e w2 ⟨rfl, hb2⟩; replace hb := hb.trans (hb2.mono hb.size); have CB2 := (SetCells.mk c0 c1 c2 c3).keep (Keeps.of_below hb2); clear c0 c1 c2 c3 hb2; obtain ⟨c0, c1, c2, c3⟩ := CB2))
              go_ret
              exact ⟨ret_int H.out.symm, hb⟩
            · skip
              by_cases h6 : s.tasks.length = 0
              · have z : ((s.tasks.length : Int) == 0) = true := by simp [h6]
                have H6 := hidp h6
                have H : Hid (frameV s = 14) := hidp (by simp [frameV, h0, h1, h2, h3, h4, h5, h6])
                clear h6
                obtain ⟨c0, c1, c2, c3⟩ := CB.out
                have hb := HB.out
                go_enter Tryz.func51, Tryz.ntmps51
                go_wp2_with (first | (go_at_call 53; (with_reducible refine (within_any _ _ _ _).mono ?_); rintro e w' ⟨rfl, rfl⟩) | (go_at_call 74; (first | (with_reducible refine (all_any _ _ _ 1 3 _ (hs.cores.keep (Keeps.of_below hb))).mono ?_) | (with_reducible refine (all_any _ _ _ 0 _ _ (hs.homes.keep (Keeps.of_below hb))).mono ?_)); rintro e w2 ⟨rfl, hb2⟩; replace hb := hb.trans (hb2.mono hb.size); have CB2 := (SetCells.mk c0 c1 c2 c3).keep (Keeps.of_below hb2); clear c0 c1 c2 c3 hb2; obtain ⟨c0, c1, c2, c3⟩ := CB2))
                go_ret
                exact ⟨ret_int H.out.symm, hb⟩
              · have z : ((s.tasks.length : Int) == 0) = false := by simp; intro e; exact h6 (by simp [e])
                have H : Hid (frameV s = 0) := hidp (by simp [frameV, h0, h1, h2, h3, h4, h5, h6])
                obtain ⟨c0, c1, c2, c3⟩ := CB.out
                have hb := HB.out
                go_enter Tryz.func51, Tryz.ntmps51
                go_wp2_with (first | (go_at_call 53; (with_reducible refine (within_any _ _ _ _).mono ?_); rintro e w' ⟨rfl, rfl⟩) | (go_at_call 74; (first | (with_reducible refine (all_any _ _ _ 1 3 _ (hs.cores.keep (Keeps.of_below hb))).mono ?_) | (with_reducible refine (all_any _ _ _ 0 _ _ (hs.homes.keep (Keeps.of_below hb))).mono ?_)); rintro e w2 ⟨rfl, hb2⟩; replace hb := hb.trans (hb2.mono hb.size); have CB2 := (SetCells.mk c0 c1 c2 c3).keep (Keeps.of_below hb2); clear c0 c1 c2 c3 hb2; obtain ⟨c0, c1, c2, c3⟩ := CB2))
                go_ret
                exact ⟨ret_int H.out.symm, hb⟩
          · have h4 : allB s.homes 0 ((s.cores.length : Int) - 1) = false := by simpa using h4
            have H : Hid (frameV s = 16) := hidp (by simp [frameV, h0, h1, h2, h3, h4])
            obtain ⟨c0, c1, c2, c3⟩ := CB.out
            have hb := HB.out
            go_enter Tryz.func51, Tryz.ntmps51
            go_wp2_with (first | (go_at_call 53; (with_reducible refine (within_any _ _ _ _).mono ?_); rintro e w' ⟨rfl, rfl⟩) | (go_at_call 74; (first | (with_reducible refine (all_any _ _ _ 1 3 _ (hs.cores.keep (Keeps.of_below hb))).mono ?_) | (with_reducible refine (all_any _ _ _ 0 _ _ (hs.homes.keep (Keeps.of_below hb))).mono ?_)); rintro e w2 ⟨rfl, hb2⟩; replace hb := hb.trans (hb2.mono hb.size); have CB2 := (SetCells.mk c0 c1 c2 c3).keep (Keeps.of_below hb2); clear c0 c1 c2 c3 hb2; obtain ⟨c0, c1, c2, c3⟩ := CB2))
            go_ret
            exact ⟨ret_int H.out.symm, hb⟩
      · have h2 : allB s.cores 1 3 = false := by simpa using h2
        have H : Hid (frameV s = 16) := hidp (by simp [frameV, h0, h1, h2])
        obtain ⟨c0, c1, c2, c3⟩ := CB.out
        have hb := HB.out
        go_enter Tryz.func51, Tryz.ntmps51
        go_wp2_with (first | (go_at_call 53; (with_reducible refine (within_any _ _ _ _).mono ?_); rintro e w' ⟨rfl, rfl⟩) | (go_at_call 74; (first | (with_reducible refine (all_any _ _ _ 1 3 _ (hs.cores.keep (Keeps.of_below hb))).mono ?_) | (with_reducible refine (all_any _ _ _ 0 _ _ (hs.homes.keep (Keeps.of_below hb))).mono ?_)); rintro e w2 ⟨rfl, hb2⟩; replace hb := hb.trans (hb2.mono hb.size); have CB2 := (SetCells.mk c0 c1 c2 c3).keep (Keeps.of_below hb2); clear c0 c1 c2 c3 hb2; obtain ⟨c0, c1, c2, c3⟩ := CB2))
        go_ret
        exact ⟨ret_int H.out.symm, hb⟩
    · have h1 : inB s.cores.length 1 3 = false := by simpa using h1
      have H : Hid (frameV s = 16) := hidp (by simp [frameV, h0, h1])
      obtain ⟨c0, c1, c2, c3⟩ := CB.out
      have hb := HB.out
      go_enter Tryz.func51, Tryz.ntmps51
      go_wp2_with (first | (go_at_call 53; (with_reducible refine (within_any _ _ _ _).mono ?_); rintro e w' ⟨rfl, rfl⟩) | (go_at_call 74; (first | (with_reducible refine (all_any _ _ _ 1 3 _ (hs.cores.keep (Keeps.of_below hb))).mono ?_) | (with_reducible refine (all_any _ _ _ 0 _ _ (hs.homes.keep (Keeps.of_below hb))).mono ?_)); rintro e w2 ⟨rfl, hb2⟩; replace hb := hb.trans (hb2.mono hb.size); have CB2 := (SetCells.mk c0 c1 c2 c3).keep (Keeps.of_below hb2); clear c0 c1 c2 c3 hb2; obtain ⟨c0, c1, c2, c3⟩ := CB2))
      go_ret
      exact ⟨ret_int H.out.symm, hb⟩
  · have h0 : inB s.proto 1 3 = false := by simpa using h0
    have H : Hid (frameV s = 10) := hidp (by simp [frameV, h0])
    obtain ⟨c0, c1, c2, c3⟩ := CB.out
    have hb := HB.out
    go_enter Tryz.func51, Tryz.ntmps51
    go_wp2_with (first | (go_at_call 53; (with_reducible refine (within_any _ _ _ _).mono ?_); rintro e w' ⟨rfl, rfl⟩) | (go_at_call 74; (first | (with_reducible refine (all_any _ _ _ 1 3 _ (hs.cores.keep (Keeps.of_below hb))).mono ?_) | (with_reducible refine (all_any _ _ _ 0 _ _ (hs.homes.keep (Keeps.of_below hb))).mono ?_)); rintro e w2 ⟨rfl, hb2⟩; replace hb := hb.trans (hb2.mono hb.size); have CB2 := (SetCells.mk c0 c1 c2 c3).keep (Keeps.of_below hb2); clear c0 c1 c2 c3 hb2; obtain ⟨c0, c1, c2, c3⟩ := CB2))
    go_ret
    exact ⟨ret_int H.out.symm, hb⟩
end Go.Proofs.YtlmdiechnidghaaGreat

namespace Go.Proofs.YtlmdiechnidghaaGreat
open Go.ChangeShapes Go.WideShapes Go.ChangeAt Go.RowKit
set_option linter.unusedVariables false

/-- what is wrong with the task at k -/
def taskE (s : SetR) (k : Nat) : Int :=
  if formB (s.tasks.getD k default) = false then 10 else
  if inB (s.tasks.getD k default).cl 0 ((s.cores.length : Int) - 1) = false then 16 else
  if takenB (s.tasks.take k) (s.tasks.getD k default) = true then 17 else
  if partsB (s.tasks.getD k default).parts s.homes.length = false then 15 else 0
def badAt (s : SetR) : Int := firstT ((List.range s.tasks.length).map fun k => taskE s k != 0)
def chkAt (s : SetR) : Int := if frameV s ≠ 0 then -1 else badAt s
def chkE (s : SetR) : Int := if frameV s ≠ 0 then frameV s else if badAt s = -1 then 0 else taskE s (badAt s).toNat
/-- a set that may be -/
def okS (s : SetR) : Bool := chkE s == 0

theorem bad_here {s : SetR} {k : Nat} (hk : k < s.tasks.length) (h : ∀ j, j < k → taskE s j = 0) (e : taskE s k ≠ 0) : badAt s = k := by
  unfold badAt
  refine firstT_at (by simpa using hk) (fun j hj => ?_) ?_
  · simp [List.getD, show j < s.tasks.length by omega, h j hj]
  · simp [List.getD, hk, e]
theorem bad_none {s : SetR} (h : ∀ j, j < s.tasks.length → taskE s j = 0) : badAt s = -1 := by
  unfold badAt
  refine firstT_none (fun j hj => ?_)
  simp at hj
  simp [List.getD, hj, h j hj]
theorem chk_here {s : SetR} {k : Nat} (hf : frameV s = 0) (hk : k < s.tasks.length) (h : ∀ j, j < k → taskE s j = 0) (e : taskE s k ≠ 0) : chkAt s = k ∧ chkE s = taskE s k := by
  have hb := bad_here hk h e
  unfold chkAt chkE
  rw [hb, if_neg (by simp [hf]), if_neg (by simp [hf]), if_neg (by omega)]
  exact ⟨rfl, by simp⟩
theorem chk_none {s : SetR} (hf : frameV s = 0) (h : ∀ j, j < s.tasks.length → taskE s j = 0) : chkAt s = -1 ∧ chkE s = 0 := by
  have hb := bad_none h
  unfold chkAt chkE
  rw [hb, if_neg (by simp [hf]), if_neg (by simp [hf]), if_pos rfl]
  exact ⟨rfl, rfl⟩
theorem frameV_ok {s : SetR} (h : frameV s = 0) : inB s.proto 1 3 = true ∧ inB s.cores.length 1 3 = true ∧ allB s.cores 1 3 = true ∧ s.homes.length ≤ 4 ∧ allB s.homes 0 ((s.cores.length : Int) - 1) = true ∧ 1 ≤ s.tasks.length ∧ s.tasks.length ≤ 6 := by
  unfold frameV at h
  by_cases h1 : inB s.proto 1 3 = false
  · rw [if_pos h1] at h; omega
  rw [if_neg h1] at h
  by_cases h2 : inB s.cores.length 1 3 = false
  · rw [if_pos h2] at h; omega
  rw [if_neg h2] at h
  by_cases h3 : allB s.cores 1 3 = false
  · rw [if_pos h3] at h; omega
  rw [if_neg h3] at h
  by_cases h4 : 4 < s.homes.length
  · rw [if_pos h4] at h; omega
  rw [if_neg h4] at h
  by_cases h5 : allB s.homes 0 ((s.cores.length : Int) - 1) = false
  · rw [if_pos h5] at h; omega
  rw [if_neg h5] at h
  by_cases h6 : 6 < s.tasks.length
  · rw [if_pos h6] at h; omega
  rw [if_neg h6] at h
  by_cases h7 : s.tasks.length = 0
  · rw [if_pos h7] at h; omega
  exact ⟨by simpa using h1, by simpa using h2, by simpa using h3, by omega, by simpa using h5, by omega, by omega⟩
theorem ret_ii {a b c d : Int} (h : a = b) (g : c = d) : Ending.returned (.tuple #[.int .i64 a, .int .i64 c]) = .returned (.tuple #[.int .i64 b, .int .i64 d]) := by rw [h, g]
theorem taken_n (a : Option Addr) (c n : Nat) (ts : List TaskR) (t : TaskR) (w : World) (hn : Hid (n = ts.length)) (h : TasksAt w a ts) (hl : ts.length ≤ maxLen) :
    Calls Tryz.prog 54 #[.slice a n c, .agg #[.string t.name, .int .i64 t.per, .int .i64 t.dl, .int .i64 t.prio, .int .i64 t.cl, .slice t.pa t.parts.length t.pc]] w fun e w' => e = .returned (.bool (takenB ts t)) ∧ Below w.heap.size w w' := by
  have e := hn.out; subst e; exact taken_any a c ts t w h hl
theorem TasksAt.take {w : World} {a : Option Addr} {ts : List TaskR} (h : TasksAt w a ts) (k : Nat) : TasksAt w a (ts.take k) := by
  rcases h with rfl | ⟨b, off, e, h⟩
  · exact .inl (by simp)
  · refine .inr ⟨b, off, e, fun i hi => ?_⟩
    rw [List.length_take] at hi
    have := h i (by omega)
    simpa [List.getD, List.getElem?_take, show i < k by omega] using this
theorem TaskCells.mk {w : World} {b off : Nat} {t : TaskR} (h0 : w.cell? ⟨b, off, none⟩ = some (.string t.name)) (h1 : w.cell? ⟨b, off + 1, none⟩ = some (.int .i64 t.per)) (h2 : w.cell? ⟨b, off + 2, none⟩ = some (.int .i64 t.dl)) (h3 : w.cell? ⟨b, off + 3, none⟩ = some (.int .i64 t.prio)) (h4 : w.cell? ⟨b, off + 4, none⟩ = some (.int .i64 t.cl)) (h5 : w.cell? ⟨b, off + 5, none⟩ = some (.slice t.pa t.parts.length t.pc)) : TaskCells w b off t := ⟨h0, h1, h2, h3, h4, h5⟩
/-- a task's box: its six cells from 0 on -/
def TaskBox (w : World) (b : Nat) (t : TaskR) : Prop :=
  w.cell? ⟨b, 0, none⟩ = some (.string t.name) ∧ w.cell? ⟨b, 1, none⟩ = some (.int .i64 t.per) ∧ w.cell? ⟨b, 2, none⟩ = some (.int .i64 t.dl) ∧
  w.cell? ⟨b, 3, none⟩ = some (.int .i64 t.prio) ∧ w.cell? ⟨b, 4, none⟩ = some (.int .i64 t.cl) ∧ w.cell? ⟨b, 5, none⟩ = some (.slice t.pa t.parts.length t.pc)
theorem TaskBox.keep {w w' : World} {b : Nat} {t : TaskR} (h : TaskBox w b t) (k : Keeps w w') : TaskBox w' b t :=
  ⟨k _ _ h.1, k _ _ h.2.1, k _ _ h.2.2.1, k _ _ h.2.2.2.1, k _ _ h.2.2.2.2.1, k _ _ h.2.2.2.2.2⟩
theorem TaskBox.new (w : World) (t : TaskR) (T : TypeId) : TaskBox (w.alloc (.cells #[.string t.name, .int .i64 t.per, .int .i64 t.dl, .int .i64 t.prio, .int .i64 t.cl, .slice t.pa t.parts.length t.pc] T)) w.heap.size t := by
  refine ⟨?_, ?_, ?_, ?_, ?_, ?_⟩ <;> simp

set_option maxHeartbeats 2000000 in
theorem check_row (proto : Int) (ca : Option Addr) (cc : Nat) (cores : List Int) (ha : Option Addr) (hc : Nat) (homes : List Int) (g off tc : Nat) (tasks : List TaskR) (w : World)
    (hs : SetOk w ⟨proto, ca, cc, cores, ha, hc, homes, some ⟨g, off, none⟩, tc, tasks⟩) (h0 : frameV ⟨proto, ca, cc, cores, ha, hc, homes, some ⟨g, off, none⟩, tc, tasks⟩ = 0) :
    Calls Tryz.prog 28 #[.agg #[.int .i64 proto, .slice ca cores.length cc, .slice ha homes.length hc, .slice (some ⟨g, off, none⟩) tasks.length tc]] w fun e w' => e = .returned (.tuple #[.int .i64 (chkAt ⟨proto, ca, cc, cores, ha, hc, homes, some ⟨g, off, none⟩, tc, tasks⟩), .int .i64 (chkE ⟨proto, ca, cc, cores, ha, hc, homes, some ⟨g, off, none⟩, tc, tasks⟩)]) ∧ Below w.heap.size w w' := by
  obtain ⟨S, HS⟩ : ∃ S, Hid (SetR.mk proto ca cc cores ha hc homes (some ⟨g, off, none⟩) tc tasks = S) := ⟨_, rfl⟩
  have e1 : Hid (S.cores = cores) := hidp (by rw [← HS.out])
  have e2 : Hid (S.homes = homes) := hidp (by rw [← HS.out])
  have e3 : Hid (S.tasks = tasks) := hidp (by rw [← HS.out])
  have l1 : cores.length ≤ maxLen := Nat.le_trans hs.cores.sl.2.1 hs.cores.sl.2.2
  have l2 : homes.length ≤ maxLen := Nat.le_trans hs.homes.sl.2.1 hs.homes.sl.2.2
  have l3 : tasks.length ≤ maxLen := Nat.le_trans hs.tasks.sl.2.1 hs.tasks.sl.2.2
  have L3 := hidp l3
  have ltc : tasks.length ≤ tc := hs.tasks.sl.2.1
  have ltm : tc ≤ maxLen := hs.tasks.sl.2.2
  unfold maxLen at ltm
  unfold maxLen at l1 l2 l3
  have CB := hidp (SetCells.new w ⟨proto, ca, cc, cores, ha, hc, homes, some ⟨g, off, none⟩, tc, tasks⟩ 25)
  have hb := ((Below.refl w.heap.size w).alloc (Nat.le_refl _) (.cells #[.int .i64 proto, .slice ca cores.length cc, .slice ha homes.length hc, .slice (some ⟨g, off, none⟩) tasks.length tc] 25))
  have Hfr := hidp (frame_any _ _ (hs.keep (Keeps.of_below hb)))
  have f0 := frameV_ok h0
  dsimp only at f0 Hfr
  have Ok := hidp hs.tasks.ok
  obtain ⟨g', off', hA, hcl⟩ := hs.tasks.at_.resolve_left (by intro e; dsimp only at e; rw [e] at f0; simp at f0)
  obtain ⟨rfl, rfl⟩ : g = g' ∧ off = off' := by injection hA with hA; injection hA with h1 h2; exact ⟨h1, h2⟩
  have At := hidp hs.tasks.at_
  dsimp only at hcl At Ok
  have Hc := hidp hcl
  clear hcl hs hA
  have H0 : Hid (frameV S = 0) := hidp (by rw [← HS.out]; exact h0)
  rw [HS.out] at h0 ⊢
  rw [HS.out] at Hfr
  rw [h0] at Hfr
  clear h0
  obtain ⟨f1, f2, f3, f4, f5, f6, f7⟩ := f0
  go_enter Tryz.func28, Tryz.ntmps28
  go_wp2
  go_step3
  go_wp2_with (first | (go_at_call 51; refine Hfr.out.mono ?_; rintro e w2 ⟨rfl, hb2⟩; replace hb := hb.trans (hb2.mono hb.size); have C2 := CB.out.keep (Keeps.of_below hb2); obtain ⟨c0, c1, c2, c3⟩ := C2; dsimp only at c0 c1 c2 c3; clear hb2))
  go_step3
  go_wp2
  --LOOP
  go_loopg [16] tasks.length (fun gg i wr => ∃ k : Nat, k + gg = tasks.length ∧ i = .int .i64 k ∧ Hid (∀ j, j < k → taskE S j = 0) ∧ SetCells wr w.heap.size ⟨proto, ca, cc, cores, ha, hc, homes, some ⟨g, off, none⟩, tc, tasks⟩ ∧ Below w.heap.size w wr)
  case atStart => exact ⟨0, by omega, rfl, hidp (by omega), SetCells.mk c0 c1 c2 c3, hb⟩
  case round =>
    obtain ⟨k, hk, rfl, Ho, sc, hb⟩ := hrel
    clear c0 c1 c2 c3
    have sc3 := sc
    obtain ⟨c0, c1, c2, c3⟩ := sc3
    dsimp only at c0 c1 c2 c3
    by_cases hlt : k < tasks.length
    · obtain ⟨t, HT⟩ : ∃ t, Hid (tasks.getD k default = t) := ⟨_, rfl⟩
      have tcl := (HT.out ▸ Hc.out k hlt).keep (Keeps.of_below hb)
      have Tok : Hid (TaskOk w t) := hidp (HT.out ▸ Ok.out _ (by simp [List.getD, hlt]))
      have Hnm := hidp Tok.out.name
      have Hpt := hidp Tok.out.at_
      have Hpl : Hid (t.parts.length ≤ maxLen) := hidp (Nat.le_trans Tok.out.sl.2.1 Tok.out.sl.2.2)
      have Hk : Hid (Hid (k = (tasks.take k).length)) := hidp (hidp (by rw [List.length_take]; omega))
      have kc : k ≤ tc := by omega
      have kc0 : (0 : Int) ≤ (k : Int) := by omega
      have kc1 : (k : Int) ≤ (tc : Int) := by omega
      have Hkl : Hid ((tasks.take k).length ≤ maxLen) := hidp (Nat.le_trans (by rw [List.length_take]; omega) L3.out)
      clear c0 c1 c2 c3
      obtain ⟨d0, d1, d2, d3, d4, d5⟩ := tcl
      have tb := TaskBox.new wr t 57
      replace sc := sc.keep (Keeps.alloc wr (.cells #[.string t.name, .int .i64 t.per, .int .i64 t.dl, .int .i64 t.prio, .int .i64 t.cl, .slice t.pa t.parts.length t.pc] 57))
      replace hb := hb.alloc hb.size (.cells #[.string t.name, .int .i64 t.per, .int .i64 t.dl, .int .i64 t.prio, .int .i64 t.cl, .slice t.pa t.parts.length t.pc] 57)
      have sc3 := sc
      obtain ⟨c0, c1, c2, c3⟩ := sc3
      dsimp only at c0 c1 c2 c3
      by_cases p1 : formB t = true
      · by_cases p2 : inB t.cl 0 ((cores.length : Int) - 1) = true
        · by_cases p3 : takenB (tasks.take k) t = true
          · skip
            have Hy : Hid (taskE S k = 17) := hidp (by unfold taskE; rw [e1.out, e2.out, e3.out, HT.out, p1, p2, p3]; simp)
            have Hz := hidp (chk_here H0.out (by rw [e3.out]; exact hlt) Ho.out (by rw [Hy.out]; decide))
            go_wp2_with (first | (go_at_call 52; (with_reducible refine (formed_any _ _ Hnm.out).mono ?_); rintro e u ⟨rfl, hb3⟩; replace hb := hb.trans (hb3.mono hb.size); replace tb := tb.keep (Keeps.of_below hb3); replace sc := sc.keep (Keeps.of_below hb3); have tb2 := tb; have sc2 := sc; obtain ⟨b0, b1, b2, b3, b4, b5⟩ := tb2; obtain ⟨c0, c1, c2, c3⟩ := sc2; dsimp only at c0 c1 c2 c3; clear hb3) | (go_at_call 53; (with_reducible refine (within_any _ _ _ _).mono ?_); rintro e w' ⟨rfl, rfl⟩) | (go_at_call 55; (with_reducible refine (parted_any _ _ _ _ _ (Hpt.out.keep (Keeps.of_below hb)) Hpl.out (by omega) (by omega)).mono ?_); rintro e u ⟨rfl, hb3⟩; replace hb := hb.trans (hb3.mono hb.size); replace tb := tb.keep (Keeps.of_below hb3); replace sc := sc.keep (Keeps.of_below hb3); have tb2 := tb; have sc2 := sc; obtain ⟨b0, b1, b2, b3, b4, b5⟩ := tb2; obtain ⟨c0, c1, c2, c3⟩ := sc2; dsimp only at c0 c1 c2 c3; clear hb3))
            replace sc := sc.keep (Keeps.drew _)
            replace tb := tb.keep (Keeps.drew _)
            replace hb := hb.drew
            go_region_held3 (fun w' => w'.cell? ⟨w.heap.size, 3, none⟩ = some (.slice (some ⟨g, off, none⟩) tasks.length tc) ∧ w'.cell? ⟨wr.heap.size, 0, none⟩ = some (.string t.name) ∧ w'.cell? ⟨wr.heap.size, 1, none⟩ = some (.int .i64 t.per) ∧ w'.cell? ⟨wr.heap.size, 2, none⟩ = some (.int .i64 t.dl) ∧ w'.cell? ⟨wr.heap.size, 3, none⟩ = some (.int .i64 t.prio) ∧ w'.cell? ⟨wr.heap.size, 4, none⟩ = some (.int .i64 t.cl) ∧ w'.cell? ⟨wr.heap.size, 5, none⟩ = some (.slice t.pa t.parts.length t.pc)) (exact ⟨sc.2.2.2, tb⟩)
              (first
                | (go_at_call 54; refine (taken_n _ _ _ _ _ _ Hk.out ((At.out.keep (Keeps.of_below hb)).take k) Hkl.out).mono ?_; rintro e u ⟨rfl, hb3⟩; replace hb := hb.trans (hb3.mono hb.size); replace tb := tb.keep (Keeps.of_below hb3); replace sc := sc.keep (Keeps.of_below hb3); have tb2 := tb; have sc2 := sc; obtain ⟨b0, b1, b2, b3, b4, b5⟩ := tb2; obtain ⟨c0, c1, c2, c3⟩ := sc2; dsimp only at c0 c1 c2 c3; clear hb3))
            go_wp2_with (first | (go_at_call 52; (with_reducible refine (formed_any _ _ Hnm.out).mono ?_); rintro e u ⟨rfl, hb3⟩; replace hb := hb.trans (hb3.mono hb.size); replace tb := tb.keep (Keeps.of_below hb3); replace sc := sc.keep (Keeps.of_below hb3); have tb2 := tb; have sc2 := sc; obtain ⟨b0, b1, b2, b3, b4, b5⟩ := tb2; obtain ⟨c0, c1, c2, c3⟩ := sc2; dsimp only at c0 c1 c2 c3; clear hb3) | (go_at_call 53; (with_reducible refine (within_any _ _ _ _).mono ?_); rintro e w' ⟨rfl, rfl⟩) | (go_at_call 55; (with_reducible refine (parted_any _ _ _ _ _ (Hpt.out.keep (Keeps.of_below hb)) Hpl.out (by omega) (by omega)).mono ?_); rintro e u ⟨rfl, hb3⟩; replace hb := hb.trans (hb3.mono hb.size); replace tb := tb.keep (Keeps.of_below hb3); replace sc := sc.keep (Keeps.of_below hb3); have tb2 := tb; have sc2 := sc; obtain ⟨b0, b1, b2, b3, b4, b5⟩ := tb2; obtain ⟨c0, c1, c2, c3⟩ := sc2; dsimp only at c0 c1 c2 c3; clear hb3))
            try rw [Exit.noGoto_ret]
            go_ret2
            exact ⟨ret_ii Hz.out.1.symm (by rw [Hz.out.2, Hy.out]), hb⟩
          · have p3 : takenB (tasks.take k) t = false := by simpa using p3
            by_cases p4 : partsB t.parts homes.length = true
            · skip
              have Hy : Hid (taskE S k = 0) := hidp (by unfold taskE; rw [e1.out, e2.out, e3.out, HT.out, p1, p2, p3, p4]; simp)
              have Hz : Hid (∀ j, j < k + 1 → taskE S j = 0) := hidp (fun j hj => by
                by_cases e : j = k
                · subst e; exact Hy.out
                · exact Ho.out j (by omega))
              go_wp2_with (first | (go_at_call 52; (with_reducible refine (formed_any _ _ Hnm.out).mono ?_); rintro e u ⟨rfl, hb3⟩; replace hb := hb.trans (hb3.mono hb.size); replace tb := tb.keep (Keeps.of_below hb3); replace sc := sc.keep (Keeps.of_below hb3); have tb2 := tb; have sc2 := sc; obtain ⟨b0, b1, b2, b3, b4, b5⟩ := tb2; obtain ⟨c0, c1, c2, c3⟩ := sc2; dsimp only at c0 c1 c2 c3; clear hb3) | (go_at_call 53; (with_reducible refine (within_any _ _ _ _).mono ?_); rintro e w' ⟨rfl, rfl⟩) | (go_at_call 55; (with_reducible refine (parted_any _ _ _ _ _ (Hpt.out.keep (Keeps.of_below hb)) Hpl.out (by omega) (by omega)).mono ?_); rintro e u ⟨rfl, hb3⟩; replace hb := hb.trans (hb3.mono hb.size); replace tb := tb.keep (Keeps.of_below hb3); replace sc := sc.keep (Keeps.of_below hb3); have tb2 := tb; have sc2 := sc; obtain ⟨b0, b1, b2, b3, b4, b5⟩ := tb2; obtain ⟨c0, c1, c2, c3⟩ := sc2; dsimp only at c0 c1 c2 c3; clear hb3))
              replace sc := sc.keep (Keeps.drew _)
              replace tb := tb.keep (Keeps.drew _)
              replace hb := hb.drew
              go_region_held3 (fun w' => w'.cell? ⟨w.heap.size, 3, none⟩ = some (.slice (some ⟨g, off, none⟩) tasks.length tc) ∧ w'.cell? ⟨wr.heap.size, 0, none⟩ = some (.string t.name) ∧ w'.cell? ⟨wr.heap.size, 1, none⟩ = some (.int .i64 t.per) ∧ w'.cell? ⟨wr.heap.size, 2, none⟩ = some (.int .i64 t.dl) ∧ w'.cell? ⟨wr.heap.size, 3, none⟩ = some (.int .i64 t.prio) ∧ w'.cell? ⟨wr.heap.size, 4, none⟩ = some (.int .i64 t.cl) ∧ w'.cell? ⟨wr.heap.size, 5, none⟩ = some (.slice t.pa t.parts.length t.pc)) (exact ⟨sc.2.2.2, tb⟩)
                (first
                  | (go_at_call 54; refine (taken_n _ _ _ _ _ _ Hk.out ((At.out.keep (Keeps.of_below hb)).take k) Hkl.out).mono ?_; rintro e u ⟨rfl, hb3⟩; replace hb := hb.trans (hb3.mono hb.size); replace tb := tb.keep (Keeps.of_below hb3); replace sc := sc.keep (Keeps.of_below hb3); have tb2 := tb; have sc2 := sc; obtain ⟨b0, b1, b2, b3, b4, b5⟩ := tb2; obtain ⟨c0, c1, c2, c3⟩ := sc2; dsimp only at c0 c1 c2 c3; clear hb3))
              go_wp2_with (first | (go_at_call 52; (with_reducible refine (formed_any _ _ Hnm.out).mono ?_); rintro e u ⟨rfl, hb3⟩; replace hb := hb.trans (hb3.mono hb.size); replace tb := tb.keep (Keeps.of_below hb3); replace sc := sc.keep (Keeps.of_below hb3); have tb2 := tb; have sc2 := sc; obtain ⟨b0, b1, b2, b3, b4, b5⟩ := tb2; obtain ⟨c0, c1, c2, c3⟩ := sc2; dsimp only at c0 c1 c2 c3; clear hb3) | (go_at_call 53; (with_reducible refine (within_any _ _ _ _).mono ?_); rintro e w' ⟨rfl, rfl⟩) | (go_at_call 55; (with_reducible refine (parted_any _ _ _ _ _ (Hpt.out.keep (Keeps.of_below hb)) Hpl.out (by omega) (by omega)).mono ?_); rintro e u ⟨rfl, hb3⟩; replace hb := hb.trans (hb3.mono hb.size); replace tb := tb.keep (Keeps.of_below hb3); replace sc := sc.keep (Keeps.of_below hb3); have tb2 := tb; have sc2 := sc; obtain ⟨b0, b1, b2, b3, b4, b5⟩ := tb2; obtain ⟨c0, c1, c2, c3⟩ := sc2; dsimp only at c0 c1 c2 c3; clear hb3))
              go_roundg (gk - 1)
              case measure => omega
              case rel => exact ⟨k + 1, by omega, by go_num, Hz, sc, hb⟩
            · have p4 : partsB t.parts homes.length = false := by simpa using p4
              have Hy : Hid (taskE S k = 15) := hidp (by unfold taskE; rw [e1.out, e2.out, e3.out, HT.out, p1, p2, p3, p4]; simp)
              have Hz := hidp (chk_here H0.out (by rw [e3.out]; exact hlt) Ho.out (by rw [Hy.out]; decide))
              go_wp2_with (first | (go_at_call 52; (with_reducible refine (formed_any _ _ Hnm.out).mono ?_); rintro e u ⟨rfl, hb3⟩; replace hb := hb.trans (hb3.mono hb.size); replace tb := tb.keep (Keeps.of_below hb3); replace sc := sc.keep (Keeps.of_below hb3); have tb2 := tb; have sc2 := sc; obtain ⟨b0, b1, b2, b3, b4, b5⟩ := tb2; obtain ⟨c0, c1, c2, c3⟩ := sc2; dsimp only at c0 c1 c2 c3; clear hb3) | (go_at_call 53; (with_reducible refine (within_any _ _ _ _).mono ?_); rintro e w' ⟨rfl, rfl⟩) | (go_at_call 55; (with_reducible refine (parted_any _ _ _ _ _ (Hpt.out.keep (Keeps.of_below hb)) Hpl.out (by omega) (by omega)).mono ?_); rintro e u ⟨rfl, hb3⟩; replace hb := hb.trans (hb3.mono hb.size); replace tb := tb.keep (Keeps.of_below hb3); replace sc := sc.keep (Keeps.of_below hb3); have tb2 := tb; have sc2 := sc; obtain ⟨b0, b1, b2, b3, b4, b5⟩ := tb2; obtain ⟨c0, c1, c2, c3⟩ := sc2; dsimp only at c0 c1 c2 c3; clear hb3))
              replace sc := sc.keep (Keeps.drew _)
              replace tb := tb.keep (Keeps.drew _)
              replace hb := hb.drew
              go_region_held3 (fun w' => w'.cell? ⟨w.heap.size, 3, none⟩ = some (.slice (some ⟨g, off, none⟩) tasks.length tc) ∧ w'.cell? ⟨wr.heap.size, 0, none⟩ = some (.string t.name) ∧ w'.cell? ⟨wr.heap.size, 1, none⟩ = some (.int .i64 t.per) ∧ w'.cell? ⟨wr.heap.size, 2, none⟩ = some (.int .i64 t.dl) ∧ w'.cell? ⟨wr.heap.size, 3, none⟩ = some (.int .i64 t.prio) ∧ w'.cell? ⟨wr.heap.size, 4, none⟩ = some (.int .i64 t.cl) ∧ w'.cell? ⟨wr.heap.size, 5, none⟩ = some (.slice t.pa t.parts.length t.pc)) (exact ⟨sc.2.2.2, tb⟩)
                (first
                  | (go_at_call 54; refine (taken_n _ _ _ _ _ _ Hk.out ((At.out.keep (Keeps.of_below hb)).take k) Hkl.out).mono ?_; rintro e u ⟨rfl, hb3⟩; replace hb := hb.trans (hb3.mono hb.size); replace tb := tb.keep (Keeps.of_below hb3); replace sc := sc.keep (Keeps.of_below hb3); have tb2 := tb; have sc2 := sc; obtain ⟨b0, b1, b2, b3, b4, b5⟩ := tb2; obtain ⟨c0, c1, c2, c3⟩ := sc2; dsimp only at c0 c1 c2 c3; clear hb3))
              go_wp2_with (first | (go_at_call 52; (with_reducible refine (formed_any _ _ Hnm.out).mono ?_); rintro e u ⟨rfl, hb3⟩; replace hb := hb.trans (hb3.mono hb.size); replace tb := tb.keep (Keeps.of_below hb3); replace sc := sc.keep (Keeps.of_below hb3); have tb2 := tb; have sc2 := sc; obtain ⟨b0, b1, b2, b3, b4, b5⟩ := tb2; obtain ⟨c0, c1, c2, c3⟩ := sc2; dsimp only at c0 c1 c2 c3; clear hb3) | (go_at_call 53; (with_reducible refine (within_any _ _ _ _).mono ?_); rintro e w' ⟨rfl, rfl⟩) | (go_at_call 55; (with_reducible refine (parted_any _ _ _ _ _ (Hpt.out.keep (Keeps.of_below hb)) Hpl.out (by omega) (by omega)).mono ?_); rintro e u ⟨rfl, hb3⟩; replace hb := hb.trans (hb3.mono hb.size); replace tb := tb.keep (Keeps.of_below hb3); replace sc := sc.keep (Keeps.of_below hb3); have tb2 := tb; have sc2 := sc; obtain ⟨b0, b1, b2, b3, b4, b5⟩ := tb2; obtain ⟨c0, c1, c2, c3⟩ := sc2; dsimp only at c0 c1 c2 c3; clear hb3))
              try rw [Exit.noGoto_ret]
              go_ret2
              exact ⟨ret_ii Hz.out.1.symm (by rw [Hz.out.2, Hy.out]), hb⟩
        · have p2 : inB t.cl 0 ((cores.length : Int) - 1) = false := by simpa using p2
          have Hy : Hid (taskE S k = 16) := hidp (by unfold taskE; rw [e1.out, e2.out, e3.out, HT.out, p1, p2]; simp)
          have Hz := hidp (chk_here H0.out (by rw [e3.out]; exact hlt) Ho.out (by rw [Hy.out]; decide))
          go_wp2_with (first | (go_at_call 52; (with_reducible refine (formed_any _ _ Hnm.out).mono ?_); rintro e u ⟨rfl, hb3⟩; replace hb := hb.trans (hb3.mono hb.size); replace tb := tb.keep (Keeps.of_below hb3); replace sc := sc.keep (Keeps.of_below hb3); have tb2 := tb; have sc2 := sc; obtain ⟨b0, b1, b2, b3, b4, b5⟩ := tb2; obtain ⟨c0, c1, c2, c3⟩ := sc2; dsimp only at c0 c1 c2 c3; clear hb3) | (go_at_call 53; (with_reducible refine (within_any _ _ _ _).mono ?_); rintro e w' ⟨rfl, rfl⟩) | (go_at_call 55; (with_reducible refine (parted_any _ _ _ _ _ (Hpt.out.keep (Keeps.of_below hb)) Hpl.out (by omega) (by omega)).mono ?_); rintro e u ⟨rfl, hb3⟩; replace hb := hb.trans (hb3.mono hb.size); replace tb := tb.keep (Keeps.of_below hb3); replace sc := sc.keep (Keeps.of_below hb3); have tb2 := tb; have sc2 := sc; obtain ⟨b0, b1, b2, b3, b4, b5⟩ := tb2; obtain ⟨c0, c1, c2, c3⟩ := sc2; dsimp only at c0 c1 c2 c3; clear hb3))
          try rw [Exit.noGoto_ret]
          go_ret2
          exact ⟨ret_ii Hz.out.1.symm (by rw [Hz.out.2, Hy.out]), hb⟩
      · have p1 : formB t = false := by simpa using p1
        have Hy : Hid (taskE S k = 10) := hidp (by unfold taskE; rw [e1.out, e2.out, e3.out, HT.out, p1]; simp)
        have Hz := hidp (chk_here H0.out (by rw [e3.out]; exact hlt) Ho.out (by rw [Hy.out]; decide))
        go_wp2_with (first | (go_at_call 52; (with_reducible refine (formed_any _ _ Hnm.out).mono ?_); rintro e u ⟨rfl, hb3⟩; replace hb := hb.trans (hb3.mono hb.size); replace tb := tb.keep (Keeps.of_below hb3); replace sc := sc.keep (Keeps.of_below hb3); have tb2 := tb; have sc2 := sc; obtain ⟨b0, b1, b2, b3, b4, b5⟩ := tb2; obtain ⟨c0, c1, c2, c3⟩ := sc2; dsimp only at c0 c1 c2 c3; clear hb3) | (go_at_call 53; (with_reducible refine (within_any _ _ _ _).mono ?_); rintro e w' ⟨rfl, rfl⟩) | (go_at_call 55; (with_reducible refine (parted_any _ _ _ _ _ (Hpt.out.keep (Keeps.of_below hb)) Hpl.out (by omega) (by omega)).mono ?_); rintro e u ⟨rfl, hb3⟩; replace hb := hb.trans (hb3.mono hb.size); replace tb := tb.keep (Keeps.of_below hb3); replace sc := sc.keep (Keeps.of_below hb3); have tb2 := tb; have sc2 := sc; obtain ⟨b0, b1, b2, b3, b4, b5⟩ := tb2; obtain ⟨c0, c1, c2, c3⟩ := sc2; dsimp only at c0 c1 c2 c3; clear hb3))
        try rw [Exit.noGoto_ret]
        go_ret2
        exact ⟨ret_ii Hz.out.1.symm (by rw [Hz.out.2, Hy.out]), hb⟩
    · have Hz := hidp (chk_none H0.out (fun j hj => Ho.out j (by rw [e3.out] at hj; omega)))
      go_wp2
      try rw [Exit.noGoto_ret]
      go_ret2
      exact ⟨ret_ii Hz.out.1.symm Hz.out.2.symm, hb⟩
theorem check_any (s : SetR) (w : World) (hs : SetOk w s) : Calls Tryz.prog 28 #[.agg #[.int .i64 s.proto, .slice s.ca s.cores.length s.cc, .slice s.ha s.homes.length s.hc, .slice s.ta s.tasks.length s.tc]] w fun e w' => e = .returned (.tuple #[.int .i64 (chkAt s), .int .i64 (chkE s)]) ∧ Below w.heap.size w w' := by
  by_cases h0 : frameV s = 0
  · have f0 := frameV_ok h0
    obtain ⟨g, off, hA, _⟩ := hs.tasks.at_.resolve_left (by intro e; rw [e] at f0; simp at f0)
    obtain ⟨proto, ca, cc, cores, ha, hc, homes, ta, tc, tasks⟩ := s
    dsimp only at hA
    subst hA
    exact check_row proto ca cc cores ha hc homes g off tc tasks w hs h0
  · have H1 : Hid (chkAt s = -1) := hidp (by unfold chkAt; rw [if_pos h0])
    have H2 : Hid (chkE s = frameV s) := hidp (by unfold chkE; rw [if_pos h0])
    have hb := ((Below.refl w.heap.size w).alloc (Nat.le_refl _) (.cells #[.int .i64 s.proto, .slice s.ca s.cores.length s.cc, .slice s.ha s.homes.length s.hc, .slice s.ta s.tasks.length s.tc] 25))
    have hfr := frame_any _ _ (hs.keep (Keeps.of_below hb))
    have h0 : (frameV s == 0) = false := by simpa using h0
    have Hfr := hidp hfr
    clear hs hfr
    go_enter Tryz.func28, Tryz.ntmps28
    go_wp2
    go_step3
    go_wp2_with (first | (go_at_call 51; refine Hfr.out.mono ?_; rintro e w2 ⟨rfl, hb2⟩; replace hb := hb.trans (hb2.mono hb.size); clear hb2))
    try rw [Exit.noGoto_ret]
    go_ret2
    exact ⟨ret_ii H1.out.symm H2.out.symm, hb⟩
end Go.Proofs.YtlmdiechnidghaaGreat

namespace Go.Proofs.YtlmdiechnidghaaGreat
open Go.ChangeShapes Go.WideShapes Go.ChangeAt Go.RowKit Go.Conc
set_option linter.unusedVariables false
set_option linter.unusedSimpArgs false
/-- which keys are one -/
def KeysAre (proto : Int) (homes : List Int) (ks : List Nat) (j : Nat) : Prop := ks.length = j ∧ ∀ r q, r < j → q < j → (ks.getD r 0 = ks.getD q 0 ↔ r = q ∨ (proto = 2 ∧ homes.getD r 0 = homes.getD q 0))
def KeysP (w : World) (s : SetR) (e : Ending) (w' : World) : Prop := ∃ A n c ks, e = .returned (.slice A n c) ∧ KRow w.heap.size w.heap.size w' A n c ks ∧ KeysAre s.proto s.homes ks s.homes.length ∧ Below w.heap.size w w'
theorem nodup_getD {ks : List Nat} (h : ks.Nodup) {r q : Nat} (hr : r < ks.length) (hq : q < ks.length) : ks.getD r 0 = ks.getD q 0 ↔ r = q := by
  have e1 : ks.getD r 0 = ks[r] := by simp [List.getD, hr]
  have e2 : ks.getD q 0 = ks[q] := by simp [List.getD, hq]
  rw [e1, e2]
  refine ⟨fun h2 => ?_, fun h2 => by subst h2; rfl⟩
  have hh := List.pairwise_iff_getElem.1 h
  rcases Nat.lt_trichotomy r q with h3 | h3 | h3
  · exact absurd h2 (hh r q hr hq h3)
  · exact h3
  · exact absurd h2.symm (hh q r hq hr h3)
theorem KeysAre.app {p : Int} {hs : List Int} {ks : List Nat} {j : Nat} (h : KeysAre p hs ks j) {k : Nat} (hk : ∀ r, r < j → (ks.getD r 0 = k ↔ p = 2 ∧ hs.getD r 0 = hs.getD j 0)) : KeysAre p hs (ks ++ [k]) (j + 1) := by
  obtain ⟨hl, h2⟩ := h
  have e1 : ∀ r, r < j → (ks ++ [k]).getD r 0 = ks.getD r 0 := fun r hr => by simp [List.getD, List.getElem?_append_left (show r < ks.length by omega)]
  have e2 : (ks ++ [k]).getD j 0 = k := by simp [List.getD, ← hl]
  refine ⟨by simp [hl], fun r q hr hq => ?_⟩
  rcases Nat.lt_succ_iff_lt_or_eq.1 hr with hr | rfl <;> rcases Nat.lt_succ_iff_lt_or_eq.1 hq with hq | rfl
  · rw [e1 r hr, e1 q hq]; exact h2 r q hr hq
  · rw [e1 r hr, e2, hk r hr]
    exact ⟨.inr, fun hx => hx.resolve_left (by omega)⟩
  · rw [e1 q hq, e2, eq_comm, hk q hq]
    refine ⟨fun hx => .inr ⟨hx.1, hx.2.symm⟩, fun hx => ?_⟩
    have := hx.resolve_left (by omega)
    exact ⟨this.1, this.2.symm⟩
  · simp
theorem KeysAre.new {p : Int} {hs : List Int} {ks : List Nat} {j : Nat} (h : KeysAre p hs ks j) (hp : p ≠ 2) {k : Nat} (hk : k ∉ ks) : KeysAre p hs (ks ++ [k]) (j + 1) := h.app fun r hr => by
  refine ⟨fun e => absurd ?_ hk, fun e => absurd e.1 hp⟩
  have hrl : r < ks.length := by rw [h.1]; exact hr
  have : ks.getD r 0 = ks[r] := by simp [List.getD, hrl]
  rw [← e, this]
  exact List.getElem_mem _
theorem key_turned {B k n c' : Nat} {wr v w5 : World} {A A' : Option Addr} {xs : List Value} (hb : Below wr.heap.size wr v) (happ : App B 86 1 (v.alloc (.cells #[.chan (some k)] 86)) A A' n c' xs w5) : Turned (fp A) wr w5 :=
  ((Turned.of_below hb (fp A)).alloc (.cells #[.chan (some k)] 86)).trans happ.turned fun i hi => .inl hi
theorem KRow.step {B B0 n c c' k : Nat} {wr v w5 : World} {A A' : Option Addr} {ks : List Nat} (row : KRow B B0 wr A n c ks) (hb : Below wr.heap.size wr v) (hk : KeyOk v k true) (hB : B0 ≤ k) (hkA : k ∉ fp A) (happ : App B 86 1 (v.alloc (.cells #[.chan (some k)] 86)) A A' (n + 1) c' (keyV ks ++ [.chan (some k)]) w5) : KRow B B0 w5 A' (n + 1) c' (ks ++ [k]) := by
  have h1 := (row.over hb).over ((Below.refl v.heap.size v).alloc (Nat.le_refl _) (.cells #[.chan (some k)] 86))
  exact h1.app happ (hk.turned ((Turned.refl [] v).alloc _) (by simp)) hB hkA
def boxS (s : SetR) : Array Value := #[.int .i64 s.proto, .slice s.ca s.cores.length s.cc, .slice s.ha s.homes.length s.hc, .slice s.ta s.tasks.length s.tc]
set_option maxHeartbeats 4000000 in
set_option maxRecDepth 100000 in
theorem keys_any {w : World} (s : SetR) (hs : SetOk w s) (hc3 : s.cores.length ≤ 3) (hh4 : s.homes.length ≤ 4) (hho : ∀ h ∈ s.homes, 0 ≤ h ∧ h < (s.cores.length : Int)) : Calls Tryz.prog 29 #[.agg #[.int .i64 s.proto, .slice s.ca s.cores.length s.cc, .slice s.ha s.homes.length s.hc, .slice s.ta s.tasks.length s.tc]] w fun e w' => KeysP w s e w' := by
  have HHO := hidp hho
  have hb0 := (Below.refl w.heap.size w).alloc (Nat.le_refl _) (.cells #[.int .i64 s.proto, .slice s.ca s.cores.length s.cc, .slice s.ha s.homes.length s.hc, .slice s.ta s.tasks.length s.tc] 25)
  have HB0 := hidp hb0
  have HBK := hidp (Bk.new w 25 #[.int .i64 s.proto, .slice s.ca s.cores.length s.cc, .slice s.ha s.homes.length s.hc, .slice s.ta s.tasks.length s.tc])
  have HS := hidp hs
  have hz : (w.alloc (.cells #[.int .i64 s.proto, .slice s.ca s.cores.length s.cc, .slice s.ha s.homes.length s.hc, .slice s.ta s.tasks.length s.tc] 25)).heap.size = w.heap.size + 1 := by simp
  have HZ := hidp hz
  obtain ⟨i0, hi0, hz0, hz1, hz2⟩ := info_parts infoKeyT
  clear hs hho hb0 hz
  obtain ⟨B, HB⟩ : ∃ B, Hid (B = w.heap.size + 1) := ⟨_, hidp rfl⟩
  have HKe : Hid (∀ (ks : List Nat) (B2 : Nat) (h2 : w.heap.size ≤ B2) (h : KeysAre s.proto s.homes ks s.homes.length) (A : Option Addr) (n c : Nat) (v : World), KRow B2 B v A n c ks → Below w.heap.size w v → KeysP w s (.returned (.slice A n c)) v) := hidp fun ks B2 h2 h A n c v hr hbv => ⟨A, n, c, ks, rfl, ⟨own_base hr.own (fun k hk => by have := (own_fp hr.own k (by cases A <;> simp [Value.ownBlock, fp] at hk ⊢; exact hk.symm)).1; omega), hr.len, hr.cap, hr.nil, fun k hk => ⟨(hr.keys k hk).1, by have := (hr.keys k hk).2.1; have := HB.out; omega, (hr.keys k hk).2.2⟩⟩, h, hbv⟩
  obtain ⟨proto, ca, cc, cores, ha, hcc, homes, ta, tc, tasks⟩ := s
  dsimp only at *
  go_enter Tryz.func29, Tryz.ntmps29
  go_wp2
  go_loopg [3, 10] cores.length (fun g a i wr => ∃ (k : Nat) (A : Option Addr) (c : Nat) (ks : List Nat), k + g = cores.length ∧ i = .int .i64 k ∧ a = .slice A k c ∧ Hid (KRow B B wr A k c ks) ∧ Hid ks.Nodup ∧ Hid (Bk wr w.heap.size 25 #[.int .i64 proto, .slice ca cores.length cc, .slice ha homes.length hcc, .slice ta tasks.length tc]) ∧ Below w.heap.size w wr)
  case atStart => exact ⟨0, none, 0, [], by omega, rfl, rfl, hidp (KRow.empty _ _ _), hidp List.nodup_nil, HBK, HB0.out⟩
  case round =>
    obtain ⟨k, A, c, ks, hk, rfl, rfl, R, N, BK, hbw⟩ := hrel
    by_cases hlt : k < cores.length
    · have K1 : ∀ kk, Hid (∀ u ∈ [Value.chan (some kk)], u.oneCell' = true) := fun kk => hidp (by simp; rfl)
      have K5 : Hid (k + 1 ≤ maxLen) := hidp (by unfold maxLen; omega)
      have K6 : Hid ((k + 1) * 8 ≤ 140737488355328) := hidp (by omega)
      have HBW := hidp hbw
      have H5 := BK.out.lt
      have hlw : Hid (B ≤ wr.heap.size) := hidp (by have := HB.out; omega)
      clear hbw H5
      go_wp2_with fail
      refine (newKey_any wr).mono ?_
      rintro e v ⟨rfl, hkv, hbv, hszv⟩
      have HKV := hidp hkv
      have HBV := hidp hbv
      have hown2 := (R.out.over hbv).own.alloc (.cells #[.chan (some wr.heap.size)] 86)
      have L1 := hidp (Lies.new1 v (.chan (some wr.heap.size)) 86)
      have Hsz : Hid (B ≤ (v.alloc (.cells #[.chan (some wr.heap.size)] 86)).heap.size) := hidp (by have := hlw.out; have := hbv.size; simp; omega)
      clear hkv hbv hszv
      go_wp2_with (at_builtin; refine wpList_app2 _ rfl (.tmp 12) (.tmp 14) 61 rfl B 86 i0 (.chan none) 1 8 Tryz.underlying61 hi0 hz0 hz1 hz2 rfl (by decide) A k c _ rfl hown2 _ _ 1 1 [.chan (some wr.heap.size)] rfl (by simp) rfl L1.out (K1 _).out K5.out K6.out Hsz.out ?_; intro A' c' w5 happ)
      have hltk : ∀ j ∈ fp A, B ≤ j ∧ j < wr.heap.size := fun j hj => own_fp R.out.own j hj
      have htt := key_turned HBV.out happ
      have hnA : w.heap.size ∉ fp A := fun hm => by have := hltk _ hm; have := HB.out; omega
      have q1 := hidp (R.out.step HBV.out HKV.out hlw.out (fun hm => by have := hltk _ hm; omega) happ)
      have q2 : Hid (ks ++ [wr.heap.size]).Nodup := hidp (by
        rw [List.nodup_append]
        refine ⟨N.out, by simp, fun x hx y hy e => ?_⟩
        simp at hy
        have := (R.out.keys x hx).1.lt
        omega)
      have q3 := hidp (BK.out.turned htt hnA)
      have q4 := HBW.out.trans (htt.below HBW.out.size (fun i hi => by have := hltk i hi; have := HB.out; omega))
      clear hltk htt hnA happ hown2 HBV HKV
      go_roundg (gk - 1)
      case measure => omega
      case rel => exact ⟨k + 1, A', c', ks ++ [wr.heap.size], by omega, by go_num, rfl, q1, q2, q3, q4⟩
    · obtain rfl : k = cores.length := by omega
      have RA := R
      have c2 : wr.cell? ⟨w.heap.size, 2, none⟩ = some (.slice ha homes.length hcc) := by simpa using BK.out.cell 2
      have HR := hidp HS.out.homes.at_
      obtain ⟨B2, HB2⟩ : ∃ B2, Hid (B2 = wr.heap.size) := ⟨_, hidp rfl⟩
      have hB2 : Hid (B ≤ B2) := hidp (by have := BK.out.lt; have := HB.out; have := HB2.out; omega)
      have HBW0 := hidp hbw
      clear hbw
      go_wp2
      by_cases hp : proto = 2
      · have HP := hidp hp
        go_loopg [4, 20] homes.length (fun g a i wr => ∃ (j : Nat) (A2 : Option Addr) (c2 : Nat) (kt : List Nat), j + g = homes.length ∧ i = .int .i64 j ∧ a = .slice A2 j c2 ∧ Hid (KRow B2 B wr A2 j c2 kt) ∧ Hid (kt.length = j ∧ ∀ r, r < j → kt.getD r 0 = ks.getD (homes.getD r 0).toNat 0) ∧ Hid (Bk wr w.heap.size 25 #[.int .i64 proto, .slice ca cores.length cc, .slice ha homes.length hcc, .slice ta tasks.length tc]) ∧ Hid (KRow B B wr A cores.length c ks) ∧ Hid (B2 ≤ wr.heap.size) ∧ Below w.heap.size w wr)
        case atStart => exact ⟨0, none, 0, [], by omega, rfl, rfl, hidp (KRow.empty _ _ _), hidp ⟨rfl, fun r hr => absurd hr (by omega)⟩, BK, RA, hidp (by have := HB2.out; omega), HBW0.out⟩
        case round =>
          obtain ⟨j, A2, c2', kt, hj, rfl, rfl, R2, KT, BK2, RA2, hB2u, hbu⟩ := hrel
          by_cases hlj : j < homes.length
          · obtain ⟨g', off, hA, hcl⟩ := HR.out.resolve_left (by intro e; rw [e] at hlj; simp at hlj)
            subst hA
            have hin := HHO.out (homes.getD j 0) (by simp [List.getD, hlj])
            obtain ⟨x, HX⟩ : ∃ x : Nat, Hid (homes.getD j 0 = (x : Int)) := ⟨(homes.getD j 0).toNat, hidp (by omega)⟩
            have hx : x < cores.length := by have := HX.out; omega
            have ch := Keeps.of_below hbu _ _ (HX.out ▸ hcl j hlj)
            obtain ⟨gA, hgA, hcA⟩ := RA2.out.at_ (i := x) (by have := RA2.out.len; omega)
            subst hgA
            obtain ⟨kx, HK⟩ : ∃ kx, Hid (ks.getD x 0 = kx) := ⟨_, hidp rfl⟩
            rw [HK.out] at hcA
            have hkx : Hid (KeyOk wr kx true ∧ B ≤ kx) := hidp (by
              have hm : kx ∈ ks := by rw [← HK.out]; have := RA2.out.len; simp [List.getD, show x < ks.length by omega]
              exact ⟨(RA2.out.keys kx hm).1, (RA2.out.keys kx hm).2.1⟩)
            have hkl := hkx.out.1.lt
            have hkB : Hid (kx < B2) := hidp (by
              have hm : kx ∈ ks := by rw [← HK.out]; have := RA2.out.len; simp [List.getD, show x < ks.length by omega]
              have := (RA.out.keys kx hm).1.lt
              have := HB2.out
              omega)
            have d3 : decide (homes.length ≤ j) = false := decide_eq_false (by omega)
            have d4 : decide (cores.length ≤ x) = false := decide_eq_false (by omega)
            have c0 : wr.cell? ⟨w.heap.size, 0, none⟩ = some (.int .i64 2) := by have := BK2.out.cell 0; rw [HP.out] at this; simpa using this
            have K1 : Hid (∀ uu ∈ [Value.chan (some kx)], uu.oneCell' = true) := hidp (by simp; rfl)
            have K5 : Hid (j + 1 ≤ maxLen) := hidp (by unfold maxLen; omega)
            have K6 : Hid ((j + 1) * 8 ≤ 140737488355328) := hidp (by omega)
            have HBU := hidp hbu
            have hown2 := R2.out.own.alloc (.cells #[.chan (some kx)] 86)
            have L1 := hidp (Lies.new1 wr (.chan (some kx)) 86)
            have Hsz : Hid (B2 ≤ (wr.alloc (.cells #[.chan (some kx)] 86)).heap.size) := hidp (by have := hB2u.out; simp; omega)
            clear hin hcl hbu hp
            go_wp2_with (at_builtin; refine wpList_app2 _ rfl (.tmp 27) (.tmp 32) 61 rfl B2 86 i0 (.chan none) 1 8 Tryz.underlying61 hi0 hz0 hz1 hz2 rfl (by decide) A2 j c2' _ rfl hown2 _ _ 1 1 [.chan (some kx)] rfl (by simp) rfl L1.out K1.out K5.out K6.out Hsz.out ?_; intro A' c' w5 happ)
            have hltk : ∀ i ∈ fp A2, B2 ≤ i ∧ i < wr.heap.size := fun i hi => own_fp R2.out.own i hi
            have htt := key_turned (Below.refl _ _) happ
            have hlo := own_fp RA.out.own
            have q1 := hidp (R2.out.step (Below.refl _ _) hkx.out.1 hkx.out.2 (fun hm => by have := hltk _ hm; have := hkB.out; omega) happ)
            have q2 : Hid ((kt ++ [kx]).length = j + 1 ∧ ∀ r, r < j + 1 → (kt ++ [kx]).getD r 0 = ks.getD (homes.getD r 0).toNat 0) := hidp (by
              obtain ⟨t1, t2⟩ := KT.out
              refine ⟨by simp [t1], fun r hr => ?_⟩
              rcases Nat.lt_succ_iff_lt_or_eq.1 hr with h1 | rfl
              · rw [← t2 r h1]; simp [List.getD, List.getElem?_append_left (show r < kt.length by omega)]
              · rw [HX.out, Int.toNat_natCast, HK.out]; simp [List.getD, ← t1])
            have q3 := hidp (BK2.out.turned htt (fun hm => by have := hltk _ hm; have := hB2.out; have := HB.out; omega))
            have q5 := hidp (RA2.out.turned htt (fun i hi hm => by have := hltk _ hm; have := hlo i hi; have := HB2.out; omega) (fun i hi hm => by have := hltk _ hm; have := (RA.out.keys i hi).1.lt; have := HB2.out; omega))
            have q4 := HBU.out.trans (htt.below HBU.out.size (fun i hi => by have := hltk i hi; have := hB2.out; have := HB.out; omega))
            have q6 : Hid (B2 ≤ w5.heap.size) := hidp (by have := hB2u.out; have := htt.size; omega)
            clear hltk htt hlo happ hown2
            go_roundg (gk - 1)
            case measure => omega
            case rel => exact ⟨j + 1, A', c', kt ++ [kx], by omega, by go_num, rfl, q1, q2, q3, q5, q6, q4⟩
          · obtain rfl : j = homes.length := by omega
            go_wp2
            go_ret
            refine HKe.out kt B2 (by have := hB2.out; have := HB.out; omega) ⟨KT.out.1, fun r q hr hq => ?_⟩ A2 _ c2' _ R2.out hbu
            rw [KT.out.2 r hr, KT.out.2 q hq]
            have h1 := HHO.out (homes.getD r 0) (by simp [List.getD, hr])
            have h2 := HHO.out (homes.getD q 0) (by simp [List.getD, hq])
            have hl := RA.out.len
            rw [nodup_getD N.out (by omega) (by omega)]
            constructor
            · exact fun e => .inr ⟨HP.out, by omega⟩
            · rintro (rfl | ⟨_, e⟩)
              · rfl
              · rw [e]
      · have HP := hidp hp
        go_loopg [4, 20] homes.length (fun g a i wr => ∃ (j : Nat) (A2 : Option Addr) (c2 : Nat) (kt : List Nat), j + g = homes.length ∧ i = .int .i64 j ∧ a = .slice A2 j c2 ∧ Hid (KRow B2 B wr A2 j c2 kt) ∧ Hid (KeysAre proto homes kt j) ∧ Hid (Bk wr w.heap.size 25 #[.int .i64 proto, .slice ca cores.length cc, .slice ha homes.length hcc, .slice ta tasks.length tc]) ∧ Hid (B2 ≤ wr.heap.size) ∧ Below w.heap.size w wr)
        case atStart => exact ⟨0, none, 0, [], by omega, rfl, rfl, hidp (KRow.empty _ _ _), hidp ⟨rfl, fun r q hr => absurd hr (by omega)⟩, BK, hidp (by have := HB2.out; omega), HBW0.out⟩
        case round =>
          obtain ⟨j, A2, c2', kt, hj, rfl, rfl, R2, KT, BK2, hB2u, hbu⟩ := hrel
          by_cases hlj : j < homes.length
          · obtain ⟨g', off, hA, hcl⟩ := HR.out.resolve_left (by intro e; rw [e] at hlj; simp at hlj)
            subst hA
            obtain ⟨x, HX⟩ : ∃ x, Hid (homes.getD j 0 = x) := ⟨_, hidp rfl⟩
            have ch := Keeps.of_below hbu _ _ (HX.out ▸ hcl j hlj)
            have d3 : decide (homes.length ≤ j) = false := decide_eq_false (by omega)
            have c0 : wr.cell? ⟨w.heap.size, 0, none⟩ = some (.int .i64 proto) := by simpa using BK2.out.cell 0
            have hpd : decide (proto = 2) = false := decide_eq_false hp
            have K1 : ∀ kk, Hid (∀ uu ∈ [Value.chan (some kk)], uu.oneCell' = true) := fun kk => hidp (by simp; rfl)
            have K5 : Hid (j + 1 ≤ maxLen) := hidp (by unfold maxLen; omega)
            have K6 : Hid ((j + 1) * 8 ≤ 140737488355328) := hidp (by omega)
            have HBU := hidp hbu
            clear hcl hbu
            go_wp2_with fail
            refine (newKey_any wr).mono ?_
            rintro e v ⟨rfl, hkv, hbv, hszv⟩
            have HKV := hidp hkv
            have HBV := hidp hbv
            have hown2 := (R2.out.over hbv).own.alloc (.cells #[.chan (some wr.heap.size)] 86)
            have L1 := hidp (Lies.new1 v (.chan (some wr.heap.size)) 86)
            have Hsz : Hid (B2 ≤ (v.alloc (.cells #[.chan (some wr.heap.size)] 86)).heap.size) := hidp (by have := hB2u.out; have := hbv.size; simp; omega)
            clear hkv hbv hszv
            go_wp2_with (at_builtin; refine wpList_app2 _ rfl (.tmp 34) (.tmp 36) 61 rfl B2 86 i0 (.chan none) 1 8 Tryz.underlying61 hi0 hz0 hz1 hz2 rfl (by decide) A2 j c2' _ rfl hown2 _ _ 1 1 [.chan (some wr.heap.size)] rfl (by simp) rfl L1.out (K1 _).out K5.out K6.out Hsz.out ?_; intro A' c' w5 happ)
            have hltk : ∀ i ∈ fp A2, B2 ≤ i ∧ i < wr.heap.size := fun i hi => own_fp R2.out.own i hi
            have htt := key_turned HBV.out happ
            have q1 := hidp (R2.out.step HBV.out HKV.out (by have := hB2.out; have := hB2u.out; omega) (fun hm => by have := hltk _ hm; omega) happ)
            have q2 := hidp (KT.out.new HP.out (k := wr.heap.size) (fun hm => by have := (R2.out.keys _ hm).1.lt; omega))
            have q3 := hidp (BK2.out.turned htt (fun hm => by have := hltk _ hm; have := hB2.out; have := HB.out; omega))
            have q4 := HBU.out.trans (htt.below HBU.out.size (fun i hi => by have := hltk i hi; have := hB2.out; have := HB.out; omega))
            have q6 : Hid (B2 ≤ w5.heap.size) := hidp (by have := hB2u.out; have := htt.size; omega)
            clear hltk htt happ hown2 HBV HKV
            go_roundg (gk - 1)
            case measure => omega
            case rel => exact ⟨j + 1, A', c', kt ++ [wr.heap.size], by omega, by go_num, rfl, q1, q2, q3, q6, q4⟩
          · obtain rfl : j = homes.length := by omega
            go_wp2
            go_ret
            exact HKe.out kt B2 (by have := hB2.out; have := HB.out; omega) KT.out A2 _ c2' _ R2.out hbu
end Go.Proofs.YtlmdiechnidghaaGreat

namespace Go.Proofs.YtlmdiechnidghaaGreat
open Go.ChangeShapes Go.WideShapes Go.ChangeAt Go.RowKit Go.Conc
set_option linter.unusedVariables false
set_option linter.unusedSimpArgs false
def LkM.addA (m : LkM) (x : AskM) (A : Option Addr) (c : Nat) : LkM := { m with ask := m.ask ++ [x], Aa := A, ca := c, lab := fun k => if k ∈ fp A then 1 else m.lab k }
def LkM.addD (m : LkM) (d : DrM) (F : List Nat) (A : Option Addr) (c : Nat) : LkM := { m with ds := m.ds ++ [d], Ad := A, cd := c, Fd := fun j => if j = m.ds.length then F else m.Fd j, lab := fun k => if k ∈ F then 6 + m.ds.length else if k ∈ fp A then 4 else m.lab k }
def lab0 (b : Nat) (Ak : Option Addr) (k : Nat) : Nat := if k = b then 0 else if k ∈ fp Ak then 2 else 3
def LkM.new (p : Int) (ks : List Nat) (Ak : Option Addr) (ck b : Nat) : LkM := ⟨p, [], ks, fun _ => true, [], 6, 0, [], 0, none, 0, Ak, ck, none, 0, none, 0, fun _ => [], lab0 b Ak⟩
section
variable {w w' w5 : World} {b o : Nat} {T : TypeId} {cs : Array Value} {m : LkM}
theorem Lk.first {p : Int} {B B0 : Nat} {Ak : Option Addr} {nk ck : Nat} {ks : List Nat} (hb : Bk w b T #[.int .i64 p, .slice none 0 0, .slice Ak nk ck, .slice none 0 0, .int .i64 6, .int .i64 0, .slice none 0 0, .int .i64 0]) (hk : KRow B B0 w Ak nk ck ks) (h1 : b ∉ fp Ak) (h2 : b ∉ ks) :
    Lk w b 0 T #[.int .i64 p, .slice none 0 0, .slice Ak nk ck, .slice none 0 0, .int .i64 6, .int .i64 0, .slice none 0 0, .int .i64 0] (LkM.new p ks Ak ck b) := by
  have hl := hk.len
  subst hl
  refine ⟨hb, rfl, rfl, rfl, rfl, rfl, ⟨hb, rfl, rfl, rfl, ?_, by simp [LkM.new, fp]⟩, OwnK.empty _ _, own_base hk.own (fun k _ => Nat.zero_le _), fun c hc => (hk.keys c hc).1, World.ownsRow_nil _ _ _ _, fun i hi => absurd hi (by simp [LkM.new]), by simp [LkM.new], ?_, by simp [LkM.new, fp], fun k hm => ?_, fun k hm => ?_, by simp [LkM.new, fp], by simp [LkM.new, fp], fun i hi => absurd hi (by simp [LkM.new])⟩
  · exact ⟨World.ownsRow_nil _ _ _ _, rfl, ⟨Nat.le_refl _, Nat.zero_le _⟩, fun _ => ⟨rfl, rfl⟩⟩
  · show lab0 b Ak b = 0
    simp [lab0]
  · show lab0 b Ak k = 2
    have hm : k ∈ fp Ak := hm
    unfold lab0
    rw [if_neg (fun e : k = b => h1 (by rw [← e]; exact hm)), if_pos hm]
  · show lab0 b Ak k = 3
    have hm : k ∈ ks := hm
    unfold lab0
    rw [if_neg (fun e : k = b => h2 (by rw [← e]; exact hm)), if_neg (hk.keys k hm).2.2]
theorem Lk.addA (h : Lk w b o T cs m) {x : AskM} {A' : Option Addr} {c' : Nat} (ha : App 0 72 6 w m.Aa A' (m.ask.length + 1) c' (akc m.ask ++ akc [x]) w5) (hw : x.wf) :
    Lk (w5.setCell ⟨b, o + 1, none⟩ (.slice A' (m.ask.length + 1) c')) b o T (cs.setIfInBounds (o + 1) (.slice A' (m.ask.length + 1) c')) (m.addA x A' c') := by
  have hn : ∀ k, m.lab k ≠ 1 → k < w.heap.size → k ∉ fp A' := fun k h1 h2 hm => by
    rcases ha.fps k hm with h3 | h3
    · exact h1 (h.la k h3)
    · omega
  have hnA : ∀ k, m.lab k ≠ 1 → k ∉ fp m.Aa := fun k h1 h3 => h1 (h.la k h3)
  have hbl := h.blk.lt
  have hb0 := h.lb
  have ht : Turned (b :: fp m.Aa) w (w5.setCell ⟨b, o + 1, none⟩ (.slice A' (m.ask.length + 1) c')) := (ha.turned.mono (fun k hk => .inl (List.mem_cons_of_mem _ hk))).setCell (.inl (by simp)) _
  have hsz : o + 7 < cs.size := h.size
  have hA2 : ∀ k ∈ fp A', k ≠ b := fun k hk e => hn b (by omega) hbl (e ▸ hk)
  have own5 : OwnK 0 w5 A' (m.ask.length + 1) c' (m.ask ++ [x]) := ⟨by rw [akc_append]; exact ha.own, by simp, ha.cap, ha.nil⟩
  have tb : Turned [b] w5 (w5.setCell ⟨b, o + 1, none⟩ (.slice A' (m.ask.length + 1) c')) := (Turned.refl [b] w5).setCell (.inl (by simp)) _
  have lab : ∀ k, k ∉ fp A' → (m.addA x A' c').lab k = m.lab k := fun k hk => by show (if k ∈ fp A' then 1 else m.lab k) = _; rw [if_neg hk]
  have nb : ∀ k n, m.lab k = n → n ≠ 0 → n ≠ 1 → k ∉ b :: fp m.Aa := fun k n h1 h2 h3 hm => by
    rcases List.mem_cons.1 hm with rfl | hm
    · omega
    · have := h.la k hm; omega
  have kl : ∀ k ∈ fpm m, k < w.heap.size := h.lt
  have B1 : Bk (w5.setCell ⟨b, o + 1, none⟩ (.slice A' (m.ask.length + 1) c')) b T (cs.setIfInBounds (o + 1) (.slice A' (m.ask.length + 1) c')) := (h.blk.turned ha.turned (hnA b (by omega))).put _ _
  refine ⟨B1, ?_, ?_, ?_, ?_, ?_, ?_, ?_, ?_, ?_, ?_, ?_, ?_, ?_, ?_, ?_, ?_, ?_, ?_, ?_⟩
  · rw [Array.getElem?_setIfInBounds, if_neg (by omega)]; exact h.c0
  · rw [Array.getElem?_setIfInBounds, if_pos rfl, if_pos (by omega)]
    show _ = some (Value.slice A' (m.ask ++ [x]).length c')
    simp
  · rw [Array.getElem?_setIfInBounds, if_neg (by omega)]; exact h.c2
  · rw [Array.getElem?_setIfInBounds, if_neg (by omega)]; exact h.c3
  · rw [Array.getElem?_setIfInBounds, if_neg (by omega)]; exact h.c7
  · refine ⟨B1, ?_, ?_, ?_, h.row.own.turned ht (fun k hk => nb k 5 (h.lr k hk) (by omega) (by omega)), h.row.ne⟩
    · rw [Array.getElem?_setIfInBounds, if_neg (by omega)]; exact h.row.room
    · rw [Array.getElem?_setIfInBounds, if_neg (by omega)]; exact h.row.puts
    · rw [Array.getElem?_setIfInBounds, if_neg (by omega)]; exact h.row.hdr
  · show OwnK 0 _ A' (m.ask ++ [x]).length c' (m.ask ++ [x])
    rw [List.length_append, List.length_singleton]
    exact own5.turned tb (fun k hk hm => hA2 k hk (by simpa using hm))
  · exact own_turned h.keys ht (fun k hk => nb k 2 (h.lk k hk) (by omega) (by omega))
  · exact fun c hc => (h.chans c hc).turned ht (nb c 3 (h.lc c hc) (by omega) (by omega))
  · exact own_turned h.doors ht (fun k hk => nb k 4 (h.ld k hk) (by omega) (by omega))
  · exact fun i hi => (h.drs i hi).turned ht (fun k hk => nb k (6 + i) (h.lf i hi k hk) (by omega) (by omega))
  · intro a ha2
    have : a ∈ m.ask ++ [x] := ha2
    rcases List.mem_append.1 this with h1 | h1
    · exact h.wf a h1
    · simp at h1; subst h1; exact hw
  · rw [lab b (hn b (by omega) hbl)]; exact h.lb
  · intro k hk
    show (if k ∈ fp A' then 1 else m.lab k) = 1
    rw [if_pos (show k ∈ fp A' from hk)]
  · intro k hk
    have hk : k ∈ fp m.Ak := hk
    rw [lab k (hn k (by have := h.lk k hk; omega) (kl k (mem_fpm.2 (.inr (.inl hk)))))]; exact h.lk k hk
  · intro k hk
    have hk : k ∈ m.ks := hk
    rw [lab k (hn k (by have := h.lc k hk; omega) (kl k (mem_fpm.2 (.inr (.inr (.inl hk))))))]; exact h.lc k hk
  · intro k hk
    have hk : k ∈ fp m.Ad := hk
    rw [lab k (hn k (by have := h.ld k hk; omega) (kl k (mem_fpm.2 (.inr (.inr (.inr (.inl hk)))))))]; exact h.ld k hk
  · intro k hk
    have hk : k ∈ fp m.Ar := hk
    rw [lab k (hn k (by have := h.lr k hk; omega) (kl k (mem_fpm.2 (.inr (.inr (.inr (.inr (.inl hk))))))))]; exact h.lr k hk
  · intro i hi k hk
    have hi : i < m.ds.length := hi
    have hk : k ∈ m.Fd i := hk
    rw [lab k (hn k (by have := h.lf i hi k hk; omega) (kl k (mem_fpm.2 (.inr (.inr (.inr (.inr (.inr ⟨i, hi, hk⟩))))))))]; exact h.lf i hi k hk
theorem Lk.addD (h : Lk w b o T cs m) {d : DrM} {F : List Nat} (hd : DrOk w d F) (hF : ∀ k ∈ F, k ≠ b ∧ k ∉ fpm m) {A' : Option Addr} {c' : Nat} (ha : App 0 76 3 w m.Ad A' (m.ds.length + 1) c' (drc m.ds ++ drc [d]) w5) :
    Lk (w5.setCell ⟨b, o + 3, none⟩ (.slice A' (m.ds.length + 1) c')) b o T (cs.setIfInBounds (o + 3) (.slice A' (m.ds.length + 1) c')) (m.addD d F A' c') := by
  have hFl := hd.lt
  have hn : ∀ k, m.lab k ≠ 4 → k < w.heap.size → k ∉ fp A' := fun k h1 h2 hm => by
    rcases ha.fps k hm with h3 | h3
    · exact h1 (h.ld k h3)
    · omega
  have hnA : ∀ k, m.lab k ≠ 4 → k ∉ fp m.Ad := fun k h1 h3 => h1 (h.ld k h3)
  have hbl := h.blk.lt
  have hb0 := h.lb
  have ht : Turned (b :: fp m.Ad) w (w5.setCell ⟨b, o + 3, none⟩ (.slice A' (m.ds.length + 1) c')) := (ha.turned.mono (fun k hk => .inl (List.mem_cons_of_mem _ hk))).setCell (.inl (by simp)) _
  have hsz : o + 7 < cs.size := h.size
  have hA2 : ∀ k ∈ fp A', k ≠ b := fun k hk e => hn b (by omega) hbl (e ▸ hk)
  have hFA : ∀ k ∈ F, k ∉ fp A' := fun k hk hm => by
    rcases ha.fps k hm with h3 | h3
    · exact (hF k hk).2 (mem_fpm.2 (.inr (.inr (.inr (.inl h3)))))
    · have := hFl k hk; omega
  have tb : Turned [b] w5 (w5.setCell ⟨b, o + 3, none⟩ (.slice A' (m.ds.length + 1) c')) := (Turned.refl [b] w5).setCell (.inl (by simp)) _
  have lab : ∀ k, k < w.heap.size → m.lab k ≠ 4 → k ∉ F → (m.addD d F A' c').lab k = m.lab k := fun k h1 h2 h3 => by
    show (if k ∈ F then 6 + m.ds.length else if k ∈ fp A' then 4 else m.lab k) = _
    rw [if_neg h3, if_neg (hn k h2 h1)]
  have nb : ∀ k n, m.lab k = n → n ≠ 0 → n ≠ 4 → k ∉ b :: fp m.Ad := fun k n h1 h2 h3 hm => by
    rcases List.mem_cons.1 hm with rfl | hm
    · omega
    · have := h.ld k hm; omega
  have kl : ∀ k ∈ fpm m, k < w.heap.size := h.lt
  have nF : ∀ k ∈ fpm m, k ∉ F := fun k hk hm => (hF k hm).2 hk
  have B1 : Bk (w5.setCell ⟨b, o + 3, none⟩ (.slice A' (m.ds.length + 1) c')) b T (cs.setIfInBounds (o + 3) (.slice A' (m.ds.length + 1) c')) := (h.blk.turned ha.turned (hnA b (by omega))).put _ _
  have eFd : ∀ i, i < m.ds.length → (m.addD d F A' c').Fd i = m.Fd i := fun i hi => by
    show (if i = m.ds.length then F else m.Fd i) = _
    rw [if_neg (by omega)]
  have eFn : (m.addD d F A' c').Fd m.ds.length = F := by
    show (if m.ds.length = m.ds.length then F else m.Fd m.ds.length) = _
    rw [if_pos rfl]
  refine ⟨B1, ?_, ?_, ?_, ?_, ?_, ?_, ?_, ?_, ?_, ?_, ?_, ?_, ?_, ?_, ?_, ?_, ?_, ?_, ?_⟩
  · rw [Array.getElem?_setIfInBounds, if_neg (by omega)]; exact h.c0
  · rw [Array.getElem?_setIfInBounds, if_neg (by omega)]; exact h.c1
  · rw [Array.getElem?_setIfInBounds, if_neg (by omega)]; exact h.c2
  · rw [Array.getElem?_setIfInBounds, if_pos rfl, if_pos (by omega)]
    show _ = some (Value.slice A' (m.ds ++ [d]).length c')
    simp
  · rw [Array.getElem?_setIfInBounds, if_neg (by omega)]; exact h.c7
  · refine ⟨B1, ?_, ?_, ?_, h.row.own.turned ht (fun k hk => nb k 5 (h.lr k hk) (by omega) (by omega)), h.row.ne⟩
    · rw [Array.getElem?_setIfInBounds, if_neg (by omega)]; exact h.row.room
    · rw [Array.getElem?_setIfInBounds, if_neg (by omega)]; exact h.row.puts
    · rw [Array.getElem?_setIfInBounds, if_neg (by omega)]; exact h.row.hdr
  · exact h.askers.turned ht (fun k hk => nb k 1 (h.la k hk) (by omega) (by omega))
  · exact own_turned h.keys ht (fun k hk => nb k 2 (h.lk k hk) (by omega) (by omega))
  · exact fun c hc => (h.chans c hc).turned ht (nb c 3 (h.lc c hc) (by omega) (by omega))
  · show World.ownsRow _ 0 _ 3 (.slice A' (m.ds ++ [d]).length c') (m.ds ++ [d]).length (drc (m.ds ++ [d]))
    rw [List.length_append, List.length_singleton, drc_append]
    exact own_turned ha.own tb (fun k hk hm => hA2 k hk (by simpa using hm))
  · intro i hi
    have hi : i < (m.ds ++ [d]).length := hi
    rw [List.length_append, List.length_singleton] at hi
    show DrOk _ ((m.ds ++ [d]).getD i default) _
    rcases Nat.lt_succ_iff_lt_or_eq.1 hi with h1 | rfl
    · rw [eFd i h1]
      have e : (m.ds ++ [d]).getD i default = m.ds.getD i default := by simp [List.getD, List.getElem?_append_left h1]
      rw [e]
      exact (h.drs i h1).turned ht (fun k hk => nb k (6 + i) (h.lf i h1 k hk) (by omega) (by omega))
    · rw [eFn]
      have e : (m.ds ++ [d]).getD m.ds.length default = d := by simp [List.getD]
      rw [e]
      refine hd.turned ht (fun k hk hm => ?_)
      rcases List.mem_cons.1 hm with rfl | hm
      · exact (hF k hk).1 rfl
      · exact (hF k hk).2 (mem_fpm.2 (.inr (.inr (.inr (.inl hm)))))
  · exact h.wf
  · rw [lab b hbl (by omega) (fun hm => (hF b hm).1 rfl)]; exact h.lb
  · intro k hk
    have hk : k ∈ fp m.Aa := hk
    have hm := mem_fpm.2 (.inl hk)
    rw [lab k (kl k hm) (by have := h.la k hk; omega) (nF k hm)]; exact h.la k hk
  · intro k hk
    have hk : k ∈ fp m.Ak := hk
    have hm := mem_fpm.2 (.inr (.inl hk))
    rw [lab k (kl k hm) (by have := h.lk k hk; omega) (nF k hm)]; exact h.lk k hk
  · intro k hk
    have hk : k ∈ m.ks := hk
    have hm := mem_fpm.2 (.inr (.inr (.inl hk)))
    rw [lab k (kl k hm) (by have := h.lc k hk; omega) (nF k hm)]; exact h.lc k hk
  · intro k hk
    have hk : k ∈ fp A' := hk
    show (if k ∈ F then 6 + m.ds.length else if k ∈ fp A' then 4 else m.lab k) = 4
    rw [if_neg (fun hm => hFA k hm hk), if_pos hk]
  · intro k hk
    have hk : k ∈ fp m.Ar := hk
    have hm := mem_fpm.2 (.inr (.inr (.inr (.inr (.inl hk)))))
    rw [lab k (kl k hm) (by have := h.lr k hk; omega) (nF k hm)]; exact h.lr k hk
  · intro i hi k hk
    have hi : i < (m.ds ++ [d]).length := hi
    rw [List.length_append, List.length_singleton] at hi
    rcases Nat.lt_succ_iff_lt_or_eq.1 hi with h1 | rfl
    · rw [eFd i h1] at hk
      have hm := mem_fpm.2 (.inr (.inr (.inr (.inr (.inr ⟨i, h1, hk⟩)))))
      rw [lab k (kl k hm) (by have := h.lf i h1 k hk; omega) (nF k hm)]; exact h.lf i h1 k hk
    · rw [eFn] at hk
      show (if k ∈ F then 6 + m.ds.length else if k ∈ fp A' then 4 else m.lab k) = _
      rw [if_pos hk]
theorem fpm_addA {x : AskM} {A : Option Addr} {c k : Nat} (h : k ∈ fpm (m.addA x A c)) : k ∈ fp A ∨ k ∈ fpm m := by
  rcases mem_fpm.1 h with h1 | h1 | h1 | h1 | h1 | h1
  · exact .inl h1
  · exact .inr (mem_fpm.2 (.inr (.inl h1)))
  · exact .inr (mem_fpm.2 (.inr (.inr (.inl h1))))
  · exact .inr (mem_fpm.2 (.inr (.inr (.inr (.inl h1)))))
  · exact .inr (mem_fpm.2 (.inr (.inr (.inr (.inr (.inl h1))))))
  · exact .inr (mem_fpm.2 (.inr (.inr (.inr (.inr (.inr h1))))))
theorem fpm_addD {d : DrM} {F : List Nat} {A : Option Addr} {c k : Nat} (h : k ∈ fpm (m.addD d F A c)) : k ∈ fp A ∨ k ∈ F ∨ k ∈ fpm m := by
  rcases mem_fpm.1 h with h1 | h1 | h1 | h1 | h1 | ⟨i, hi, h1⟩
  · exact .inr (.inr (mem_fpm.2 (.inl h1)))
  · exact .inr (.inr (mem_fpm.2 (.inr (.inl h1))))
  · exact .inr (.inr (mem_fpm.2 (.inr (.inr (.inl h1)))))
  · exact .inl h1
  · exact .inr (.inr (mem_fpm.2 (.inr (.inr (.inr (.inr (.inl h1)))))))
  · have hi : i < (m.ds ++ [d]).length := hi
    rw [List.length_append, List.length_singleton] at hi
    have h1 : k ∈ if i = m.ds.length then F else m.Fd i := h1
    split at h1
    · exact .inr (.inl h1)
    · exact .inr (.inr (mem_fpm.2 (.inr (.inr (.inr (.inr (.inr ⟨i, by omega, h1⟩)))))))
end
end Go.Proofs.YtlmdiechnidghaaGreat

namespace Go.Proofs.YtlmdiechnidghaaGreat
open Go.ChangeShapes Go.WideShapes Go.ChangeAt Go.RowKit Go.Conc
set_option linter.unusedVariables false
set_option linter.unusedSimpArgs false
def entF (d : DrM) : DrM := enterD d (enterN d)
/-- the doors when those of the first k have let in who may -/
def entDs (ds : List DrM) (k : Nat) : List DrM := (ds.take k).map entF ++ ds.drop k
/-- who was let in at the first k doors -/
def entL (ds : List DrM) (k : Nat) : List Int := (ds.take k).flatMap fun d => d.outs.take (enterN d)
theorem entDs_zero (ds : List DrM) : entDs ds 0 = ds := by simp [entDs]
theorem entDs_len (ds : List DrM) (k : Nat) : (entDs ds k).length = ds.length := by simp [entDs]; omega
theorem entDs_at {ds : List DrM} {k : Nat} (hk : k < ds.length) : (entDs ds k).getD k default = ds.getD k default := by
  unfold entDs
  have hl : ((ds.take k).map entF).length = k := by simp; omega
  simp only [List.getD_eq_getElem?_getD]
  rw [List.getElem?_append_right (by omega), hl, Nat.sub_self, List.getElem?_drop, Nat.add_zero]
theorem entDs_next {ds : List DrM} {k : Nat} (hk : k < ds.length) : (entDs ds k).set k (entF (ds.getD k default)) = entDs ds (k + 1) := by
  unfold entDs
  have hl : ((ds.take k).map entF).length = k := by simp; omega
  have hg : ds.getD k default = ds[k] := by simp [List.getD, hk]
  rw [List.set_append_right _ _ (by omega), hl, Nat.sub_self, List.drop_eq_getElem_cons hk, hg]
  rw [show ds.take (k + 1) = ds.take k ++ [ds[k]] by rw [List.take_append_getElem], List.map_append, List.append_assoc]
  rfl
theorem entL_next {ds : List DrM} {k : Nat} (hk : k < ds.length) : entL ds (k + 1) = entL ds k ++ (ds.getD k default).outs.take (enterN (ds.getD k default)) := by
  have hg : ds.getD k default = ds[k] := by simp [List.getD, hk]
  unfold entL
  rw [show ds.take (k + 1) = ds.take k ++ [ds[k]] by rw [List.take_append_getElem], hg, List.flatMap_append]
  simp only [List.flatMap_cons, List.flatMap_nil, List.append_nil]
/-- a round's state: the locks with other doors, the row of those let in apart from them -/
structure EntW (w : World) (b o : Nat) (T : TypeId) (cs : Array Value) (m : LkM) (k n : Nat) (A : Option Addr) (c : Nat) (wr : World) : Prop where
  own : OwnInts w.heap.size wr A n c (entL m.ds k)
  lk : ∃ (Fd : Nat → List Nat) (lab : Nat → Nat), Lk wr b o T cs { m with ds := entDs m.ds k, Fd := Fd, lab := lab } ∧ FrL w b o 8 T cs (fpm m) wr cs (fpm { m with ds := entDs m.ds k, Fd := Fd, lab := lab }) ∧ ∀ j ∈ fpm { m with ds := entDs m.ds k, Fd := Fd, lab := lab }, j ∉ fp A
section
variable {w : World} {b o : Nat} {T : TypeId} {cs : Array Value} {m : LkM}
theorem EntW.zero (h : Lk w b o T cs m) : EntW w b o T cs m 0 0 none 0 w := by
  have e : ({ m with ds := entDs m.ds 0, Fd := m.Fd, lab := m.lab } : LkM) = m := by rw [entDs_zero]
  refine ⟨⟨World.ownsRow_nil _ _ _ _, by simp [entL], Nat.le_refl _, by decide, fun _ => ⟨rfl, rfl⟩⟩, m.Fd, m.lab, ?_, ?_, by simp [fp]⟩
  · rw [e]; exact h
  · rw [e]; exact FrL.refl _ _ _ _ _ _ _
/-- what a door's letting in makes of it -/
theorem EntW.next {k n : Nat} {A : Option Addr} {c : Nat} {wr u v : World} (h : EntW w b o T cs m k n A c wr) (hk : k < m.ds.length) (hw : w.heap.size ≤ wr.heap.size) (hb : Below wr.heap.size wr u)
    {Fd : Nat → List Nat} {lab : Nat → Nat} (hl : Lk u b o T cs { m with ds := entDs m.ds k, Fd := Fd, lab := lab }) (hfr : FrL w b o 8 T cs (fpm m) u cs (fpm { m with ds := entDs m.ds k, Fd := Fd, lab := lab })) (hap : ∀ j ∈ fpm { m with ds := entDs m.ds k, Fd := Fd, lab := lab }, j ∉ fp A)
    {A2 : Option Addr} {c2 : Nat} {F' : List Nat} (ho : OwnInts u.heap.size v A2 (enterN (m.ds.getD k default)) c2 ((m.ds.getD k default).outs.take (enterN (m.ds.getD k default)))) (hd : DrOk v (entF (m.ds.getD k default)) F') (ht : Turned (Fd k) u v) (hf : ∀ j ∈ F', j ∈ Fd k ∨ u.heap.size ≤ j) :
    OwnInts w.heap.size v A n c (entL m.ds k) ∧ ∃ (Fd' : Nat → List Nat) (lab' : Nat → Nat), Lk v b o T cs { m with ds := entDs m.ds (k + 1), Fd := Fd', lab := lab' } ∧ FrL w b o 8 T cs (fpm m) v cs (fpm { m with ds := entDs m.ds (k + 1), Fd := Fd', lab := lab' }) ∧ ∀ j ∈ fpm { m with ds := entDs m.ds (k + 1), Fd := Fd', lab := lab' }, j ∉ fp A := by
  have hkl : k < ({ m with ds := entDs m.ds k, Fd := Fd, lab := lab } : LkM).ds.length := by show k < (entDs m.ds k).length; rw [entDs_len]; exact hk
  have hA : ∀ j ∈ fp A, j < wr.heap.size := fun j hj => (own_fp h.own.1 j hj).2
  have hFd : ∀ j ∈ Fd k, j ∉ fp A := fun j hj => hap j (mem_fpm.2 (.inr (.inr (.inr (.inr (.inr ⟨k, hkl, hj⟩))))))
  have hx : (({ m with ds := entDs m.ds k, Fd := Fd, lab := lab } : LkM).ds.getD k default).blk = (entF (m.ds.getD k default)).blk := by
    show ((entDs m.ds k).getD k default).blk = _
    rw [entDs_at hk]; rfl
  obtain ⟨cs', L', F2⟩ := hl.toD (d := entF (m.ds.getD k default)) hkl hd hx ht hf
  have L3 := hl.putD (d := entF (m.ds.getD k default)) hkl hd hx ht hf
  have em : ({ m with ds := entDs m.ds k, Fd := Fd, lab := lab } : LkM).putD k (entF (m.ds.getD k default)) F' = { m with ds := entDs m.ds (k + 1), Fd := fun j => if j = k then F' else Fd j, lab := fun j => if j ∈ F' then 6 + k else lab j } := by
    unfold LkM.putD
    rw [← entDs_next hk]
  rw [em] at L3 F2
  have hsu := hb.size
  refine ⟨(h.own.turned (Turned.of_below hb []) (by simp)).turned ht (fun j hj hm => hFd j hm hj), _, _, L3, ?_, fun j hj hm => ?_⟩
  · refine hfr.trans ⟨rfl, fun _ _ => rfl, F2.turned, F2.fps⟩
  · rcases F2.fps j hj with h1 | h1
    · exact hap j h1 hm
    · have := hA j hm; omega
end
end Go.Proofs.YtlmdiechnidghaaGreat

namespace Go.Proofs.YtlmdiechnidghaaGreat
open Go.ChangeShapes Go.WideShapes Go.ChangeAt Go.RowKit Go.Conc Go.Sort
set_option linter.unusedVariables false
set_option linter.unusedSimpArgs false
def sortI (zs : List Int) : List Int := zs.mergeSort fun x y => decide (x ≤ y)
theorem sortI_len (zs : List Int) : (sortI zs).length = zs.length := List.length_mergeSort zs
theorem sortI_perm (zs : List Int) : (sortI zs).Perm zs := List.mergeSort_perm zs _
theorem sort_own_any {B : Nat} {w : World} {A : Option Addr} {n c : Nat} {zs : List Int} (h : OwnInts B w A n c zs) (hl : zs.length ≤ 64) : Calls Tryz.prog 40 #[.slice A n c] w fun e w' => e = .returned (.tuple #[]) ∧ OwnInts B w' A n c (sortI zs) ∧ Turned (fp A) w w' := by
  obtain ⟨ho, hn, hc1, hc2, hc3⟩ := h
  subst hn
  rcases Nat.eq_zero_or_pos zs.length with h0 | hp
  · obtain rfl : zs = [] := List.eq_nil_of_length_eq_zero h0
    refine (Tryz.slices_Sort_int_none A c w).mono ?_
    rintro e w' ⟨rfl, rfl⟩
    exact ⟨rfl, ⟨by simpa [sortI] using ho, by simp [sortI], hc1, hc2, hc3⟩, Turned.refl _ _⟩
  · obtain ⟨g, rfl, hB, hg⟩ := ownE_at ho hp
    obtain ⟨cur, hcb, hct, hcs⟩ : ∃ cur, w.heap[g]? = some (.cells cur 3 (0, 0)) ∧ cur.toList.take zs.length = zs.map (Value.int .i64) ∧ cur.size = c * 1 := by
      rcases ho.2 with ⟨hv, _⟩ | ⟨g', cap, cur, hv, hb, hgg, h3, h4, h5, h6⟩
      · cases hv
      · injection hv with e1 e2 e3
        injection e1 with e1
        injection e1 with e1
        subst e1; subst e3
        exact ⟨cur, hgg, by simpa using h6, h5⟩
    refine (Tryz.slices_Sort_int g 0 c zs w (holds_of_blockI hcb hct) hg (by omega)).mono ?_
    rintro e w' ⟨rfl, q, os, rfl⟩
    refine ⟨rfl, ⟨?_, (sortI_len zs).symm, hc1, hc2, hc3⟩, ?_⟩
    · exact ownsRow_sortedI (sortI_len zs) hB hcb hc1 hc2 hcs
    · exact (Turned.refl _ w).grown (grownBy_sortedI _) (fun k hk => by injection hk with hk; subst hk; exact .inl (by simp [fp]))
end Go.Proofs.YtlmdiechnidghaaGreat

namespace Go.Proofs.YtlmdiechnidghaaGreat
open Go.ChangeShapes Go.WideShapes Go.ChangeAt Go.RowKit Go.Conc
set_option linter.unusedVariables false
set_option linter.unusedSimpArgs false
section
variable {w : World} {b o : Nat} {T : TypeId} {cs : Array Value} {m : LkM}
theorem EntW.app {k n e : Nat} {A A' : Option Addr} {c c' : Nat} {v w5 : World} {Fd : Nat → List Nat} {lab : Nat → Nat} (ho : OwnInts w.heap.size v A n c (entL m.ds k)) (hk : k < m.ds.length) (he : e = enterN (m.ds.getD k default))
    (hl : Lk v b o T cs { m with ds := entDs m.ds (k + 1), Fd := Fd, lab := lab }) (hfr : FrL w b o 8 T cs (fpm m) v cs (fpm { m with ds := entDs m.ds (k + 1), Fd := Fd, lab := lab })) (hap : ∀ j ∈ fpm { m with ds := entDs m.ds (k + 1), Fd := Fd, lab := lab }, j ∉ fp A) (hb : b < w.heap.size)
    (happ : App w.heap.size 3 1 v A A' (n + e) c' ((entL m.ds k).map (Value.int .i64) ++ ((m.ds.getD k default).outs.take e).map (Value.int .i64)) w5) : EntW w b o T cs m (k + 1) (n + e) A' c' w5 := by
  have hA : ∀ j ∈ fp A, w.heap.size ≤ j := fun j hj => (own_fp ho.1 j hj).1
  have hle : e ≤ (m.ds.getD k default).outs.length := by rw [he]; unfold enterN; omega
  refine ⟨⟨?_, ?_, happ.cap.1, happ.cap.2, happ.nil⟩, Fd, lab, hl.turned happ.turned (fun hm => by have := hA b hm; omega) hap, ⟨rfl, fun _ _ => rfl, hfr.turned.trans happ.turned (fun i hi => .inr (hA i hi)), hfr.fps⟩, fun j hj hm => ?_⟩
  · rw [entL_next hk, List.map_append, ← he]; exact happ.own
  · rw [entL_next hk, List.length_append, ← he, List.length_take, ho.2.1]; omega
  · rcases happ.fps j hm with h1 | h1
    · exact hap j hj h1
    · have := hl.lt j hj; omega
/-- the locks when these were given places, one behind the other -/
def PlR : LkM → List Int → LkM → Prop
  | m, [], m' => m' = m
  | m, x :: xs, m' => ∃ A c, PlR (placeM m x.toNat A c) xs m'
theorem PlR.snoc {m m' : LkM} {l : List Int} {x : Int} {A : Option Addr} {c : Nat} (h : PlR m l m') : PlR m (l ++ [x]) (placeM m' x.toNat A c) := by
  induction l generalizing m with
  | nil =>
    have e : m' = m := h
    subst e
    exact ⟨A, c, rfl⟩
  | cons y l ih =>
    obtain ⟨A1, c1, h1⟩ := h
    exact ⟨A1, c1, ih h1⟩
/-- a round's state of the second loop -/
structure Pl2 (w : World) (b o : Nat) (T : TypeId) (cs : Array Value) (m m0 : LkM) (S : List Int) (A : Option Addr) (c j : Nat) (wr : World) : Prop where
  own : OwnInts w.heap.size wr A S.length c S
  lk : ∃ m', LkTo w b o T cs m wr m' ∧ PlR m0 (S.take j) m' ∧ m'.ask.length = m.ask.length ∧ m'.R = m.R ∧ m'.l.length = m.l.length + j ∧ m'.P = m.P + j ∧ m'.places = m.places + j ∧ ∀ q ∈ fpm m', q ∉ fp A
/-- what enter leaves -/
def EnterPost (w : World) (b o : Nat) (T : TypeId) (cs : Array Value) (m : LkM) (w' : World) : Prop :=
  ∃ (Fd : Nat → List Nat) (lab : Nat → Nat) (m' : LkM), PlR { m with ds := entDs m.ds m.ds.length, Fd := Fd, lab := lab } (sortI (entL m.ds m.ds.length)) m' ∧ LkTo w b o T cs m w' m'
theorem entL_mem {ds : List DrM} {k : Nat} {x : Int} (h : x ∈ entL ds k) : ∃ i, i < ds.length ∧ x ∈ (ds.getD i default).outs := by
  unfold entL at h
  obtain ⟨d, hd, hx⟩ := List.mem_flatMap.1 h
  obtain ⟨i, hi, rfl⟩ := List.getElem_of_mem (List.mem_of_mem_take hd)
  exact ⟨i, hi, by simp [List.getD, hi]; exact List.mem_of_mem_take hx⟩
set_option maxHeartbeats 4000000 in
set_option maxRecDepth 100000 in
theorem lenter_any (h : Lk w b o T cs m) (hpos : 0 < m.ds.length) (h3 : m.ds.length ≤ 3) (hnd : ∀ i, i < m.ds.length → ((m.ds.getD i default).ins ++ (m.ds.getD i default).outs).Nodup) (ho6 : ∀ i, i < m.ds.length → (m.ds.getD i default).outs.length ≤ 6)
    (hid : ∀ i, i < m.ds.length → ∀ x ∈ (m.ds.getD i default).outs, 0 ≤ x ∧ x < (m.ask.length : Int)) (hR : m.R ≤ 64) (hP : 0 ≤ m.P ∧ m.P < 900000) (hpl : 0 ≤ m.places ∧ m.places < 900000) (hroom : ((m.l.length + (entL m.ds m.ds.length).length : Nat) : Int) ≤ m.R) :
    Calls Tryz.prog 37 #[.pointer (some ⟨b, o, none⟩)] w fun e w' => e = .returned (.tuple #[]) ∧ EnterPost w b o T cs m w' := by
  obtain ⟨gd, hgd, _⟩ := h.dcells hpos
  have c3 : w.cell? ⟨b, o + 3, none⟩ = some (.slice (some ⟨gd, 0, none⟩) m.ds.length m.cd) := by
    have := (h.blk.cell _).trans h.c3
    rw [hgd] at this; exact this
  have HZ := hidp (EntW.zero h)
  have Hgd := hidp hgd
  have HB := hidp h.blk.lt
  have HN := hidp hnd
  have H6 := hidp ho6
  have HI := hidp hid
  have HR := hidp hR
  have HP := hidp hP
  have HPL := hidp hpl
  have HRM := hidp hroom
  obtain ⟨i0, hi0, hz0, hz1, hz2⟩ := info_parts infoInt
  clear h hgd hnd ho6 hid hR hP hpl hroom
  go_enter Tryz.func37, Tryz.ntmps37
  go_wp2
  go_loopg [2, 12] m.ds.length (fun g a i wr => ∃ (k n : Nat) (A : Option Addr) (c : Nat), k + g = m.ds.length ∧ i = .int .i64 k ∧ a = .slice A n c ∧ n ≤ 6 * k ∧ Hid (EntW w b o T cs m k n A c wr))
  case atStart => exact ⟨0, 0, none, 0, by omega, rfl, rfl, by omega, HZ⟩
  case round =>
    obtain ⟨k, n, A, c, hk, rfl, rfl, hn, E⟩ := hrel
    by_cases hlt : k < m.ds.length
    · obtain ⟨Fd, lab, L, FR, AP⟩ := E.out.lk
      obtain ⟨gd2, hgd2, _, e0, e1, e2⟩ := L.dcells (k := k) (by show k < (entDs m.ds k).length; rw [entDs_len]; exact hlt)
      have egd : gd2 = gd := by
        have h1 : m.Ad = some ⟨gd2, 0, none⟩ := hgd2
        rw [Hgd.out] at h1
        injection h1 with h1; injection h1 with h1; exact h1.symm
      subst egd
      clear hgd2
      obtain ⟨d, HD⟩ : ∃ d, Hid (m.ds.getD k default = d) := ⟨_, hidp rfl⟩
      have eD : ({ m with ds := entDs m.ds k, Fd := Fd, lab := lab } : LkM).ds.getD k default = d := by show (entDs m.ds k).getD k default = d; rw [entDs_at hlt]; exact HD.out
      rw [eD] at e0 e1 e2
      have hdr : DrOk wr d (Fd k) := eD ▸ L.drs k (by show k < (entDs m.ds k).length; rw [entDs_len]; exact hlt)
      have hd3 : decide (m.ds.length ≤ k) = false := decide_eq_false (by omega)
      have hb1 := (Below.refl wr.heap.size wr).alloc (Nat.le_refl _) (.cells #[.int .i64 d.cores, .pointer (some ⟨d.gb, 0, none⟩), .pointer (some ⟨d.lb, 0, none⟩)] 76)
      have DE := denter_any (hdr.over hb1) (by have := HN.out k hlt; rw [HD.out] at this; exact this) hdr.fit (by have := H6.out k hlt; rw [HD.out] at this; exact this)
      obtain ⟨b0, b1, b2⟩ := Zd3 (Bk.new wr 76 #[.int .i64 d.cores, .pointer (some ⟨d.gb, 0, none⟩), .pointer (some ⟨d.lb, 0, none⟩)])
      have HL := hidp (L.over hb1)
      have hwz := FR.turned.size
      have HFR := hidp (FR.trans (FrL.below hb1))
      have HAP := hidp AP
      have HB1 := hidp hb1
      unfold DrM.val at DE
      clear L FR AP hdr eD hb1 c3
      go_wp2_with fail
      refine DE.mono ?_
      rintro e v ⟨A2, c2, F', rfl, own2, door2, ht, hf, hap2⟩
      obtain ⟨q1, Fd2, lab2, L2, FR2, AP2⟩ := E.out.next hlt hwz HB1.out HL.out HFR.out HAP.out (by rw [HD.out]; exact own2) (by rw [HD.out]; exact door2) ht hf
      obtain ⟨nx, HNx⟩ : ∃ nx, Hid (enterN d = nx) := ⟨_, hidp rfl⟩
      have hnx : nx ≤ 6 := by
        rw [← HNx.out]
        have := H6.out k hlt
        rw [HD.out] at this
        unfold enterN; omega
      rw [HNx.out] at own2 ⊢
      have H1 : Hid (A2 = none → nx = 0 ∧ c2 = 0) := hidp own2.2.2.2.2
      have H2 : Hid (((d.outs.take nx).map (Value.int .i64)).length = nx * 1) := hidp (by have := own2.2.1; simp at this ⊢; omega)
      have H3 := hidp (Lies.of_own own2.1)
      have H4 : Hid (∀ u ∈ (d.outs.take nx).map (Value.int .i64), u.oneCell' = true) := hidp fun u hu => by obtain ⟨n, _, rfl⟩ := List.mem_map.1 hu; rfl
      have H5 : Hid (n + nx ≤ maxLen) := hidp (by unfold maxLen; omega)
      have HS6 : Hid ((n + nx) * 8 ≤ 140737488355328) := hidp (by omega)
      have Hsz : Hid (w.heap.size ≤ v.heap.size) := hidp FR2.turned.size
      have Q1 := hidp q1
      have L2h := hidp L2
      have FR2h := hidp FR2
      have AP2h := hidp AP2
      have hq1 := q1.1
      clear own2 door2 ht hf hap2 q1 L2 FR2 AP2 e0 e1 e2 b0 b1 b2
      go_wp2_with (at_builtin; refine wpList_app2 _ rfl (.tmp 16) (.tmp 18) 22 rfl w.heap.size 3 i0 (.int .i64 0) 1 8 Tryz.underlying22 hi0 hz0 hz1 hz2 rfl (by decide) A n c _ rfl hq1 v.heap.size A2 nx c2 ((d.outs.take nx).map (Value.int .i64)) rfl H1.out H2.out H3.out H4.out H5.out HS6.out Hsz.out ?_; intro A' c' w5 happ)
      go_roundg (gk - 1)
      case measure => omega
      case rel => exact ⟨k + 1, n + nx, A', c', by omega, by go_num, rfl, by omega, hidp (EntW.app Q1.out hlt (by rw [HD.out]; exact HNx.out.symm) L2h.out FR2h.out AP2h.out HB.out (by rw [HD.out]; exact happ))⟩
    · obtain rfl : k = m.ds.length := by omega
      obtain ⟨Fd, lab, L, FR, AP⟩ := E.out.lk
      have hA : ∀ j ∈ fp A, w.heap.size ≤ j := fun j hj => (own_fp E.out.own.1 j hj).1
      have hEl : (entL m.ds m.ds.length).length ≤ 64 := by have := E.out.own.2.1; omega
      have SO := sort_own_any E.out.own hEl
      have hbA : b ∉ fp A := fun hm => by have := hA b hm; have := HB.out; omega
      obtain ⟨S, HS⟩ : ∃ S, Hid (sortI (entL m.ds m.ds.length) = S) := ⟨_, hidp rfl⟩
      have HSl : Hid (S.length = n) := hidp (by rw [← HS.out, sortI_len]; exact E.out.own.2.1.symm)
      have HSm : Hid (∀ x ∈ S, 0 ≤ x ∧ x < (m.ask.length : Int)) := hidp (fun x hx => by
        rw [← HS.out] at hx
        obtain ⟨i, hi, hxi⟩ := entL_mem ((sortI_perm _).mem_iff.1 hx)
        exact HI.out i hi x hxi)
      have HLh := hidp L
      have HFR := hidp FR
      have HAP := hidp AP
      have HA := hidp hA
      have HbA := hidp hbA
      rw [HS.out] at SO
      clear L FR AP hA hbA c3 hlt hk
      go_wp2_with fail
      refine SO.mono ?_
      rintro e v ⟨rfl, ho, ht⟩
      have L2 := HLh.out.turned ht HbA.out HAP.out
      have P0 : Hid (Pl2 w b o T cs m { m with ds := entDs m.ds m.ds.length, Fd := Fd, lab := lab } S A c 0 v) := hidp ⟨by rw [HSl.out]; exact ho, _, ⟨cs, L2, ⟨rfl, fun _ _ => rfl, HFR.out.turned.trans ht (fun i hi => .inr (HA.out i hi)), HFR.out.fps⟩⟩, rfl, rfl, rfl, rfl, by simp, by simp, HAP.out⟩
      clear L2 ho ht SO
      go_wp2_with fail
      go_loopg [25] n (fun g i wr => ∃ j : Nat, j + g = n ∧ i = .int .i64 j ∧ Hid (Pl2 w b o T cs m { m with ds := entDs m.ds m.ds.length, Fd := Fd, lab := lab } S A c j wr))
      case atStart => exact ⟨0, by omega, rfl, P0⟩
      case round =>
        obtain ⟨j, hj, rfl, PJ⟩ := hrel
        by_cases hjn : j < n
        · obtain ⟨m', ⟨cs', L, FR⟩, PR, l1, l2, l3, l4, l5, AP⟩ := PJ.out.lk
          have hjS : j < S.length := by rw [HSl.out]; exact hjn
          obtain ⟨g, off, hA0, hc⟩ := (Lies.row (B := wr.heap.size) (Lies.of_own PJ.out.own.1)).resolve_left (by intro e; rw [e] at hjS; simp at hjS)
          have hxm := HSm.out (S.getD j 0) (by simp [List.getD, hjS])
          obtain ⟨x, HX⟩ : ∃ x : Nat, Hid (S.getD j 0 = (x : Int)) := ⟨(S.getD j 0).toNat, hidp (by omega)⟩
          have cx := hc j hjS
          rw [HX.out] at hxm cx
          have PL := lplace_any L (n := x) (by rw [l1]; omega) (by
            have h1 := HRM.out
            have h2 := HSl.out
            have h3 := E.out.own.2.1
            rw [l2, l3]; omega) (by rw [l2]; exact HR.out) (by have := HP.out; have := HSl.out; have := hEl; have := E.out.own.2.1; rw [l4]; omega) (by have := HPL.out; have := HSl.out; have := hEl; have := E.out.own.2.1; rw [l5]; omega)
          have HLL := hidp L
          have HFR2 := hidp FR
          have HPR := hidp PR
          have HAP2 := hidp AP
          have Hl1 := hidp l1
          have Hl2 := hidp l2
          have Hl3 := hidp l3
          have Hl4 := hidp l4
          have Hl5 := hidp l5
          have HhjS := hidp hjS
          have hdj : decide (n ≤ j) = false := decide_eq_false (by omega)
          clear L FR PR AP l1 l2 l3 l4 l5 hc hxm hjS
          subst hA0
          go_wp2_with fail
          refine PL.mono ?_
          rintro e v3 ⟨rfl, A9, c9, cs9, L9, F9⟩
          go_wp2_with fail
          go_roundg (gk - 1)
          case measure => omega
          case rel =>
            have hown := PJ.out.own
            have hAlt : ∀ q ∈ fp (some (⟨g, off, none⟩ : Addr)), w.heap.size ≤ q ∧ q < wr.heap.size := fun q hq => own_fp hown.1 q hq
            have PS := HPR.out.snoc (x := (x : Int)) (A := A9) (c := c9)
            rw [Int.toNat_natCast, ← HX.out, ← take_snoc S j HhjS.out] at PS
            refine ⟨j + 1, by omega, by go_num, hidp ⟨hown.turned F9.turned (fun q hq hm => ?_), _, ⟨cs9, L9, HFR2.out.trans F9⟩, PS, ?_, Hl2.out, ?_, ?_, ?_, fun q hq hm => ?_⟩⟩
            · rcases List.mem_cons.1 hm with rfl | hm
              · have := (hAlt _ hq).1; have := HB.out; omega
              · exact HAP2.out q hm hq
            · show (m'.ask.set x _).length = _
              rw [List.length_set]; exact Hl1.out
            · show (riseL (m'.l ++ [_]) m'.l.length).length = _
              rw [riseL_len _ _ (by simp), List.length_append, Hl3.out]; simp; omega
            · show m'.P + 1 = _
              rw [Hl4.out]; push_cast; omega
            · show m'.places + 1 = _
              rw [Hl5.out]; push_cast; omega
            · rcases F9.fps q hq with h1 | h1
              · exact HAP2.out q h1 hm
              · have := (hAlt q hm).2; omega
        · obtain rfl : j = n := by omega
          go_wp2
          try rw [Exit.noGoto_ret]
          refine ⟨rfl, _, results_none rfl _ _ _, ?_⟩
          obtain ⟨m', LT, PR, -, -, -, -, -, -⟩ := PJ.out.lk
          rw [← HSl.out, List.take_length, ← HS.out] at PR
          exact ⟨rfl, Fd, lab, m', PR, LT⟩
end
end Go.Proofs.YtlmdiechnidghaaGreat

namespace Go.Proofs.YtlmdiechnidghaaGreat
open Go.ChangeShapes Go.WideShapes Go.ChangeAt Go.RowKit Go.Conc
set_option linter.unusedVariables false
set_option linter.unusedSimpArgs false
def keyOf (m : LkM) (x : Nat) : Nat := m.ks.getD (m.ask.getD x default).res.toNat 0
/-- a task takes its key and leaves the row -/
def takeM (m : LkM) (x : Nat) : LkM := ((m.putK (keyOf m x) false).putA x { m.ask.getD x default with holds := true }).putR m.P (dropL m.l x) m.Ar m.cr
def grant1 (s : LkM × List Int) (x : Int) : LkM × List Int := if s.1.fr (keyOf s.1 x.toNat) = true then (takeM s.1 x.toNat, s.2 ++ [x]) else s
/-- who of the row gets a key, in that order -/
def grantM (m : LkM) (xs : List Int) : LkM × List Int := xs.foldl grant1 (m, [])
theorem grant_snoc (m : LkM) (xs : List Int) (x : Int) : grantM m (xs ++ [x]) = grant1 (grantM m xs) x := by unfold grantM; rw [List.foldl_append]; rfl
theorem dropL_le (l : List EntM) (id : Int) : (dropL l id).length ≤ l.length := by
  unfold dropL
  split
  · exact Nat.le_refl _
  · rename_i f hf
    rw [removeL_len (bestE_lt _ hf)]; omega
/-- what stays as it is, whoever is granted -/
structure GrI (m m' : LkM) : Prop where
  ks : m'.ks = m.ks
  len : m'.ask.length = m.ask.length
  res : ∀ i, (m'.ask.getD i default).res = (m.ask.getD i default).res
  l : m'.l.length ≤ m.l.length
theorem GrI.refl (m : LkM) : GrI m m := ⟨rfl, rfl, fun _ => rfl, Nat.le_refl _⟩
theorem GrI.take {m m' : LkM} (h : GrI m m') {x : Nat} (hx : x < m'.ask.length) : GrI m (takeM m' x) := by
  refine ⟨h.ks, ?_, fun i => ?_, Nat.le_trans (dropL_le _ _) h.l⟩
  · show (m'.ask.set x _).length = _
    rw [List.length_set]; exact h.len
  · rw [← h.res i]
    show ((m'.ask.set x { m'.ask.getD x default with holds := true }).getD i default).res = _
    by_cases e : i = x
    · subst e; simp [List.getD, hx]
    · simp [List.getD, List.getElem?_set_ne (Ne.symm e)]
end Go.Proofs.YtlmdiechnidghaaGreat

namespace Go.Proofs.YtlmdiechnidghaaGreat
open Go.ChangeShapes Go.WideShapes Go.ChangeAt Go.RowKit Go.Conc
set_option linter.unusedVariables false
set_option linter.unusedSimpArgs false
/-- a round's state -/
structure GrW (w : World) (b o : Nat) (T : TypeId) (cs : Array Value) (m m1 : LkM) (ids : List Int) (B : Nat) (AS : Option Addr) (cS j n : Nat) (A : Option Addr) (c : Nat) (wr : World) : Prop where
  src : NumsAt B wr AS ids.length cS ids
  own : OwnInts w.heap.size wr A n c (grantM m1 (ids.take j)).2
  inv : GrI m1 (grantM m1 (ids.take j)).1
  lk : LkTo w b o T cs m wr (grantM m1 (ids.take j)).1
  ap : ∀ q ∈ fpm (grantM m1 (ids.take j)).1, q ∉ fp A ∧ q ∉ fp AS
  ss : ∀ q ∈ fp A, q ∉ fp AS
def GrantPost (w : World) (b o : Nat) (T : TypeId) (cs : Array Value) (m : LkM) (G : LkM → Prop) (e : Ending) (w' : World) : Prop :=
  ∃ m1 S A n c, G m1 ∧ S.Perm m1.l ∧ SortedE S ∧ e = .returned (.slice A n c) ∧ OwnInts w.heap.size w' A n c (sortI (grantM m1 (S.map EntM.id)).2) ∧ LkTo w b o T cs m w' (grantM m1 (S.map EntM.id)).1 ∧ ∀ q ∈ fpm (grantM m1 (S.map EntM.id)).1, q ∉ fp A
theorem sel_res (c : Nat) (v : Value) (ok : Bool) : commResult #[rcase c (.agg #[])] .select ((0 : Nat) : Int) v ok = .tuple #[goInt 0, .bool ok, v] := by simp [commResult, rcase]
theorem sel_res_d (c : Nat) (v : Value) (ok : Bool) : commResult #[rcase c (.agg #[])] .select (-1) v ok = .tuple #[goInt (-1), .bool ok, .agg #[]] := by simp [commResult, rcase]
section
variable {w : World} {b o : Nat} {T : TypeId} {cs : Array Value} {m : LkM} {G : LkM → Prop}
theorem GrW.skip {m1 : LkM} {ids : List Int} {B : Nat} {AS : Option Addr} {cS j n : Nat} {A : Option Addr} {c x : Nat} {wr v : World} (h : GrW w b o T cs m m1 ids B AS cS j n A c wr) (hj : j < ids.length) (hx : ids.getD j 0 = (x : Int)) (hf : (grantM m1 (ids.take j)).1.fr (keyOf (grantM m1 (ids.take j)).1 x) = false) (hb : Below wr.heap.size wr v) : GrW w b o T cs m m1 ids B AS cS (j + 1) n A c v := by
  have e : grantM m1 (ids.take (j + 1)) = grantM m1 (ids.take j) := by
    rw [take_snoc ids j hj, hx, grant_snoc]
    unfold grant1
    rw [Int.toNat_natCast, hf]
    simp
  obtain ⟨csx, L, F⟩ := h.lk
  exact ⟨⟨own_turned h.src.own (Turned.of_below hb []) (by simp), h.src.len, h.src.cap, h.src.nil⟩, by rw [e]; exact h.own.turned (Turned.of_below hb []) (by simp), by rw [e]; exact h.inv, by rw [e]; exact ⟨csx, L.over hb, F.trans (FrL.below hb)⟩, by rw [e]; exact h.ap, h.ss⟩
theorem GrW.hit {m1 mm : LkM} {ids : List Int} {B : Nat} {AS : Option Addr} {cS j n : Nat} {A A' : Option Addr} {c c' x : Nat} {wr v w5 : World} {cs' cs2 : Array Value} (h : GrW w b o T cs m m1 ids B AS cS j n A c wr) (hj : j < ids.length) (hx : ids.getD j 0 = (x : Int)) (hm : (grantM m1 (ids.take j)).1 = mm) (hxl : x < mm.ask.length) (hf : mm.fr (keyOf mm x) = true)
    (hF : FrL w b o 8 T cs (fpm m) wr cs' (fpm mm)) (hb : b < w.heap.size) (hBw : b < B) (hL : Lk v b o T cs2 (takeM mm x)) (hV : FrL wr b o 8 T cs' (fpm mm) v cs2 (fpm (takeM mm x)))
    (happ : App w.heap.size 3 1 v A A' (n + 1) c' ((grantM m1 (ids.take j)).2.map (Value.int .i64) ++ [.int .i64 (x : Int)]) w5) : GrW w b o T cs m m1 ids B AS cS (j + 1) (n + 1) A' c' w5 := by
  have e : grantM m1 (ids.take (j + 1)) = (takeM mm x, (grantM m1 (ids.take j)).2 ++ [(x : Int)]) := by
    rw [take_snoc ids j hj, hx, grant_snoc]
    unfold grant1
    rw [Int.toNat_natCast, hm, hf]
    simp
  have hap := h.ap
  have hinv := h.inv
  rw [hm] at hap hinv
  have hAw : ∀ q ∈ fp A, w.heap.size ≤ q ∧ q < wr.heap.size := fun q hq => own_fp h.own.1 q hq
  have hSw : ∀ q ∈ fp AS, B ≤ q ∧ q < wr.heap.size := fun q hq => own_fp h.src.own q hq
  have hbA : b ∉ fp A := fun hm => by have := (hAw b hm).1; omega
  have hbS : b ∉ fp AS := fun hm => by have := (hSw b hm).1; omega
  have hvs := hV.turned.size
  have hS1 : ∀ q ∈ fp AS, q ∉ b :: fpm mm := fun q hq hm => by
    rcases List.mem_cons.1 hm with rfl | hm
    · exact hbS hq
    · exact (hap q hm).2 hq
  have hf2 : ∀ q ∈ fpm (takeM mm x), q ∉ fp A ∧ q ∉ fp AS := fun q hq => by
    rcases hV.fps q hq with h1 | h1
    · exact hap q h1
    · exact ⟨fun hm => by have := (hAw q hm).2; omega, fun hm => by have := (hSw q hm).2; omega⟩
  have hlv := hL.lt
  refine ⟨⟨own_turned (own_turned h.src.own hV.turned hS1) happ.turned (fun q hq hm => h.ss q hm hq), h.src.len, h.src.cap, h.src.nil⟩, ?_, by rw [e]; exact hinv.take hxl, ?_, ?_, fun q hq hm => ?_⟩
  · rw [e]
    refine ⟨?_, ?_, happ.cap.1, happ.cap.2, happ.nil⟩
    · simpa using happ.own
    · simp; exact h.own.2.1
  · rw [e]
    exact ⟨cs2, hL.turned happ.turned hbA (fun q hq => (hf2 q hq).1), (hF.trans hV).size, (hF.trans hV).out, (hF.trans hV).turned.trans happ.turned (fun i hi => .inr (hAw i hi).1), (hF.trans hV).fps⟩
  · rw [e]
    refine fun q hq => ⟨fun hm => ?_, (hf2 q hq).2⟩
    rcases happ.fps q hm with h1 | h1
    · exact (hf2 q hq).1 h1
    · have := hlv q hq; omega
  · rcases happ.fps q hq with h1 | h1
    · exact h.ss q h1 hm
    · have := (hSw q hm).2; omega
set_option maxHeartbeats 4000000 in
set_option maxRecDepth 100000 in
theorem lgrant_any (CE : Calls Tryz.prog 37 #[.pointer (some ⟨b, o, none⟩)] w fun e w' => e = .returned (.tuple #[]) ∧ ∃ m1, LkTo w b o T cs m w' m1 ∧ G m1)
    (hG : ∀ m1, G m1 → m1.l.length ≤ 40 ∧ (∀ e ∈ m1.l, 0 ≤ e.id ∧ e.id < (m1.ask.length : Int)) ∧ ∀ e ∈ m1.l, 0 ≤ (m1.ask.getD e.id.toNat default).res ∧ (m1.ask.getD e.id.toNat default).res < (m1.ks.length : Int)) (hb : b < w.heap.size) (hfp : ∀ q ∈ fpm m, q < w.heap.size) :
    Calls Tryz.prog 15 #[.pointer (some ⟨b, o, none⟩)] w (GrantPost w b o T cs m G) := by
  obtain ⟨i0, hi0, hz0, hz1, hz2⟩ := info_parts infoInt
  have HG := hidp hG
  have HB := hidp hb
  clear hG
  go_enter Tryz.func15, Tryz.ntmps15
  go_wp2
  go_step3
  go_wp2_with fail
  refine CE.mono ?_
  rintro e w1 ⟨rfl, m1, ⟨cs1, L1, F1⟩, hG1⟩
  obtain ⟨hl40, hids, hres⟩ := HG.out m1 hG1
  have CA := rkall_any L1.row (by omega)
  have HL1 := hidp L1
  have HF1 := hidp F1
  have HG1 := hidp hG1
  clear L1 F1 hG1
  go_wp2
  go_step3
  go_wp2_with fail
  refine CA.mono ?_
  rintro e w2 ⟨AS, cS, S, hperm, hsrt, rfl, hnum, hb2⟩
  obtain ⟨ids, HIds⟩ : ∃ ids, Hid (S.map EntM.id = ids) := ⟨_, hidp rfl⟩
  rw [HIds.out] at hnum
  have hln := hnum.len
  obtain ⟨N, HNn⟩ : ∃ N, Hid (m1.l.length = N) := ⟨_, hidp rfl⟩
  rw [HNn.out] at hnum hln ⊢
  have HIN : Hid (∀ j, j < N → ∃ x : Nat, ids.getD j 0 = (x : Int) ∧ x < m1.ask.length ∧ 0 ≤ (m1.ask.getD x default).res ∧ (m1.ask.getD x default).res < (m1.ks.length : Int)) := hidp (fun j hj => by
    have hm : ids.getD j 0 ∈ ids := by simp [List.getD, show j < ids.length by omega]
    rw [← HIds.out] at hm
    obtain ⟨e, he, he2⟩ := List.mem_map.1 hm
    have := hids e (hperm.mem_iff.1 he)
    have h7 := hres e (hperm.mem_iff.1 he)
    rw [HIds.out] at he2
    rw [he2] at h7
    exact ⟨(ids.getD j 0).toNat, by omega, by omega, h7⟩)
  have HP0 := hidp hperm
  have HS0 := hidp hsrt
  have G0 : Hid (GrW w b o T cs m m1 ids w1.heap.size AS cS 0 0 none 0 w2) := hidp ⟨by rw [← hln]; exact hnum, ⟨World.ownsRow_nil _ _ _ _, rfl, Nat.le_refl _, by decide, fun _ => ⟨rfl, rfl⟩⟩, GrI.refl m1, ⟨cs1, HL1.out.over hb2, HF1.out.trans (FrL.below hb2)⟩, fun q hq => ⟨by simp [fp], fun hm => by
    have h1 := HL1.out.lt q hq
    have h2 := (own_fp hnum.own q hm).1
    omega⟩, by simp [fp]⟩
  have hN40 : N ≤ 40 := by rw [← HNn.out]; exact hl40
  have HLN := hidp hln
  clear hnum hb2 hperm hsrt hids hres hl40 CA CE hln
  go_wp2_with fail
  go_loopg [3, 14] N (fun g a i wr => ∃ (j n : Nat) (A : Option Addr) (c : Nat), j + g = N ∧ i = .int .i64 j ∧ a = .slice A n c ∧ n ≤ j ∧ Hid (GrW w b o T cs m m1 ids w1.heap.size AS cS j n A c wr))
  case atStart => exact ⟨0, 0, none, 0, by omega, rfl, rfl, by omega, G0⟩
  case round =>
    obtain ⟨j, n, A, c, hj, rfl, rfl, hnj, GJ⟩ := hrel
    by_cases hjn : j < N
    · obtain ⟨cs', L, FR⟩ := GJ.out.lk
      obtain ⟨mm, HM⟩ : ∃ mm, Hid ((grantM m1 (ids.take j)).1 = mm) := ⟨_, hidp rfl⟩
      have hinv := GJ.out.inv
      rw [HM.out] at L FR hinv
      obtain ⟨x, hx, hxl, hrr⟩ := HIN.out j hjn
      have hxm : x < mm.ask.length := by rw [hinv.len]; exact hxl
      rw [← hinv.res x, ← hinv.ks] at hrr
      obtain ⟨r, hr⟩ : ∃ r : Nat, (mm.ask.getD x default).res = (r : Int) := ⟨(mm.ask.getD x default).res.toNat, by omega⟩
      have hrl : r < mm.ks.length := by omega
      have Hr := hidp hr
      obtain ⟨q, HQ⟩ : ∃ q, Hid (mm.ks.getD r 0 = q) := ⟨_, hidp rfl⟩
      have hqm : q ∈ mm.ks := by rw [← HQ.out]; simp [List.getD, hrl]
      have HKey : Hid (keyOf mm x = q) := hidp (by unfold keyOf; rw [Hr.out, Int.toNat_natCast]; exact HQ.out)
      -- the cells that are read
      have hsN : j < ids.length := by rw [← HLN.out]; exact hjn
      obtain ⟨gs, off, hA0, hc⟩ := (Lies.row (B := wr.heap.size) (Lies.of_own GJ.out.src.own)).resolve_left (by intro e; rw [e] at hsN; simp at hsN)
      have cx := hc j hsN
      rw [hx] at cx
      have HXx := hidp hx
      obtain ⟨g, hg, _, _⟩ := L.askers.at_ (by omega)
      have Hg := hidp hg
      have hk : OwnK 0 wr (some ⟨g, 0, none⟩) mm.ask.length mm.ca mm.ask := hg ▸ L.askers
      obtain ⟨x0, x1, x2, x3, x4, x5⟩ := hk.cells hxm
      rw [hr] at x4
      have c1 : wr.cell? ⟨b, o + 1, none⟩ = some (.slice (some ⟨g, 0, none⟩) mm.ask.length mm.ca) := by
        have := L.ac
        rw [hg] at this; exact this
      obtain ⟨gq, hgk, _, _⟩ := ownE_at L.keys (by omega)
      have hkk := L.keys
      rw [hgk] at hkk
      have c2 : wr.cell? ⟨b, o + 2, none⟩ = some (.slice (some ⟨gq, 0, none⟩) mm.ks.length mm.ck) := by
        have := (L.blk.cell _).trans L.c2
        rw [hgk] at this; exact this
      have ckey : wr.cell? ⟨gq, r, none⟩ = some (.chan (some q)) := by
        rcases Lies.of_own hkk with h1 | ⟨b', off', e, _, hcc⟩
        · have h2 : mm.ks = [] := by simpa [keyV] using h1
          rw [h2] at hrl
          simp at hrl
        · injection e with e
          injection e with e1 e2
          subst e1; subst e2
          have := hcc r (.chan (some q)) (by rw [← HQ.out]; simp [keyV, List.getD, hrl])
          simpa using this
      obtain ⟨s, rc, hch⟩ := L.chans q hqm
      have hd1 : decide (N ≤ j) = false := decide_eq_false (by omega)
      have hd2 : decide (mm.ask.length ≤ x) = false := decide_eq_false (by omega)
      have hd3 : decide (mm.ks.length ≤ r) = false := decide_eq_false (by omega)
      have HLm := hidp L
      have HFR := hidp FR
      have Hinv := hidp hinv
      have Hqm := hidp hqm
      clear L FR hinv hqm hk hkk hrr hr hg hgk hx hc x0 x1 x2 x5
      subst hA0
      go_wp2_with fail
      go_quiet (fail)
      go_upto_region 8 with fail
      refine wpS_region [0, 1, 2] (by rfl) ?_
      have hbd : Below wr.heap.size wr (wr.drewN nq) := below_drewN (Below.refl _ _) nq
      by_cases hfr : mm.fr q = true
      · rw [if_pos hfr] at hch
        have hch' : (wr.drewN nq).heap[q]? = some (.chan 1 #[.agg #[]] false s rc false) := hch
        have HLd := hidp (HLm.out.over hbd)
        obtain ⟨cs2, L2, F2⟩ := HLd.out.toK (s := s) (r := rc + 1) (v := false) Hqm.out
        obtain ⟨v, hv⟩ : ∃ v, (wr.drewN nq).setChan q 1 (#[Value.agg #[]].extract 1 #[Value.agg #[]].size) false s (rc + 1) false = v := ⟨_, rfl⟩
        have L2 : Lk v b o T cs2 (mm.putK q false) := hv ▸ L2
        have F2 : FrL (wr.drewN nq) b o 8 T cs' (fpm mm) v cs2 (fpm (mm.putK q false)) := hv ▸ F2
        obtain ⟨cs3, L3, F3⟩ := L2.toA (g := g) (i := x) (f := 3) Hg.out hxm (by decide) (v := .bool true) (x := { mm.ask.getD x default with holds := true }) rfl (L2.wf (mm.ask.getD x default) (by show mm.ask.getD x default ∈ mm.ask; simp [List.getD, hxm]))
        have hk2 : OwnK 0 v (some ⟨g, 0, none⟩) mm.ask.length mm.ca mm.ask := Hg.out ▸ L2.askers
        have z3 := (hk2.cells hxm).2.2.2.1
        have f3 : v.frozen? ⟨g, x * 6 + 3, none⟩ = false := ownE_frozen hk2.own _
        have hl64 : mm.l.length ≤ 64 := by have h1 := Hinv.out.l; have h2 := HNn.out; omega
        have DR := drop_any (id := (x : Int)) L3.row hl64
        have HL3 := hidp L3
        have HF2 := hidp F2
        have HF3 := hidp F3
        clear L2 F2 L3 F3 hk2
        refine wpS_sel_recv (w1 := wr.drewN nq) (blocking := false) (cases := #[rcase q (.agg #[])]) (c := q) (z := .agg #[]) (cap := 1) (buf := #[.agg #[]]) (closed := false) (s := s) (r := rc) (tm := false) 0 rfl rfl (by simp [go_sem, execOp, rcase, Act.eval]) rfl (fun j cc hj hcc => ?_) hch' (by simp) ?_
        · rcases j with _ | j
          · exact absurd rfl hj
          · simp at hcc
        rw [sel_res, hv]
        simp only [Act.put, List.setIfInBounds_toArray, List.set_cons_zero, List.set_cons_succ, List.getElem_toArray, List.getElem_cons_zero, List.getElem_cons_succ]
        clear hv cx c1 c2 ckey x3 x4 hch hch'
        refine wpS_list 1 (L := _) (by simp only [List.drop_succ_cons, List.drop_zero]; rfl) (by rfl) ?_
        go_wp2_with fail
        refine DR.mono ?_
        rintro e v4 ⟨rfl, hr4, ht4⟩
        obtain ⟨cs4, L4, F4⟩ := HL3.out.toR hr4 ht4 (fun k hk => .inl hk)
        have HV : Hid (FrL wr b o 8 T cs' (fpm mm) v4 cs4 (fpm (takeM mm x))) := hidp (by
          have := (FrL.below (b := b) (o := o) (n := 8) (T := T) (cs := cs') (F := fpm mm) hbd).trans (HF2.out.trans (HF3.out.trans F4))
          unfold takeM
          rw [HKey.out]
          exact this)
        have HL4 : Hid (Lk v4 b o T cs4 (takeM mm x)) := hidp (by unfold takeM; rw [HKey.out]; exact L4)
        have hAw : ∀ z ∈ fp A, w.heap.size ≤ z ∧ z < wr.heap.size := fun z hz => own_fp GJ.out.own.1 z hz
        have ow := (GJ.out.own.turned HV.out.turned (fun z hz hm => by
          rcases List.mem_cons.1 hm with rfl | hm
          · have := (hAw _ hz).1; have := HB.out; omega
          · exact (GJ.out.ap z (by rw [HM.out]; exact hm)).1 hz)).1
        have Hws := hidp (Nat.le_trans HFR.out.turned.size HV.out.turned.size)
        have L1 := hidp (Lies.new1 v4 (.int .i64 (x : Int)) 3)
        have hown2 := ow.alloc (.cells #[.int .i64 (x : Int)] 3)
        have K1 : Hid (∀ u ∈ [Value.int .i64 (x : Int)], u.oneCell' = true) := hidp (by simp; rfl)
        have K5 : Hid (n + 1 ≤ maxLen) := hidp (by unfold maxLen; omega)
        have K6 : Hid ((n + 1) * 8 ≤ 140737488355328) := hidp (by omega)
        have Hsz : Hid (w.heap.size ≤ (v4.alloc (.cells #[.int .i64 (x : Int)] 3)).heap.size) := hidp (by have := Hws.out; simp; omega)
        clear L4 F4 hr4 ht4 DR hAw ow z3 f3
        go_wp2_with (at_builtin; refine wpList_app2 _ rfl (.tmp 45) (.tmp 47) 22 rfl w.heap.size 3 i0 (.int .i64 0) 1 8 Tryz.underlying22 hi0 hz0 hz1 hz2 rfl (by decide) A n c _ rfl hown2 _ _ 1 1 [.int .i64 (x : Int)] rfl (by simp) rfl L1.out K1.out K5.out K6.out Hsz.out ?_; intro A' c' w5 happ)
        go_roundg (gk - 1)
        case measure => omega
        case rel =>
          have hba : Below v4.heap.size v4 (v4.alloc (.cells #[.int .i64 (x : Int)] 3)) := (Below.refl _ _).alloc (Nat.le_refl _) _
          have hBw : b < w1.heap.size := Nat.lt_of_lt_of_le HB.out HF1.out.turned.size
          exact ⟨j + 1, n + 1, A', c', by omega, by go_num, rfl, by omega, hidp (GJ.out.hit hsN HXx.out HM.out hxm (by rw [HKey.out]; exact hfr) HFR.out HB.out hBw (HL4.out.over hba) (HV.out.trans (FrL.below hba)) happ)⟩
      · have hfr' : mm.fr q = false := by simpa using hfr
        rw [if_neg hfr] at hch
        have hch' : (wr.drewN nq).heap[q]? = some (.chan 1 #[] false s rc false) := hch
        have GN := hidp (GJ.out.skip hsN HXx.out (by rw [HM.out, HKey.out]; exact hfr') hbd)
        refine wpS_sel_default (w1 := wr.drewN nq) (cases := #[rcase q (.agg #[])]) rfl rfl (by simp [go_sem, execOp, rcase, Act.eval]) (fun cc hcc => ?_) ?_
        · simp only [List.mem_toArray, List.mem_cons, List.not_mem_nil, or_false] at hcc
          subst hcc
          exact noWay_recv hch'
        rw [sel_res_d]
        simp only [Act.put, List.setIfInBounds_toArray, List.set_cons_zero, List.set_cons_succ, List.getElem_toArray, List.getElem_cons_zero, List.getElem_cons_succ]
        refine wpS_list 1 (L := _) (by simp only [List.drop_succ_cons, List.drop_zero]; rfl) (by rfl) ?_
        go_wp2_with fail
        go_roundg (gk - 1)
        case measure => omega
        case rel => exact ⟨j + 1, n, A, c, by omega, by go_num, rfl, by omega, GN⟩
    · obtain rfl : j = N := by omega
      have hAw : ∀ z ∈ fp A, w.heap.size ≤ z := fun z hz => (own_fp GJ.out.own.1 z hz).1
      have SO := sort_own_any GJ.out.own (by have := GJ.out.own.2.1; omega)
      have HAw := hidp hAw
      have hde : decide (j < j) = false := by simp
      clear hAw
      go_wp2_with fail
      refine SO.mono ?_
      rintro e v ⟨rfl, ho, ht⟩
      obtain ⟨csx, L, F⟩ := GJ.out.lk
      have hbA : b ∉ fp A := fun hm => by have := HAw.out b hm; have := HB.out; omega
      have LV := hidp (L.turned ht hbA (fun z hz => (GJ.out.ap z hz).1))
      have FV := hidp (F.turned.trans ht (fun i hi => .inr (HAw.out i hi)))
      have Fsz := hidp F.size
      have Fout := hidp F.out
      have Ffps := hidp F.fps
      have HO := hidp ho
      clear L F ho ht SO
      go_wp2_with fail
      try rw [Exit.noGoto_ret]
      go_ret
      have et : ids.take j = ids := by rw [HLN.out]; exact List.take_length
      have h1 := HO.out
      have h2 := LV.out
      have h3 := FV.out
      have h4 := Ffps.out
      have h5 := GJ.out.ap
      rw [et] at h1 h2 h4 h5
      refine ⟨m1, S, A, n, c, HG1.out, HP0.out, HS0.out, rfl, ?_, ?_, ?_⟩
      · rw [HIds.out]; exact h1
      · rw [HIds.out]; exact ⟨csx, h2, Fsz.out, Fout.out, h3, h4⟩
      · rw [HIds.out]; exact fun z hz => (h5 z hz).1
end
end Go.Proofs.YtlmdiechnidghaaGreat
