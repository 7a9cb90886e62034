/- delay: a job's moments, as plain data. -/
import Derived.Test.YtmchjmgifipfoaaDelay3
import Derived.Test.YtmchjmgifipfoaaOwnP
import Derived.Test.YtmchjmgifipfoaaTraceB
import Derived.Laws.MakeOwn
namespace Go.Proofs.Ytmchjmgifipfoaa
open Go.ChangeShapes Go.WideShapes Go.ChangeAt Go.RowKit
set_option linter.unusedVariables false

structure MomM where
  ran : Bool
  lower : Bool
  holds : Int
deriving DecidableEq
instance : Inhabited MomM := ⟨⟨false, false, 0⟩⟩
def momC (ms : List MomM) : List Value := ms.flatMap fun m => [.bool m.ran, .bool m.lower, .int .i64 m.holds]
theorem momC_len (ms : List MomM) : (momC ms).length = ms.length * 3 := by
  induction ms with
  | nil => rfl
  | cons a l ih => unfold momC at ih ⊢; rw [List.flatMap_cons, List.length_append, ih]; simp; omega
theorem momC_cons (m : MomM) (ms : List MomM) : momC (m :: ms) = .bool m.ran :: .bool m.lower :: .int .i64 m.holds :: momC ms := rfl
theorem momC_get {ms : List MomM} {i : Nat} (hi : i < ms.length) : (momC ms)[i * 3]? = some (.bool (ms.getD i default).ran) ∧ (momC ms)[i * 3 + 1]? = some (.bool (ms.getD i default).lower) ∧ (momC ms)[i * 3 + 2]? = some (.int .i64 (ms.getD i default).holds) := by
  induction ms generalizing i with
  | nil => simp at hi
  | cons a l ih =>
    cases i with
    | zero => rw [momC_cons]; exact ⟨rfl, rfl, rfl⟩
    | succ i =>
      have h := ih (i := i) (by simp at hi; omega)
      have e : (i + 1) * 3 = i * 3 + 1 + 1 + 1 := by omega
      rw [momC_cons, e]
      have e1 : i * 3 + 1 + 1 + 1 + 1 = (i * 3 + 1) + 1 + 1 + 1 := by omega
      have e2 : i * 3 + 1 + 1 + 1 + 2 = (i * 3 + 2) + 1 + 1 + 1 := by omega
      rw [e1, e2]
      simp only [List.getElem?_cons_succ, List.getD_cons_succ]
      exact h
theorem momC_set {ms : List MomM} {i : Nat} (hi : i < ms.length) :
    (∀ b, (momC ms).set (i * 3) (.bool b) = momC (ms.set i ⟨b, (ms.getD i default).lower, (ms.getD i default).holds⟩)) ∧
    (∀ b, (momC ms).set (i * 3 + 1) (.bool b) = momC (ms.set i ⟨(ms.getD i default).ran, b, (ms.getD i default).holds⟩)) ∧
    ∀ z, (momC ms).set (i * 3 + 2) (.int .i64 z) = momC (ms.set i ⟨(ms.getD i default).ran, (ms.getD i default).lower, z⟩) := by
  induction ms generalizing i with
  | nil => simp at hi
  | cons a l ih =>
    cases i with
    | zero => rw [momC_cons]; exact ⟨fun _ => rfl, fun _ => rfl, fun _ => rfl⟩
    | succ i =>
      obtain ⟨h0, h1, h2⟩ := ih (i := i) (by simp at hi; omega)
      have e : (i + 1) * 3 = i * 3 + 1 + 1 + 1 := by omega
      have e1 : i * 3 + 1 + 1 + 1 + 1 = (i * 3 + 1) + 1 + 1 + 1 := by omega
      have e2 : i * 3 + 1 + 1 + 1 + 2 = (i * 3 + 2) + 1 + 1 + 1 := by omega
      rw [momC_cons, e, e1, e2]
      simp only [List.set_cons_succ, List.getD_cons_succ, momC_cons]
      exact ⟨fun b => by rw [h0 b], fun b => by rw [h1 b], fun z => by rw [h2 z]⟩

/-- from, to: the first tick that counts, and the first one that doesn't any more -/
def fromD (d : DoneM) : Int := max d.rel 0
def toD (d : DoneM) : Int := min d.fin 20001
def slotStep (s : SetR) (d : DoneM) (ms : List MomM) (x : SlotM) : List MomM :=
  if x.time < fromD d ∨ toD d ≤ x.time then ms else
  ms.set (x.time - fromD d).toNat ⟨(ms.getD (x.time - fromD d).toNat default).ran || (x.task == d.task), (ms.getD (x.time - fromD d).toNat default).lower || lowB s x d.task.toNat, (ms.getD (x.time - fromD d).toNat default).holds⟩
def addH (ms : List MomM) (i : Nat) (z : Int) : List MomM := ms.set i ⟨(ms.getD i default).ran, (ms.getD i default).lower, (ms.getD i default).holds + z⟩
def waitStep (d : DoneM) (ms : List MomM) (w : WaitM) : List MomM :=
  if w.task ≠ d.task ∨ min w.fin (toD d) ≤ max w.got (fromD d) then ms else
  if min w.fin (toD d) < toD d then addH (addH ms (max w.got (fromD d) - fromD d).toNat 1) (min w.fin (toD d) - fromD d).toNat (-1) else addH ms (max w.got (fromD d) - fromD d).toNat 1
def mom0 (n : Nat) : List MomM := List.replicate n ⟨false, false, 0⟩
def momL (s : SetR) (t : TraceR) (d : DoneM) : List MomM :=
  if toD d ≤ fromD d then [] else t.waits.foldl (waitStep d) (t.slots.foldl (slotStep s d) (mom0 (toD d - fromD d).toNat))
theorem slotStep_len (s : SetR) (d : DoneM) (ms : List MomM) (x : SlotM) : (slotStep s d ms x).length = ms.length := by unfold slotStep; split <;> simp
theorem addH_len (ms : List MomM) (i : Nat) (z : Int) : (addH ms i z).length = ms.length := by unfold addH; simp
theorem waitStep_len (d : DoneM) (ms : List MomM) (x : WaitM) : (waitStep d ms x).length = ms.length := by
  unfold waitStep; split
  · rfl
  · split
    · rw [addH_len, addH_len]
    · rw [addH_len]
/-- holds within bounds -/
def HoldsIn (ms : List MomM) (b : Int) : Prop := ∀ m ∈ ms, -b ≤ m.holds ∧ m.holds ≤ b
theorem HoldsIn.mono {ms : List MomM} {b c : Int} (h : HoldsIn ms b) (hbc : b ≤ c) : HoldsIn ms c := fun m hm => by have := h m hm; omega
theorem HoldsIn.at_ {ms : List MomM} {b : Int} (h : HoldsIn ms b) {i : Nat} (hi : i < ms.length) : -b ≤ (ms.getD i default).holds ∧ (ms.getD i default).holds ≤ b := h _ (getD_mem hi)
theorem HoldsIn.set {ms : List MomM} {b : Int} (h : HoldsIn ms b) (i : Nat) (x y : Bool) (z : Int) (hz : -b ≤ z ∧ z ≤ b) : HoldsIn (ms.set i ⟨x, y, z⟩) b := fun m hm => by
  rcases List.mem_or_eq_of_mem_set hm with hm | rfl
  · exact h m hm
  · exact hz
theorem HoldsIn.slot {ms : List MomM} {b : Int} (h : HoldsIn ms b) (s : SetR) (d : DoneM) (x : SlotM) (hb : 0 ≤ b) (hl : ms.length = (toD d - fromD d).toNat) : HoldsIn (slotStep s d ms x) b := by
  unfold slotStep
  split
  · exact h
  · rename_i hx
    exact h.set _ _ _ _ (h.at_ (by rw [hl]; omega))
theorem mom0_holds (n : Nat) : HoldsIn (mom0 n) 0 := fun m hm => by unfold mom0 at hm; rw [(List.mem_replicate.1 hm).2]; simp
/-! ### a row of moments in one block -/
def MBk (w : World) (b : Nat) (ms : List MomM) : Prop := Bk w b 71 (momC ms).toArray
section
variable {w w' : World} {b : Nat} {ms : List MomM}
theorem MBk.alloc (h : MBk w b ms) (o : Obj) : MBk (w.alloc o) b ms := Bk.alloc h o
theorem MBk.below (h : MBk w b ms) (hb : Below w.heap.size w w') : MBk w' b ms := Bk.below h hb
theorem MBk.drewN (h : MBk w b ms) (n : Nat) : MBk (w.drewN n) b ms := h
theorem MBk.lt (h : MBk w b ms) : b < w.heap.size := Bk.lt h
theorem MBk.frozen (h : MBk w b ms) (i : Nat) : w.frozen? ⟨b, i, none⟩ = false := Bk.frozen h i
theorem MBk.c0 (h : MBk w b ms) {i : Nat} (hi : i < ms.length) : w.cell? ⟨b, i * 3, none⟩ = some (.bool (ms.getD i default).ran) := (Bk.cell h _).trans (by rw [List.getElem?_toArray]; exact (momC_get hi).1)
theorem MBk.c1 (h : MBk w b ms) {i : Nat} (hi : i < ms.length) : w.cell? ⟨b, i * 3 + 1, none⟩ = some (.bool (ms.getD i default).lower) := (Bk.cell h _).trans (by rw [List.getElem?_toArray]; exact (momC_get hi).2.1)
theorem MBk.c2 (h : MBk w b ms) {i : Nat} (hi : i < ms.length) : w.cell? ⟨b, i * 3 + 2, none⟩ = some (.int .i64 (ms.getD i default).holds) := (Bk.cell h _).trans (by rw [List.getElem?_toArray]; exact (momC_get hi).2.2)
theorem MBk.p0 (h : MBk w b ms) {i : Nat} (hi : i < ms.length) (x : Bool) : MBk (w.setCell ⟨b, i * 3, none⟩ (.bool x)) b (ms.set i ⟨x, (ms.getD i default).lower, (ms.getD i default).holds⟩) := by
  have := Bk.put h (i * 3) (.bool x)
  rw [List.setIfInBounds_toArray, (momC_set hi).1] at this
  exact this
theorem MBk.p1 (h : MBk w b ms) {i : Nat} (hi : i < ms.length) (x : Bool) : MBk (w.setCell ⟨b, i * 3 + 1, none⟩ (.bool x)) b (ms.set i ⟨(ms.getD i default).ran, x, (ms.getD i default).holds⟩) := by
  have := Bk.put h (i * 3 + 1) (.bool x)
  rw [List.setIfInBounds_toArray, (momC_set hi).2.1] at this
  exact this
theorem MBk.p2 (h : MBk w b ms) {i : Nat} (hi : i < ms.length) (z : Int) : MBk (w.setCell ⟨b, i * 3 + 2, none⟩ (.int .i64 z)) b (ms.set i ⟨(ms.getD i default).ran, (ms.getD i default).lower, z⟩) := by
  have := Bk.put h (i * 3 + 2) (.int .i64 z)
  rw [List.setIfInBounds_toArray, (momC_set hi).2.2] at this
  exact this
end
theorem getD_set_self {ms : List MomM} {i : Nat} (hi : i < ms.length) (a : MomM) : (ms.set i a).getD i default = a := by simp [List.getD, hi]
theorem infoMom : (Try.prog.info? 71).map (fun i => (i.zero, i.size, i.bytes)) = some (some (.agg #[.bool false, .bool false, .int .i64 0]), 3, 16) := by kernel_rfl
theorem made_mom (N : Nat) : madeCells #[Value.bool false, .bool false, .int .i64 0] (N * 3) = (momC (mom0 N)).toArray := by
  have hl : (mom0 N).length = N := by unfold mom0; simp
  refine Array.ext (by simp [madeCells, momC_len, hl]) (fun j h1 h2 => ?_)
  have hj : j < N * 3 := by simpa [madeCells] using h1
  have hi : j / 3 < (mom0 N).length := by rw [hl]; omega
  have hg : (mom0 N).getD (j / 3) default = ⟨false, false, 0⟩ := by unfold mom0; rw [hl] at hi; simp [List.getD, hi]
  have h := momC_get hi
  rw [hg] at h
  have e : j = j / 3 * 3 + j % 3 := by omega
  have h3 : j % 3 = 0 ∨ j % 3 = 1 ∨ j % 3 = 2 := by omega
  rw [← Option.some_inj, ← Array.getElem?_eq_getElem, ← Array.getElem?_eq_getElem]
  have hL : (madeCells #[Value.bool false, .bool false, .int .i64 0] (N * 3))[j]? = some (#[Value.bool false, .bool false, .int .i64 0][j % 3]!) := by simp [madeCells, hj]
  rw [hL, List.getElem?_toArray]
  rcases h3 with h3 | h3 | h3
  · rw [h3]; rw [h3] at e; rw [e]; exact h.1.symm
  · rw [h3]; rw [h3] at e; rw [e]; exact h.2.1.symm
  · rw [h3]; rw [h3] at e; rw [e]; exact h.2.2.symm
theorem make_mom (N : Nat) (hN : N ≤ 20001) (W : World) : (Instr.makeSlice 68 (.int .i64 (N : Int)) (.int .i64 (N : Int))).run Try.prog W = .ok (.slice (some ⟨W.heap.size, 0, none⟩) N N) (W.alloc (.cells (momC (mom0 N)).toArray 71)) := by
  obtain ⟨i0, hi0, hy0, hy1, hy2⟩ := info_parts infoMom
  have h := run_make (P := Try.prog) (w := W) _ _ i0 _ Try.underlying68 hi0 hy0 .i64 .i64 N N (by omega) (by omega) (by rw [hy2]; omega) (by omega)
  rw [Int.toNat_natCast, hy1] at h
  rw [h, ← made_mom]
  rfl
end Go.Proofs.Ytmchjmgifipfoaa
