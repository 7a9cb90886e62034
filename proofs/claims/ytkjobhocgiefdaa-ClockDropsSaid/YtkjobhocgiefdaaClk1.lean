/- clock: a spoke on the heap: its rows, its bell; ring. -/
import Derived.Test.YtkjobhocgiefdaaComm
import Derived.Conc.SmallLaws
import Derived.Deep.LoopGhost
import Derived.Deep.QuietTactic
import Derived.BigQuiet
import Derived.Outline
import Derived.Deep.CutRange
namespace Go.Proofs.Ytkjobhocgiefdaa
open Go.ChangeShapes Go.WideShapes Go.ChangeAt Go.RowKit Go.Conc
set_option linter.unusedVariables false
set_option linter.unusedSimpArgs false
structure DueM where
  time : Int
  id : Int
deriving DecidableEq
instance : Inhabited DueM := ⟨⟨0, 0⟩⟩
def DueM.wf (d : DueM) : Prop := I64 d.time ∧ I64 d.id
def dtc (ps : List DueM) : List Value := ps.flatMap fun p => [.int .i64 p.time, .int .i64 p.id]
theorem dtc_len (ps : List DueM) : (dtc ps).length = ps.length * 2 := by
  induction ps with
  | nil => rfl
  | cons p ps ih => simp only [dtc, List.flatMap_cons, List.length_append, List.length_cons, List.length_nil] at *; omega
theorem dtc_append (a b : List DueM) : dtc (a ++ b) = dtc a ++ dtc b := by simp [dtc]
theorem dtc_one (ps : List DueM) : ∀ u ∈ dtc ps, u.oneCell' = true := fun u hu => by
  obtain ⟨p, _, h⟩ := List.mem_flatMap.1 hu
  simp at h
  rcases h with rfl | rfl <;> rfl
theorem dtc_drop (ps : List DueM) (k : Nat) : (dtc ps).drop (k * 2) = dtc (ps.drop k) := by
  induction k generalizing ps with
  | zero => simp
  | succ k ih =>
    cases ps with
    | nil => simp [dtc]
    | cons p ps =>
      rw [show (k + 1) * 2 = k * 2 + 1 + 1 by omega]
      simp only [dtc, List.flatMap_cons, List.cons_append, List.nil_append, List.drop_succ_cons]
      exact ih ps
theorem dtc_at (ps : List DueM) (k : Nat) (hk : k < ps.length) : (dtc ps)[k * 2]? = some (.int .i64 (ps.getD k default).time) ∧ (dtc ps)[k * 2 + 1]? = some (.int .i64 (ps.getD k default).id) := by
  have h := dtc_drop ps k
  rw [List.drop_eq_getElem_cons hk] at h
  have h0 := congrArg (fun l => l[0]?) h
  have h1 := congrArg (fun l => l[1]?) h
  simp only [List.getElem?_drop, Nat.add_zero] at h0 h1
  have hg : ps.getD k default = ps[k] := by simp [List.getD, hk]
  rw [hg, h0, h1]
  exact ⟨rfl, rfl⟩
def DueCells (w : World) (b off : Nat) (p : DueM) : Prop := w.cell? ⟨b, off, none⟩ = some (.int .i64 p.time) ∧ w.cell? ⟨b, off + 1, none⟩ = some (.int .i64 p.id)
def DuesAt (w : World) (a : Option Addr) (ps : List DueM) : Prop := ps = [] ∨ ∃ b off, a = some ⟨b, off, none⟩ ∧ ∀ i, i < ps.length → DueCells w b (off + i * 2) (ps.getD i default)
theorem dues_lie {B : Nat} {w : World} {A : Option Addr} {ps : List DueM} (h : Lies B w A (dtc ps)) : DuesAt w A ps := by
  rcases h with h | ⟨b, off, rfl, _, hc⟩
  · left
    have := congrArg List.length h
    rw [dtc_len] at this
    exact List.eq_nil_of_length_eq_zero (by simp at this; omega)
  · refine .inr ⟨b, off, rfl, fun i hi => ?_⟩
    obtain ⟨a0, a1⟩ := dtc_at ps i hi
    exact ⟨hc _ _ a0, by have := hc _ _ a1; rwa [← Nat.add_assoc] at this⟩
theorem infoDue : (Try.prog.info? 31).map (fun i => (i.zero, i.size, i.bytes)) = some (some (.agg #[.int .i64 0, .int .i64 0]), 2, 16) := by kernel_rfl
theorem infoVoid : (Try.prog.info? 59).map (fun i => (i.zero, i.size, i.bytes)) = some (some (.agg #[]), 0, 0) := by kernel_rfl
theorem make_bell (w : World) : (Instr.makeChan 50 (.int .i64 64)).run Try.prog w = .ok (.chan (some w.heap.size)) (w.alloc (.chan 64 #[] false 0 0 false)) := by
  obtain ⟨i, hi, hz, hs, hb⟩ := info_parts infoVoid
  simpa using run_makeChan (P := Try.prog) (w := w) Try.underlying50 hi .i64 64 (by omega) (by rw [hb]; omega)
theorem bell_none (w : World) : (binOp .eql 50 (.chan none) (.chan none)).run Try.prog w = .ok (.bool true) w := by kernel_rfl
theorem bell_some (c : Nat) (w : World) : (binOp .eql 50 (.chan (some c)) (.chan none)).run Try.prog w = .ok (.bool false) w := by kernel_rfl
/-- a row of dues of the clock's own -/
structure OwnD (w : World) (A : Option Addr) (c : Nat) (ps : List DueM) : Prop where
  own : w.ownsRow 0 31 2 (.slice A ps.length c) ps.length (dtc ps)
  cap : ps.length ≤ c ∧ c ≤ maxLen
  nil : A = none → ps = [] ∧ c = 0
theorem OwnD.turned {F : List Nat} {w w' : World} {A : Option Addr} {c : Nat} {ps : List DueM} (h : OwnD w A c ps) (ht : Turned F w w') (hF : ∀ k ∈ fp A, k ∉ F) : OwnD w' A c ps := ⟨own_turned h.own ht hF, h.cap, h.nil⟩
theorem OwnD.dues {w : World} {A : Option Addr} {c : Nat} {ps : List DueM} (h : OwnD w A c ps) : DuesAt w A ps := dues_lie (Lies.of_own h.own)
theorem OwnD.lt {w : World} {A : Option Addr} {c : Nat} {ps : List DueM} (h : OwnD w A c ps) : ∀ k ∈ fp A, k < w.heap.size := fun k hk => (own_fp h.own k hk).2
theorem OwnD.empty (w : World) : OwnD w none 0 [] := ⟨World.ownsRow_nil _ _ _ _, by decide, fun _ => ⟨rfl, rfl⟩⟩
/-- the bell holds k rings -/
def BellOk (w : World) (bell : Option Nat) (k : Nat) : Prop := (bell = none ∧ k = 0) ∨ ∃ c s r, bell = some c ∧ w.heap[c]? = some (.chan 64 (Array.replicate k (.agg #[])) false s r false)
theorem BellOk.turned {F : List Nat} {w w' : World} {bell : Option Nat} {k : Nat} (h : BellOk w bell k) (ht : Turned F w w') (hF : ∀ c ∈ bell.toList, c ∉ F) : BellOk w' bell k := by
  rcases h with h | ⟨c, s, r, rfl, hc⟩
  · exact .inl h
  · refine .inr ⟨c, s, r, rfl, ?_⟩
    rw [ht.block c (Array.getElem?_eq_some_iff.1 hc).1 (hF c (by simp))]
    exact hc
theorem BellOk.lt {w : World} {bell : Option Nat} {k : Nat} (h : BellOk w bell k) : ∀ c ∈ bell.toList, c < w.heap.size := by
  rcases h with ⟨rfl, _⟩ | ⟨c, s, r, rfl, hc⟩
  · simp
  · intro c' h'
    simp at h'
    subst h'
    exact (Array.getElem?_eq_some_iff.1 hc).1
theorem cellsNew (w : World) (cs : List Value) (T : TypeId) : Lies (w.heap.size + 1) (w.alloc (.cells cs.toArray T)) (some ⟨w.heap.size, 0, none⟩) cs := by
  refine .inr ⟨_, 0, rfl, by omega, fun j v hj => ?_⟩
  have := (Bk.new w T cs.toArray).cell j
  rw [Nat.zero_add, this]
  simpa using hj
structure SpM where
  A : Option Addr
  c : Nat
  rows : List DueM
  bell : Option Nat
  k : Nat
def SpM.fp (m : SpM) : List Nat := Go.Proofs.Ytkjobhocgiefdaa.fp m.A ++ m.bell.toList
def SpM.nil : SpM := ⟨none, 0, [], none, 0⟩
/-- a spoke lies in the cells q and q + 1 of block b -/
structure Sp (w : World) (b q : Nat) (T : TypeId) (cs : Array Value) (m : SpM) : Prop where
  blk : Bk w b T cs
  rows : cs[q]? = some (.slice m.A m.rows.length m.c)
  bell : cs[q + 1]? = some (.chan m.bell)
  own : OwnD w m.A m.c m.rows
  bok : BellOk w m.bell m.k
  ne : b ∉ m.fp
  ab : ∀ c ∈ m.bell.toList, c ∉ fp m.A
theorem Sp.fps {w : World} {b q : Nat} {T : TypeId} {cs : Array Value} {m : SpM} (h : Sp w b q T cs m) : ∀ k ∈ m.fp, k < w.heap.size := fun k hk => by
  rcases List.mem_append.1 hk with h1 | h1
  · exact h.own.lt k h1
  · exact h.bok.lt k h1
theorem Sp.size {w : World} {b q : Nat} {T : TypeId} {cs : Array Value} {m : SpM} (h : Sp w b q T cs m) : q + 1 < cs.size := by
  have := h.bell
  by_cases h : q + 1 < cs.size
  · exact h
  · rw [Array.getElem?_eq_none (by omega)] at this; cases this
/-- what becomes of a spoke: its block's cells q and q + 1 alone, its own blocks, blocks made anew -/
structure SpPost (w : World) (b q : Nat) (T : TypeId) (cs : Array Value) (m m' : SpM) (w' : World) : Prop where
  sp : Sp w' b q T ((cs.setIfInBounds q (.slice m'.A m'.rows.length m'.c)).setIfInBounds (q + 1) (.chan m'.bell)) m'
  turned : Turned (b :: m.fp) w w'
  fps : ∀ k ∈ m'.fp, k ∈ m.fp ∨ w.heap.size ≤ k
theorem set_same {cs : Array Value} {i : Nat} {v : Value} (h : cs[i]? = some v) : cs.setIfInBounds i v = cs := by
  refine Array.ext' ?_
  rw [Array.toList_setIfInBounds]
  have h2 : cs.toList[i]? = some v := by rw [Array.getElem?_toList]; exact h
  obtain ⟨hi, hv⟩ := List.getElem?_eq_some_iff.1 h2
  rw [← hv, List.set_getElem_self]
theorem rep_push (k : Nat) (v : Value) : (Array.replicate k v).push v = Array.replicate (k + 1) v := by simp [Array.replicate_succ]
theorem ring_any {w : World} {b q : Nat} {T : TypeId} {cs : Array Value} {m : SpM} (h : Sp w b q T cs m) (hk : m.k < 64) :
    Calls Try.prog 21 #[.pointer (some ⟨b, q, none⟩)] w fun e w' => e = .returned (.tuple #[]) ∧ ∃ bl, SpPost w b q T cs m ⟨m.A, m.c, m.rows, bl, m.k + 1⟩ w' := by
  have hmc := make_bell
  have cB := (h.blk.cell (q + 1)).trans h.bell
  have fB := h.blk.frozen (q + 1)
  have HS := hidp h.size
  obtain ⟨A, c, rows, bell, k⟩ := m
  dsimp only at *
  rcases h.bok with ⟨h1, h2⟩ | ⟨ch, s, r, h1, h2⟩
  · dsimp only at h1 h2
    subst h1
    subst h2
    have hbs := bell_none
    have H := hidp h
    have HL := hidp h.blk.lt
    have hb1 := h.blk.alloc (.chan 64 #[] false 0 0 false)
    have cB1 := (hb1.cell (q + 1)).trans h.bell
    have fB1 := hb1.frozen (q + 1)
    have hg : (w.alloc (.chan 64 #[] false 0 0 false)).heap[w.heap.size]? = some (.chan 64 #[] false 0 0 false) := heap_alloc_new w _
    clear h
    go_enter Try.func21, Try.ntmps21
    go_upto_region 2 with fail
    refine wpS_region [0, 1, 2, 3, 4, 5] (by rfl) ?_
    refine wpS_quick (v := ?_) rfl rfl ?_ ?_
    rotate_left 1
    · (go_simp; (try with_reducible rfl))
    simp only [Act.put, List.setIfInBounds_toArray, List.set_cons_zero, List.set_cons_succ, List.getElem_toArray, List.getElem_cons_zero, List.getElem_cons_succ]
    refine wpS_quick (v := ?_) rfl rfl ?_ ?_
    rotate_left 1
    · (go_simp; (try with_reducible rfl))
    simp only [Act.put, List.setIfInBounds_toArray, List.set_cons_zero, List.set_cons_succ, List.getElem_toArray, List.getElem_cons_zero, List.getElem_cons_succ]
    refine wpS_quick (v := ?_) rfl rfl ?_ ?_
    rotate_left 1
    · (go_simp; (try with_reducible rfl))
    simp only [Act.put, List.setIfInBounds_toArray, List.set_cons_zero, List.set_cons_succ, List.getElem_toArray, List.getElem_cons_zero, List.getElem_cons_succ]
    refine wpS_quick (v := ?_) rfl rfl ?_ ?_
    rotate_left 1
    · (go_simp; (try with_reducible rfl))
    simp only [Act.put, List.setIfInBounds_toArray, List.set_cons_zero, List.set_cons_succ, List.getElem_toArray, List.getElem_cons_zero, List.getElem_cons_succ]
    refine wpS_quick (v := ?_) rfl rfl ?_ ?_
    rotate_left 1
    · (go_simp; (try with_reducible rfl))
    simp only [Act.put, List.setIfInBounds_toArray, List.set_cons_zero, List.set_cons_succ, List.getElem_toArray, List.getElem_cons_zero, List.getElem_cons_succ]
    have hne : b ≠ w.heap.size := Nat.ne_of_lt HL.out
    have hg2 : ((w.alloc (.chan 64 #[] false 0 0 false)).setCell ⟨b, q + 1, none⟩ (.chan (some w.heap.size))).heap[w.heap.size]? = some (.chan 64 #[] false 0 0 false) := (Below.heap_setCell _ ⟨b, q + 1, none⟩ _ _ (Ne.symm hne)).trans hg
    refine wpS_send (c := w.heap.size) (v := .agg #[]) (z' := .tuple #[]) (cap := 64) (buf := #[]) (s := 0) (r := 0) (tm := false) rfl rfl (by simp [go_sem, execOp, scase, Act.eval]) hg2 (by decide) ?_
    refine wpS_done ?_
    go_end0
    have h := H.out
    have ht0 : Turned [b] w ((w.alloc (.chan 64 #[] false 0 0 false)).setCell ⟨b, q + 1, none⟩ (.chan (some w.heap.size))) := ((Turned.refl [b] w).alloc _).setCell (.inl (by simp)) _
    have ht1 := ht0.setChan (c := w.heap.size) (.inr (Nat.le_refl _)) 64 #[.agg #[]] false 1 0 false
    have hbk : Bk _ b T (cs.setIfInBounds (q + 1) (.chan (some w.heap.size))) := hb1.put (q + 1) (.chan (some w.heap.size))
    have hbk2 := hbk.turned (F := [w.heap.size]) ((Turned.refl _ _).setChan (c := w.heap.size) (.inl (by simp)) 64 #[.agg #[]] false 1 0 false) (by simpa using hne)
    refine ⟨rfl, some w.heap.size, ?_, ht1.mono (fun k hk => .inl (by simp at hk; simp [hk])), fun k hk => ?_⟩
    · rw [set_same h.rows]
      refine ⟨hbk2, ?_, ?_, h.own.turned ht1 (fun k hk => ?_), .inr ⟨w.heap.size, 1, 0, rfl, ?_⟩, ?_, ?_⟩
      · rw [Array.getElem?_setIfInBounds, if_neg (by omega)]; exact h.rows
      · rw [Array.getElem?_setIfInBounds, if_pos rfl, if_pos HS.out]
      · simp
        intro e
        subst e
        exact h.ne (by simp [SpM.fp, hk])
      · exact heap_setChan _ _ _ _ _ _ _ _ (by simp)
      · simp [SpM.fp]
        exact ⟨fun hh => h.ne (by simp [SpM.fp, hh]), hne⟩
      · intro c' hc' hh
        simp at hc'
        subst hc'
        exact absurd (h.own.lt _ hh) (by omega)
    · simp [SpM.fp] at hk ⊢
      rcases hk with hk | hk
      · exact .inl hk
      · exact .inr (by omega)
  · dsimp only at h1 h2
    subst h1
    have H := hidp h
    clear h hmc
    have hbs := bell_some ch
    go_enter Try.func21, Try.ntmps21
    go_upto_region 2 with fail
    refine wpS_region [0, 1, 2, 3, 4, 5] (by rfl) ?_
    refine wpS_quick (v := ?_) rfl rfl ?_ ?_
    rotate_left 1
    · (go_simp; (try with_reducible rfl))
    simp only [Act.put, List.setIfInBounds_toArray, List.set_cons_zero, List.set_cons_succ, List.getElem_toArray, List.getElem_cons_zero, List.getElem_cons_succ]
    refine wpS_quick (v := ?_) rfl rfl ?_ ?_
    rotate_left 1
    · (go_simp; (try with_reducible rfl))
    simp only [Act.put, List.setIfInBounds_toArray, List.set_cons_zero, List.set_cons_succ, List.getElem_toArray, List.getElem_cons_zero, List.getElem_cons_succ]
    refine wpS_quick (v := ?_) rfl rfl ?_ ?_
    rotate_left 1
    · (go_simp; (try with_reducible rfl))
    simp only [Act.put, List.setIfInBounds_toArray, List.set_cons_zero, List.set_cons_succ, List.getElem_toArray, List.getElem_cons_zero, List.getElem_cons_succ]
    refine wpS_quick (v := ?_) rfl rfl ?_ ?_
    rotate_left 1
    · (go_simp; (try with_reducible rfl))
    simp only [Act.put, List.setIfInBounds_toArray, List.set_cons_zero, List.set_cons_succ, List.getElem_toArray, List.getElem_cons_zero, List.getElem_cons_succ]
    refine wpS_quick (v := ?_) rfl rfl ?_ ?_
    rotate_left 1
    · (go_simp; (try with_reducible rfl))
    simp only [Act.put, List.setIfInBounds_toArray, List.set_cons_zero, List.set_cons_succ, List.getElem_toArray, List.getElem_cons_zero, List.getElem_cons_succ]
    refine wpS_send (c := ch) (v := .agg #[]) (z' := .tuple #[]) (cap := 64) (buf := Array.replicate k (.agg #[])) (s := s) (r := r) (tm := false) rfl rfl (by simp [go_sem, execOp, scase, Act.eval]) h2 (by simpa using hk) ?_
    refine wpS_done ?_
    go_end0
    refine ⟨rfl, some ch, ?_, (Turned.refl _ w).setChan (.inl (by simp [SpM.fp])) _ _ _ _ _ _, fun k hk => .inl hk⟩
    have h := H.out
    rw [set_same h.rows, set_same h.bell]
    have hne : b ≠ ch := fun e => h.ne (by simp [SpM.fp, e])
    have hlt := (Array.getElem?_eq_some_iff.1 h2).1
    have ht : Turned [ch] w (w.setChan ch 64 ((Array.replicate k (Value.agg #[])).push (.agg #[])) false (s + 1) r false) := (Turned.refl _ w).setChan (.inl (by simp)) _ _ _ _ _ _
    exact ⟨h.blk.turned ht (by simpa using hne), h.rows, h.bell, h.own.turned ht (fun k hk => by simp; intro e; subst e; exact h.ab k (by simp) hk), .inr ⟨ch, s + 1, r, rfl, by rw [← rep_push]; exact heap_setChan _ _ _ _ _ _ _ _ hlt⟩, h.ne, h.ab⟩
end Go.Proofs.Ytkjobhocgiefdaa
