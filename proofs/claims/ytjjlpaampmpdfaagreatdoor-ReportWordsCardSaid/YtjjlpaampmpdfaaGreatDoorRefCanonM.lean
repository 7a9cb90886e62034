/- swingbridgeref7: Order, With, Move. -/
import Derived.Test.YtjjlpaampmpdfaaGreatDoorTask5
import Derived.Test.YtjjlpaampmpdfaaGreatDoorSound
import Derived.Test.YtjjlpaampmpdfaaGreatDoorOwnT
import Derived.Test.YtjjlpaampmpdfaaGreatDoorOwnPut
import Derived.Test.YtjjlpaampmpdfaaGreatDoorReg
import Derived.Test.YtjjlpaampmpdfaaGreatDoorSortMath
import Derived.Test.YtjjlpaampmpdfaaGreatDoorUp
import Derived.Test.YtjjlpaampmpdfaaGreatDoorWordsName
import Derived.Test.YtjjlpaampmpdfaaGreatDoorShelf
import Derived.Lib.ItoaMem
import Derived.Lib.ItoaLen
import Derived.Deep.Cut
import Derived.Test.YtjjlpaampmpdfaaGreatDoorCards
import Derived.Test.YtjjlpaampmpdfaaGreatDoorTie
import Derived.SevenTiedAt
import Derived.Deep.DeepHandedRow
import Derived.Lib.LaidTab
import Derived.ProofKit
import Derived.SliceStrings
import Derived.Stop.LaidErr
import Derived.MakeChecks
import Derived.Lib.SmallJoins
import Derived.Test.YtjjlpaampmpdfaaGreatDoorAdmitNums
import Derived.Shelf.Spec.SlicesInsert
import Derived.Shelf.Spec.SlicesInsertGrow
import Derived.Test.YtjjlpaampmpdfaaGreatDoorOwn
import Derived.Deep.LoopGhost
import Derived.IntWalk
import Derived.Test.YtjjlpaampmpdfaaGreatDoorRef7a
namespace Go.Proofs.YtjjlpaampmpdfaaGreatDoor
open Go.ChangeShapes Go.WideShapes Go.ChangeAt Go.RowKit
set_option linter.unusedVariables false
theorem ext_getD {xs ys : List Int} {n : Nat} (h1 : xs.length = n) (h2 : ys.length = n) (h : ∀ j, j < n → xs.getD j 0 = ys.getD j 0) : xs = ys := by
  apply List.ext_getElem (by omega)
  intro i a b
  have := h i (by omega)
  simpa [List.getD, a, b] using this
theorem ne_getD {xs ys : List Int} {k : Nat} (h : xs.getD k 0 ≠ ys.getD k 0) : xs ≠ ys := fun e => h (by rw [e])

set_option maxHeartbeats 1000000 in
theorem eqI_any (xs ys : List Int) (A A' : Option Addr) (c c' : Nat) (w : World) (hx : IntsOk w A c xs) (hy : IntsOk w A' c' ys) : Calls Tryz.prog 42 #[.slice A xs.length c, .slice A' ys.length c'] w fun e w' => e = .returned (.bool (decide (xs = ys))) ∧ Qt w w' := by
  have l1 : xs.length ≤ maxLen := Nat.le_trans hx.sl.2.1 hx.sl.2.2
  have l2 : ys.length ≤ maxLen := Nat.le_trans hy.sl.2.1 hy.sl.2.2
  unfold maxLen at l1 l2
  have H1 := hidp hx.at_
  have H2 := hidp hy.at_
  clear hx hy
  obtain ⟨n, hn⟩ : ∃ n, xs.length = n := ⟨_, rfl⟩
  obtain ⟨m, hm⟩ : ∃ m, ys.length = m := ⟨_, rfl⟩
  rw [hn] at l1
  rw [hm] at l2
  rw [hn, hm]
  obtain ⟨b, hb⟩ : ∃ b, decide (xs = ys) = b := ⟨_, rfl⟩
  rw [hb]
  have Hb := hidp hb
  have Hn := hidp hn
  have Hm := hidp hm
  clear hb hn hm
  by_cases e : n = m
  · subst e
    go_enter Tryz.func42, Tryz.ntmps42
    go_wp2
    go_loopg [13] n (fun g i wr => ∃ k : Nat, k + g = n ∧ i = .int .i64 k ∧ Hid (∀ j, j < k → xs.getD j 0 = ys.getD j 0) ∧ Qt w wr)
    case atStart => exact ⟨0, by omega, rfl, hidp (by omega), Qt.refl w⟩
    case round =>
      obtain ⟨k, hk, rfl, Ho, hq⟩ := hrel
      by_cases hlt : k < n
      · obtain ⟨g, off, hA, hc⟩ := H1.out.resolve_left (by intro e; have := Hn.out; rw [e] at this; simp at this; omega)
        obtain ⟨g', off', hA', hc'⟩ := H2.out.resolve_left (by intro e; have := Hm.out; rw [e] at this; simp at this; omega)
        subst hA
        subst hA'
        obtain ⟨x, HX⟩ : ∃ x, Hid (xs.getD k 0 = x) := ⟨_, rfl⟩
        obtain ⟨y, HY⟩ : ∃ y, Hid (ys.getD k 0 = y) := ⟨_, rfl⟩
        have c1 := hq.cell (HX.out ▸ hc k (by rw [Hn.out]; exact hlt))
        have c2 := hq.cell (HY.out ▸ hc' k (by rw [Hm.out]; exact hlt))
        clear hc hc'
        by_cases hxy : x = y
        · have Hs : Hid (∀ j, j < k + 1 → xs.getD j 0 = ys.getD j 0) := hidp (fun j hj => by
            by_cases e : j = k
            · subst e; rw [HX.out, HY.out]; exact hxy
            · exact Ho.out j (by omega))
          have t1 : (x != y) = false := by simp [hxy]
          clear hxy
          go_wp2
          go_quiet (fail)
          go_wp2
          go_roundg (gk - 1)
          case measure => omega
          case rel => exact ⟨k + 1, by omega, by go_num, Hs, hq.add _⟩
        · have Hs : Hid (b = false) := hidp (by rw [← Hb.out]; exact decide_eq_false (ne_getD (k := k) (by rw [HX.out, HY.out]; exact hxy)))
          have t1 : (x != y) = true := by simp [hxy]
          clear hxy
          go_wp2
          go_quiet (fail)
          go_wp2
          go_ret
          exact ⟨ret_bool Hs.out.symm, hq.add _⟩
      · have Hs : Hid (b = true) := hidp (by rw [← Hb.out]; exact decide_eq_true (ext_getD Hn.out Hm.out (fun j hj => Ho.out j (by omega))))
        go_wp2
        go_ret
        exact ⟨ret_bool Hs.out.symm, hq⟩
  · have Hs : Hid (b = false) := hidp (by rw [← Hb.out]; exact decide_eq_false (fun h => e (by rw [← Hn.out, ← Hm.out, h])))
    have t1 : ((n : Int) != (m : Int)) = true := by simp; omega
    clear e
    go_enter Tryz.func42, Tryz.ntmps42
    go_wp2
    go_ret
    exact ⟨ret_bool Hs.out.symm, Qt.refl w⟩
end Go.Proofs.YtjjlpaampmpdfaaGreatDoor

namespace Go.Proofs.YtjjlpaampmpdfaaGreatDoor
open Go.ChangeShapes Go.WideShapes Go.ChangeAt Go.RowKit
set_option linter.unusedVariables false
deriving instance DecidableEq for PartM
theorem ext_getP {α : Type} [Inhabited α] {xs ys : List α} {n : Nat} (h1 : xs.length = n) (h2 : ys.length = n) (h : ∀ j, j < n → xs.getD j default = ys.getD j default) : xs = ys := by
  apply List.ext_getElem (by omega)
  intro i a b
  have := h i (by omega)
  simpa [List.getD, a, b] using this
theorem ne_getP {α : Type} [Inhabited α] {xs ys : List α} {k : Nat} (h : xs.getD k default ≠ ys.getD k default) : xs ≠ ys := fun e => h (by rw [e])

end Go.Proofs.YtjjlpaampmpdfaaGreatDoor

namespace Go.Proofs.YtjjlpaampmpdfaaGreatDoor
open Go.ChangeShapes Go.WideShapes Go.ChangeAt Go.RowKit
set_option linter.unusedVariables false
set_option linter.unusedSimpArgs false
def sameT (t u : TaskR) : Bool := t.name.toList == u.name.toList && (t.per == u.per && (t.dl == u.dl && (t.prio == u.prio && (t.cl == u.cl && decide (t.parts = u.parts)))))

end Go.Proofs.YtjjlpaampmpdfaaGreatDoor

namespace Go.Proofs.YtjjlpaampmpdfaaGreatDoor
open Go.ChangeShapes Go.WideShapes Go.ChangeAt Go.RowKit
set_option linter.unusedVariables false
def sameTs (xs ys : List TaskR) : Bool := decide (xs.length = ys.length) && (List.range xs.length).all fun k => sameT (xs.getD k default) (ys.getD k default)
theorem sameTs_true {xs ys : List TaskR} (h : xs.length = ys.length) (hk : ∀ k, k < xs.length → sameT (xs.getD k default) (ys.getD k default) = true) : sameTs xs ys = true := by
  unfold sameTs
  rw [decide_eq_true h, Bool.true_and, List.all_eq_true]
  intro k hm
  exact hk k (List.mem_range.1 hm)
theorem sameTs_at {xs ys : List TaskR} {k : Nat} (hk : k < xs.length) (h : sameT (xs.getD k default) (ys.getD k default) = false) : sameTs xs ys = false := by
  rw [← Bool.not_eq_true]
  intro e
  unfold sameTs at e
  rw [Bool.and_eq_true, List.all_eq_true] at e
  rw [e.2 k (List.mem_range.2 hk)] at h
  cases h
theorem sameTs_len {xs ys : List TaskR} (h : xs.length ≠ ys.length) : sameTs xs ys = false := by
  unfold sameTs
  rw [decide_eq_false h, Bool.false_and]

end Go.Proofs.YtjjlpaampmpdfaaGreatDoor

namespace Go.Proofs.YtjjlpaampmpdfaaGreatDoor
open Go.ChangeShapes Go.WideShapes Go.ChangeAt Go.RowKit
set_option linter.unusedVariables false
set_option linter.unusedSimpArgs false
def sameS (s t : SetR) : Bool := s.proto == t.proto && (decide (s.cores = t.cores) && (decide (s.homes = t.homes) && sameTs s.tasks t.tasks))

end Go.Proofs.YtjjlpaampmpdfaaGreatDoor

namespace Go.Proofs.YtjjlpaampmpdfaaGreatDoor
open Go.ChangeShapes Go.WideShapes Go.ChangeAt Go.RowKit
set_option linter.unusedVariables false
set_option linter.unusedSimpArgs false

theorem infoC : (Tryz.prog.info? 3).map (fun i => (i.zero, i.size, i.bytes)) = some (some (.int .i64 0), 1, 8) := by kernel_rfl
/-- two tasks are alike, wherever their parts lie -/
def sameF (a b : TaskR) : Prop := a.name = b.name ∧ a.per = b.per ∧ a.dl = b.dl ∧ a.prio = b.prio ∧ a.cl = b.cl ∧ a.parts = b.parts
theorem sameF.refl (a : TaskR) : sameF a a := ⟨rfl, rfl, rfl, rfl, rfl, rfl⟩
theorem sameF.T {a b : TaskR} (h : sameF a b) : sameT a b = true := by
  obtain ⟨h0, h1, h2, h3, h4, h5⟩ := h
  unfold sameT; rw [h0, h1, h2, h3, h4, h5]; simp
/-- few enough to be copied -/
structure FewS (s : SetR) : Prop where
  cores : s.cores.length ≤ 1000
  homes : s.homes.length ≤ 1000
  tasks : s.tasks.length ≤ 1000
  parts : ∀ t ∈ s.tasks, t.parts.length ≤ 1000
/-- x is alike s; its slices are its own, from block B on -/
structure CopyOf (B : Nat) (w' : World) (s x : SetR) : Prop where
  proto : x.proto = s.proto
  cores : x.cores = s.cores
  homes : x.homes = s.homes
  len : x.tasks.length = s.tasks.length
  like : ∀ j, j < s.tasks.length → sameF (x.tasks.getD j default) (s.tasks.getD j default)
  oc : OwnN B w' x.ca x.cores.length x.cc x.cores
  oh : OwnN B w' x.ha x.homes.length x.hc x.homes
  ot : OwnT B w' x.ta x.tasks.length x.tc x.tasks
  op : ∀ j, j < x.tasks.length → OwnP B w' (x.tasks.getD j default).pa (x.tasks.getD j default).parts.length (x.tasks.getD j default).pc (x.tasks.getD j default).parts
  s1 : ∀ a ∈ fp x.ca, ∀ b ∈ fp x.ha, a < b
  s2 : ∀ a ∈ fp x.ca ++ fp x.ha, ∀ b ∈ fp x.ta, a < b
  s3 : ∀ j, j < x.tasks.length → ∀ a ∈ fp x.ca ++ (fp x.ha ++ fp x.ta), ∀ b ∈ fp (x.tasks.getD j default).pa, a < b
  s4 : ∀ j k, j < k → k < x.tasks.length → ∀ a ∈ fp (x.tasks.getD j default).pa, ∀ b ∈ fp (x.tasks.getD k default).pa, a < b
theorem OwnN.low {B B' : Nat} {w : World} {A : Option Addr} {n c : Nat} {zs : List Int} (h : OwnN B w A n c zs) (hB : B' ≤ B) : OwnN B' w A n c zs := ⟨own_base h.own (fun k hk => Nat.le_trans hB (h.own.lt k hk).1), h.len, h.cap, h.nil⟩
theorem OwnP.low {B B' : Nat} {w : World} {A : Option Addr} {n c : Nat} {ps : List PartM} (h : OwnP B w A n c ps) (hB : B' ≤ B) : OwnP B' w A n c ps := ⟨own_base h.own (fun k hk => Nat.le_trans hB (h.own.lt k hk).1), h.len, h.cap, h.nil⟩
theorem OwnP.sl {B : Nat} {w : World} {A : Option Addr} {c : Nat} {ps : List PartM} (h : OwnP B w A ps.length c ps) : SlOk A ps.length c := ⟨h.nil, h.cap⟩
theorem CopyOf.ok {B : Nat} {w w' : World} {s x : SetR} (h : CopyOf B w' s x) (hs : SetOk w s) : SetOk w' x := by
  refine ⟨h.proto ▸ hs.proto, h.oc.ok (by rw [h.cores]; exact hs.cores.wf), h.oh.ok (by rw [h.homes]; exact hs.homes.wf), ⟨h.ot.sl, h.ot.tasks, fun t ht => ?_⟩⟩
  obtain ⟨j, hj, rfl⟩ := mem_getD ht
  have hj2 : j < s.tasks.length := by rw [← h.len]; exact hj
  obtain ⟨l0, l1, l2, l3, l4, l5⟩ := h.like j hj2
  have o := hs.tasks.ok _ (getD_mem hj2)
  have p := h.op j hj
  exact ⟨l0 ▸ o.name, l1 ▸ o.per, l2 ▸ o.dl, l3 ▸ o.prio, l4 ▸ o.cl, p.sl, p.parts, by rw [l5]; exact o.wf⟩
theorem CopyOf.same {B : Nat} {w' : World} {s x : SetR} (h : CopyOf B w' s x) : sameS x s = true := by
  unfold sameS
  rw [h.proto, h.cores, h.homes, sameTs_true h.len (fun k hk => (h.like k (by rw [← h.len]; exact hk)).T)]
  simp
theorem ints_oneT (zs : List Int) : ∀ u ∈ zs.map (Value.int .i64), u.oneCell' = true := fun u hu => by obtain ⟨n, _, rfl⟩ := List.mem_map.1 hu; rfl
def CopyPost (w : World) (s : SetR) (e : Ending) (w' : World) : Prop := ∃ x, e = .returned (.agg #[.int .i64 x.proto, .slice x.ca x.cores.length x.cc, .slice x.ha x.homes.length x.hc, .slice x.ta x.tasks.length x.tc]) ∧ CopyOf w.heap.size w' s x ∧ Below w.heap.size w w'
/-- the first i tasks are copied -/
structure CpInv (B : Nat) (w : World) (A1 A2 A3 : Option Addr) (k3 : Nat) (ts cs : List TaskR) (i : Nat) : Prop where
  len : cs.length = ts.length
  like : ∀ j, j < ts.length → sameF (cs.getD j default) (ts.getD j default)
  rest : ∀ j, i ≤ j → j < ts.length → cs.getD j default = ts.getD j default
  ot : OwnT B w A3 ts.length k3 cs
  op : ∀ j, j < i → OwnP B w (cs.getD j default).pa (cs.getD j default).parts.length (cs.getD j default).pc (cs.getD j default).parts
  s3 : ∀ j, j < i → ∀ a ∈ fp A1 ++ (fp A2 ++ fp A3), ∀ b ∈ fp (cs.getD j default).pa, a < b
  s4 : ∀ j k, j < k → k < i → ∀ a ∈ fp (cs.getD j default).pa, ∀ b ∈ fp (cs.getD k default).pa, a < b
theorem CpInv.turned {B i k3 : Nat} {w w' : World} {A1 A2 A3 : Option Addr} {ts cs : List TaskR} {F : List Nat} (h : CpInv B w A1 A2 A3 k3 ts cs i) (ht : Turned F w w') (hF : ∀ k, B ≤ k → k < w.heap.size → k ∉ F) : CpInv B w' A1 A2 A3 k3 ts cs i :=
  ⟨h.len, h.like, h.rest, h.ot.turned ht (fun k hk => hF k (own_fp h.ot.own k hk).1 (own_fp h.ot.own k hk).2), fun j hj => (h.op j hj).turned ht (fun k hk => hF k (own_fp (h.op j hj).own k hk).1 (own_fp (h.op j hj).own k hk).2), h.s3, h.s4⟩
theorem getD_set_eq {α : Type} [Inhabited α] {l : List α} {i : Nat} (h : i < l.length) (x : α) : (l.set i x).getD i default = x := by simp [List.getD, h]
theorem getD_set_ne' {α : Type} [Inhabited α] {l : List α} {i j : Nat} (h : i ≠ j) (x : α) : (l.set i x).getD j default = l.getD j default := by simp [List.getD, List.getElem?_set, h]
/-- one task more -/
theorem CpInv.step {B i k3 g np c' : Nat} {w v : World} {A1 A2 A' : Option Addr} {ts cs : List TaskR} (h : CpInv B w A1 A2 (some ⟨g, 0, none⟩) k3 ts cs i) (hi : i < ts.length)
    (ha : App B 38 3 w none A' np c' (ptc (ts.getD i default).parts) v) (hn : np = (ts.getD i default).parts.length) (hA : ∀ a ∈ fp A1 ++ (fp A2 ++ fp (some ⟨g, 0, none⟩)), a < w.heap.size) :
    CpInv B (v.setCell ⟨g, i * 6 + 5, none⟩ (.slice A' np c')) A1 A2 (some ⟨g, 0, none⟩) k3 ts (cs.set i { ts.getD i default with pa := A', pc := c' }) (i + 1) := by
  subst hn
  have hl := h.len
  have hic : i < cs.length := by omega
  have hri := h.rest i (Nat.le_refl _) hi
  have hci : cs[i] = ts.getD i default := by rw [← hri]; simp [List.getD, hic]
  have hgl := (own_fp h.ot.own g (by simp [fp])).2
  have hnew : ∀ b ∈ fp A', w.heap.size ≤ b := fun b hb => by
    rcases ha.fps b hb with h | h
    · simp [fp] at h
    · exact h
  have TS : Turned [g] v (v.setCell ⟨g, i * 6 + 5, none⟩ (.slice A' (ts.getD i default).parts.length c')) := (Turned.refl [g] v).setCell (p := ⟨g, i * 6 + 5, none⟩) (.inl (by simp)) _
  have hot := h.ot.turned ha.turned (by simp [fp])
  refine ⟨by simpa using hl, fun j hj => ?_, fun j hj1 hj2 => ?_, ?_, fun j hj => ?_, fun j hj a ha1 b hb => ?_, fun j k hjk hk a ha1 b hb => ?_⟩
  · by_cases e : i = j
    · subst e; rw [getD_set_eq hic]; exact ⟨rfl, rfl, rfl, rfl, rfl, rfl⟩
    · rw [getD_set_ne' e]; exact h.like j hj
  · rw [getD_set_ne' (by omega)]; exact h.rest j (by omega) hj2
  · have := ownT_put hot hic (j := 5) (by decide) { ts.getD i default with pa := A', pc := c' } (.slice A' (ts.getD i default).parts.length c') (by rw [hci]; rfl)
    exact this
  · by_cases e : i = j
    · subst e
      rw [getD_set_eq hic]
      have o : OwnP B v A' (ts.getD i default).parts.length c' (ts.getD i default).parts := ⟨ha.own, rfl, ha.cap, ha.nil⟩
      exact o.turned TS (fun k hk hm => by simp at hm; subst hm; have := hnew _ hk; omega)
    · rw [getD_set_ne' e]
      have o := h.op j (by omega)
      refine (o.turned ha.turned (by simp [fp])).turned TS (fun k hk hm => ?_)
      simp at hm; subst hm
      have := h.s3 j (by omega) k (by simp [fp]) k hk
      omega
  · by_cases e : i = j
    · subst e
      rw [getD_set_eq hic] at hb
      have h1 := hnew b hb
      have h2 := hA a ha1
      omega
    · rw [getD_set_ne' e] at hb; exact h.s3 j (by omega) a ha1 b hb
  · by_cases e : i = k
    · subst e
      rw [getD_set_ne' (by omega)] at ha1
      rw [getD_set_eq hic] at hb
      have h1 := hnew b hb
      have h2 := (own_fp (h.op j (by omega)).own a ha1).2
      omega
    · rw [getD_set_ne' (by omega)] at ha1
      rw [getD_set_ne' e] at hb
      exact h.s4 j k hjk (by omega) a ha1 b hb
end Go.Proofs.YtjjlpaampmpdfaaGreatDoor

namespace Go.Proofs.YtjjlpaampmpdfaaGreatDoor
open Go.ChangeShapes Go.WideShapes Go.ChangeAt Go.RowKit
set_option linter.unusedVariables false

/-- the items that are sorted: a task's priority, its number -/
def itsN (ts : List TaskR) (n : Nat) : List (Int × Int) := (List.range n).map fun i => ((ts.getD i default).prio, (i : Int))
def its (ts : List TaskR) : List (Int × Int) := itsN ts ts.length
def ordL (ts : List TaskR) : List Int := (isort (its ts)).map (·.2)
theorem itsN_snoc (ts : List TaskR) (n : Nat) : itsN ts (n + 1) = itsN ts n ++ [((ts.getD n default).prio, (n : Int))] := by
  unfold itsN; rw [List.range_succ, List.map_append]; rfl
theorem itsN_len (ts : List TaskR) (n : Nat) : (itsN ts n).length = n := by simp [itsN]
theorem ordL_len (ts : List TaskR) : (ordL ts).length = ts.length := by simp [ordL, isort_len, its, itsN_len]
theorem ordL_perm (ts : List TaskR) : (ordL ts).Perm ((List.range ts.length).map (fun i : Nat => (i : Int))) := by
  have h := (isort_perm (its ts)).map (·.2)
  have e : (its ts).map (·.2) = (List.range ts.length).map (fun i : Nat => (i : Int)) := by simp [its, itsN, Function.comp_def]
  rw [e] at h
  exact h
theorem ordL_in {ts : List TaskR} {z : Int} (h : z ∈ ordL ts) : 0 ≤ z ∧ z < (ts.length : Int) := by
  have := (ordL_perm ts).mem_iff.1 h
  obtain ⟨i, hi, rfl⟩ := List.mem_map.1 this
  have := List.mem_range.1 hi
  omega
theorem its_in {ts : List TaskR} {n : Nat} {p : Int × Int} (h : p ∈ itsN ts n) : ∃ i : Nat, i < n ∧ p = ((ts.getD i default).prio, (i : Int)) := by
  obtain ⟨i, hi, rfl⟩ := List.mem_map.1 h
  exact ⟨i, List.mem_range.1 hi, rfl⟩
/-- put in behind k of them -/
theorem ins_at {l : List (Int × Int)} {x : Int × Int} {k : Nat} (hk : k ≤ l.length) (h1 : ∀ y ∈ l.take k, y.1 ≤ x.1) (h2 : ∀ y ∈ l.drop k, x.1 < y.1) : ins l x = l.take k ++ x :: l.drop k := by
  induction k generalizing l with
  | zero =>
    cases l with
    | nil => simp [ins]
    | cons y l => simp only [ins]; rw [if_pos (h2 y (by simp))]; simp
  | succ k ih =>
    cases l with
    | nil => simp at hk
    | cons y l =>
      have h0 := h1 y (by simp)
      simp only [ins]
      rw [if_neg (by omega), ih (by simpa using hk) (fun z hz => h1 z (by simp [hz])) (fun z hz => h2 z (by simpa using hz))]
      simp
/-- the numbers below n, from k on, round -/
def turL (k n : Nat) (m : Nat) : List Int := (List.range m).map fun i => (((k + i) % n : Nat) : Int)
theorem turL_snoc (k n m : Nat) : turL k n (m + 1) = turL k n m ++ [(((k + m) % n : Nat) : Int)] := by
  unfold turL; rw [List.range_succ, List.map_append]; rfl
theorem turL_len (k n m : Nat) : (turL k n m).length = m := by simp [turL]
theorem turL_in {k n m : Nat} {z : Int} (hn : 0 < n) (h : z ∈ turL k n m) : 0 ≤ z ∧ z < (n : Int) := by
  obtain ⟨i, _, rfl⟩ := List.mem_map.1 h
  have := Nat.mod_lt (k + i) hn
  omega
/-- where the turning begins -/
def startN (b : Int) (n : Nat) : Nat := (b % (n : Int)).toNat
theorem startN_eq {b : Int} {n : Nat} (hn : 0 < n) : ((startN b n : Nat) : Int) = b % (n : Int) := by
  unfold startN; rw [Int.toNat_of_nonneg (Int.emod_nonneg _ (by omega))]
theorem startN_lt {b : Int} {n : Nat} (hn : 0 < n) : startN b n < n := by
  have h1 := startN_eq (b := b) hn
  have h2 := Int.emod_lt_of_pos b (show (0 : Int) < (n : Int) by omega)
  omega
/-- Go's remainder, made one that isn't negative -/
theorem rest_pos {b : Int} {n : Nat} (hn : 0 < n) : (b.tmod (n : Int) + (n : Int)).tmod (n : Int) = b % (n : Int) := by
  have h1 := Int.lt_tmod_of_pos b (show (0 : Int) < (n : Int) by omega)
  rw [Int.tmod_eq_emod_of_nonneg (by omega), Int.add_emod_right]
  have h2 := Int.add_mul_emod_self_left (b.tmod (n : Int)) (n : Int) (b.tdiv (n : Int))
  rw [Int.tmod_add_mul_tdiv] at h2
  exact h2.symm
/-- what a task is, besides where its parts lie -/
def core (t : TaskR) : TaskR := ⟨t.name, t.per, t.dl, t.prio, t.cl, none, 0, t.parts⟩
theorem core_iff {a b : TaskR} : sameF a b ↔ core a = core b := by
  unfold sameF core
  constructor
  · rintro ⟨h0, h1, h2, h3, h4, h5⟩; rw [h0, h1, h2, h3, h4, h5]
  · intro h; injection h with h0 h1 h2 h3 h4 h5 h6 h7; exact ⟨h0, h1, h2, h3, h4, h7⟩
/-- x is s with the tasks of these numbers -/
structure Arr (s x : SetR) (zs : List Int) : Prop where
  proto : x.proto = s.proto
  cores : x.cores = s.cores
  homes : x.homes = s.homes
  tasks : x.tasks.map core = zs.map fun z => core (s.tasks.getD z.toNat default)
theorem Arr.len {s x : SetR} {zs : List Int} (h : Arr s x zs) : x.tasks.length = zs.length := by have := congrArg List.length h.tasks; simpa using this
theorem mapD {α β : Type} [Inhabited α] [Inhabited β] (f : α → β) {l : List α} {i : Nat} (hi : i < l.length) : (l.map f).getD i default = f (l.getD i default) := by simp [List.getD, hi]
theorem same_cores {x y : SetR} (h1 : x.proto = y.proto) (h2 : x.cores = y.cores) (h3 : x.homes = y.homes) (h4 : x.tasks.map core = y.tasks.map core) : sameS x y = true := by
  have hl : x.tasks.length = y.tasks.length := by have := congrArg List.length h4; simpa using this
  unfold sameS
  have ht : sameTs x.tasks y.tasks = true := sameTs_true hl (fun k hk => by
    have e := congrArg (fun l => l.getD k default) h4
    rw [mapD core hk, mapD core (by omega)] at e
    exact (core_iff.2 e).T)
  rw [h1, h2, h3, ht]
  simp
theorem Arr.same {s x y : SetR} {zs : List Int} (h : Arr s x zs) (k : Arr s y zs) : sameS x y = true :=
  same_cores (h.proto.trans k.proto.symm) (h.cores.trans k.cores.symm) (h.homes.trans k.homes.symm) (h.tasks.trans k.tasks.symm)
end Go.Proofs.YtjjlpaampmpdfaaGreatDoor

namespace Go.Proofs.YtjjlpaampmpdfaaGreatDoor
open Go.ChangeShapes Go.WideShapes Go.ChangeAt Go.RowKit
set_option linter.unusedVariables false
set_option linter.unusedSimpArgs false
abbrev Bts := List UInt8
def bl (s : ByteArray) : Bts := s.data.toList
def mkB (l : Bts) : ByteArray := ⟨l.toArray⟩
@[simp] theorem bl_mk (l : Bts) : bl (mkB l) = l := rfl
theorem mk_bl (s : ByteArray) : mkB (bl s) = s := by cases s; simp [mkB, bl]
theorem bl_len (s : ByteArray) : (bl s).length = s.size := by simp [bl]
theorem bl_inj {s t : ByteArray} (h : bl s = bl t) : s = t := by rw [← mk_bl s, h, mk_bl]
theorem bl_extract (s : ByteArray) (a b : Nat) : bl (s.extract a b) = ((bl s).take b).drop a := by
  unfold bl
  rw [ByteArray.data_extract, Array.toList_extract]
  simp [List.extract_eq_take_drop, List.drop_take]
theorem bl_append (s t : ByteArray) : bl (s ++ t) = bl s ++ bl t := by simp [bl, ByteArray.data_append]
theorem byteAt_bl (s : ByteArray) (k : Nat) : byteAt s k = (((bl s).getD k 0).toNat : Int) := rfl
/-- the words of a text: cur stands behind the last blank -/
def wl (cur : Bts) : Bts → List Bts
  | [] => if cur = [] then [] else [cur]
  | c :: r => if c = 32 then (if cur = [] then wl [] r else cur :: wl [] r) else wl (cur ++ [c]) r
/-- the pieces of a text, cut at each c; an empty last one goes -/
def pl (c : UInt8) (cur : Bts) : Bts → List Bts
  | [] => if cur = [] then [] else [cur]
  | x :: r => if x = c then cur :: pl c [] r else pl c (cur ++ [x]) r
theorem pl_words (l cur : Bts) : (pl 32 cur l).filter (fun x => !decide (x = [])) = wl cur l := by
  induction l generalizing cur with
  | nil => unfold pl wl; split <;> simp_all
  | cons x r ih =>
    unfold pl wl
    split
    · by_cases hc : cur = []
      · rw [if_pos hc, List.filter_cons_of_neg (by simp [hc]), ih]
      · rw [if_neg hc, List.filter_cons_of_pos (by simp [hc]), ih]
    · exact ih _
/-- what stands ahead of the first mark -/
def ahead35 : Bts → Bts
  | [] => []
  | c :: r => if c = 35 then [] else c :: ahead35 r
def wordsL (s : Bts) : List Bts := wl [] (ahead35 s)
def linesL (s : Bts) : List Bts := pl 10 [] s
/-- a row of texts of the call's own -/
structure OwnS (B : Nat) (w : World) (A : Option Addr) (n c : Nat) (ls : List ByteArray) : Prop where
  own : w.ownsRow B 9 1 (.slice A n c) n (ls.map Value.string)
  len : n = ls.length
  cap : n ≤ c ∧ c ≤ maxLen
  nil : A = none → n = 0 ∧ c = 0
theorem OwnS.none_ (B : Nat) (w : World) : OwnS B w none 0 0 [] := ⟨World.ownsRow_nil _ _ _ _, rfl, by decide, fun _ => ⟨rfl, rfl⟩⟩
theorem infoStr : (Tryz.prog.info? 9).map (fun i => (i.zero, i.size, i.bytes)) = some (some (.string ByteArray.empty), 1, 16) := by kernel_rfl
theorem str_one (ls : List ByteArray) : ∀ u ∈ ls.map Value.string, u.oneCell' = true := fun u hu => by obtain ⟨n, _, rfl⟩ := List.mem_map.1 hu; rfl
theorem OwnS.turned {B : Nat} {w w' : World} {A : Option Addr} {n c : Nat} {ls : List ByteArray} {F : List Nat} (h : OwnS B w A n c ls) (ht : Turned F w w') (hF : ∀ k ∈ fp A, k ∉ F) : OwnS B w' A n c ls := ⟨own_turned h.own ht hF, h.len, h.cap, h.nil⟩
theorem OwnS.app {B : Nat} {w w1 w2 : World} {A A' : Option Addr} {n c c' : Nat} {ls : List ByteArray} {x : ByteArray} (h : OwnS B w A n c ls) (ha : App B 9 1 w1 A A' (n + 1) c' (ls.map Value.string ++ [.string x]) w2) : OwnS B w2 A' (n + 1) c' (ls ++ [x]) :=
  ⟨by rw [List.map_append]; exact ha.own, by rw [List.length_append, h.len]; rfl, ha.cap, ha.nil⟩
theorem OwnS.low {B B' : Nat} {w : World} {A : Option Addr} {n c : Nat} {ls : List ByteArray} (h : OwnS B w A n c ls) (hB : B' ≤ B) : OwnS B' w A n c ls := ⟨own_base h.own (fun k hk => Nat.le_trans hB (h.own.lt k hk).1), h.len, h.cap, h.nil⟩
/-- a row of texts that is only read -/
def StrsAt (w : World) (A : Option Addr) (ls : List ByteArray) : Prop := ls = [] ∨ ∃ b off, A = some ⟨b, off, none⟩ ∧ ∀ i, i < ls.length → w.cell? ⟨b, off + i, none⟩ = some (.string (ls.getD i ByteArray.empty))
theorem StrsAt.of_lies {B : Nat} {w : World} {A : Option Addr} {ls : List ByteArray} (h : Lies B w A (ls.map Value.string)) : StrsAt w A ls := by
  rcases h with h | ⟨b, off, rfl, _, hc⟩
  · left; simpa using h
  · refine .inr ⟨b, off, rfl, fun i hi => hc i _ ?_⟩
    simp [List.getD, hi]
theorem StrsAt.mono {w w' : World} {A : Option Addr} {ls : List ByteArray} (h : StrsAt w A ls) (hk : ∀ p v, w.cell? p = some v → w'.cell? p = some v) : StrsAt w' A ls := by
  rcases h with h | ⟨b, off, e, hc⟩
  · exact .inl h
  · exact .inr ⟨b, off, e, fun i hi => hk _ _ (hc i hi)⟩
theorem StrsAt.below {w w' : World} {A : Option Addr} {ls : List ByteArray} (h : StrsAt w A ls) (hb : Below w.heap.size w w') : StrsAt w' A ls := h.mono fun p v hv => by rw [hb.cell (cell_lt hv)]; exact hv
theorem OwnS.at_ {B : Nat} {w : World} {A : Option Addr} {n c : Nat} {ls : List ByteArray} (h : OwnS B w A n c ls) : StrsAt w A ls := .of_lies (B := w.heap.size) (Lies.of_own h.own)
theorem new_liesW (w : World) (cs : List Value) (T : TypeId) : Lies (w.heap.size + 1) (w.alloc (.cells cs.toArray T)) (some ⟨w.heap.size, 0, none⟩) cs := by
  refine .inr ⟨_, 0, rfl, by omega, fun j v hj => ?_⟩
  have := (Bk.new w T cs.toArray).cell j
  rw [Nat.zero_add, this]
  simpa using hj
def StrsPost (w : World) (ls : List ByteArray) (e : Ending) (w' : World) : Prop := ∃ A c, e = .returned (.slice A ls.length c) ∧ OwnS w.heap.size w' A ls.length c ls ∧ Below w.heap.size w w'
end Go.Proofs.YtjjlpaampmpdfaaGreatDoor

namespace Go.Proofs.YtjjlpaampmpdfaaGreatDoor
open Go.ChangeShapes Go.WideShapes Go.ChangeAt Go.RowKit
set_option linter.unusedVariables false
set_option linter.unusedSimpArgs false
def textV (n : Int) : ByteArray := if n < 0 ∨ 9999999 < n then ⟨#[]⟩ else mkB (Lib.decDigits n.toNat)
theorem textV_no {n : Int} (h : n < 0 ∨ 9999999 < n) : textV n = ⟨#[]⟩ := by unfold textV; rw [if_pos h]
theorem textV_yes {n : Int} (h : ¬ (n < 0 ∨ 9999999 < n)) : textV n = mkB (Lib.decDigits n.toNat) := by unfold textV; rw [if_neg h]
theorem below_grow {w : World} (k : Nat) (os : Array Obj) : Below w.heap.size w (Sort.grow (w.drewN k) os) :=
  ⟨rfl, rfl, rfl, by simp, fun i hi => by rw [Sort.heap_grow_old _ _ (by simpa using hi)]; rfl⟩
set_option maxHeartbeats 1000000 in
theorem text_any (n : Int) (w : World) (hn : I64 n) (ht : Lib.TabIs Tryz.prog w "internal/strconv.uint64pow10" .u64 Lib.pow10Tab) : Calls Tryz.prog 27 #[.int .i64 n] w fun e w' => e = .returned (.string (textV n)) ∧ Below w.heap.size w w' := by
  unfold I64 at hn
  by_cases h0 : n < 0
  · have H := hidp (textV_no (n := n) (.inl h0))
    have f1 : decide (n < 0) = true := by simpa using h0
    go_enter Tryz.func27, Tryz.ntmps27
    go_wp2
    go_ret
    exact ⟨by rw [H.out]; rfl, Below.refl _ _⟩
  by_cases h1 : 9999999 < n
  · have H := hidp (textV_no (n := n) (.inr h1))
    have f1 : decide (n < 0) = false := by simpa using h0
    have f2 : decide (9999999 < n) = true := by simpa using h1
    go_enter Tryz.func27, Tryz.ntmps27
    go_wp2
    go_ret
    exact ⟨by rw [H.out]; rfl, Below.refl _ _⟩
  have H := hidp (textV_yes (n := n) (by omega))
  have f1 : decide (n < 0) = false := by simpa using h0
  have f2 : decide (9999999 < n) = false := by simpa using h1
  have C := Tryz.strconv_Itoa n (by omega) (by omega) w ht
  have e1 : Lib.itoa n = Lib.decDigits n.toNat := by unfold Lib.itoa; rw [if_neg h0]
  rw [e1] at C
  have HC := hidp C
  clear C e1 ht
  go_enter Tryz.func27, Tryz.ntmps27
  go_wp2_with fail
  refine HC.out.mono ?_
  rintro e w' ⟨rfl, k, os, rfl⟩
  go_wp2
  go_ret
  exact ⟨by rw [H.out]; rfl, below_grow k os⟩
theorem dig_bytes (r : Nat) (hr : r < 10) (w : World) (T : TypeId) : ∀ j (hj : j < [UInt8.ofNat (48 + r)].length), (w.alloc (.cells #[.int .u8 (48 + (r : Int))] T)).cell? ((⟨w.heap.size, 0, none⟩ : Addr).add j) = some (.int .u8 ([UInt8.ofNat (48 + r)][j].toNat : Int)) := by
  intro j hj
  have hj0 : j = 0 := by simpa using hj
  subst hj0
  have := (Bk.new w T #[.int .u8 (48 + (r : Int))]).cell 0
  have e : ((⟨w.heap.size, 0, none⟩ : Addr).add 0) = ⟨w.heap.size, 0, none⟩ := by unfold Addr.add; rw [if_pos rfl]
  rw [e, this]
  have h : r = 0 ∨ r = 1 ∨ r = 2 ∨ r = 3 ∨ r = 4 ∨ r = 5 ∨ r = 6 ∨ r = 7 ∨ r = 8 ∨ r = 9 := by omega
  rcases h with rfl | rfl | rfl | rfl | rfl | rfl | rfl | rfl | rfl | rfl <;> rfl
theorem conv_dig (r : Nat) (hr : r < 10) (w : World) : (convert 58 9 (.slice (some ⟨w.heap.size, 0, none⟩) 1 1)).run Tryz.prog (w.alloc (.cells #[.int .u8 (48 + (r : Int))] 5)) = .ok (.string (mkB [UInt8.ofNat (48 + r)])) (w.alloc (.cells #[.int .u8 (48 + (r : Int))] 5)) :=
  run_convert_bytes_back (P := Tryz.prog) (w.alloc (.cells #[.int .u8 (48 + (r : Int))] 5)) 58 9 5 ⟨w.heap.size, 0, none⟩ 1 [UInt8.ofNat (48 + r)] Tryz.underlying58 Tryz.underlying5 Tryz.underlying9 (dig_bytes r hr w 5)
theorem conv_dig2 (r : Nat) (hr : r < 10) (w v : World) (hb : Below (w.heap.size + 1) (w.alloc (.cells #[.int .u8 (48 + (r : Int))] 5)) v) : (convert 58 9 (.slice (some ⟨w.heap.size, 0, none⟩) 1 1)).run Tryz.prog v = .ok (.string (mkB [UInt8.ofNat (48 + r)])) v :=
  run_convert_bytes_back (P := Tryz.prog) v 58 9 5 ⟨w.heap.size, 0, none⟩ 1 [UInt8.ofNat (48 + r)] Tryz.underlying58 Tryz.underlying5 Tryz.underlying9 (fun j hj => by
    have hj0 : j = 0 := by simpa using hj
    subst hj0
    have e : ((⟨w.heap.size, 0, none⟩ : Addr).add 0) = ⟨w.heap.size, 0, none⟩ := by unfold Addr.add; rw [if_pos rfl]
    have h := dig_bytes r hr w 5 0 hj
    rw [e] at h ⊢
    rw [hb.cell (p := ⟨w.heap.size, 0, none⟩) (Nat.lt_succ_self _)]
    exact h)
set_option maxHeartbeats 2000000 in
set_option maxRecDepth 100000 in
theorem rdigits_any (m : Nat) : ∀ (n : Nat), n ≤ m → n ≤ 9999999 → ∀ w : World, Calls Tryz.prog 14 #[.int .i64 (n : Int)] w fun e w' => e = .returned (.string (mkB (Lib.decDigits n))) ∧ Below w.heap.size w w' := by
  induction m with
  | zero =>
    intro n hn _ w
    obtain rfl : n = 0 := by omega
    obtain ⟨D, HD⟩ : ∃ D, Hid (mkB [UInt8.ofNat (48 + 0)] = D) := ⟨_, hidp rfl⟩
    have H : Hid (mkB (Lib.decDigits 0) = D) := hidp (by rw [Lib.decDigits_one (by decide)]; exact HD.out)
    have hcb := conv_dig 0 (by decide) w
    rw [HD.out] at hcb
    have w8 : IntKind.u8.wrap 48 = 48 := by decide
    simp only [Int.natCast_zero, Int.add_zero] at hcb
    go_enter Tryz.func14, Tryz.ntmps14
    go_wp2
    go_ret
    exact ⟨by rw [H.out]; rfl, (Below.refl _ w).alloc (Nat.le_refl _) _⟩
  | succ m ih =>
    intro n hn hle w
    have f1 : decide ((n : Int) < 0) = false := by simp
    have f2 : decide ((9999999 : Int) < (n : Int)) = false := by simp; omega
    by_cases h10 : n < 10
    · obtain ⟨D, HD⟩ : ∃ D, Hid (mkB [UInt8.ofNat (48 + n)] = D) := ⟨_, hidp rfl⟩
      have H : Hid (mkB (Lib.decDigits n) = D) := hidp (by rw [Lib.decDigits_one h10]; exact HD.out)
      have hcb := conv_dig n h10 w
      rw [HD.out] at hcb
      have f3 : (n : Int) < 10 := by omega
      have w64 : IntKind.i64.wrap (48 + (n : Int)) = 48 + (n : Int) := IntWalk.i64_in _ (by omega)
      have w8 : IntKind.u8.wrap (48 + (n : Int)) = 48 + (n : Int) := IntWalk.u8_in _ (by omega)
      go_enter Tryz.func14, Tryz.ntmps14
      go_wp2
      go_ret
      exact ⟨by rw [H.out]; rfl, (Below.refl _ w).alloc (Nat.le_refl _) _⟩
    · obtain ⟨q, r, hr, hq⟩ : ∃ q r : Nat, r < 10 ∧ n = 10 * q + r := ⟨n / 10, n % 10, Nat.mod_lt _ (by decide), by omega⟩
      have f3 : ¬ (n : Int) < 10 := by omega
      have e1 : (n : Int).tdiv 10 = (q : Int) := by rw [Int.tdiv_eq_ediv_of_nonneg (by omega)]; omega
      have e2 : (n : Int).tmod 10 = (r : Int) := by rw [Int.tmod_eq_emod_of_nonneg (by omega)]; omega
      have w1 : IntKind.i64.wrap (q : Int) = (q : Int) := IntWalk.i64_in _ (by omega)
      have w2 : IntKind.i64.wrap (r : Int) = (r : Int) := IntWalk.i64_in _ (by omega)
      have w64 : IntKind.i64.wrap (48 + (r : Int)) = 48 + (r : Int) := IntWalk.i64_in _ (by omega)
      have w8 : IntKind.u8.wrap (48 + (r : Int)) = 48 + (r : Int) := IntWalk.u8_in _ (by omega)
      have HI := hidp (ih q (by omega) (by omega))
      obtain ⟨D, HD⟩ : ∃ D, Hid (mkB [UInt8.ofNat (48 + r)] = D) := ⟨_, hidp rfl⟩
      have H : Hid (mkB (Lib.decDigits q) ++ D = mkB (Lib.decDigits n)) := hidp (bl_inj (by
        rw [← HD.out, bl_append, bl_mk, bl_mk, bl_mk]
        conv => rhs; rw [Lib.decDigits, dif_neg h10]
        rw [show n / 10 = q by omega, show n % 10 = r by omega]))
      have hsz : (mkB (Lib.decDigits q)).size + D.size ≤ 9223372036854775807 := by
        have h1 := Lib.itoa_length_le (q : Int) (by omega) (by omega)
        rw [Lib.itoa_nonneg] at h1
        have h2 : (mkB (Lib.decDigits q)).size = (Lib.decDigits q).length := by rw [← bl_len, bl_mk]
        have h3 : D.size = 1 := by rw [← HD.out, ← bl_len]; rfl
        omega
      have HR := hidp hr
      have HQ := hidp hq
      clear ih hq h10 hn
      go_enter Tryz.func14, Tryz.ntmps14
      go_upto_region 5 with fail
      refine wp_region_held_drew (S := fun _ => True) (by kernel_rfl) ?_ (fun hHeld => ?_)
      · trivial
      obtain ⟨v, hv⟩ : ∃ v, w.drew = v := ⟨_, rfl⟩
      have hb : Below w.heap.size w v := hv ▸ below_drewN (Below.refl _ w) 1
      rw [hv]
      clear hv
      refine wpAnyH_take (i := 0) (v := ?_) rfl (by kernel_rfl) (by kernel_rfl) (by kernel_rfl) (fun _ _ _ h => h) (Or.inl ⟨by rfl, ?_⟩) (by assumption) ?_
      rotate_left 1
      · ((intro w hSw; (try dsimp only at hSw); go_simp); (try with_reducible rfl))
      simp only [Act.put, List.setIfInBounds_toArray, List.set_cons_zero, List.set_cons_succ, List.getElem_toArray, List.getElem_cons_zero, List.getElem_cons_succ]
      refine wpAnyH_take (i := 1) (v := ?_) rfl (by kernel_rfl) (by kernel_rfl) (by kernel_rfl) (fun _ _ _ h => h) (Or.inl ⟨by rfl, ?_⟩) (by assumption) ?_
      rotate_left 1
      · ((intro w hSw; (try dsimp only at hSw); go_simp); (try with_reducible rfl))
      simp only [Act.put, List.setIfInBounds_toArray, List.set_cons_zero, List.set_cons_succ, List.getElem_toArray, List.getElem_cons_zero, List.getElem_cons_succ]
      refine wpAnyH_take (i := 3) (v := ?_) rfl (by kernel_rfl) (by kernel_rfl) (by kernel_rfl) (fun _ _ _ h => h) (Or.inl ⟨by rfl, ?_⟩) (by assumption) ?_
      rotate_left 1
      · ((intro w hSw; (try dsimp only at hSw); go_simp); (try with_reducible rfl))
      simp only [Act.put, List.setIfInBounds_toArray, List.set_cons_zero, List.set_cons_succ, List.getElem_toArray, List.getElem_cons_zero, List.getElem_cons_succ]
      refine wpAnyH_take (i := 4) (v := ?_) rfl (by kernel_rfl) (by kernel_rfl) (by kernel_rfl) (fun _ _ _ h => h) (Or.inl ⟨by rfl, ?_⟩) (by assumption) ?_
      rotate_left 1
      · ((intro w hSw; (try dsimp only at hSw); go_simp); (try with_reducible rfl))
      simp only [Act.put, List.setIfInBounds_toArray, List.set_cons_zero, List.set_cons_succ, List.getElem_toArray, List.getElem_cons_zero, List.getElem_cons_succ]
      refine wpAnyH_take (i := 5) (v := ?_) rfl (by kernel_rfl) (by kernel_rfl) (by kernel_rfl) (fun _ _ _ h => h) (Or.inl ⟨by rfl, ?_⟩) (by assumption) ?_
      rotate_left 1
      · ((intro w hSw; (try dsimp only at hSw); go_simp); (try with_reducible rfl))
      simp only [Act.put, List.setIfInBounds_toArray, List.set_cons_zero, List.set_cons_succ, List.getElem_toArray, List.getElem_cons_zero, List.getElem_cons_succ]
      refine wpAnyH_take (i := 6) (v := ?_) rfl (by kernel_rfl) (by kernel_rfl) (by kernel_rfl) (fun _ _ _ h => h) (Or.inl ⟨by rfl, ?_⟩) (by assumption) ?_
      rotate_left 1
      · ((intro w hSw; (try dsimp only at hSw); go_simp); (try with_reducible rfl))
      simp only [Act.put, List.setIfInBounds_toArray, List.set_cons_zero, List.set_cons_succ, List.getElem_toArray, List.getElem_cons_zero, List.getElem_cons_succ]
      refine wpAnyH_ready (rs := [2, 7]) (by kernel_rfl) (by simp) ?_
      refine AllReadyH.cons rfl (fun K hK => ?_) (AllReadyH.cons rfl (fun K hK => ?_) AllReadyH.nil)
      · go_simp
        refine (HI.out v).mono ?_
        rintro e v1 ⟨rfl, hb1⟩
        replace hb := hb.trans (hb1.mono hb.size)
        clear hb1 hHeld
        go_wp2_with fail
        refine hK.out _ _ ?_ (fun hHeld => ?_)
        · exact trivial
        clear hK K
        try simp only [Act.put, List.setIfInBounds_toArray, List.set_cons_zero, List.set_cons_succ, List.getElem_toArray, List.getElem_cons_zero, List.getElem_cons_succ]
        refine wpAnyH_ready (rs := [7]) (by kernel_rfl) (by simp) ?_
        refine AllReadyH.cons rfl (fun K hK => ?_) AllReadyH.nil
        go_simp
        have hcb := conv_dig r HR.out v1
        rw [HD.out] at hcb
        have hb2 := hb.alloc hb.size (.cells #[.int .u8 (48 + (r : Int))] 5)
        clear hHeld
        go_wp2_with fail
        refine hK.out _ _ ?_ (fun hHeld => ?_)
        · exact trivial
        clear hK K
        try simp only [Act.put, List.setIfInBounds_toArray, List.set_cons_zero, List.set_cons_succ, List.getElem_toArray, List.getElem_cons_zero, List.getElem_cons_succ]
        refine wpAnyH_ready (rs := [8]) (by kernel_rfl) (by simp) ?_
        refine AllReadyH.cons rfl (fun K hK => ?_) AllReadyH.nil
        go_simp
        clear hHeld
        go_wp2_with fail
        refine hK.out _ _ ?_ (fun hHeld => ?_)
        · exact trivial
        clear hK K
        try simp only [Act.put, List.setIfInBounds_toArray, List.set_cons_zero, List.set_cons_succ, List.getElem_toArray, List.getElem_cons_zero, List.getElem_cons_succ]
        refine wpAnyH_ready (rs := [9]) (by kernel_rfl) (by simp) ?_
        refine AllReadyH.cons rfl (fun K hK => ?_) AllReadyH.nil
        go_simp
        clear hHeld
        go_wp2_with fail
        refine hK.out _ _ ?_ (fun hHeld => ?_)
        · exact trivial
        clear hK K
        try simp only [Act.put, List.setIfInBounds_toArray, List.set_cons_zero, List.set_cons_succ, List.getElem_toArray, List.getElem_cons_zero, List.getElem_cons_succ]
        refine wpAnyH_take (i := 10) (v := ?_) rfl (by kernel_rfl) (by kernel_rfl) (by kernel_rfl) (fun _ _ _ h => h) (Or.inl ⟨by rfl, ?_⟩) (by assumption) ?_
        rotate_left 1
        · ((intro w hSw; (try dsimp only at hSw); go_simp); (try with_reducible rfl))
        simp only [Act.put, List.setIfInBounds_toArray, List.set_cons_zero, List.set_cons_succ, List.getElem_toArray, List.getElem_cons_zero, List.getElem_cons_succ]
        refine wpAnyH_done (by kernel_rfl) ?_ _
        go_wp2_with fail
        go_ret
        exact ⟨by rw [← H.out]; rfl, hb2⟩
      · go_simp
        have hb2 := hb.alloc hb.size (.cells #[.int .u8 (48 + (r : Int))] 5)
        clear hHeld
        go_wp2_with fail
        refine hK.out _ _ ?_ (fun hHeld => ?_)
        · exact trivial
        clear hK K
        try simp only [Act.put, List.setIfInBounds_toArray, List.set_cons_zero, List.set_cons_succ, List.getElem_toArray, List.getElem_cons_zero, List.getElem_cons_succ]
        refine wpAnyH_ready (rs := [2, 8]) (by kernel_rfl) (by simp) ?_
        refine AllReadyH.cons rfl (fun K hK => ?_) (AllReadyH.cons rfl (fun K hK => ?_) AllReadyH.nil)
        · go_simp
          refine (HI.out _).mono ?_
          rintro e v1 ⟨rfl, hb1⟩
          have hb3 := hb2.trans (hb1.mono hb2.size)
          have hcb := conv_dig2 r HR.out v v1 (hb1.mono (by simp))
          rw [HD.out] at hcb
          clear hb1 hHeld
          go_wp2_with fail
          refine hK.out _ _ ?_ (fun hHeld => ?_)
          · exact trivial
          clear hK K
          try simp only [Act.put, List.setIfInBounds_toArray, List.set_cons_zero, List.set_cons_succ, List.getElem_toArray, List.getElem_cons_zero, List.getElem_cons_succ]
          refine wpAnyH_ready (rs := [8]) (by kernel_rfl) (by simp) ?_
          refine AllReadyH.cons rfl (fun K hK => ?_) AllReadyH.nil
          go_simp
          clear hHeld
          go_wp2_with fail
          refine hK.out _ _ ?_ (fun hHeld => ?_)
          · exact trivial
          clear hK K
          try simp only [Act.put, List.setIfInBounds_toArray, List.set_cons_zero, List.set_cons_succ, List.getElem_toArray, List.getElem_cons_zero, List.getElem_cons_succ]
          refine wpAnyH_ready (rs := [9]) (by kernel_rfl) (by simp) ?_
          refine AllReadyH.cons rfl (fun K hK => ?_) AllReadyH.nil
          go_simp
          clear hHeld
          go_wp2_with fail
          refine hK.out _ _ ?_ (fun hHeld => ?_)
          · exact trivial
          clear hK K
          try simp only [Act.put, List.setIfInBounds_toArray, List.set_cons_zero, List.set_cons_succ, List.getElem_toArray, List.getElem_cons_zero, List.getElem_cons_succ]
          refine wpAnyH_take (i := 10) (v := ?_) rfl (by kernel_rfl) (by kernel_rfl) (by kernel_rfl) (fun _ _ _ h => h) (Or.inl ⟨by rfl, ?_⟩) (by assumption) ?_
          rotate_left 1
          · ((intro w hSw; (try dsimp only at hSw); go_simp); (try with_reducible rfl))
          simp only [Act.put, List.setIfInBounds_toArray, List.set_cons_zero, List.set_cons_succ, List.getElem_toArray, List.getElem_cons_zero, List.getElem_cons_succ]
          refine wpAnyH_done (by kernel_rfl) ?_ _
          go_wp2_with fail
          go_ret
          exact ⟨by rw [← H.out]; rfl, hb3⟩
        · have hcb := conv_dig r HR.out v
          rw [HD.out] at hcb
          go_simp
          clear hHeld
          go_wp2_with fail
          refine hK.out _ _ ?_ (fun hHeld => ?_)
          · exact trivial
          clear hK K
          try simp only [Act.put, List.setIfInBounds_toArray, List.set_cons_zero, List.set_cons_succ, List.getElem_toArray, List.getElem_cons_zero, List.getElem_cons_succ]
          refine wpAnyH_ready (rs := [2]) (by kernel_rfl) (by simp) ?_
          refine AllReadyH.cons rfl (fun K hK => ?_) AllReadyH.nil
          go_simp
          refine (HI.out _).mono ?_
          rintro e v1 ⟨rfl, hb1⟩
          have hb3 := hb2.trans (hb1.mono hb2.size)
          clear hb1 hHeld
          go_wp2_with fail
          refine hK.out _ _ ?_ (fun hHeld => ?_)
          · exact trivial
          clear hK K
          try simp only [Act.put, List.setIfInBounds_toArray, List.set_cons_zero, List.set_cons_succ, List.getElem_toArray, List.getElem_cons_zero, List.getElem_cons_succ]
          refine wpAnyH_ready (rs := [9]) (by kernel_rfl) (by simp) ?_
          refine AllReadyH.cons rfl (fun K hK => ?_) AllReadyH.nil
          go_simp
          clear hHeld
          go_wp2_with fail
          refine hK.out _ _ ?_ (fun hHeld => ?_)
          · exact trivial
          clear hK K
          try simp only [Act.put, List.setIfInBounds_toArray, List.set_cons_zero, List.set_cons_succ, List.getElem_toArray, List.getElem_cons_zero, List.getElem_cons_succ]
          refine wpAnyH_take (i := 10) (v := ?_) rfl (by kernel_rfl) (by kernel_rfl) (by kernel_rfl) (fun _ _ _ h => h) (Or.inl ⟨by rfl, ?_⟩) (by assumption) ?_
          rotate_left 1
          · ((intro w hSw; (try dsimp only at hSw); go_simp); (try with_reducible rfl))
          simp only [Act.put, List.setIfInBounds_toArray, List.set_cons_zero, List.set_cons_succ, List.getElem_toArray, List.getElem_cons_zero, List.getElem_cons_succ]
          refine wpAnyH_done (by kernel_rfl) ?_ _
          go_wp2_with fail
          go_ret
          exact ⟨by rw [← H.out]; rfl, hb3⟩
theorem rtext_any (n : Int) (w : World) (hn : I64 n) : Calls Tryz.prog 14 #[.int .i64 n] w fun e w' => e = .returned (.string (textV n)) ∧ Below w.heap.size w w' := by
  unfold I64 at hn
  by_cases h0 : n < 0
  · have H := hidp (textV_no (n := n) (.inl h0))
    have f1 : decide (n < 0) = true := by simpa using h0
    go_enter Tryz.func14, Tryz.ntmps14
    go_wp2
    go_ret
    exact ⟨by rw [H.out]; rfl, Below.refl _ _⟩
  by_cases h1 : 9999999 < n
  · have H := hidp (textV_no (n := n) (.inr h1))
    have f1 : decide (n < 0) = false := by simpa using h0
    have f2 : decide (9999999 < n) = true := by simpa using h1
    go_enter Tryz.func14, Tryz.ntmps14
    go_wp2
    go_ret
    exact ⟨by rw [H.out]; rfl, Below.refl _ _⟩
  obtain ⟨k, rfl⟩ : ∃ k : Nat, n = (k : Int) := ⟨n.toNat, by omega⟩
  rw [textV_yes (n := (k : Int)) (by omega), Int.toNat_natCast]
  exact rdigits_any k k (Nat.le_refl _) (by omega) w
end Go.Proofs.YtjjlpaampmpdfaaGreatDoor

namespace Go.Proofs.YtjjlpaampmpdfaaGreatDoor
open Go.ChangeShapes Go.WideShapes Go.ChangeAt Go.RowKit
set_option linter.unusedVariables false
theorem standIns (l : Array TypeId) (h : (l.all fun t => !Tryz.prog.wantsStandIn t) = true) (j : Nat) (t : TypeId) (ht : l[j]? = some t) : Tryz.prog.wantsStandIn t = false := by
  rw [Array.all_eq_true] at h
  obtain ⟨hj, e⟩ := Array.getElem?_eq_some_iff.1 ht
  have := h j hj
  rw [e] at this
  simpa using this
theorem gPow : Tryz.prog.globalNamed "internal/strconv.uint64pow10" = some 1 := by kernel_rfl
theorem tabPow {W : World} (hL : laidMetH Tryz.prog [("math/bits.deBruijn32tab", Rows.laid_math_bits_deBruijn32tab), ("math/bits.deBruijn64tab", Rows.laid_math_bits_deBruijn64tab), ("internal/strconv.uint64pow10", Rows.laid_internal_strconv_uint64pow10)] W) :
    Go.Lib.TabIs Tryz.prog W "internal/strconv.uint64pow10" .u64 Go.Lib.pow10Tab := by
  rw [MakeChecks.laidMetH_plain _ _ _ (by kernel_rfl)] at hL
  have h := laidMet.tail (laidMet.tail hL)
  rw [show Rows.laid_internal_strconv_uint64pow10 = Go.Lib.tabData .u64 Go.Lib.pow10Tab from rfl] at h
  exact Go.Lib.tabIs_of_head gPow (by kernel_rfl) Tryz.underlying134 Tryz.underlying118 (by kernel_rfl) (by kernel_rfl) h
/-- a []string that came in -/
structure IsStrs (w : World) (a : Option Addr) (len cap : Nat) (zs : List ByteArray) : Prop where
  hlen : zs.length = len
  hcap : len ≤ cap ∧ cap ≤ maxLen
  hnil : a = none → len = 0 ∧ cap = 0
  row : zs = [] ∨ ∃ b off, a = some ⟨b, off, none⟩ ∧ ∀ i, i < zs.length → w.cell? ⟨b, off + i, none⟩ = some (.string (zs.getD i ByteArray.empty))
  fit : ∀ s ∈ zs, s.size ≤ maxLen
theorem open_strs {H : Type} {enc : TypeId × Value → H} {W : World} {a : Option Addr} {len cap fuel : Nat} {x : DataW H × List MemPlace} {sp : Nat → Bool} {held : Bool} {base : Nat}
    (hf : DataW.trod enc Tryz.prog W base sp held fuel 28 [.slice a len cap] = some x) : ∃ zs, IsStrs W a len cap zs := by
  rcases open_strings Tryz.underlying28 Tryz.underlying9 (by kernel_rfl) hf with ⟨hcs, hx⟩ | ⟨a', len', cap', ss, hcs, _, hl, hm, hz, hx, hcell, hfit⟩
  · simp at hcs
    obtain ⟨rfl, rfl, rfl⟩ := hcs
    exact ⟨[], rfl, by decide, fun _ => ⟨rfl, rfl⟩, .inl rfl, fun s hs => by simp at hs⟩
  · simp at hcs
    obtain ⟨rfl, rfl, rfl⟩ := hcs
    have hlen : len ≤ ss.length := by rw [hz]; split <;> omega
    obtain ⟨b, off, spot⟩ := a'
    refine ⟨ss.take len, by simp; omega, ⟨hl, hm⟩, fun e => (by cases e), ?_, fun s hs => hfit s (List.mem_of_mem_take hs)⟩
    by_cases h0 : len = 0
    · left; rw [h0]; rfl
    · right
      have hspot : spot = none := by simpa [Addr.add] using World.cell?_spot (hcell 0 (by omega))
      subst hspot
      refine ⟨b, off, rfl, fun i hi => ?_⟩
      have hi2 : i < len := by simp at hi; omega
      have := hcell i (by omega)
      rw [add_plain] at this
      rw [this]
      congr 2
      simp [List.getD, hi2]
end Go.Proofs.YtjjlpaampmpdfaaGreatDoor

namespace Go.Proofs.YtjjlpaampmpdfaaGreatDoor
open Go.ChangeShapes Go.WideShapes Go.ChangeAt Go.RowKit
set_option linter.unusedVariables false
set_option linter.unusedSimpArgs false
def textL (n : Int) : Bts := bl (textV n)
/-- words with c between -/
def joinT (c : UInt8) : List Bts → Bts
  | [] => []
  | [w] => w
  | w :: v :: r => w ++ c :: joinT c (v :: r)
theorem joinT_snoc (c : UInt8) (h x : Bts) (l : List Bts) : joinT c (h :: (l ++ [x])) = joinT c (h :: l) ++ c :: x := by
  induction l generalizing h with
  | nil => rfl
  | cons a t ih =>
    show h ++ c :: joinT c (a :: (t ++ [x])) = (h ++ c :: joinT c (a :: t)) ++ c :: x
    rw [ih a]; simp
def Tab (w : World) : Prop := Lib.TabIs Tryz.prog w "internal/strconv.uint64pow10" .u64 Lib.pow10Tab
theorem Tab.over {w w' : World} (h : Tab w) (hb : Below w.heap.size w w') : Tab w' := Joins.tab_stays gPow h hb (Nat.le_refl _)
theorem lib_join (c : UInt8) : ∀ l : List Bts, Lib.join l [c] = joinT c l
  | [] => rfl
  | [w] => Lib.join_one w [c]
  | w :: v :: r => by
    have ih := lib_join c (v :: r)
    show _ = w ++ c :: joinT c (v :: r)
    rw [← ih, Lib.join_cons, Lib.join_cons]
    simp [Lib.joinTail]
theorem joinT_len {c : UInt8} {l : List Bts} {m : Nat} (h : ∀ w ∈ l, w.length ≤ m) : (joinT c l).length ≤ l.length * (m + 1) := by
  induction l with
  | nil => simp [joinT]
  | cons w r ih =>
    cases r with
    | nil => have := h w (by simp); simp [joinT]; omega
    | cons v r =>
      have h1 := h w (by simp)
      have h2 := ih (fun x hx => h x (List.mem_cons_of_mem _ hx))
      show (w ++ c :: joinT c (v :: r)).length ≤ _
      rw [List.length_append, List.length_cons, List.length_cons, Nat.succ_mul]
      omega
theorem join_any (cb : UInt8) (A : Option Addr) (k : Nat) (ls : List ByteArray) (w : World) (hs : StrsAt w A ls) (hk : ls.length ≤ k) (h0 : 0 < ls.length) (hl : ls.length ≤ 1000) (hz : ∀ x ∈ ls, x.size ≤ 100000) :
    Calls Tryz.prog 28 #[.slice A ls.length k, .string ⟨#[cb]⟩] w fun e w' => ∃ r : ByteArray, e = .returned (.string r) ∧ bl r = joinT cb (ls.map bl) ∧ Below w.heap.size w w' := by
  obtain ⟨b, off, rfl, hc⟩ := hs.resolve_left (by intro e; rw [e] at h0; simp at h0)
  have hlen : (Lib.join (ls.map (·.data.toList)) [cb]).length ≤ 140737488355328 := by
    rw [lib_join]
    refine Nat.le_trans (joinT_len (m := 100000) (fun w hw => ?_)) ?_
    · obtain ⟨x, hx, rfl⟩ := List.mem_map.1 hw
      have := hz x hx
      rw [← bl_len] at this
      exact this
    · rw [List.length_map]; omega
  refine (Tryz.strings_Join b off k ls ⟨#[cb]⟩ w (fun j x hj => ?_) (cell_lt (hc 0 h0)) (by omega) hk hlen).mono ?_
  · obtain ⟨hj2, e⟩ := List.getElem?_eq_some_iff.1 hj
    rw [hc j hj2]
    simp [List.getD, hj2, e]
  · rintro e w' ⟨rfl, hb⟩
    exact ⟨_, rfl, lib_join cb _, hb⟩
theorem dec_len (n : Nat) (h : n ≤ 9999999) : 1 ≤ (Lib.decDigits n).length ∧ (Lib.decDigits n).length ≤ 7 := by
  rw [Lib.decDigits_length]
  have key : ∀ m, ∀ n, n < 10 ^ (m + 1) → Lib.nDigits n ≤ m + 1 := by
    intro m
    induction m with
    | zero => intro n hn; rw [Lib.nDigits_small (by simpa using hn)]; omega
    | succ m ih =>
      intro n hn
      by_cases h10 : n < 10
      · rw [Lib.nDigits_small h10]; omega
      · rw [Lib.nDigits_big h10]
        have := ih (n / 10) (by rw [Nat.pow_succ] at hn; omega)
        omega
  refine ⟨?_, key 6 n (by omega)⟩
  by_cases h10 : n < 10
  · rw [Lib.nDigits_small h10]; omega
  · rw [Lib.nDigits_big h10]; omega
theorem textL_len (n : Int) : (textL n).length ≤ 7 := by
  by_cases h : 0 ≤ n ∧ n ≤ 9999999
  · unfold textL textV; rw [if_neg (by omega), bl_mk]; exact (dec_len _ (by omega)).2
  · unfold textL; rw [textV_no (by omega)]; simp [bl]
theorem OwnN.at0 {B : Nat} {w : World} {A : Option Addr} {n c : Nat} {zs : List Int} (h : OwnN B w A n c zs) (h0 : 0 < zs.length) : ∃ g, A = some ⟨g, 0, none⟩ ∧ ∀ i, i < zs.length → w.cell? ⟨g, i, none⟩ = some (.int .i64 (zs.getD i 0)) := by
  obtain ⟨g, rfl, _, _⟩ := own_at h.own (by rw [h.len]; exact h0)
  rcases h.row with e | ⟨b, off, e, hc⟩
  · rw [e] at h0; simp at h0
  · injection e with e1
    injection e1 with e2 e3
    subst e2
    refine ⟨_, rfl, fun i hi => ?_⟩
    have := hc i hi
    rwa [← e3, Nat.zero_add] at this
end Go.Proofs.YtjjlpaampmpdfaaGreatDoor

namespace Go.Proofs.YtjjlpaampmpdfaaGreatDoor
open Go.ChangeShapes Go.WideShapes Go.ChangeAt Go.RowKit
set_option linter.unusedVariables false
/-- the texts of the waits of the locks among the first k parts -/
def locksL (ps : List PartM) (zs : List Int) (k : Nat) : List Bts := ((List.range k).filter (fun i => (ps.getD i default).kind == 3)).map (fun i => textL (zs.getD i 0))
theorem locksL_yes {ps : List PartM} {zs : List Int} {k : Nat} (h : (ps.getD k default).kind = 3) : locksL ps zs (k + 1) = locksL ps zs k ++ [textL (zs.getD k 0)] := by
  unfold locksL
  rw [List.range_succ, List.filter_append, List.map_append]
  have e : ((ps.getD k default).kind == 3) = true := by simpa using h
  rw [List.filter_cons_of_pos (p := fun i => (ps.getD i default).kind == 3) e]
  rfl
theorem locksL_no {ps : List PartM} {zs : List Int} {k : Nat} (h : (ps.getD k default).kind ≠ 3) : locksL ps zs (k + 1) = locksL ps zs k := by
  unfold locksL
  rw [List.range_succ, List.filter_append, List.map_append]
  have e : ¬ ((ps.getD k default).kind == 3) = true := by simpa using h
  rw [List.filter_cons_of_neg (p := fun i => (ps.getD i default).kind == 3) e]
  simp
theorem locksL_mem {ps : List PartM} {zs : List Int} {k : Nat} {x : Bts} (h : x ∈ locksL ps zs k) : x.length ≤ 7 := by
  unfold locksL at h
  obtain ⟨i, _, rfl⟩ := List.mem_map.1 h
  exact textL_len _
theorem locksL_len (ps : List PartM) (zs : List Int) (k : Nat) : (locksL ps zs k).length ≤ k := by
  unfold locksL
  rw [List.length_map]
  exact Nat.le_trans (List.length_filter_le _ _) (by simp)
def wordsR (s : SetR) (bs : List Int) (ws : List (List Int)) (i k : Nat) : List Bts := bl (s.tasks.getD i default).name :: textL (bs.getD i 0) :: textL (s.tasks.getD i default).dl :: locksL (s.tasks.getD i default).parts (ws.getD i []) k
def lineR (s : SetR) (bs : List Int) (ws : List (List Int)) (i : Nat) : Bts := joinT 32 (wordsR s bs ws i (s.tasks.getD i default).parts.length)
def wAdm : Bts := [97, 100, 109, 105, 116, 116, 101, 100]
def wLate : Bts := [108, 97, 116, 101]
def wUnk : Bts := [117, 110, 107, 110, 111, 119, 110]
def repL (s : SetR) : List Bts := wAdm :: (ordL s.tasks).map (fun i => lineR s (anB s) (anW s) i.toNat)
def repV (s : SetR) : List Bts := if anE s = 0 then repL s else if anE s = 19 then [wLate] else if anE s = 20 then [wUnk] else []
def repE (s : SetR) : Int := if anE s = 0 ∨ anE s = 19 ∨ anE s = 20 then 0 else anE s
theorem repL_len (s : SetR) : (repL s).length = s.tasks.length + 1 := by simp [repL, ordL_len]
theorem joinT_size {l : List Bts} {m : Nat} (h : ∀ x ∈ l, x.length ≤ m) : (joinT 32 l).length ≤ l.length * (m + 1) := by
  induction l with
  | nil => simp [joinT]
  | cons a t ih =>
    cases t with
    | nil => have := h a (by simp); simp [joinT]; omega
    | cons b r =>
      show (a ++ 32 :: joinT 32 (b :: r)).length ≤ _
      have h1 := ih (fun x hx => h x (List.mem_cons_of_mem _ hx))
      have h2 := h a (by simp)
      simp only [List.length_append, List.length_cons] at h1 ⊢
      rw [Nat.succ_mul]
      omega
/-- a set's priorities, if it may be, differ -/
theorem prio_ne {s : SetR} (h : okS s = true) {i j : Nat} (hi : i < s.tasks.length) (hj : j < s.tasks.length) (hne : i ≠ j) : (s.tasks.getD i default).prio ≠ (s.tasks.getD j default).prio := by
  have h1 := (okS_iff s).1 h
  have key : ∀ a b, a < b → b < s.tasks.length → (s.tasks.getD a default).prio ≠ (s.tasks.getD b default).prio := fun a b hab hb he => by
    have h2 := (taskE_ok (h1.2 b hb)).2.2.1
    have h3 : takenB (s.tasks.take b) (s.tasks.getD b default) = true := by
      unfold takenB
      refine List.any_eq_true.2 ⟨s.tasks.getD a default, ?_, ?_⟩
      · rw [List.mem_iff_getElem]
        have ha : a < s.tasks.length := by omega
        exact ⟨a, by simp; omega, by simp [List.getD, ha]⟩
      · unfold likeB; rw [he]; simp
    rw [h3] at h2
    cases h2
  rcases Nat.lt_or_gt_of_ne hne with h2 | h2
  · exact key i j h2 hj
  · exact fun he => key j i h2 hi he.symm
end Go.Proofs.YtjjlpaampmpdfaaGreatDoor

namespace Go.Proofs.YtjjlpaampmpdfaaGreatDoor
open Go.ChangeShapes Go.WideShapes Go.ChangeAt Go.RowKit
set_option linter.unusedVariables false
def insRen : Go.Shelf.Ren := ⟨fun | 21 => 45 | 27 => 64 | 28 => 65 | 35 => 89 | 39 => 122 | n => n, fun | 0 => 0 | 3 => 3 | 4 => 4 | 22 => 22 | n => n, fun | n => n⟩
theorem insLay : Go.Proofs.Lays2.n21 Tryz.prog insRen := {
  mixed := by kernel_rfl
  f21 := Tryz.func45.trans (congrArg some (by kernel_rfl))
  f27 := Tryz.func64.trans (congrArg some (by kernel_rfl))
  f28 := Tryz.func65.trans (congrArg some (by kernel_rfl))
  f35 := Tryz.func89.trans (congrArg some (by kernel_rfl))
  f39 := Tryz.func122.trans (congrArg some (by kernel_rfl))
  t0 := Tryz.underlying0
  a0 := Tryz.isAgg0
  z0 := Tryz.sizeOf0
  v0 := Tryz.zeroValue0
  t3 := Tryz.underlying3
  a3 := Tryz.isAgg3
  z3 := Tryz.sizeOf3
  v3 := Tryz.zeroValue3
  t4 := Tryz.underlying4
  a4 := Tryz.isAgg4
  z4 := Tryz.sizeOf4
  v4 := Tryz.zeroValue4
  t22 := Tryz.underlying22
  a22 := Tryz.isAgg22
  z22 := Tryz.sizeOf22
  v22 := Tryz.zeroValue22
  i3 := by kernel_rfl }
end Go.Proofs.YtjjlpaampmpdfaaGreatDoor

namespace Go.Proofs.YtjjlpaampmpdfaaGreatDoor
open Go.ChangeShapes Go.WideShapes Go.ChangeAt Go.RowKit
set_option linter.unusedVariables false
set_option linter.unusedSimpArgs false
def insAt (zs : List Int) (i : Nat) (x : Int) : List Int := zs.take i ++ x :: zs.drop i
theorem insAt_len {zs : List Int} {i : Nat} {x : Int} (h : i ≤ zs.length) : (insAt zs i x).length = zs.length + 1 := by
  unfold insAt; simp; omega
/-- cells written one behind the other -/
def wrA (cs : Array Value) (o : Nat) : List Value → Array Value
  | [] => cs
  | v :: r => wrA (cs.setIfInBounds o v) (o + 1) r
theorem wrA_size (vs : List Value) : ∀ (cs : Array Value) (o : Nat), (wrA cs o vs).size = cs.size := by
  induction vs with
  | nil => intro cs o; rfl
  | cons v r ih => intro cs o; unfold wrA; rw [ih]; simp
theorem wrA_list (vs : List Value) : ∀ (cs : Array Value) (o : Nat), o + vs.length ≤ cs.size → (wrA cs o vs).toList = cs.toList.take o ++ vs ++ cs.toList.drop (o + vs.length) := by
  induction vs with
  | nil => intro cs o h; simp [wrA]
  | cons v r ih =>
    intro cs o h
    simp only [List.length_cons] at h
    unfold wrA
    rw [ih _ _ (by simp; omega)]
    have ho : o < cs.toList.length := by simp; omega
    rw [Array.toList_setIfInBounds, List.set_eq_take_append_cons_drop, if_pos ho]
    have e1 : (cs.toList.take o ++ v :: cs.toList.drop (o + 1)).take (o + 1) = cs.toList.take o ++ [v] := by
      rw [List.take_append, List.length_take, Nat.min_eq_left (Nat.le_of_lt ho), List.take_of_length_le (by rw [List.length_take]; omega)]
      simp
    have e2 : (cs.toList.take o ++ v :: cs.toList.drop (o + 1)).drop (o + 1 + r.length) = cs.toList.drop (o + (r.length + 1)) := by
      rw [List.drop_append, List.length_take, Nat.min_eq_left (Nat.le_of_lt ho), List.drop_of_length_le (by simp; omega), show o + 1 + r.length - o = r.length + 1 by omega]
      simp [List.drop_drop]
      congr 1; omega
    rw [e1, e2]
    simp
theorem bk_setCells {g : Nat} {t : TypeId} (vs : List Value) : ∀ (o : Nat) (w : World) (cs : Array Value), Bk w g t cs → Bk (w.setCells g o vs) g t (wrA cs o vs) := by
  induction vs with
  | nil => intro o w cs h; exact h
  | cons v r ih => intro o w cs h; exact ih (o + 1) _ _ (h.put o v)
theorem turned_setCells {F : List Nat} {w : World} (g : Nat) (vs : List Value) : ∀ (o : Nat) (w' : World), Turned F w w' → (g ∈ F ∨ w.heap.size ≤ g) → Turned F w (w'.setCells g o vs) := by
  induction vs with
  | nil => intro o w' h hg; exact h
  | cons v r ih => intro o w' h hg; exact ih (o + 1) _ (h.setCell hg v) hg
theorem own_of_bk {base : Nat} {w : World} {g n cap : Nat} {T : TypeId} {cur : Array Value} {xs : List Value} (h : Bk w g T cur) (hb : base ≤ g) (hn : n ≤ cap) (hc : cap ≤ maxLen) (hs : cur.size = cap) (hx : cur.toList.take n = xs) (hl : xs.length = n) : w.ownsRow base T 1 (.slice (some ⟨g, 0, none⟩) n cap) n xs :=
  ⟨by omega, .inr ⟨g, cap, cur, rfl, hb, h, hn, hc, by omega, by rw [Nat.mul_one]; exact hx⟩⟩
theorem map_ins (zs : List Int) (i : Nat) (x : Int) : (insAt zs i x).map (Value.int .i64) = (zs.map (Value.int .i64)).take i ++ Value.int .i64 x :: (zs.map (Value.int .i64)).drop i := by
  unfold insAt; simp
theorem zc_size (n : Nat) : (Builtin.zeroCells (Value.int .i64 0).cells n).size = n := by simp [Builtin.zeroCells, show (Value.int .i64 0).cells.size = 1 from rfl]
theorem take_mid {a m b : List Value} {n : Nat} (h : a.length + m.length = n) : (a ++ m ++ b).take n = a ++ m := by
  rw [List.take_append_of_le_length (by simp; omega), List.take_of_length_le (by simp; omega)]
theorem ins_end {zs : List Int} {i : Nat} (x : Int) (h : i = zs.length) : (zs.map (Value.int .i64)).take i ++ Value.int .i64 x :: (zs.map (Value.int .i64)).drop i = zs.map (Value.int .i64) ++ [Value.int .i64 x] := by
  rw [List.take_of_length_le (by simp; omega), List.drop_of_length_le (by simp; omega)]
set_option maxHeartbeats 4000000 in
theorem insert_any {B n c i g : Nat} {A : Option Addr} {zs : List Int} {x : Int} {w : World} (h : OwnN B w A n c zs) (hi : i ≤ n) (hx : Bk w g 3 #[.int .i64 x]) (hg : g ∉ fp A) (hn : n ≤ 100000) (hB : B ≤ w.heap.size) :
    Calls Tryz.prog 45 #[.slice A n c, .int .i64 i, .slice (some ⟨g, 0, none⟩) 1 1] w fun e w' => ∃ A' c', e = .returned (.slice A' (n + 1) c') ∧ OwnN B w' A' (n + 1) c' (insAt zs i x) ∧ Turned (fp A) w w' := by
  have hlen := h.len
  have hcap := h.cap
  have hnil := h.nil
  have hvs : ∀ j v, [Value.int .i64 x][j]? = some v → w.cell? ⟨g, 0 + j, none⟩ = some v := fun j v hv => by
    rw [Nat.zero_add, hx.cell]
    cases j with
    | zero => simpa using hv
    | succ j => simp at hv
  have h1v : ∀ v ∈ [Value.int .i64 x], v.oneCell' = true := fun v hv => by rw [List.mem_singleton.1 hv]; rfl
  have h1c : ∀ v ∈ zs.map (Value.int .i64), v.oneCell' = true := fun v hv => by obtain ⟨a, _, rfl⟩ := List.mem_map.1 hv; rfl
  have hml : maxLen = 9223372036854775807 := rfl
  have hgl := hx.lt
  rcases h.own.2 with ⟨hv, hn0⟩ | ⟨b, cap, cur, hv, hb, hbk, h1, h2, h3, h4⟩
  · -- nil
    injection hv with hA hz hc
    subst hA
    obtain rfl : n = 0 := by omega
    obtain rfl : i = 0 := by omega
    obtain rfl : c = 0 := by omega
    obtain rfl : zs = [] := List.eq_nil_of_length_eq_zero hlen.symm
    refine (Any2.slices_Insert_int_end_grow insLay none 0 0 g 0 1 1 [] [Value.int .i64 x] w (by omega) (by omega) (by omega) (by omega) rfl rfl (fun _ => rfl) (by simp) hvs h1v).mono ?_
    rintro e w' ⟨rfl, rfl⟩
    refine ⟨_, _, rfl, ⟨?_, rfl, ?_, by simp⟩, ?_⟩
    · refine own_of_bk (Bk.new w.drew _ _) hB (grownCap_ge _ _ _ _) (grownCap_le_maxLen _ _ _ _ (by omega)) ?_ ?_ (by simp [insAt])
      · have := grownCap_ge w 1 0 3
        have e0 : (insRen.t 3) = 3 := rfl
        rw [Array.size_append, zc_size, e0]
        simp
        omega
      · simp [insAt]
    · exact ⟨grownCap_ge _ _ _ _, grownCap_le_maxLen _ _ _ _ (by omega)⟩
    · exact ((Turned.refl _ w).drew).alloc _
  · injection hv with hA hz hc
    subst hA; subst hc
    rw [Nat.mul_one] at h3 h4
    have hgb : g ≠ b := fun e => hg (by simp [fp, e])
    have hcs : ∀ j v, (zs.map (Value.int .i64))[j]? = some v → w.cell? ⟨b, 0 + j, none⟩ = some v := fun j v hjv => by
      rw [Nat.zero_add]
      have hj : j < n := by have := (List.getElem?_eq_some_iff.1 hjv).1; simp at this; omega
      rw [Bk.cell hbk, ← hjv, ← h4, List.getElem?_take_of_lt hj, Array.getElem?_toList]
    have hsome : ∀ j, j < c → (w.cell? ⟨b, j, none⟩).isSome = true := fun j hj => by
      rw [Bk.cell hbk]; simp; omega
    by_cases hin : i = n
    · subst hin
      by_cases hroom : i + 1 ≤ c
      · refine (Any2.slices_Insert_int_end_room insLay b 0 i c g 0 1 1 [Value.int .i64 x] w (by omega) hroom (by omega) rfl (fun j hj => hsome _ (by omega)) (fun j hj => Bk.frozen hbk _) hvs h1v).mono ?_
        rintro e w' ⟨rfl, rfl⟩
        have hbw := bk_setCells [Value.int .i64 x] (0 + i) w cur hbk
        have hl := wrA_list [Value.int .i64 x] cur (0 + i) (by simp; omega)
        refine ⟨_, _, rfl, ⟨own_of_bk hbw hb hroom h2 (by rw [wrA_size]; exact h3) ?_ (by rw [List.length_map, insAt_len (by omega)]; omega), by rw [insAt_len (by omega)]; omega, ⟨hroom, h2⟩, by simp⟩, turned_setCells b _ _ _ (Turned.refl _ w) (.inl (by simp [fp]))⟩
        rw [hl, map_ins, ins_end x hlen, take_mid (by rw [List.length_take, Array.length_toList]; simp; omega), Nat.zero_add, h4]
      · refine (Any2.slices_Insert_int_end_grow insLay (some ⟨b, 0, none⟩) i c g 0 1 1 (zs.map (Value.int .i64)) [Value.int .i64 x] w (by omega) (by omega) (by omega) (by omega) (by simpa using hlen.symm) rfl (by simp) (fun a ha j v hjv => by
          injection ha with ha
          subst ha
          have := hcs j v hjv
          rwa [show (⟨b, 0, none⟩ : Addr).add j = ⟨b, 0 + j, none⟩ by simp [Addr.add]; intro h0; exact h0.symm]) hvs h1v).mono ?_
        rintro e w' ⟨rfl, rfl⟩
        have hge := grownCap_ge w (i + 1) c 3
        have e0 : (insRen.t 3) = 3 := rfl
        refine ⟨_, _, rfl, ⟨own_of_bk (Bk.new w.drew _ _) hB (grownCap_ge _ _ _ _) (grownCap_le_maxLen _ _ _ _ (by omega)) ?_ ?_ (by rw [List.length_map, insAt_len (by omega)]; omega), by rw [insAt_len (by omega)]; omega, ⟨grownCap_ge _ _ _ _, grownCap_le_maxLen _ _ _ _ (by omega)⟩, by simp⟩, ((Turned.refl _ w).drew).alloc _⟩
        · rw [Array.size_append, zc_size, e0]
          simp
          omega
        · rw [map_ins, ins_end x hlen]
          have h5 : (zs.map (Value.int .i64) ++ [Value.int .i64 x]).length = i + 1 := by simp; omega
          rw [Array.toList_append, List.take_append_of_le_length (by simp; omega), List.take_of_length_le (by simp; omega)]
    · have hlt : i < n := by omega
      by_cases hroom : n + 1 ≤ c
      · refine (Any2.slices_Insert_int_shift insLay b 0 n c i g 0 1 1 (zs.map (Value.int .i64)) [Value.int .i64 x] w hlt (by omega) hroom (by omega) hgb (by simpa using hlen.symm) rfl hcs (fun j hj => by rw [Nat.zero_add]; exact hsome _ (by omega)) (fun j hj => Bk.frozen hbk _) hvs h1c h1v 3 3 1 cur.size (by simp [World.shape?, show w.heap[g]? = _ from hx]) (by simp [World.shape?, hbk]) (by omega) (Bk.frozen hx 0) (Bk.frozen hx 1)).mono ?_
        rintro e w' ⟨rfl, rfl⟩
        have hb1 := bk_setCells ((zs.map (Value.int .i64)).drop i) (0 + (i + 1)) w.drew cur hbk
        have hb2 := bk_setCells [Value.int .i64 x] (0 + i) _ _ hb1
        have hdl : ((zs.map (Value.int .i64)).drop i).length = n - i := by rw [List.length_drop, List.length_map]; omega
        have hl1 := wrA_list ((zs.map (Value.int .i64)).drop i) cur (0 + (i + 1)) (by rw [hdl]; omega)
        have hl2 := wrA_list [Value.int .i64 x] (wrA cur (0 + (i + 1)) ((zs.map (Value.int .i64)).drop i)) (0 + i) (by rw [wrA_size]; simp; omega)
        refine ⟨_, _, rfl, ⟨own_of_bk hb2 hb hroom h2 (by rw [wrA_size, wrA_size]; exact h3) ?_ (by rw [List.length_map, insAt_len (by omega)]; omega), by rw [insAt_len (by omega)]; omega, ⟨hroom, h2⟩, by simp⟩, turned_setCells b _ _ _ (turned_setCells b _ _ _ (Turned.refl _ w).drew (.inl (by simp [fp]))) (.inl (by simp [fp]))⟩
        rw [hl2, hl1, map_ins]
        have hcl : cur.toList.length = c := by simp; omega
        have e1 : (cur.toList.take (0 + (i + 1)) ++ (zs.map (Value.int .i64)).drop i ++ cur.toList.drop (0 + (i + 1) + ((zs.map (Value.int .i64)).drop i).length)).take (0 + i) = (zs.map (Value.int .i64)).take i := by
          rw [List.append_assoc, List.take_append_of_le_length (by rw [List.length_take]; omega), List.take_take, ← h4, List.take_take, Nat.min_eq_left (by omega), Nat.zero_add, Nat.min_eq_left (by omega)]
        have e2 : (cur.toList.take (0 + (i + 1)) ++ (zs.map (Value.int .i64)).drop i ++ cur.toList.drop (0 + (i + 1) + ((zs.map (Value.int .i64)).drop i).length)).drop (0 + i + [Value.int .i64 x].length) = (zs.map (Value.int .i64)).drop i ++ cur.toList.drop (n + 1) := by
          rw [List.append_assoc, List.drop_append_of_le_length (by rw [List.length_take]; simp; omega), List.drop_of_length_le (by rw [List.length_take]; simp; omega), hdl, List.nil_append]
          congr 2; omega
        rw [e1, e2, ← List.append_assoc, List.take_append_of_le_length (by simp; omega), List.take_of_length_le (by simp; omega)]
        simp
      · refine (Any2.slices_Insert_int_grow insLay b 0 n c i g 0 1 1 (zs.map (Value.int .i64)) [Value.int .i64 x] w hlt (by omega) (by omega) (by omega) (by omega) (by simpa using hlen.symm) rfl hcs hvs h1c h1v).mono ?_
        rintro e w' ⟨rfl, rfl⟩
        have hge := grownCap_ge w (n + 1) c 3
        have e0 : (insRen.t 3) = 3 := rfl
        have hb0 := Bk.new w 3 (((zs.map (Value.int .i64)).take i).toArray ++ Builtin.zeroCells (Value.int .i64 0).cells (n + 1 - i) ++ Builtin.zeroCells (Value.int .i64 0).cells (grownCap w (n + 1) c 3 - (n + 1)))
        have hb1 := bk_setCells [Value.int .i64 x] i (w.alloc (.cells (((zs.map (Value.int .i64)).take i).toArray ++ Builtin.zeroCells (Value.int .i64 0).cells (n + 1 - i) ++ Builtin.zeroCells (Value.int .i64 0).cells (grownCap w (n + 1) c 3 - (n + 1))) 3)).drew _ hb0
        have hb2 := (fun (W : World) (C1 : Array Value) (h : Bk W w.heap.size 3 C1) => bk_setCells ((zs.map (Value.int .i64)).drop i) (i + 1) W.drew C1 h) _ _ hb1
        have hzl : (zs.map (Value.int .i64)).length = n := by rw [List.length_map]; omega
        have hdl : ((zs.map (Value.int .i64)).drop i).length = n - i := by rw [List.length_drop]; omega
        obtain ⟨C, hC⟩ : ∃ C, (((zs.map (Value.int .i64)).take i).toArray ++ Builtin.zeroCells (Value.int .i64 0).cells (n + 1 - i) ++ Builtin.zeroCells (Value.int .i64 0).cells (grownCap w (n + 1) c 3 - (n + 1)) : Array Value) = C := ⟨_, rfl⟩
        have hCs : C.size = grownCap w (n + 1) c 3 := by
          rw [← hC, Array.size_append, Array.size_append, zc_size, zc_size]
          simp
          omega
        have hCt : C.toList.take i = (zs.map (Value.int .i64)).take i := by
          have h7 : C.toList = (zs.map (Value.int .i64)).take i ++ ((Builtin.zeroCells (Value.int .i64 0).cells (n + 1 - i)).toList ++ (Builtin.zeroCells (Value.int .i64 0).cells (grownCap w (n + 1) c 3 - (n + 1))).toList) := by rw [← hC]; simp
          rw [h7, List.take_append_of_le_length (by rw [List.length_take, hzl]; omega), List.take_of_length_le (by rw [List.length_take, hzl]; omega)]
        rw [hC] at hb1 hb2
        have hl1 := wrA_list [Value.int .i64 x] C i (by rw [hCs]; simp; omega)
        have hl2 := wrA_list ((zs.map (Value.int .i64)).drop i) (wrA C i [Value.int .i64 x]) (i + 1) (by rw [wrA_size, hCs, hdl]; omega)
        refine ⟨_, _, rfl, ⟨own_of_bk (g := w.heap.size) (cur := wrA (wrA C i [Value.int .i64 x]) (i + 1) ((zs.map (Value.int .i64)).drop i)) ?_ hB (grownCap_ge _ _ _ _) (grownCap_le_maxLen _ _ _ _ (by omega)) ?_ ?_ (by rw [List.length_map, insAt_len (by omega)]; omega), by rw [insAt_len (by omega)]; omega, ⟨grownCap_ge _ _ _ _, grownCap_le_maxLen _ _ _ _ (by omega)⟩, by simp⟩, ?_⟩
        · rw [← hC] at hb2; rw [← hC]; exact hb2
        · rw [wrA_size, wrA_size, hCs]; rfl
        · rw [hl2, hl1, map_ins]
          have hCl : C.toList.length = grownCap w (n + 1) c 3 := by simp [hCs]
          rw [hCt]
          have e1 : ((zs.map (Value.int .i64)).take i ++ [Value.int .i64 x] ++ C.toList.drop (i + [Value.int .i64 x].length)).take (i + 1) = (zs.map (Value.int .i64)).take i ++ [Value.int .i64 x] := by
            rw [List.take_append_of_le_length (by simp; omega), List.take_of_length_le (by simp; omega)]
          rw [e1, List.take_append_of_le_length (by simp; omega), List.take_of_length_le (by simp; omega)]
          simp
        · exact turned_setCells _ _ _ _ ((turned_setCells _ _ _ _ (((Turned.refl _ w).alloc _).drew) (.inr (Nat.le_refl _))).drew) (.inr (Nat.le_refl _))
end Go.Proofs.YtjjlpaampmpdfaaGreatDoor

namespace Go.Proofs.YtjjlpaampmpdfaaGreatDoor
open Go.ChangeShapes Go.WideShapes Go.ChangeAt Go.RowKit
set_option linter.unusedVariables false
theorem OwnN.zero (B : Nat) (w : World) : OwnN B w none 0 0 [] := ⟨World.ownsRow_nil _ _ _ _, rfl, by decide, fun _ => ⟨rfl, rfl⟩⟩
def IntsPost (w : World) (n : Nat) (zs : List Int) (e : Ending) (w' : World) : Prop := ∃ A c, e = .returned (.slice A n c) ∧ OwnN w.heap.size w' A n c zs ∧ Below w.heap.size w w'
theorem ints_oneI (zs : List Int) : ∀ u ∈ zs.map (Value.int .i64), u.oneCell' = true := fun u hu => by obtain ⟨n, _, rfl⟩ := List.mem_map.1 hu; rfl
end Go.Proofs.YtjjlpaampmpdfaaGreatDoor

namespace Go.Proofs.YtjjlpaampmpdfaaGreatDoor
open Go.ChangeShapes Go.WideShapes Go.ChangeAt Go.RowKit
set_option linter.unusedVariables false
set_option linter.unusedSimpArgs false
set_option maxRecDepth 100000
theorem map_fit {zs : List Int} (h : ∀ n ∈ zs, I64 n) (k : Nat) : ∀ n ∈ zs.take k, I64 n := fun n hn => h n (List.mem_of_mem_take hn)
/-- the order of the first k, with the next one put in behind m -/
theorem ord_put {ts : List TaskR} {k m : Nat} (hm : m ≤ k) (h1 : ∀ y ∈ (isort (itsN ts k)).take m, y.1 ≤ (ts.getD k default).prio) (h2 : ∀ y ∈ (isort (itsN ts k)).drop m, (ts.getD k default).prio < y.1) :
    (isort (itsN ts (k + 1))).map (·.2) = ((isort (itsN ts k)).map (·.2)).take m ++ (k : Int) :: ((isort (itsN ts k)).map (·.2)).drop m := by
  rw [itsN_snoc, isort_snoc, ins_at (k := m) (by rw [isort_len, itsN_len]; exact hm) h1 h2, List.map_append, List.map_take, List.map_cons, List.map_drop]
theorem srt_take {l : List (Int × Int)} (h : Srt l) {m : Nat} (hm : m < l.length) {c : Int} (hc : (l.getD m (0, 0)).1 ≤ c) : ∀ y ∈ l.take (m + 1), y.1 ≤ c := by
  intro y hy
  obtain ⟨i, hi, rfl⟩ := List.mem_iff_getElem.1 hy
  rw [List.length_take] at hi
  rw [List.getElem_take]
  by_cases e : i = m
  · subst e; simpa [List.getD, hm] using hc
  · have := (List.pairwise_iff_getElem.1 h) i m (by omega) hm (by omega)
    have h2 : (l.getD m (0, 0)).1 = l[m].1 := by simp [List.getD, hm]
    omega
set_option maxHeartbeats 8000000 in
theorem rorder_any (s : SetR) (w : World) (hs : SetOk w s) (hl : s.tasks.length ≤ 800) : Calls Tryz.prog 21 #[.agg #[.int .i64 s.proto, .slice s.ca s.cores.length s.cc, .slice s.ha s.homes.length s.hc, .slice s.ta s.tasks.length s.tc]] w (IntsPost w s.tasks.length (ordL s.tasks)) := by
  obtain ⟨j0, hj0, hk0, hk1, hk2⟩ := info_parts infoC
  have HA := hidp hs.tasks.at_
  have HO := hidp hs.tasks.ok
  obtain ⟨proto, ca, cc, cores, ha, hc, homes, ta, tc, tasks⟩ := s
  dsimp only at HA HO hl ⊢
  clear hs
  obtain ⟨v, HV, bx, hbw, hsv⟩ : ∃ v, Hid (w.alloc (.cells #[.int .i64 proto, .slice ca cores.length cc, .slice ha homes.length hc, .slice ta tasks.length tc] 25) = v) ∧ Bk v w.heap.size 25 #[.int .i64 proto, .slice ca cores.length cc, .slice ha homes.length hc, .slice ta tasks.length tc] ∧ Below w.heap.size w v ∧ v.heap.size = w.heap.size + 1 :=
    ⟨_, hidp rfl, Bk.new w 25 #[.int .i64 proto, .slice ca cores.length cc, .slice ha homes.length hc, .slice ta tasks.length tc], (Below.refl _ _).alloc (Nat.le_refl _) _, by simp⟩
  have HSV := hidp hsv
  clear hsv
  go_enter Tryz.func21, Tryz.ntmps21
  go_wp2_with fail
  rw [HV.out]
  go_loopg [3, 4] tasks.length (fun g r i wr => ∃ (k : Nat) (D : Option Addr) (d : Nat), k + g = tasks.length ∧ i = .int .i64 k ∧ r = .slice D k d ∧ OwnN v.heap.size wr D k d ((isort (itsN tasks k)).map (·.2)) ∧ Below v.heap.size v wr ∧ (k = 0 → D = none ∧ d = 0))
  case atStart => exact ⟨0, none, 0, by omega, rfl, rfl, by simpa [itsN, isort] using OwnN.zero _ _, Below.refl _ _, fun _ => ⟨rfl, rfl⟩⟩
  case round =>
    obtain ⟨k, D, d, hk, rfl, rfl, o, hb, hD⟩ := hrel
    have bxr := bx.below hb
    obtain ⟨x0, x1, x2, x3⟩ := Z4 bxr
    by_cases hlt : k < tasks.length
    · obtain ⟨t, HT⟩ : ∃ t, Hid (tasks.getD k default = t) := ⟨_, rfl⟩
      obtain ⟨g, off, hA, hcl⟩ := HA.out.resolve_left (by intro e; rw [e] at hlt; simp at hlt)
      have hcl2 : ∀ i, i < tasks.length → TaskCells v g (off + i * 6) (tasks.getD i default) := fun i hi => (hcl i hi).keep (Keeps.of_below hbw)
      have HC := hidp hcl2
      rw [hA] at x3
      have HAA := hidp hA
      clear hcl hcl2 hA x0 x1 x2 bxr
      have HL : Hid (((isort (itsN tasks k)).map (·.2)).length = k) := hidp (by rw [List.length_map, isort_len, itsN_len])
      have HI : Hid (∀ n ∈ (isort (itsN tasks k)).map (·.2), 0 ≤ n ∧ n < (k : Int)) := hidp (fun n hn => by
        obtain ⟨p, hp, rfl⟩ := List.mem_map.1 hn
        obtain ⟨i, hi, rfl⟩ := its_in ((isort_perm _).mem_iff.1 hp)
        dsimp only; omega)
      obtain ⟨wo, rfl⟩ : ∃ wo : World, wo = wr := ⟨_, rfl⟩
      have HO2 := hidp o
      have HB2 := hidp hb
      have HD := hidp hD
      clear o hb hD
      go_wp2_with fail
      go_loopg [5] k (fun g2 s5 wr2 => ∃ m : Nat, m = g2 ∧ s5 = .int .i64 m ∧ m ≤ k ∧ Hid (∀ y ∈ (isort (itsN tasks k)).drop m, t.prio < y.1) ∧ Qt wo wr2)
      case atStart => exact ⟨k, rfl, rfl, Nat.le_refl _, hidp (by rw [List.drop_of_length_le (by rw [isort_len, itsN_len]; exact Nat.le_refl _)]; simp), Qt.refl _⟩
      case round =>
        obtain ⟨m, hmg, rfl, hmk, Hy, hq⟩ := hrel
        have HMG := hidp hmg
        clear hmg
        have o := HO2.out.turned (hq.turned []) (by simp)
        have hb := hq.below HB2.out
        have bxr := bx.below hb
        obtain ⟨-, -, -, x3⟩ := Z4 bxr
        rw [HAA.out] at x3
        have ck := ((HC.out k hlt).keep (Keeps.of_below hb)).2.2.2.1
        rw [HT.out] at ck
        have kI : (k : Int) < (tasks.length : Int) := by omega
        have HQ := hidp hq
        clear bxr hq
        by_cases hm0 : m = 0
        · have Hput : Hid ((isort (itsN tasks (k + 1))).map (·.2) = ((isort (itsN tasks k)).map (·.2)).take 0 ++ (k : Int) :: ((isort (itsN tasks k)).map (·.2)).drop 0) := hidp (ord_put (Nat.zero_le _) (by simp) (by rw [HT.out, ← hm0]; exact Hy.out))
          have hg0 : decide (0 < m) = false := by simp; omega
          have hg0n : ¬ 0 < m := by omega
          by_cases hk0' : k = 0
          · obtain ⟨hD1, hD2⟩ := HD.out hk0'
            subst hD1
            subst hD2
            have HK0 := hidp hk0'
            clear hk0'
            go_wp2
            go_quiet (fail)
            go_wp2_with fail
            subst hm0
            have o3 : OwnN v.heap.size (wr.drewN nq).drew (none) k 0 ((isort (itsN tasks k)).map (·.2)) := o.turned ((Turned.refl [] wr).drewN nq).drew (by simp)
            have hb3 : Below v.heap.size v (wr.drewN nq).drew := below_drewN (below_drewN hb nq) 1
            obtain ⟨Zs, HZs⟩ : ∃ Zs, (isort (itsN tasks k)).map (·.2) = Zs := ⟨_, rfl⟩
            rw [HZs] at o3 HL Hput
            obtain ⟨u, hu⟩ : ∃ u, (wr.drewN nq).drew = u := ⟨_, rfl⟩
            have ll := Lies.of_own o3.own
            rw [hu] at o3 hb3 ll
            have HUE := hidp hu
            have O1 := hidp (fun w (h : w ∈ (Zs.take 0).map (Value.int .i64)) => ints_oneI _ w h)
            have O3 := hidp (fun w (h : w ∈ (Zs.drop 0).map (Value.int .i64)) => ints_oneI _ w h)
            have O2 := hidp (ints_oneI [(k : Int)])
            have L1 : Hid (((Zs.take 0).map (Value.int .i64)).length = 0 * 1) := hidp (by have := HL.out; simp; try omega)
            have L3 : Hid (((Zs.drop 0).map (Value.int .i64)).length = k * 1) := hidp (by have := HL.out; simp; try omega)
            have S1 : Hid (Lies u.heap.size u (none) ((Zs.take 0).map (Value.int .i64))) := hidp (by rw [List.map_take]; exact ll.take _)
            have S3 : Hid (Lies u.heap.size u none ((Zs.drop 0).map (Value.int .i64))) := hidp (by rw [List.drop_zero]; exact ll)
            have P3 : Hid ((none : Option Addr) = none → k = 0 ∧ 0 = 0) := hidp (fun _ => ⟨HK0.out, rfl⟩)
            have M1 : Hid (0 + 0 ≤ maxLen) := hidp (by unfold maxLen; omega)
            have M2 : Hid (0 + 1 ≤ maxLen) := hidp (by unfold maxLen; omega)
            have M3 : Hid (0 + 1 + (k) ≤ maxLen) := hidp (by unfold maxLen; omega)
            have N1 : Hid ((0 + 0) * 8 ≤ 140737488355328) := hidp (by omega)
            have N2 : Hid ((0 + 1) * 8 ≤ 140737488355328) := hidp (by omega)
            have N3 : Hid ((0 + 1 + (k)) * 8 ≤ 140737488355328) := hidp (by omega)
            have Hcap := hidp o3.cap
            have Hb3 := hidp hb3
            clear o3 ll hb3 HZs hb o
            refine wp_region_held_drew (S := fun _ => True) (by kernel_rfl) ?_ (fun hHeld => ?_)
            · trivial
            rw [hu]
            clear hu
            refine wpAnyH_take (i := 0) (v := ?_) rfl (by kernel_rfl) (by kernel_rfl) (by kernel_rfl) (fun _ _ _ h => h) (Or.inl ⟨by rfl, ?_⟩) (by assumption) ?_
            rotate_left 1
            · ((intro w hSw; (try dsimp only at hSw); go_simp); (try with_reducible rfl))
            simp only [Act.put, List.setIfInBounds_toArray, List.set_cons_zero, List.set_cons_succ, List.getElem_toArray, List.getElem_cons_zero, List.getElem_cons_succ]
            refine wpAnyH_take (i := 1) (v := ?_) rfl (by kernel_rfl) (by kernel_rfl) (by kernel_rfl) (fun _ _ _ h => h) (Or.inl ⟨by rfl, ?_⟩) (by assumption) ?_
            rotate_left 1
            · ((intro w hSw; (try dsimp only at hSw); go_simp); (try with_reducible rfl))
            simp only [Act.put, List.setIfInBounds_toArray, List.set_cons_zero, List.set_cons_succ, List.getElem_toArray, List.getElem_cons_zero, List.getElem_cons_succ]
            refine wpAnyH_take (i := 4) (v := ?_) rfl (by kernel_rfl) (by kernel_rfl) (by kernel_rfl) (fun _ _ _ h => h) (Or.inl ⟨by rfl, ?_⟩) (by assumption) ?_
            rotate_left 1
            · ((intro w hSw; (try dsimp only at hSw); go_simp); (try with_reducible rfl))
            simp only [Act.put, List.setIfInBounds_toArray, List.set_cons_zero, List.set_cons_succ, List.getElem_toArray, List.getElem_cons_zero, List.getElem_cons_succ]
            refine wpAnyH_take (i := 7) (v := ?_) rfl (by kernel_rfl) (by kernel_rfl) (by kernel_rfl) (fun _ _ _ h => h) (Or.inl ⟨by rfl, ?_⟩) (by assumption) ?_
            rotate_left 1
            · ((intro w hSw; (try dsimp only at hSw); go_simp); (try with_reducible rfl))
            simp only [Act.put, List.setIfInBounds_toArray, List.set_cons_zero, List.set_cons_succ, List.getElem_toArray, List.getElem_cons_zero, List.getElem_cons_succ]
            refine wpAnyH_take (i := 8) (v := ?_) rfl (by kernel_rfl) (by kernel_rfl) (by kernel_rfl) (fun _ _ _ h => h) (Or.inl ⟨by rfl, ?_⟩) (by assumption) ?_
            rotate_left 1
            · ((intro w hSw; (try dsimp only at hSw); go_simp); (try with_reducible rfl))
            simp only [Act.put, List.setIfInBounds_toArray, List.set_cons_zero, List.set_cons_succ, List.getElem_toArray, List.getElem_cons_zero, List.getElem_cons_succ]
            refine wpAnyH_take (i := 2) (v := ?_) rfl (by kernel_rfl) (by kernel_rfl) (by kernel_rfl) (fun _ _ _ h => h) (Or.inl ⟨by rfl, ?_⟩) (by assumption) ?_
            rotate_left 1
            · ((intro w hSw; (try dsimp only at hSw); go_simp); (try with_reducible rfl))
            simp only [Act.put, List.setIfInBounds_toArray, List.set_cons_zero, List.set_cons_succ, List.getElem_toArray, List.getElem_cons_zero, List.getElem_cons_succ]
            refine wpAnyH_take (i := 9) (v := ?_) rfl (by kernel_rfl) (by kernel_rfl) (by kernel_rfl) (fun _ _ _ h => h) (Or.inl ⟨by rfl, ?_⟩) (by assumption) ?_
            rotate_left 1
            · ((intro w hSw; (try dsimp only at hSw); go_simp); (try with_reducible rfl))
            simp only [Act.put, List.setIfInBounds_toArray, List.set_cons_zero, List.set_cons_succ, List.getElem_toArray, List.getElem_cons_zero, List.getElem_cons_succ]
            refine wpAnyH_ready (rs := [3, 5]) (by kernel_rfl) (by simp) ?_
            refine AllReadyH.cons rfl (fun K hK => ?_) (AllReadyH.cons rfl (fun K hK => ?_) AllReadyH.nil)
            · refine step_app2 _ rfl (.const (.slice none 0 0)) (.tmp 40) 22 rfl u.heap.size 3 j0 _ 1 8 Tryz.underlying22 hj0 hk0 hk1 hk2 rfl (by decide) none 0 0 _ rfl (World.ownsRow_nil _ _ _ _) _ (none) 0 0 ((Zs.take 0).map (Value.int .i64)) rfl (by simp) L1.out S1.out O1.out M1.out N1.out (Nat.le_refl _) ?_
              intro B1 k1 u2 h1
              rw [Nat.zero_add, List.nil_append] at h1
              simp only [Nat.zero_add]
              have hbu2 : Below u.heap.size u u2 := h1.turned.below (Nat.le_refl _) (by simp [fp])
              have hF1 := hidp (own_fp h1.own)
              refine hK.out _ _ ?_ (fun hHeld => ?_)
              · exact trivial
              clear hK K
              try simp only [Act.put, List.setIfInBounds_toArray, List.set_cons_zero, List.set_cons_succ, List.getElem_toArray, List.getElem_cons_zero, List.getElem_cons_succ]
              refine wpAnyH_ready (rs := [5]) (by kernel_rfl) (by simp) ?_
              refine AllReadyH.cons rfl (fun K hK => ?_) AllReadyH.nil
              go_simp
              refine hK.out _ _ ?_ (fun hHeld => ?_)
              · exact trivial
              clear hK K
              try simp only [Act.put, List.setIfInBounds_toArray, List.set_cons_zero, List.set_cons_succ, List.getElem_toArray, List.getElem_cons_zero, List.getElem_cons_succ]
              have hown2 := World.ownsRow.alloc h1.own (.cells #[.int .i64 (k : Int)] 3)
              have S2 := hidp (Lies.new1 u2 (.int .i64 (k : Int)) 3)
              have hbu2a := hbu2.alloc hbu2.size (.cells #[.int .i64 (k : Int)] 3)
              refine wpAnyH_ready (rs := [6]) (by kernel_rfl) (by simp) ?_
              refine AllReadyH.cons rfl (fun K hK => ?_) AllReadyH.nil
              refine step_app2 _ rfl (.tmp 41) (.tmp 43) 22 rfl u.heap.size 3 j0 _ 1 8 Tryz.underlying22 hj0 hk0 hk1 hk2 rfl (by decide) B1 0 k1 _ rfl hown2 _ (some ⟨u2.heap.size, 0, none⟩) 1 1 ([.int .i64 (k : Int)]) rfl (by simp) rfl S2.out O2.out M2.out N2.out hbu2a.size ?_
              intro B2 k2 u3 h2
              have hbu3 := hbu2a.trans (h2.turned.below hbu2a.size (fun j hj => (hF1.out j hj).1))
              have hF2 := hidp (own_fp h2.own)
              have S3b := hidp (S3.out.below hbu3)
              refine hK.out _ _ ?_ (fun hHeld => ?_)
              · exact trivial
              clear hK K
              try simp only [Act.put, List.setIfInBounds_toArray, List.set_cons_zero, List.set_cons_succ, List.getElem_toArray, List.getElem_cons_zero, List.getElem_cons_succ]
              refine wpAnyH_ready (rs := [10]) (by kernel_rfl) (by simp) ?_
              refine AllReadyH.cons rfl (fun K hK => ?_) AllReadyH.nil
              refine step_app2 _ rfl (.tmp 44) (.tmp 47) 22 rfl u.heap.size 3 j0 _ 1 8 Tryz.underlying22 hj0 hk0 hk1 hk2 rfl (by decide) B2 (0 + 1) k2 _ rfl h2.own _ (none) k 0 ((Zs.drop 0).map (Value.int .i64)) rfl P3.out L3.out S3b.out O3.out M3.out N3.out hbu3.size ?_
              intro B3 k3 u4 h3
              have hbu4 := hbu3.trans (h3.turned.below hbu3.size (fun j hj => (hF2.out j hj).1))
              refine hK.out _ _ ?_ (fun hHeld => ?_)
              · exact trivial
              clear hK K
              try simp only [Act.put, List.setIfInBounds_toArray, List.set_cons_zero, List.set_cons_succ, List.getElem_toArray, List.getElem_cons_zero, List.getElem_cons_succ]
              refine wpAnyH_take (i := 11) (v := ?_) rfl (by kernel_rfl) (by kernel_rfl) (by kernel_rfl) (fun _ _ _ h => h) (Or.inl ⟨by rfl, ?_⟩) (by assumption) ?_
              rotate_left 1
              · ((intro w hSw; (try dsimp only at hSw); go_simp); (try with_reducible rfl))
              simp only [Act.put, List.setIfInBounds_toArray, List.set_cons_zero, List.set_cons_succ, List.getElem_toArray, List.getElem_cons_zero, List.getElem_cons_succ]
              refine wpAnyH_done (by kernel_rfl) ?_ _
              have own3 := h3.own
              rw [show (Zs.take 0).map (Value.int .i64) ++ [Value.int .i64 (k : Int)] ++ (Zs.drop 0).map (Value.int .i64) = (Zs.take 0 ++ (k : Int) :: Zs.drop 0).map (Value.int .i64) by simp, ← Hput.out] at own3
              have HE : Hid (0 + 1 + k = k + 1) := hidp (by have := HK0.out; omega)
              rw [HE.out] at own3
              have cap3 := h3.cap
              rw [HE.out] at cap3
              have o5 : OwnN v.heap.size u4 B3 (k + 1) k3 ((isort (itsN tasks (k + 1))).map (·.2)) := OwnN.low ⟨own3, by rw [List.length_map, isort_len, itsN_len], cap3, fun e => by have := h3.nil e; omega⟩ Hb3.out.size
              have hb5 : Below v.heap.size v u4 := Hb3.out.trans (hbu4.mono Hb3.out.size)
              clear own3 h1 h2 h3 hbu2 hbu3 hbu4 hHeld
              go_wp2_with fail
              go_roundg (tasks.length - k - 1)
              case measure => omega
              case rel => exact ⟨k + 1, B3, k3, by omega, by go_num, by rw [HE.out], o5, hb5, fun e => by omega⟩
            · go_simp
              refine hK.out _ _ ?_ (fun hHeld => ?_)
              · exact trivial
              clear hK K
              try simp only [Act.put, List.setIfInBounds_toArray, List.set_cons_zero, List.set_cons_succ, List.getElem_toArray, List.getElem_cons_zero, List.getElem_cons_succ]
              have hbu0 := (Below.refl u.heap.size u).alloc (Nat.le_refl _) (.cells #[.int .i64 (k : Int)] 3)
              have S1b := hidp (S1.out.below hbu0)
              have S2 := Lies.new1 u (.int .i64 (k : Int)) 3
              refine wpAnyH_ready (rs := [3]) (by kernel_rfl) (by simp) ?_
              refine AllReadyH.cons rfl (fun K hK => ?_) AllReadyH.nil
              refine step_app2 _ rfl (.const (.slice none 0 0)) (.tmp 40) 22 rfl u.heap.size 3 j0 _ 1 8 Tryz.underlying22 hj0 hk0 hk1 hk2 rfl (by decide) none 0 0 _ rfl (World.ownsRow_nil _ _ _ _) _ (none) 0 0 ((Zs.take 0).map (Value.int .i64)) rfl (by simp) L1.out S1b.out O1.out M1.out N1.out hbu0.size ?_
              intro B1 k1 u2 h1
              rw [Nat.zero_add, List.nil_append] at h1
              simp only [Nat.zero_add]
              have hbu2 := hbu0.trans (h1.turned.below hbu0.size (by simp [fp]))
              have hF1 := hidp (own_fp h1.own)
              have S2b := hidp (S2.turned h1.turned (by simp [fp]))
              refine hK.out _ _ ?_ (fun hHeld => ?_)
              · exact trivial
              clear hK K
              try simp only [Act.put, List.setIfInBounds_toArray, List.set_cons_zero, List.set_cons_succ, List.getElem_toArray, List.getElem_cons_zero, List.getElem_cons_succ]
              refine wpAnyH_ready (rs := [6]) (by kernel_rfl) (by simp) ?_
              refine AllReadyH.cons rfl (fun K hK => ?_) AllReadyH.nil
              refine step_app2 _ rfl (.tmp 41) (.tmp 43) 22 rfl u.heap.size 3 j0 _ 1 8 Tryz.underlying22 hj0 hk0 hk1 hk2 rfl (by decide) B1 0 k1 _ rfl h1.own _ (some ⟨u.heap.size, 0, none⟩) 1 1 ([.int .i64 (k : Int)]) rfl (by simp) rfl S2b.out O2.out M2.out N2.out hbu2.size ?_
              intro B2 k2 u3 h2
              have hbu3 := hbu2.trans (h2.turned.below hbu2.size (fun j hj => (hF1.out j hj).1))
              have hF2 := hidp (own_fp h2.own)
              have S3b := hidp (S3.out.below hbu3)
              refine hK.out _ _ ?_ (fun hHeld => ?_)
              · exact trivial
              clear hK K
              try simp only [Act.put, List.setIfInBounds_toArray, List.set_cons_zero, List.set_cons_succ, List.getElem_toArray, List.getElem_cons_zero, List.getElem_cons_succ]
              refine wpAnyH_ready (rs := [10]) (by kernel_rfl) (by simp) ?_
              refine AllReadyH.cons rfl (fun K hK => ?_) AllReadyH.nil
              refine step_app2 _ rfl (.tmp 44) (.tmp 47) 22 rfl u.heap.size 3 j0 _ 1 8 Tryz.underlying22 hj0 hk0 hk1 hk2 rfl (by decide) B2 (0 + 1) k2 _ rfl h2.own _ (none) k 0 ((Zs.drop 0).map (Value.int .i64)) rfl P3.out L3.out S3b.out O3.out M3.out N3.out hbu3.size ?_
              intro B3 k3 u4 h3
              have hbu4 := hbu3.trans (h3.turned.below hbu3.size (fun j hj => (hF2.out j hj).1))
              refine hK.out _ _ ?_ (fun hHeld => ?_)
              · exact trivial
              clear hK K
              try simp only [Act.put, List.setIfInBounds_toArray, List.set_cons_zero, List.set_cons_succ, List.getElem_toArray, List.getElem_cons_zero, List.getElem_cons_succ]
              refine wpAnyH_take (i := 11) (v := ?_) rfl (by kernel_rfl) (by kernel_rfl) (by kernel_rfl) (fun _ _ _ h => h) (Or.inl ⟨by rfl, ?_⟩) (by assumption) ?_
              rotate_left 1
              · ((intro w hSw; (try dsimp only at hSw); go_simp); (try with_reducible rfl))
              simp only [Act.put, List.setIfInBounds_toArray, List.set_cons_zero, List.set_cons_succ, List.getElem_toArray, List.getElem_cons_zero, List.getElem_cons_succ]
              refine wpAnyH_done (by kernel_rfl) ?_ _
              have own3 := h3.own
              rw [show (Zs.take 0).map (Value.int .i64) ++ [Value.int .i64 (k : Int)] ++ (Zs.drop 0).map (Value.int .i64) = (Zs.take 0 ++ (k : Int) :: Zs.drop 0).map (Value.int .i64) by simp, ← Hput.out] at own3
              have HE : Hid (0 + 1 + k = k + 1) := hidp (by have := HK0.out; omega)
              rw [HE.out] at own3
              have cap3 := h3.cap
              rw [HE.out] at cap3
              have o5 : OwnN v.heap.size u4 B3 (k + 1) k3 ((isort (itsN tasks (k + 1))).map (·.2)) := OwnN.low ⟨own3, by rw [List.length_map, isort_len, itsN_len], cap3, fun e => by have := h3.nil e; omega⟩ Hb3.out.size
              have hb5 : Below v.heap.size v u4 := Hb3.out.trans (hbu4.mono Hb3.out.size)
              clear own3 h1 h2 h3 hbu2 hbu3 hbu4 hHeld
              go_wp2_with fail
              go_roundg (tasks.length - k - 1)
              case measure => omega
              case rel => exact ⟨k + 1, B3, k3, by omega, by go_num, by rw [HE.out], o5, hb5, fun e => by omega⟩
          · obtain ⟨gd, hgd, hgd1, hgd2⟩ := own_at o.own (by omega)
            subst hgd
            go_wp2
            go_quiet (fail)
            go_wp2_with fail
            subst hm0
            have o3 : OwnN v.heap.size (wr.drewN nq).drew (some ⟨gd, 0, none⟩) k d ((isort (itsN tasks k)).map (·.2)) := o.turned ((Turned.refl [] wr).drewN nq).drew (by simp)
            have hb3 : Below v.heap.size v (wr.drewN nq).drew := below_drewN (below_drewN hb nq) 1
            obtain ⟨Zs, HZs⟩ : ∃ Zs, (isort (itsN tasks k)).map (·.2) = Zs := ⟨_, rfl⟩
            rw [HZs] at o3 HL Hput
            obtain ⟨u, hu⟩ : ∃ u, (wr.drewN nq).drew = u := ⟨_, rfl⟩
            have ll := Lies.of_own o3.own
            rw [hu] at o3 hb3 ll
            have HUE := hidp hu
            have O1 := hidp (fun w (h : w ∈ (Zs.take 0).map (Value.int .i64)) => ints_oneI _ w h)
            have O3 := hidp (fun w (h : w ∈ (Zs.drop 0).map (Value.int .i64)) => ints_oneI _ w h)
            have O2 := hidp (ints_oneI [(k : Int)])
            have L1 : Hid (((Zs.take 0).map (Value.int .i64)).length = 0 * 1) := hidp (by have := HL.out; simp; try omega)
            have L3 : Hid (((Zs.drop 0).map (Value.int .i64)).length = k * 1) := hidp (by have := HL.out; simp; try omega)
            have S1 : Hid (Lies u.heap.size u (some ⟨gd, 0, none⟩) ((Zs.take 0).map (Value.int .i64))) := hidp (by rw [List.map_take]; exact ll.take _)
            have S3 : Hid (Lies u.heap.size u (some ⟨gd, 0, none⟩) ((Zs.drop 0).map (Value.int .i64))) := hidp (by rw [List.drop_zero]; exact ll)
            have P3 : Hid ((some ⟨gd, 0, none⟩ : Option Addr) = none → k = 0 ∧ d = 0) := hidp (by simp)
            have M1 : Hid (0 + 0 ≤ maxLen) := hidp (by unfold maxLen; omega)
            have M2 : Hid (0 + 1 ≤ maxLen) := hidp (by unfold maxLen; omega)
            have M3 : Hid (0 + 1 + k ≤ maxLen) := hidp (by unfold maxLen; omega)
            have N1 : Hid ((0 + 0) * 8 ≤ 140737488355328) := hidp (by omega)
            have N2 : Hid ((0 + 1) * 8 ≤ 140737488355328) := hidp (by omega)
            have N3 : Hid ((0 + 1 + k) * 8 ≤ 140737488355328) := hidp (by omega)
            have hcp := o3.cap.1
            have hmd : 0 ≤ d := by omega
            have hmk2 : 0 ≤ k := Nat.zero_le _
            have Hcap := hidp o3.cap
            have Hb3 := hidp hb3
            clear o3 ll hb3 HZs hb o
            refine wp_region_held_drew (S := fun _ => True) (by kernel_rfl) ?_ (fun hHeld => ?_)
            · trivial
            rw [hu]
            clear hu
            refine wpAnyH_take (i := 0) (v := ?_) rfl (by kernel_rfl) (by kernel_rfl) (by kernel_rfl) (fun _ _ _ h => h) (Or.inl ⟨by rfl, ?_⟩) (by assumption) ?_
            rotate_left 1
            · ((intro w hSw; (try dsimp only at hSw); go_simp); (try with_reducible rfl))
            simp only [Act.put, List.setIfInBounds_toArray, List.set_cons_zero, List.set_cons_succ, List.getElem_toArray, List.getElem_cons_zero, List.getElem_cons_succ]
            refine wpAnyH_take (i := 1) (v := ?_) rfl (by kernel_rfl) (by kernel_rfl) (by kernel_rfl) (fun _ _ _ h => h) (Or.inl ⟨by rfl, ?_⟩) (by assumption) ?_
            rotate_left 1
            · ((intro w hSw; (try dsimp only at hSw); go_simp); (try with_reducible rfl))
            simp only [Act.put, List.setIfInBounds_toArray, List.set_cons_zero, List.set_cons_succ, List.getElem_toArray, List.getElem_cons_zero, List.getElem_cons_succ]
            refine wpAnyH_take (i := 4) (v := ?_) rfl (by kernel_rfl) (by kernel_rfl) (by kernel_rfl) (fun _ _ _ h => h) (Or.inl ⟨by rfl, ?_⟩) (by assumption) ?_
            rotate_left 1
            · ((intro w hSw; (try dsimp only at hSw); go_simp); (try with_reducible rfl))
            simp only [Act.put, List.setIfInBounds_toArray, List.set_cons_zero, List.set_cons_succ, List.getElem_toArray, List.getElem_cons_zero, List.getElem_cons_succ]
            refine wpAnyH_take (i := 7) (v := ?_) rfl (by kernel_rfl) (by kernel_rfl) (by kernel_rfl) (fun _ _ _ h => h) (Or.inl ⟨by rfl, ?_⟩) (by assumption) ?_
            rotate_left 1
            · ((intro w hSw; (try dsimp only at hSw); go_simp); (try with_reducible rfl))
            simp only [Act.put, List.setIfInBounds_toArray, List.set_cons_zero, List.set_cons_succ, List.getElem_toArray, List.getElem_cons_zero, List.getElem_cons_succ]
            refine wpAnyH_take (i := 8) (v := ?_) rfl (by kernel_rfl) (by kernel_rfl) (by kernel_rfl) (fun _ _ _ h => h) (Or.inl ⟨by rfl, ?_⟩) (by assumption) ?_
            rotate_left 1
            · ((intro w hSw; (try dsimp only at hSw); go_simp); (try with_reducible rfl))
            simp only [Act.put, List.setIfInBounds_toArray, List.set_cons_zero, List.set_cons_succ, List.getElem_toArray, List.getElem_cons_zero, List.getElem_cons_succ]
            refine wpAnyH_take (i := 2) (v := ?_) rfl (by kernel_rfl) (by kernel_rfl) (by kernel_rfl) (fun _ _ _ h => h) (Or.inl ⟨by rfl, ?_⟩) (by assumption) ?_
            rotate_left 1
            · ((intro w hSw; (try dsimp only at hSw); go_simp); (try with_reducible rfl))
            simp only [Act.put, List.setIfInBounds_toArray, List.set_cons_zero, List.set_cons_succ, List.getElem_toArray, List.getElem_cons_zero, List.getElem_cons_succ]
            refine wpAnyH_take (i := 9) (v := ?_) rfl (by kernel_rfl) (by kernel_rfl) (by kernel_rfl) (fun _ _ _ h => h) (Or.inl ⟨by rfl, ?_⟩) (by assumption) ?_
            rotate_left 1
            · ((intro w hSw; (try dsimp only at hSw); go_simp); (try with_reducible rfl))
            simp only [Act.put, List.setIfInBounds_toArray, List.set_cons_zero, List.set_cons_succ, List.getElem_toArray, List.getElem_cons_zero, List.getElem_cons_succ]
            refine wpAnyH_ready (rs := [3, 5]) (by kernel_rfl) (by simp) ?_
            refine AllReadyH.cons rfl (fun K hK => ?_) (AllReadyH.cons rfl (fun K hK => ?_) AllReadyH.nil)
            · refine step_app2 _ rfl (.const (.slice none 0 0)) (.tmp 40) 22 rfl u.heap.size 3 j0 _ 1 8 Tryz.underlying22 hj0 hk0 hk1 hk2 rfl (by decide) none 0 0 _ rfl (World.ownsRow_nil _ _ _ _) _ (some ⟨gd, 0, none⟩) 0 d ((Zs.take 0).map (Value.int .i64)) rfl (by simp) L1.out S1.out O1.out M1.out N1.out (Nat.le_refl _) ?_
              intro B1 k1 u2 h1
              rw [Nat.zero_add, List.nil_append] at h1
              simp only [Nat.zero_add]
              have hbu2 : Below u.heap.size u u2 := h1.turned.below (Nat.le_refl _) (by simp [fp])
              have hF1 := hidp (own_fp h1.own)
              refine hK.out _ _ ?_ (fun hHeld => ?_)
              · exact trivial
              clear hK K
              try simp only [Act.put, List.setIfInBounds_toArray, List.set_cons_zero, List.set_cons_succ, List.getElem_toArray, List.getElem_cons_zero, List.getElem_cons_succ]
              refine wpAnyH_ready (rs := [5]) (by kernel_rfl) (by simp) ?_
              refine AllReadyH.cons rfl (fun K hK => ?_) AllReadyH.nil
              go_simp
              refine hK.out _ _ ?_ (fun hHeld => ?_)
              · exact trivial
              clear hK K
              try simp only [Act.put, List.setIfInBounds_toArray, List.set_cons_zero, List.set_cons_succ, List.getElem_toArray, List.getElem_cons_zero, List.getElem_cons_succ]
              have hown2 := World.ownsRow.alloc h1.own (.cells #[.int .i64 (k : Int)] 3)
              have S2 := hidp (Lies.new1 u2 (.int .i64 (k : Int)) 3)
              have hbu2a := hbu2.alloc hbu2.size (.cells #[.int .i64 (k : Int)] 3)
              refine wpAnyH_ready (rs := [6]) (by kernel_rfl) (by simp) ?_
              refine AllReadyH.cons rfl (fun K hK => ?_) AllReadyH.nil
              refine step_app2 _ rfl (.tmp 41) (.tmp 43) 22 rfl u.heap.size 3 j0 _ 1 8 Tryz.underlying22 hj0 hk0 hk1 hk2 rfl (by decide) B1 0 k1 _ rfl hown2 _ (some ⟨u2.heap.size, 0, none⟩) 1 1 ([.int .i64 (k : Int)]) rfl (by simp) rfl S2.out O2.out M2.out N2.out hbu2a.size ?_
              intro B2 k2 u3 h2
              have hbu3 := hbu2a.trans (h2.turned.below hbu2a.size (fun j hj => (hF1.out j hj).1))
              have hF2 := hidp (own_fp h2.own)
              have S3b := hidp (S3.out.below hbu3)
              refine hK.out _ _ ?_ (fun hHeld => ?_)
              · exact trivial
              clear hK K
              try simp only [Act.put, List.setIfInBounds_toArray, List.set_cons_zero, List.set_cons_succ, List.getElem_toArray, List.getElem_cons_zero, List.getElem_cons_succ]
              refine wpAnyH_ready (rs := [10]) (by kernel_rfl) (by simp) ?_
              refine AllReadyH.cons rfl (fun K hK => ?_) AllReadyH.nil
              refine step_app2 _ rfl (.tmp 44) (.tmp 47) 22 rfl u.heap.size 3 j0 _ 1 8 Tryz.underlying22 hj0 hk0 hk1 hk2 rfl (by decide) B2 (0 + 1) k2 _ rfl h2.own _ (some ⟨gd, 0, none⟩) k d ((Zs.drop 0).map (Value.int .i64)) rfl P3.out L3.out S3b.out O3.out M3.out N3.out hbu3.size ?_
              intro B3 k3 u4 h3
              have hbu4 := hbu3.trans (h3.turned.below hbu3.size (fun j hj => (hF2.out j hj).1))
              refine hK.out _ _ ?_ (fun hHeld => ?_)
              · exact trivial
              clear hK K
              try simp only [Act.put, List.setIfInBounds_toArray, List.set_cons_zero, List.set_cons_succ, List.getElem_toArray, List.getElem_cons_zero, List.getElem_cons_succ]
              refine wpAnyH_take (i := 11) (v := ?_) rfl (by kernel_rfl) (by kernel_rfl) (by kernel_rfl) (fun _ _ _ h => h) (Or.inl ⟨by rfl, ?_⟩) (by assumption) ?_
              rotate_left 1
              · ((intro w hSw; (try dsimp only at hSw); go_simp); (try with_reducible rfl))
              simp only [Act.put, List.setIfInBounds_toArray, List.set_cons_zero, List.set_cons_succ, List.getElem_toArray, List.getElem_cons_zero, List.getElem_cons_succ]
              refine wpAnyH_done (by kernel_rfl) ?_ _
              have own3 := h3.own
              rw [show (Zs.take 0).map (Value.int .i64) ++ [Value.int .i64 (k : Int)] ++ (Zs.drop 0).map (Value.int .i64) = (Zs.take 0 ++ (k : Int) :: Zs.drop 0).map (Value.int .i64) by simp, ← Hput.out] at own3
              have HE : Hid (0 + 1 + k = k + 1) := hidp (by omega)
              rw [HE.out] at own3
              have cap3 := h3.cap
              rw [HE.out] at cap3
              have o5 : OwnN v.heap.size u4 B3 (k + 1) k3 ((isort (itsN tasks (k + 1))).map (·.2)) := OwnN.low ⟨own3, by rw [List.length_map, isort_len, itsN_len], cap3, fun e => by have := h3.nil e; omega⟩ Hb3.out.size
              have hb5 : Below v.heap.size v u4 := Hb3.out.trans (hbu4.mono Hb3.out.size)
              clear own3 h1 h2 h3 hbu2 hbu3 hbu4 hHeld
              go_wp2_with fail
              go_roundg (tasks.length - k - 1)
              case measure => omega
              case rel => exact ⟨k + 1, B3, k3, by omega, by go_num, by rw [HE.out], o5, hb5, fun e => by omega⟩
            · go_simp
              refine hK.out _ _ ?_ (fun hHeld => ?_)
              · exact trivial
              clear hK K
              try simp only [Act.put, List.setIfInBounds_toArray, List.set_cons_zero, List.set_cons_succ, List.getElem_toArray, List.getElem_cons_zero, List.getElem_cons_succ]
              have hbu0 := (Below.refl u.heap.size u).alloc (Nat.le_refl _) (.cells #[.int .i64 (k : Int)] 3)
              have S1b := hidp (S1.out.below hbu0)
              have S2 := Lies.new1 u (.int .i64 (k : Int)) 3
              refine wpAnyH_ready (rs := [3]) (by kernel_rfl) (by simp) ?_
              refine AllReadyH.cons rfl (fun K hK => ?_) AllReadyH.nil
              refine step_app2 _ rfl (.const (.slice none 0 0)) (.tmp 40) 22 rfl u.heap.size 3 j0 _ 1 8 Tryz.underlying22 hj0 hk0 hk1 hk2 rfl (by decide) none 0 0 _ rfl (World.ownsRow_nil _ _ _ _) _ (some ⟨gd, 0, none⟩) 0 d ((Zs.take 0).map (Value.int .i64)) rfl (by simp) L1.out S1b.out O1.out M1.out N1.out hbu0.size ?_
              intro B1 k1 u2 h1
              rw [Nat.zero_add, List.nil_append] at h1
              simp only [Nat.zero_add]
              have hbu2 := hbu0.trans (h1.turned.below hbu0.size (by simp [fp]))
              have hF1 := hidp (own_fp h1.own)
              have S2b := hidp (S2.turned h1.turned (by simp [fp]))
              refine hK.out _ _ ?_ (fun hHeld => ?_)
              · exact trivial
              clear hK K
              try simp only [Act.put, List.setIfInBounds_toArray, List.set_cons_zero, List.set_cons_succ, List.getElem_toArray, List.getElem_cons_zero, List.getElem_cons_succ]
              refine wpAnyH_ready (rs := [6]) (by kernel_rfl) (by simp) ?_
              refine AllReadyH.cons rfl (fun K hK => ?_) AllReadyH.nil
              refine step_app2 _ rfl (.tmp 41) (.tmp 43) 22 rfl u.heap.size 3 j0 _ 1 8 Tryz.underlying22 hj0 hk0 hk1 hk2 rfl (by decide) B1 0 k1 _ rfl h1.own _ (some ⟨u.heap.size, 0, none⟩) 1 1 ([.int .i64 (k : Int)]) rfl (by simp) rfl S2b.out O2.out M2.out N2.out hbu2.size ?_
              intro B2 k2 u3 h2
              have hbu3 := hbu2.trans (h2.turned.below hbu2.size (fun j hj => (hF1.out j hj).1))
              have hF2 := hidp (own_fp h2.own)
              have S3b := hidp (S3.out.below hbu3)
              refine hK.out _ _ ?_ (fun hHeld => ?_)
              · exact trivial
              clear hK K
              try simp only [Act.put, List.setIfInBounds_toArray, List.set_cons_zero, List.set_cons_succ, List.getElem_toArray, List.getElem_cons_zero, List.getElem_cons_succ]
              refine wpAnyH_ready (rs := [10]) (by kernel_rfl) (by simp) ?_
              refine AllReadyH.cons rfl (fun K hK => ?_) AllReadyH.nil
              refine step_app2 _ rfl (.tmp 44) (.tmp 47) 22 rfl u.heap.size 3 j0 _ 1 8 Tryz.underlying22 hj0 hk0 hk1 hk2 rfl (by decide) B2 (0 + 1) k2 _ rfl h2.own _ (some ⟨gd, 0, none⟩) k d ((Zs.drop 0).map (Value.int .i64)) rfl P3.out L3.out S3b.out O3.out M3.out N3.out hbu3.size ?_
              intro B3 k3 u4 h3
              have hbu4 := hbu3.trans (h3.turned.below hbu3.size (fun j hj => (hF2.out j hj).1))
              refine hK.out _ _ ?_ (fun hHeld => ?_)
              · exact trivial
              clear hK K
              try simp only [Act.put, List.setIfInBounds_toArray, List.set_cons_zero, List.set_cons_succ, List.getElem_toArray, List.getElem_cons_zero, List.getElem_cons_succ]
              refine wpAnyH_take (i := 11) (v := ?_) rfl (by kernel_rfl) (by kernel_rfl) (by kernel_rfl) (fun _ _ _ h => h) (Or.inl ⟨by rfl, ?_⟩) (by assumption) ?_
              rotate_left 1
              · ((intro w hSw; (try dsimp only at hSw); go_simp); (try with_reducible rfl))
              simp only [Act.put, List.setIfInBounds_toArray, List.set_cons_zero, List.set_cons_succ, List.getElem_toArray, List.getElem_cons_zero, List.getElem_cons_succ]
              refine wpAnyH_done (by kernel_rfl) ?_ _
              have own3 := h3.own
              rw [show (Zs.take 0).map (Value.int .i64) ++ [Value.int .i64 (k : Int)] ++ (Zs.drop 0).map (Value.int .i64) = (Zs.take 0 ++ (k : Int) :: Zs.drop 0).map (Value.int .i64) by simp, ← Hput.out] at own3
              have HE : Hid (0 + 1 + k = k + 1) := hidp (by omega)
              rw [HE.out] at own3
              have cap3 := h3.cap
              rw [HE.out] at cap3
              have o5 : OwnN v.heap.size u4 B3 (k + 1) k3 ((isort (itsN tasks (k + 1))).map (·.2)) := OwnN.low ⟨own3, by rw [List.length_map, isort_len, itsN_len], cap3, fun e => by have := h3.nil e; omega⟩ Hb3.out.size
              have hb5 : Below v.heap.size v u4 := Hb3.out.trans (hbu4.mono Hb3.out.size)
              clear own3 h1 h2 h3 hbu2 hbu3 hbu4 hHeld
              go_wp2_with fail
              go_roundg (tasks.length - k - 1)
              case measure => omega
              case rel => exact ⟨k + 1, B3, k3, by omega, by go_num, by rw [HE.out], o5, hb5, fun e => by omega⟩
        · obtain ⟨p, hp⟩ : ∃ p, m = p + 1 := ⟨m - 1, by omega⟩
          obtain ⟨gd, hgd, hgd1, hgd2⟩ := own_at o.own (by omega)
          subst hgd
          have hpl : p < (isort (itsN tasks k)).length := by rw [isort_len, itsN_len]; omega
          obtain ⟨i, hi, hyi⟩ := its_in ((isort_perm _).mem_iff.1 (show (isort (itsN tasks k)).getD p (0, 0) ∈ isort (itsN tasks k) by simp [List.getD, hpl]))
          have co : wr.cell? ⟨gd, p, none⟩ = some (.int .i64 (i : Int)) := by
            obtain ⟨b', o', eA, hc⟩ := o.row.resolve_left (by intro e; have h1 := congrArg List.length e; rw [HL.out] at h1; simp at h1; omega)
            injection eA with eA; injection eA with e1 e2; subst e1; subst e2
            have := hc p (by rw [HL.out]; omega)
            rw [Nat.zero_add] at this
            rw [this]
            have e3 : ((isort (itsN tasks k)).map (·.2)).getD p 0 = ((isort (itsN tasks k)).getD p (0, 0)).2 := by simp [List.getD, hpl]
            rw [e3, hyi]
          have hit : i < tasks.length := by omega
          obtain ⟨ti, HTi⟩ : ∃ t, Hid (tasks.getD i default = t) := ⟨_, rfl⟩
          have ci := ((HC.out i hit).keep (Keeps.of_below hb)).2.2.2.1
          rw [HTi.out] at ci
          have iI : (i : Int) < (tasks.length : Int) := by omega
          have i0 : (0 : Int) ≤ (i : Int) := by omega
          have p0 : (0 : Int) ≤ (p : Int) := by omega
          have pk : (p : Int) < (k : Int) := by omega
          have hw1 : IntKind.i64.wrap ((m : Int) - 1) = (p : Int) := by rw [IntWalk.i64_in _ (by omega)]; omega
          have hg1 : decide (0 < m) = true := by simp; omega
          have hg2 : 0 < m := by omega
          have HYI := hidp hyi
          have Hpm := hidp hp
          have Hpl := hidp hpl
          clear hyi hp hpl
          by_cases hgt : t.prio < ti.prio
          · have HY2 : Hid (∀ y ∈ (isort (itsN tasks k)).drop p, t.prio < y.1) := hidp (fun y hy => by
              rw [List.drop_eq_getElem_cons Hpl.out] at hy
              rcases List.mem_cons.1 hy with e | hy
              · have e2 : (isort (itsN tasks k))[p]'Hpl.out = (isort (itsN tasks k)).getD p (0, 0) := by simp [List.getD, Hpl.out]
                rw [e, e2, HYI.out, HTi.out]; exact hgt
              · exact Hy.out y (by rw [Hpm.out]; exact hy))
            go_wp2
            go_quiet (fail)
            go_wp2
            go_roundg p
            case measure => have := Hpm.out; have := HMG.out; omega
            case rel => exact ⟨p, rfl, by have := Hpm.out; go_num, by have := Hpm.out; omega, HY2, HQ.out.add _⟩
          · have Hput : Hid ((isort (itsN tasks (k + 1))).map (·.2) = ((isort (itsN tasks k)).map (·.2)).take m ++ (k : Int) :: ((isort (itsN tasks k)).map (·.2)).drop m) := hidp (ord_put hmk (by
              rw [Hpm.out]
              exact srt_take (isort_srt _) Hpl.out (by rw [HYI.out, HTi.out, HT.out]; dsimp only; omega)) (by rw [HT.out]; exact Hy.out))
            have hgf : decide (t.prio < ti.prio) = false := by simpa using hgt
            go_wp2
            go_quiet (fail)
            go_wp2_with fail
            have o3 : OwnN v.heap.size (wr.drewN nq).drew (some ⟨gd, 0, none⟩) k d ((isort (itsN tasks k)).map (·.2)) := o.turned ((Turned.refl [] wr).drewN nq).drew (by simp)
            have hb3 : Below v.heap.size v (wr.drewN nq).drew := below_drewN (below_drewN hb nq) 1
            obtain ⟨Zs, HZs⟩ : ∃ Zs, (isort (itsN tasks k)).map (·.2) = Zs := ⟨_, rfl⟩
            rw [HZs] at o3 HL Hput
            obtain ⟨u, hu⟩ : ∃ u, (wr.drewN nq).drew = u := ⟨_, rfl⟩
            have ll := Lies.of_own o3.own
            rw [hu] at o3 hb3 ll
            have HUE := hidp hu
            have O1 := hidp (fun w (h : w ∈ (Zs.take m).map (Value.int .i64)) => ints_oneI _ w h)
            have O3 := hidp (fun w (h : w ∈ (Zs.drop m).map (Value.int .i64)) => ints_oneI _ w h)
            have O2 := hidp (ints_oneI [(k : Int)])
            have L1 : Hid (((Zs.take m).map (Value.int .i64)).length = m * 1) := hidp (by have := HL.out; simp; try omega)
            have L3 : Hid (((Zs.drop m).map (Value.int .i64)).length = (k - m) * 1) := hidp (by have := HL.out; simp; try omega)
            have S1 : Hid (Lies u.heap.size u (some ⟨gd, 0, none⟩) ((Zs.take m).map (Value.int .i64))) := hidp (by rw [List.map_take]; exact ll.take _)
            obtain ⟨A1, hA1, S3, P3⟩ : ∃ A1, (if d = m then (some ⟨gd, 0, none⟩ : Option Addr) else some ⟨gd, m, none⟩) = A1 ∧ Hid (Lies u.heap.size u A1 ((Zs.drop m).map (Value.int .i64))) ∧ Hid (A1 = none → k - m = 0 ∧ d - m = 0) := ⟨_, rfl, hidp (by
              rw [List.map_drop]
              split
              · rename_i e
                left
                have h1 := HL.out
                have h2 := o3.cap.1
                apply List.drop_eq_nil_of_le; simp; omega
              · have := ll.drop m
                rwa [Nat.zero_add] at this), hidp (by intro e; split at e <;> cases e)⟩
            have M1 : Hid (0 + m ≤ maxLen) := hidp (by unfold maxLen; omega)
            have M2 : Hid (m + 1 ≤ maxLen) := hidp (by unfold maxLen; omega)
            have M3 : Hid (m + 1 + (k - m) ≤ maxLen) := hidp (by unfold maxLen; omega)
            have N1 : Hid ((0 + m) * 8 ≤ 140737488355328) := hidp (by omega)
            have N2 : Hid ((m + 1) * 8 ≤ 140737488355328) := hidp (by omega)
            have N3 : Hid ((m + 1 + (k - m)) * 8 ≤ 140737488355328) := hidp (by omega)
            have hcp := o3.cap.1
            have hmd : m ≤ d := by omega
            have hmk2 : m ≤ k := hmk
            have Hcap := hidp o3.cap
            have Hb3 := hidp hb3
            clear o3 ll hb3 HZs hb o
            refine wp_region_held_drew (S := fun _ => True) (by kernel_rfl) ?_ (fun hHeld => ?_)
            · trivial
            rw [hu]
            clear hu
            refine wpAnyH_take (i := 0) (v := ?_) rfl (by kernel_rfl) (by kernel_rfl) (by kernel_rfl) (fun _ _ _ h => h) (Or.inl ⟨by rfl, ?_⟩) (by assumption) ?_
            rotate_left 1
            · ((intro w hSw; (try dsimp only at hSw); go_simp); (try with_reducible rfl))
            simp only [Act.put, List.setIfInBounds_toArray, List.set_cons_zero, List.set_cons_succ, List.getElem_toArray, List.getElem_cons_zero, List.getElem_cons_succ]
            refine wpAnyH_take (i := 1) (v := ?_) rfl (by kernel_rfl) (by kernel_rfl) (by kernel_rfl) (fun _ _ _ h => h) (Or.inl ⟨by rfl, ?_⟩) (by assumption) ?_
            rotate_left 1
            · ((intro w hSw; (try dsimp only at hSw); go_simp); (try with_reducible rfl))
            simp only [Act.put, List.setIfInBounds_toArray, List.set_cons_zero, List.set_cons_succ, List.getElem_toArray, List.getElem_cons_zero, List.getElem_cons_succ]
            refine wpAnyH_take (i := 4) (v := ?_) rfl (by kernel_rfl) (by kernel_rfl) (by kernel_rfl) (fun _ _ _ h => h) (Or.inl ⟨by rfl, ?_⟩) (by assumption) ?_
            rotate_left 1
            · ((intro w hSw; (try dsimp only at hSw); go_simp); (try with_reducible rfl))
            simp only [Act.put, List.setIfInBounds_toArray, List.set_cons_zero, List.set_cons_succ, List.getElem_toArray, List.getElem_cons_zero, List.getElem_cons_succ]
            refine wpAnyH_take (i := 7) (v := ?_) rfl (by kernel_rfl) (by kernel_rfl) (by kernel_rfl) (fun _ _ _ h => h) (Or.inl ⟨by rfl, ?_⟩) (by assumption) ?_
            rotate_left 1
            · ((intro w hSw; (try dsimp only at hSw); go_simp); (try with_reducible rfl))
            simp only [Act.put, List.setIfInBounds_toArray, List.set_cons_zero, List.set_cons_succ, List.getElem_toArray, List.getElem_cons_zero, List.getElem_cons_succ]
            refine wpAnyH_take (i := 8) (v := ?_) rfl (by kernel_rfl) (by kernel_rfl) (by kernel_rfl) (fun _ _ _ h => h) (Or.inl ⟨by rfl, ?_⟩) (by assumption) ?_
            rotate_left 1
            · ((intro w hSw; (try dsimp only at hSw); go_simp); (try with_reducible rfl))
            simp only [Act.put, List.setIfInBounds_toArray, List.set_cons_zero, List.set_cons_succ, List.getElem_toArray, List.getElem_cons_zero, List.getElem_cons_succ]
            refine wpAnyH_take (i := 2) (v := ?_) rfl (by kernel_rfl) (by kernel_rfl) (by kernel_rfl) (fun _ _ _ h => h) (Or.inl ⟨by rfl, ?_⟩) (by assumption) ?_
            rotate_left 1
            · ((intro w hSw; (try dsimp only at hSw); go_simp); (try with_reducible rfl))
            simp only [Act.put, List.setIfInBounds_toArray, List.set_cons_zero, List.set_cons_succ, List.getElem_toArray, List.getElem_cons_zero, List.getElem_cons_succ]
            refine wpAnyH_take (i := 9) (v := ?_) rfl (by kernel_rfl) (by kernel_rfl) (by kernel_rfl) (fun _ _ _ h => h) (Or.inl ⟨by rfl, ?_⟩) (by assumption) ?_
            rotate_left 1
            · ((intro w hSw; (try dsimp only at hSw); go_simp); (try with_reducible rfl))
            simp only [Act.put, List.setIfInBounds_toArray, List.set_cons_zero, List.set_cons_succ, List.getElem_toArray, List.getElem_cons_zero, List.getElem_cons_succ]
            refine wpAnyH_ready (rs := [3, 5]) (by kernel_rfl) (by simp) ?_
            refine AllReadyH.cons rfl (fun K hK => ?_) (AllReadyH.cons rfl (fun K hK => ?_) AllReadyH.nil)
            · refine step_app2 _ rfl (.const (.slice none 0 0)) (.tmp 40) 22 rfl u.heap.size 3 j0 _ 1 8 Tryz.underlying22 hj0 hk0 hk1 hk2 rfl (by decide) none 0 0 _ rfl (World.ownsRow_nil _ _ _ _) _ (some ⟨gd, 0, none⟩) m d ((Zs.take m).map (Value.int .i64)) rfl (by simp) L1.out S1.out O1.out M1.out N1.out (Nat.le_refl _) ?_
              intro B1 k1 u2 h1
              rw [Nat.zero_add, List.nil_append] at h1
              simp only [Nat.zero_add]
              have hbu2 : Below u.heap.size u u2 := h1.turned.below (Nat.le_refl _) (by simp [fp])
              have hF1 := hidp (own_fp h1.own)
              refine hK.out _ _ ?_ (fun hHeld => ?_)
              · exact trivial
              clear hK K
              try simp only [Act.put, List.setIfInBounds_toArray, List.set_cons_zero, List.set_cons_succ, List.getElem_toArray, List.getElem_cons_zero, List.getElem_cons_succ]
              refine wpAnyH_ready (rs := [5]) (by kernel_rfl) (by simp) ?_
              refine AllReadyH.cons rfl (fun K hK => ?_) AllReadyH.nil
              go_simp
              refine hK.out _ _ ?_ (fun hHeld => ?_)
              · exact trivial
              clear hK K
              try simp only [Act.put, List.setIfInBounds_toArray, List.set_cons_zero, List.set_cons_succ, List.getElem_toArray, List.getElem_cons_zero, List.getElem_cons_succ]
              have hown2 := World.ownsRow.alloc h1.own (.cells #[.int .i64 (k : Int)] 3)
              have S2 := hidp (Lies.new1 u2 (.int .i64 (k : Int)) 3)
              have hbu2a := hbu2.alloc hbu2.size (.cells #[.int .i64 (k : Int)] 3)
              refine wpAnyH_ready (rs := [6]) (by kernel_rfl) (by simp) ?_
              refine AllReadyH.cons rfl (fun K hK => ?_) AllReadyH.nil
              refine step_app2 _ rfl (.tmp 41) (.tmp 43) 22 rfl u.heap.size 3 j0 _ 1 8 Tryz.underlying22 hj0 hk0 hk1 hk2 rfl (by decide) B1 m k1 _ rfl hown2 _ (some ⟨u2.heap.size, 0, none⟩) 1 1 ([.int .i64 (k : Int)]) rfl (by simp) rfl S2.out O2.out M2.out N2.out hbu2a.size ?_
              intro B2 k2 u3 h2
              have hbu3 := hbu2a.trans (h2.turned.below hbu2a.size (fun j hj => (hF1.out j hj).1))
              have hF2 := hidp (own_fp h2.own)
              have S3b := hidp (S3.out.below hbu3)
              refine hK.out _ _ ?_ (fun hHeld => ?_)
              · exact trivial
              clear hK K
              try simp only [Act.put, List.setIfInBounds_toArray, List.set_cons_zero, List.set_cons_succ, List.getElem_toArray, List.getElem_cons_zero, List.getElem_cons_succ]
              refine wpAnyH_ready (rs := [10]) (by kernel_rfl) (by simp) ?_
              refine AllReadyH.cons rfl (fun K hK => ?_) AllReadyH.nil
              refine step_app2 _ rfl (.tmp 44) (.tmp 47) 22 rfl u.heap.size 3 j0 _ 1 8 Tryz.underlying22 hj0 hk0 hk1 hk2 rfl (by decide) B2 (m + 1) k2 _ rfl h2.own _ (A1) (k - m) (d - m) ((Zs.drop m).map (Value.int .i64)) rfl P3.out L3.out S3b.out O3.out M3.out N3.out hbu3.size ?_
              intro B3 k3 u4 h3
              have hbu4 := hbu3.trans (h3.turned.below hbu3.size (fun j hj => (hF2.out j hj).1))
              refine hK.out _ _ ?_ (fun hHeld => ?_)
              · exact trivial
              clear hK K
              try simp only [Act.put, List.setIfInBounds_toArray, List.set_cons_zero, List.set_cons_succ, List.getElem_toArray, List.getElem_cons_zero, List.getElem_cons_succ]
              refine wpAnyH_take (i := 11) (v := ?_) rfl (by kernel_rfl) (by kernel_rfl) (by kernel_rfl) (fun _ _ _ h => h) (Or.inl ⟨by rfl, ?_⟩) (by assumption) ?_
              rotate_left 1
              · ((intro w hSw; (try dsimp only at hSw); go_simp); (try with_reducible rfl))
              simp only [Act.put, List.setIfInBounds_toArray, List.set_cons_zero, List.set_cons_succ, List.getElem_toArray, List.getElem_cons_zero, List.getElem_cons_succ]
              refine wpAnyH_done (by kernel_rfl) ?_ _
              have own3 := h3.own
              rw [show (Zs.take m).map (Value.int .i64) ++ [Value.int .i64 (k : Int)] ++ (Zs.drop m).map (Value.int .i64) = (Zs.take m ++ (k : Int) :: Zs.drop m).map (Value.int .i64) by simp, ← Hput.out] at own3
              have HE : Hid (m + 1 + (k - m) = k + 1) := hidp (by omega)
              rw [HE.out] at own3
              have cap3 := h3.cap
              rw [HE.out] at cap3
              have o5 : OwnN v.heap.size u4 B3 (k + 1) k3 ((isort (itsN tasks (k + 1))).map (·.2)) := OwnN.low ⟨own3, by rw [List.length_map, isort_len, itsN_len], cap3, fun e => by have := h3.nil e; omega⟩ Hb3.out.size
              have hb5 : Below v.heap.size v u4 := Hb3.out.trans (hbu4.mono Hb3.out.size)
              clear own3 h1 h2 h3 hbu2 hbu3 hbu4 hHeld
              go_wp2_with fail
              go_roundg (tasks.length - k - 1)
              case measure => omega
              case rel => exact ⟨k + 1, B3, k3, by omega, by go_num, by rw [HE.out], o5, hb5, fun e => by omega⟩
            · go_simp
              refine hK.out _ _ ?_ (fun hHeld => ?_)
              · exact trivial
              clear hK K
              try simp only [Act.put, List.setIfInBounds_toArray, List.set_cons_zero, List.set_cons_succ, List.getElem_toArray, List.getElem_cons_zero, List.getElem_cons_succ]
              have hbu0 := (Below.refl u.heap.size u).alloc (Nat.le_refl _) (.cells #[.int .i64 (k : Int)] 3)
              have S1b := hidp (S1.out.below hbu0)
              have S2 := Lies.new1 u (.int .i64 (k : Int)) 3
              refine wpAnyH_ready (rs := [3]) (by kernel_rfl) (by simp) ?_
              refine AllReadyH.cons rfl (fun K hK => ?_) AllReadyH.nil
              refine step_app2 _ rfl (.const (.slice none 0 0)) (.tmp 40) 22 rfl u.heap.size 3 j0 _ 1 8 Tryz.underlying22 hj0 hk0 hk1 hk2 rfl (by decide) none 0 0 _ rfl (World.ownsRow_nil _ _ _ _) _ (some ⟨gd, 0, none⟩) m d ((Zs.take m).map (Value.int .i64)) rfl (by simp) L1.out S1b.out O1.out M1.out N1.out hbu0.size ?_
              intro B1 k1 u2 h1
              rw [Nat.zero_add, List.nil_append] at h1
              simp only [Nat.zero_add]
              have hbu2 := hbu0.trans (h1.turned.below hbu0.size (by simp [fp]))
              have hF1 := hidp (own_fp h1.own)
              have S2b := hidp (S2.turned h1.turned (by simp [fp]))
              refine hK.out _ _ ?_ (fun hHeld => ?_)
              · exact trivial
              clear hK K
              try simp only [Act.put, List.setIfInBounds_toArray, List.set_cons_zero, List.set_cons_succ, List.getElem_toArray, List.getElem_cons_zero, List.getElem_cons_succ]
              refine wpAnyH_ready (rs := [6]) (by kernel_rfl) (by simp) ?_
              refine AllReadyH.cons rfl (fun K hK => ?_) AllReadyH.nil
              refine step_app2 _ rfl (.tmp 41) (.tmp 43) 22 rfl u.heap.size 3 j0 _ 1 8 Tryz.underlying22 hj0 hk0 hk1 hk2 rfl (by decide) B1 m k1 _ rfl h1.own _ (some ⟨u.heap.size, 0, none⟩) 1 1 ([.int .i64 (k : Int)]) rfl (by simp) rfl S2b.out O2.out M2.out N2.out hbu2.size ?_
              intro B2 k2 u3 h2
              have hbu3 := hbu2.trans (h2.turned.below hbu2.size (fun j hj => (hF1.out j hj).1))
              have hF2 := hidp (own_fp h2.own)
              have S3b := hidp (S3.out.below hbu3)
              refine hK.out _ _ ?_ (fun hHeld => ?_)
              · exact trivial
              clear hK K
              try simp only [Act.put, List.setIfInBounds_toArray, List.set_cons_zero, List.set_cons_succ, List.getElem_toArray, List.getElem_cons_zero, List.getElem_cons_succ]
              refine wpAnyH_ready (rs := [10]) (by kernel_rfl) (by simp) ?_
              refine AllReadyH.cons rfl (fun K hK => ?_) AllReadyH.nil
              refine step_app2 _ rfl (.tmp 44) (.tmp 47) 22 rfl u.heap.size 3 j0 _ 1 8 Tryz.underlying22 hj0 hk0 hk1 hk2 rfl (by decide) B2 (m + 1) k2 _ rfl h2.own _ (A1) (k - m) (d - m) ((Zs.drop m).map (Value.int .i64)) rfl P3.out L3.out S3b.out O3.out M3.out N3.out hbu3.size ?_
              intro B3 k3 u4 h3
              have hbu4 := hbu3.trans (h3.turned.below hbu3.size (fun j hj => (hF2.out j hj).1))
              refine hK.out _ _ ?_ (fun hHeld => ?_)
              · exact trivial
              clear hK K
              try simp only [Act.put, List.setIfInBounds_toArray, List.set_cons_zero, List.set_cons_succ, List.getElem_toArray, List.getElem_cons_zero, List.getElem_cons_succ]
              refine wpAnyH_take (i := 11) (v := ?_) rfl (by kernel_rfl) (by kernel_rfl) (by kernel_rfl) (fun _ _ _ h => h) (Or.inl ⟨by rfl, ?_⟩) (by assumption) ?_
              rotate_left 1
              · ((intro w hSw; (try dsimp only at hSw); go_simp); (try with_reducible rfl))
              simp only [Act.put, List.setIfInBounds_toArray, List.set_cons_zero, List.set_cons_succ, List.getElem_toArray, List.getElem_cons_zero, List.getElem_cons_succ]
              refine wpAnyH_done (by kernel_rfl) ?_ _
              have own3 := h3.own
              rw [show (Zs.take m).map (Value.int .i64) ++ [Value.int .i64 (k : Int)] ++ (Zs.drop m).map (Value.int .i64) = (Zs.take m ++ (k : Int) :: Zs.drop m).map (Value.int .i64) by simp, ← Hput.out] at own3
              have HE : Hid (m + 1 + (k - m) = k + 1) := hidp (by omega)
              rw [HE.out] at own3
              have cap3 := h3.cap
              rw [HE.out] at cap3
              have o5 : OwnN v.heap.size u4 B3 (k + 1) k3 ((isort (itsN tasks (k + 1))).map (·.2)) := OwnN.low ⟨own3, by rw [List.length_map, isort_len, itsN_len], cap3, fun e => by have := h3.nil e; omega⟩ Hb3.out.size
              have hb5 : Below v.heap.size v u4 := Hb3.out.trans (hbu4.mono Hb3.out.size)
              clear own3 h1 h2 h3 hbu2 hbu3 hbu4 hHeld
              go_wp2_with fail
              go_roundg (tasks.length - k - 1)
              case measure => omega
              case rel => exact ⟨k + 1, B3, k3, by omega, by go_num, by rw [HE.out], o5, hb5, fun e => by omega⟩
    · obtain rfl : k = tasks.length := by omega
      go_wp2_with fail
      go_ret
      have HE : ((isort (itsN tasks tasks.length)).map (·.2)) = ordL tasks := rfl
      rw [HE] at o
      exact ⟨D, d, rfl, o.low (by have := HSV.out; omega), hbw.trans (hb.mono hbw.size)⟩
end Go.Proofs.YtjjlpaampmpdfaaGreatDoor
