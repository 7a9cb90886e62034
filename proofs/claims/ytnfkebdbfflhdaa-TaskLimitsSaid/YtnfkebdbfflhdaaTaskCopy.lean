/- task.Copy: a set that is alike, with slices of its own. -/
import Derived.Test.YtnfkebdbfflhdaaOwnT
import Derived.Test.YtnfkebdbfflhdaaOwnPut
import Derived.Test.YtnfkebdbfflhdaaSame5
import Derived.Test.YtnfkebdbfflhdaaReg
namespace Go.Proofs.Ytnfkebdbfflhdaa
open Go.ChangeShapes Go.WideShapes Go.ChangeAt Go.RowKit
set_option linter.unusedVariables false
set_option linter.unusedSimpArgs false

theorem infoC : (Try.prog.info? 3).map (fun i => (i.zero, i.size, i.bytes)) = some (some (.int .i64 0), 1, 8) := by kernel_rfl
/-- two tasks are alike, wherever their parts lie -/
def sameF (a b : TaskR) : Prop := a.name = b.name ∧ a.per = b.per ∧ a.dl = b.dl ∧ a.prio = b.prio ∧ a.cl = b.cl ∧ a.parts = b.parts
theorem sameF.refl (a : TaskR) : sameF a a := ⟨rfl, rfl, rfl, rfl, rfl, rfl⟩
theorem sameF.T {a b : TaskR} (h : sameF a b) : sameT a b = true := by
  obtain ⟨h0, h1, h2, h3, h4, h5⟩ := h
  unfold sameT; rw [h0, h1, h2, h3, h4, h5]; simp
/-- few enough to be copied -/
structure FewS (s : SetR) : Prop where
  cores : s.cores.length ≤ 1000
  homes : s.homes.length ≤ 1000
  tasks : s.tasks.length ≤ 1000
  parts : ∀ t ∈ s.tasks, t.parts.length ≤ 1000
/-- x is alike s; its slices are its own, from block B on -/
structure CopyOf (B : Nat) (w' : World) (s x : SetR) : Prop where
  proto : x.proto = s.proto
  cores : x.cores = s.cores
  homes : x.homes = s.homes
  len : x.tasks.length = s.tasks.length
  like : ∀ j, j < s.tasks.length → sameF (x.tasks.getD j default) (s.tasks.getD j default)
  oc : OwnN B w' x.ca x.cores.length x.cc x.cores
  oh : OwnN B w' x.ha x.homes.length x.hc x.homes
  ot : OwnT B w' x.ta x.tasks.length x.tc x.tasks
  op : ∀ j, j < x.tasks.length → OwnP B w' (x.tasks.getD j default).pa (x.tasks.getD j default).parts.length (x.tasks.getD j default).pc (x.tasks.getD j default).parts
  s1 : ∀ a ∈ fp x.ca, ∀ b ∈ fp x.ha, a < b
  s2 : ∀ a ∈ fp x.ca ++ fp x.ha, ∀ b ∈ fp x.ta, a < b
  s3 : ∀ j, j < x.tasks.length → ∀ a ∈ fp x.ca ++ (fp x.ha ++ fp x.ta), ∀ b ∈ fp (x.tasks.getD j default).pa, a < b
  s4 : ∀ j k, j < k → k < x.tasks.length → ∀ a ∈ fp (x.tasks.getD j default).pa, ∀ b ∈ fp (x.tasks.getD k default).pa, a < b
theorem OwnN.low {B B' : Nat} {w : World} {A : Option Addr} {n c : Nat} {zs : List Int} (h : OwnN B w A n c zs) (hB : B' ≤ B) : OwnN B' w A n c zs := ⟨own_base h.own (fun k hk => Nat.le_trans hB (h.own.lt k hk).1), h.len, h.cap, h.nil⟩
theorem OwnP.low {B B' : Nat} {w : World} {A : Option Addr} {n c : Nat} {ps : List PartM} (h : OwnP B w A n c ps) (hB : B' ≤ B) : OwnP B' w A n c ps := ⟨own_base h.own (fun k hk => Nat.le_trans hB (h.own.lt k hk).1), h.len, h.cap, h.nil⟩
theorem OwnP.sl {B : Nat} {w : World} {A : Option Addr} {c : Nat} {ps : List PartM} (h : OwnP B w A ps.length c ps) : SlOk A ps.length c := ⟨h.nil, h.cap⟩
theorem CopyOf.ok {B : Nat} {w w' : World} {s x : SetR} (h : CopyOf B w' s x) (hs : SetOk w s) : SetOk w' x := by
  refine ⟨h.proto ▸ hs.proto, h.oc.ok (by rw [h.cores]; exact hs.cores.wf), h.oh.ok (by rw [h.homes]; exact hs.homes.wf), ⟨h.ot.sl, h.ot.tasks, fun t ht => ?_⟩⟩
  obtain ⟨j, hj, rfl⟩ := mem_getD ht
  have hj2 : j < s.tasks.length := by rw [← h.len]; exact hj
  obtain ⟨l0, l1, l2, l3, l4, l5⟩ := h.like j hj2
  have o := hs.tasks.ok _ (getD_mem hj2)
  have p := h.op j hj
  exact ⟨l0 ▸ o.name, l1 ▸ o.per, l2 ▸ o.dl, l3 ▸ o.prio, l4 ▸ o.cl, p.sl, p.parts, by rw [l5]; exact o.wf⟩
theorem CopyOf.same {B : Nat} {w' : World} {s x : SetR} (h : CopyOf B w' s x) : sameS x s = true := by
  unfold sameS
  rw [h.proto, h.cores, h.homes, sameTs_true h.len (fun k hk => (h.like k (by rw [← h.len]; exact hk)).T)]
  simp
theorem ints_one (zs : List Int) : ∀ u ∈ zs.map (Value.int .i64), u.oneCell' = true := fun u hu => by obtain ⟨n, _, rfl⟩ := List.mem_map.1 hu; rfl
def CopyPost (w : World) (s : SetR) (e : Ending) (w' : World) : Prop := ∃ x, e = .returned (.agg #[.int .i64 x.proto, .slice x.ca x.cores.length x.cc, .slice x.ha x.homes.length x.hc, .slice x.ta x.tasks.length x.tc]) ∧ CopyOf w.heap.size w' s x ∧ Below w.heap.size w w'
/-- the first i tasks are copied -/
structure CpInv (B : Nat) (w : World) (A1 A2 A3 : Option Addr) (k3 : Nat) (ts cs : List TaskR) (i : Nat) : Prop where
  len : cs.length = ts.length
  like : ∀ j, j < ts.length → sameF (cs.getD j default) (ts.getD j default)
  rest : ∀ j, i ≤ j → j < ts.length → cs.getD j default = ts.getD j default
  ot : OwnT B w A3 ts.length k3 cs
  op : ∀ j, j < i → OwnP B w (cs.getD j default).pa (cs.getD j default).parts.length (cs.getD j default).pc (cs.getD j default).parts
  s3 : ∀ j, j < i → ∀ a ∈ fp A1 ++ (fp A2 ++ fp A3), ∀ b ∈ fp (cs.getD j default).pa, a < b
  s4 : ∀ j k, j < k → k < i → ∀ a ∈ fp (cs.getD j default).pa, ∀ b ∈ fp (cs.getD k default).pa, a < b
theorem CpInv.turned {B i k3 : Nat} {w w' : World} {A1 A2 A3 : Option Addr} {ts cs : List TaskR} {F : List Nat} (h : CpInv B w A1 A2 A3 k3 ts cs i) (ht : Turned F w w') (hF : ∀ k, B ≤ k → k < w.heap.size → k ∉ F) : CpInv B w' A1 A2 A3 k3 ts cs i :=
  ⟨h.len, h.like, h.rest, h.ot.turned ht (fun k hk => hF k (own_fp h.ot.own k hk).1 (own_fp h.ot.own k hk).2), fun j hj => (h.op j hj).turned ht (fun k hk => hF k (own_fp (h.op j hj).own k hk).1 (own_fp (h.op j hj).own k hk).2), h.s3, h.s4⟩
theorem getD_set_eq {α : Type} [Inhabited α] {l : List α} {i : Nat} (h : i < l.length) (x : α) : (l.set i x).getD i default = x := by simp [List.getD, h]
theorem getD_set_ne' {α : Type} [Inhabited α] {l : List α} {i j : Nat} (h : i ≠ j) (x : α) : (l.set i x).getD j default = l.getD j default := by simp [List.getD, List.getElem?_set, h]
/-- one task more -/
theorem CpInv.step {B i k3 g np c' : Nat} {w v : World} {A1 A2 A' : Option Addr} {ts cs : List TaskR} (h : CpInv B w A1 A2 (some ⟨g, 0, none⟩) k3 ts cs i) (hi : i < ts.length)
    (ha : App B 40 3 w none A' np c' (ptc (ts.getD i default).parts) v) (hn : np = (ts.getD i default).parts.length) (hA : ∀ a ∈ fp A1 ++ (fp A2 ++ fp (some ⟨g, 0, none⟩)), a < w.heap.size) :
    CpInv B (v.setCell ⟨g, i * 6 + 5, none⟩ (.slice A' np c')) A1 A2 (some ⟨g, 0, none⟩) k3 ts (cs.set i { ts.getD i default with pa := A', pc := c' }) (i + 1) := by
  subst hn
  have hl := h.len
  have hic : i < cs.length := by omega
  have hri := h.rest i (Nat.le_refl _) hi
  have hci : cs[i] = ts.getD i default := by rw [← hri]; simp [List.getD, hic]
  have hgl := (own_fp h.ot.own g (by simp [fp])).2
  have hnew : ∀ b ∈ fp A', w.heap.size ≤ b := fun b hb => by
    rcases ha.fps b hb with h | h
    · simp [fp] at h
    · exact h
  have TS : Turned [g] v (v.setCell ⟨g, i * 6 + 5, none⟩ (.slice A' (ts.getD i default).parts.length c')) := (Turned.refl [g] v).setCell (p := ⟨g, i * 6 + 5, none⟩) (.inl (by simp)) _
  have hot := h.ot.turned ha.turned (by simp [fp])
  refine ⟨by simpa using hl, fun j hj => ?_, fun j hj1 hj2 => ?_, ?_, fun j hj => ?_, fun j hj a ha1 b hb => ?_, fun j k hjk hk a ha1 b hb => ?_⟩
  · by_cases e : i = j
    · subst e; rw [getD_set_eq hic]; exact ⟨rfl, rfl, rfl, rfl, rfl, rfl⟩
    · rw [getD_set_ne' e]; exact h.like j hj
  · rw [getD_set_ne' (by omega)]; exact h.rest j (by omega) hj2
  · have := ownT_put hot hic (j := 5) (by decide) { ts.getD i default with pa := A', pc := c' } (.slice A' (ts.getD i default).parts.length c') (by rw [hci]; rfl)
    exact this
  · by_cases e : i = j
    · subst e
      rw [getD_set_eq hic]
      have o : OwnP B v A' (ts.getD i default).parts.length c' (ts.getD i default).parts := ⟨ha.own, rfl, ha.cap, ha.nil⟩
      exact o.turned TS (fun k hk hm => by simp at hm; subst hm; have := hnew _ hk; omega)
    · rw [getD_set_ne' e]
      have o := h.op j (by omega)
      refine (o.turned ha.turned (by simp [fp])).turned TS (fun k hk hm => ?_)
      simp at hm; subst hm
      have := h.s3 j (by omega) k (by simp [fp]) k hk
      omega
  · by_cases e : i = j
    · subst e
      rw [getD_set_eq hic] at hb
      have h1 := hnew b hb
      have h2 := hA a ha1
      omega
    · rw [getD_set_ne' e] at hb; exact h.s3 j (by omega) a ha1 b hb
  · by_cases e : i = k
    · subst e
      rw [getD_set_ne' (by omega)] at ha1
      rw [getD_set_eq hic] at hb
      have h1 := hnew b hb
      have h2 := (own_fp (h.op j (by omega)).own a ha1).2
      omega
    · rw [getD_set_ne' (by omega)] at ha1
      rw [getD_set_ne' e] at hb
      exact h.s4 j k hjk (by omega) a ha1 b hb
end Go.Proofs.Ytnfkebdbfflhdaa
