/- What text's reader keeps: its block, its rows. -/
import Derived.Test.YtlmliefkhidpnaaGreatDoorTxt3
import Derived.Test.YtlmliefkhidpnaaGreatDoorOwnT
namespace Go.Proofs.YtlmliefkhidpnaaGreatDoor
open Go.ChangeShapes Go.WideShapes Go.ChangeAt Go.RowKit
set_option linter.unusedVariables false
set_option linter.unusedSimpArgs false
/-- the blocks of a set's rows that stay as they are -/
def SetR.fix (s : SetR) : List Nat := fp s.ca ++ (fp s.ha ++ s.tasks.flatMap (fun t => fp t.pa))
theorem fix_ca {s : SetR} {k : Nat} (h : k ∈ fp s.ca) : k ∈ s.fix := List.mem_append_left _ h
theorem fix_ha {s : SetR} {k : Nat} (h : k ∈ fp s.ha) : k ∈ s.fix := List.mem_append_right _ (List.mem_append_left _ h)
theorem fix_pa {s : SetR} {t : TaskR} {k : Nat} (ht : t ∈ s.tasks) (h : k ∈ fp t.pa) : k ∈ s.fix := List.mem_append_right _ (List.mem_append_right _ (List.mem_flatMap.2 ⟨t, ht, h⟩))
theorem fix_cases {s : SetR} {k : Nat} (h : k ∈ s.fix) : k ∈ fp s.ca ∨ k ∈ fp s.ha ∨ ∃ t ∈ s.tasks, k ∈ fp t.pa := by
  rcases List.mem_append.1 h with h | h
  · exact .inl h
  · rcases List.mem_append.1 h with h | h
    · exact .inr (.inl h)
    · obtain ⟨t, ht, hk⟩ := List.mem_flatMap.1 h
      exact .inr (.inr ⟨t, ht, hk⟩)
/-- the rows of a set that is being read, beside a box at g and a row of numbers -/
structure Rws (B : Nat) (w : World) (g : Nat) (s : SetR) (A : Option Addr) (c : Nat) (zs : List Int) : Prop where
  gB : B ≤ g ∧ g < w.heap.size
  pi : I64 s.proto
  cores : IntsOk w s.ca s.cc s.cores
  homes : IntsOk w s.ha s.hc s.homes
  tasks : OwnT B w s.ta s.tasks.length s.tc s.tasks
  tok : ∀ t ∈ s.tasks, TaskOk w t
  ats : OwnN B w A zs.length c zs
  fixd : ∀ k ∈ s.fix, (B ≤ k ∧ k < w.heap.size) ∧ k ≠ g
  dT : ∀ k ∈ fp s.ta, k ≠ g ∧ k ∉ fp A ∧ k ∉ s.fix
  dA : ∀ k ∈ fp A, k ≠ g ∧ k ∉ s.fix
section
variable {B : Nat} {w w' : World} {g : Nat} {s : SetR} {A : Option Addr} {c : Nat} {zs : List Int} {F : List Nat}
theorem Rws.turned (h : Rws B w g s A c zs) (ht : Turned F w w') (hF : ∀ k, B ≤ k → k < w.heap.size → k ≠ g → k ∉ F) : Rws B w' g s A c zs := by
  have hx : ∀ k ∈ s.fix, k ∉ F := fun k hk => hF k (h.fixd k hk).1.1 (h.fixd k hk).1.2 (h.fixd k hk).2
  refine ⟨⟨h.gB.1, Nat.lt_of_lt_of_le h.gB.2 ht.size⟩, h.pi, h.cores.turned ht (fun k hk => hx k (fix_ca hk)), h.homes.turned ht (fun k hk => hx k (fix_ha hk)), h.tasks.turned ht (fun k hk => ?_), fun t hm => (h.tok t hm).turned ht (fun k hk => hx k (fix_pa hm hk)), h.ats.turned ht (fun k hk => ?_), fun k hk => ⟨⟨(h.fixd k hk).1.1, Nat.lt_of_lt_of_le (h.fixd k hk).1.2 ht.size⟩, (h.fixd k hk).2⟩, h.dT, h.dA⟩
  · have := own_fp h.tasks.own k hk
    exact hF k this.1 this.2 (h.dT k hk).1
  · have := own_fp h.ats.own k hk
    exact hF k this.1 this.2 (h.dA k hk).1
theorem Rws.over (h : Rws B w g s A c zs) (hb : Below w.heap.size w w') : Rws B w' g s A c zs := h.turned (Turned.of_below hb []) (by simp)
theorem Rws.setProto (h : Rws B w g s A c zs) {p : Int} (hp : I64 p) : Rws B w g { s with proto := p } A c zs := ⟨h.gB, hp, h.cores, h.homes, h.tasks, h.tok, h.ats, h.fixd, h.dT, h.dA⟩
theorem Rws.setCores (h : Rws B w g s A c zs) {C : Option Addr} {cc : Nat} {cs : List Int} (hi : IntsOk w C cc cs) (hC : ∀ k ∈ fp C, (B ≤ k ∧ k < w.heap.size) ∧ k ≠ g ∧ k ∉ fp s.ta ∧ k ∉ fp A) : Rws B w g { s with ca := C, cc := cc, cores := cs } A c zs := by
  have hx : ∀ k, k ∈ ({ s with ca := C, cc := cc, cores := cs } : SetR).fix → k ∈ fp C ∨ k ∈ s.fix := fun k hk => by
    rcases fix_cases hk with h1 | h1 | ⟨t, ht, h1⟩
    · exact .inl h1
    · exact .inr (fix_ha h1)
    · exact .inr (fix_pa ht h1)
  refine ⟨h.gB, h.pi, hi, h.homes, h.tasks, h.tok, h.ats, fun k hk => ?_, fun k hk => ⟨(h.dT k hk).1, (h.dT k hk).2.1, fun hm => ?_⟩, fun k hk => ⟨(h.dA k hk).1, fun hm => ?_⟩⟩
  · rcases hx k hk with h1 | h1
    · exact ⟨(hC k h1).1, (hC k h1).2.1⟩
    · exact h.fixd k h1
  · rcases hx k hm with h1 | h1
    · exact (hC k h1).2.2.1 hk
    · exact (h.dT k hk).2.2 h1
  · rcases hx k hm with h1 | h1
    · exact (hC k h1).2.2.2 hk
    · exact (h.dA k hk).2 h1
theorem Rws.setHomes (h : Rws B w g s A c zs) {C : Option Addr} {cc : Nat} {cs : List Int} (hi : IntsOk w C cc cs) (hC : ∀ k ∈ fp C, (B ≤ k ∧ k < w.heap.size) ∧ k ≠ g ∧ k ∉ fp s.ta ∧ k ∉ fp A) : Rws B w g { s with ha := C, hc := cc, homes := cs } A c zs := by
  have hx : ∀ k, k ∈ ({ s with ha := C, hc := cc, homes := cs } : SetR).fix → k ∈ fp C ∨ k ∈ s.fix := fun k hk => by
    rcases fix_cases hk with h1 | h1 | ⟨t, ht, h1⟩
    · exact .inr (fix_ca h1)
    · exact .inl h1
    · exact .inr (fix_pa ht h1)
  refine ⟨h.gB, h.pi, h.cores, hi, h.tasks, h.tok, h.ats, fun k hk => ?_, fun k hk => ⟨(h.dT k hk).1, (h.dT k hk).2.1, fun hm => ?_⟩, fun k hk => ⟨(h.dA k hk).1, fun hm => ?_⟩⟩
  · rcases hx k hk with h1 | h1
    · exact ⟨(hC k h1).1, (hC k h1).2.1⟩
    · exact h.fixd k h1
  · rcases hx k hm with h1 | h1
    · exact (hC k h1).2.2.1 hk
    · exact (h.dT k hk).2.2 h1
  · rcases hx k hm with h1 | h1
    · exact (hC k h1).2.2.2 hk
    · exact (h.dA k hk).2 h1
theorem Rws.addAt (h : Rws B w g s A c zs) {A' : Option Addr} {c' : Nat} {x : Int} (ha : App B 3 1 w A A' (zs.length + 1) c' (zs.map (Value.int .i64) ++ [.int .i64 x]) w') : Rws B w' g s A' c' (zs ++ [x]) := by
  have hx : ∀ k ∈ s.fix, k ∉ fp A := fun k hk hm => (h.dA k hm).2 hk
  have h1 : ∀ k, k ∈ fp A' → k ∈ fp A ∨ w.heap.size ≤ k := ha.fps
  refine ⟨⟨h.gB.1, Nat.lt_of_lt_of_le h.gB.2 ha.turned.size⟩, h.pi, h.cores.turned ha.turned (fun k hk => hx k (fix_ca hk)), h.homes.turned ha.turned (fun k hk => hx k (fix_ha hk)), h.tasks.turned ha.turned (fun k hk => (h.dT k hk).2.1), fun t hm => (h.tok t hm).turned ha.turned (fun k hk => hx k (fix_pa hm hk)), ?_, fun k hk => ⟨⟨(h.fixd k hk).1.1, Nat.lt_of_lt_of_le (h.fixd k hk).1.2 ha.turned.size⟩, (h.fixd k hk).2⟩, fun k hk => ⟨(h.dT k hk).1, fun hm => ?_, (h.dT k hk).2.2⟩, fun k hk => ?_⟩
  · have := h.ats.more ha
    rw [List.length_append]; exact this
  · rcases h1 k hm with e | e
    · exact (h.dT k hk).2.1 e
    · have := (own_fp h.tasks.own k hk).2; omega
  · rcases h1 k hk with e | e
    · exact h.dA k e
    · exact ⟨by have := h.gB.2; omega, fun hm => by have := (h.fixd k hm).1.2; omega⟩
theorem Rws.addTask (h : Rws B w g s A c zs) {A' : Option Addr} {c' : Nat} {t : TaskR} (ht : TaskOk w t) (hp : ∀ k ∈ fp t.pa, (B ≤ k ∧ k < w.heap.size) ∧ k ≠ g ∧ k ∉ fp s.ta ∧ k ∉ fp A)
    (ha : App B 44 6 w s.ta A' (s.tasks.length + 1) c' (ttc s.tasks ++ ttc [t]) w') : Rws B w' g { s with ta := A', tc := c', tasks := s.tasks ++ [t] } A c zs := by
  have hx : ∀ k ∈ s.fix, k ∉ fp s.ta := fun k hk hm => (h.dT k hm).2.2 hk
  have h1 : ∀ k, k ∈ fp A' → k ∈ fp s.ta ∨ w.heap.size ≤ k := ha.fps
  have h2 : ∀ k, k ∈ ({ s with ta := A', tc := c', tasks := s.tasks ++ [t] } : SetR).fix → k ∈ s.fix ∨ k ∈ fp t.pa := fun k hk => by
    rcases fix_cases hk with e | e | ⟨u, hu, e⟩
    · exact .inl (fix_ca e)
    · exact .inl (fix_ha e)
    · rcases List.mem_append.1 hu with hm | hm
      · exact .inl (fix_pa hm e)
      · rw [List.mem_singleton.1 hm] at e; exact .inr e
  refine ⟨⟨h.gB.1, Nat.lt_of_lt_of_le h.gB.2 ha.turned.size⟩, h.pi, h.cores.turned ha.turned (fun k hk => hx k (fix_ca hk)), h.homes.turned ha.turned (fun k hk => hx k (fix_ha hk)), ?_, fun u hu => ?_, h.ats.turned ha.turned (fun k hk hm => (h.dT k hm).2.1 hk), fun k hk => ?_, fun k hk => ?_, fun k hk => ?_⟩
  · have := h.tasks.app ha rfl
    simpa using this
  · rcases List.mem_append.1 hu with hm | hm
    · exact (h.tok u hm).turned ha.turned (fun k hk => hx k (fix_pa hm hk))
    · rw [List.mem_singleton.1 hm]; exact ht.turned ha.turned (fun k hk => (hp k hk).2.2.1)
  · rcases h2 k hk with e | e
    · exact ⟨⟨(h.fixd k e).1.1, Nat.lt_of_lt_of_le (h.fixd k e).1.2 ha.turned.size⟩, (h.fixd k e).2⟩
    · exact ⟨⟨(hp k e).1.1, Nat.lt_of_lt_of_le (hp k e).1.2 ha.turned.size⟩, (hp k e).2.1⟩
  · rcases h1 k hk with e | e
    · refine ⟨(h.dT k e).1, (h.dT k e).2.1, fun hm => ?_⟩
      rcases h2 k hm with f | f
      · exact (h.dT k e).2.2 f
      · exact (hp k f).2.2.1 e
    · refine ⟨by have := h.gB.2; omega, fun hm => by have := (own_fp h.ats.own k hm).2; omega, fun hm => ?_⟩
      rcases h2 k hm with f | f
      · have := (h.fixd k f).1.2; omega
      · have := (hp k f).1.2; omega
  · refine ⟨(h.dA k hk).1, fun hm => ?_⟩
    rcases h2 k hm with f | f
    · exact (h.dA k hk).2 f
    · exact (hp k f).2.2.2 hk
theorem Rws.setOk (h : Rws B w g s A c zs) : SetOk w s := ⟨h.pi, h.cores, h.homes, ⟨h.tasks.sl, h.tasks.tasks, h.tok⟩⟩
end
/-- the reader's cells -/
def rdC (s : SetR) (want co : Int) (A : Option Addr) (n c : Nat) : Array Value := #[.int .i64 s.proto, .slice s.ca s.cores.length s.cc, .slice s.ha s.homes.length s.hc, .slice s.ta s.tasks.length s.tc, .int .i64 want, .int .i64 co, .slice A n c]
structure Rdr (B : Nat) (w : World) (g : Nat) (s : SetR) (want co : Int) (A : Option Addr) (c : Nat) (zs : List Int) : Prop where
  bk : Bk w g 48 (rdC s want co A zs.length c)
  rows : Rws B w g s A c zs
theorem Rdr.over {B : Nat} {w w' : World} {g : Nat} {s : SetR} {want co : Int} {A : Option Addr} {c : Nat} {zs : List Int} (h : Rdr B w g s want co A c zs) (hb : Below w.heap.size w w') : Rdr B w' g s want co A c zs := ⟨h.bk.below hb, h.rows.over hb⟩
theorem Rdr.drew {B : Nat} {w : World} {g : Nat} {s : SetR} {want co : Int} {A : Option Addr} {c : Nat} {zs : List Int} (h : Rdr B w g s want co A c zs) : Rdr B w.drew g s want co A c zs := h.over (below_drewN (Below.refl _ w) 1)
structure RdCells (w : World) (g : Nat) (s : SetR) (want co : Int) (A : Option Addr) (n c : Nat) : Prop where
  c0 : w.cell? ⟨g, 0, none⟩ = some (.int .i64 s.proto)
  c1 : w.cell? ⟨g, 1, none⟩ = some (.slice s.ca s.cores.length s.cc)
  c2 : w.cell? ⟨g, 2, none⟩ = some (.slice s.ha s.homes.length s.hc)
  c3 : w.cell? ⟨g, 3, none⟩ = some (.slice s.ta s.tasks.length s.tc)
  c4 : w.cell? ⟨g, 4, none⟩ = some (.int .i64 want)
  c5 : w.cell? ⟨g, 5, none⟩ = some (.int .i64 co)
  c6 : w.cell? ⟨g, 6, none⟩ = some (.slice A n c)
  f : ∀ i, w.frozen? ⟨g, i, none⟩ = false
theorem Rdr.cells {B : Nat} {w : World} {g : Nat} {s : SetR} {want co : Int} {A : Option Addr} {c : Nat} {zs : List Int} (h : Rdr B w g s want co A c zs) : RdCells w g s want co A zs.length c :=
  ⟨h.bk.cell 0, h.bk.cell 1, h.bk.cell 2, h.bk.cell 3, h.bk.cell 4, h.bk.cell 5, h.bk.cell 6, h.bk.frozen⟩
/-- one field written anew -/
theorem rd_put {B : Nat} {w : World} {g : Nat} {s : SetR} {A : Option Addr} {c : Nat} {zs : List Int} (h : Rws B w g s A c zs) (i : Nat) (v : Value) : Rws B (w.setCell ⟨g, i, none⟩ v) g s A c zs :=
  h.turned (F := [g]) ((Turned.refl _ w).setCell (.inl (by simp)) v) (fun k _ _ h1 h2 => h1 (by simpa using h2))
theorem put_below {B : Nat} {W w : World} {g i : Nat} {v : Value} (hb : Below B W w) (hW : B ≤ W.heap.size) (hg : B ≤ g) : Below B W (w.setCell ⟨g, i, none⟩ v) :=
  hb.trans (((Turned.refl [g] w).setCell (.inl (by simp)) v).below (Nat.le_trans hW hb.size) (by simpa using hg))
end Go.Proofs.YtlmliefkhidpnaaGreatDoor
