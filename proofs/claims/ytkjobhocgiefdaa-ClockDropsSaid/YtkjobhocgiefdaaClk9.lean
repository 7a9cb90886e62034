/- clock: Step. Printed by tools/clock/step.py. -/
import Derived.Test.YtkjobhocgiefdaaClk8
namespace Go.Proofs.Ytkjobhocgiefdaa
open Go.ChangeShapes Go.WideShapes Go.ChangeAt Go.RowKit Go.Conc
set_option linter.unusedVariables false
set_option linter.unusedSimpArgs false
theorem infoIntC : (Try.prog.info? 3).map (fun i => (i.zero, i.size, i.bytes)) = some (some (.int .i64 0), 1, 8) := by kernel_rfl
theorem int_oneC (x : Int) : ∀ u ∈ [x].map (Value.int .i64), u.oneCell' = true := fun u hu => by simp at hu; subst hu; rfl
/-- behind some rounds: L is what is left in spoke i, ids what was told -/
structure StL (w : World) (b o : Nat) (T : TypeId) (cs : Array Value) (now : Int) (m : Nat → SpM) (i : Nat) (wr : World) (cs' : Array Value) (L : List DueM) (ids : List Int) (A' : Option Addr) (c' : Nat) : Prop where
  clk : Clk wr b o T cs' now (upd m i ⟨(m i).A, (m i).c, L, (m i).bell, dueN L now⟩)
  fr : Fr w b o 9 T cs (fps m) wr cs' (fps m)
  not_ : notAt L now = notAt (m i).rows now
  ids_ : idsAt (m i).rows now = ids ++ idsAt L now
  own : wr.ownsRow w.heap.size 3 1 (.slice A' ids.length c') ids.length (ids.map (Value.int .i64))
  nil : A' = none → ids.length = 0 ∧ c' = 0
  cap : ids.length ≤ c' ∧ c' ≤ maxLen
  len : ids.length + L.length ≤ 64
theorem upd_bell {m : Nat → SpM} {i j : Nat} {x : SpM} (h : x.bell = (m i).bell) : (upd m i x j).bell = (m j).bell := by
  by_cases hj : j = i
  · subst hj; rw [upd_at, h]
  · rw [upd_ne _ _ hj]
theorem fps_upd {m : Nat → SpM} {i : Nat} {x : SpM} (h : x.fp = (m i).fp) : fps (upd m i x) = fps m := by
  have : ∀ j, (upd m i x j).fp = (m j).fp := fun j => by
    by_cases hj : j = i
    · subst hj; rw [upd_at, h]
    · rw [upd_ne _ _ hj]
  unfold fps
  rw [this 0, this 1, this 2, this 3]
section
variable {w : World} {b o : Nat} {T : TypeId} {cs : Array Value} {now : Int} {m : Nat → SpM}
theorem StL.cells {i : Nat} {wr : World} {cs' : Array Value} {L : List DueM} {ids : List Int} {A' : Option Addr} {c' : Nat} (h : StL w b o T cs now m i wr cs' L ids A' c') :
    wr.cell? ⟨b, o, none⟩ = some (.int .i64 now) ∧ wr.cell? ⟨b, o + 2, none⟩ = some (.chan (m 0).bell) ∧ wr.cell? ⟨b, o + 4, none⟩ = some (.chan (m 1).bell) ∧ wr.cell? ⟨b, o + 6, none⟩ = some (.chan (m 2).bell) ∧ wr.cell? ⟨b, o + 8, none⟩ = some (.chan (m 3).bell) := by
  obtain ⟨_, cb⟩ := h.clk.cells
  have e : ∀ j, (upd m i ⟨(m i).A, (m i).c, L, (m i).bell, dueN L now⟩ j).bell = (m j).bell := fun j => upd_bell rfl
  have c0 := cb 0 (by omega)
  have c1 := cb 1 (by omega)
  have c2 := cb 2 (by omega)
  have c3 := cb 3 (by omega)
  rw [e] at c0 c1 c2 c3
  exact ⟨(h.clk.blk.cell o).trans h.clk.now_, c0, c1, c2, c3⟩
theorem StL.noway {i j : Nat} {wr : World} {cs' : Array Value} {L : List DueM} {ids : List Int} {A' : Option Addr} {c' : Nat} (h : StL w b o T cs now m i wr cs' L ids A' c') (hj : j < 4) (hk : j ≠ i → (m j).k = 0) (hz : j = i → dueN L now = 0) : NoWay wr (recvC (m j).bell) := by
  refine noway_bell ?_
  have hb := (h.clk.sp j hj).bok
  by_cases hji : j = i
  · subst hji
    rw [upd_at] at hb
    dsimp only at hb
    rw [hz rfl] at hb
    exact hb
  · rw [upd_ne _ _ hji, hk hji] at hb
    exact hb
theorem StL.bell {i : Nat} {wr : World} {cs' : Array Value} {L : List DueM} {ids : List Int} {A' : Option Addr} {c' k : Nat} (h : StL w b o T cs now m i wr cs' L ids A' c') (hi : i < 4) (hk : dueN L now = k + 1) :
    ∃ c s r, (m i).bell = some c ∧ wr.heap[c]? = some (.chan 64 (Array.replicate (k + 1) (.agg #[])) false s r false) := by
  have hb := (h.clk.sp i hi).bok
  rw [upd_at] at hb
  dsimp only at hb
  rw [hk] at hb
  rcases hb with ⟨_, h0⟩ | ⟨c, s, r, h1, h2⟩
  · omega
  · exact ⟨c, s, r, h1, h2⟩
/-- a ring is taken from the bell: the rows are not yet turned -/
structure StM (w : World) (b o : Nat) (T : TypeId) (cs : Array Value) (now : Int) (m : Nat → SpM) (i : Nat) (wr : World) (cs' : Array Value) (L : List DueM) (k : Nat) : Prop where
  clk : Clk wr b o T cs' now (upd m i ⟨(m i).A, (m i).c, L, (m i).bell, k⟩)
  fr : Fr w b o 9 T cs (fps m) wr cs' (fps m)
theorem StL.rung {i : Nat} {wr : World} {cs' : Array Value} {L : List DueM} {ids : List Int} {A' : Option Addr} {c' k c s r : Nat} (h : StL w b o T cs now m i wr cs' L ids A' c') (hi : i < 4) (hk : dueN L now = k + 1) (hb : (m i).bell = some c) (hc : wr.heap[c]? = some (.chan 64 (Array.replicate (k + 1) (.agg #[])) false s r false)) :
    ∃ cs2, StM w b o T cs now m i (wr.setChan c 64 ((Array.replicate (k + 1) (Value.agg #[])).extract 1 (Array.replicate (k + 1) (Value.agg #[])).size) false s (r + 1) false) cs2 L k ∧ Turned (b :: fps m) wr (wr.setChan c 64 ((Array.replicate (k + 1) (Value.agg #[])).extract 1 (Array.replicate (k + 1) (Value.agg #[])).size) false s (r + 1) false) := by
  have hsp := h.clk.sp i hi
  rw [upd_at] at hsp
  have hp := hsp.rung hk hb hc
  rw [← upd_at m i ⟨(m i).A, (m i).c, L, (m i).bell, dueN L now⟩] at hp
  obtain ⟨cs2, hc2, hf2⟩ := h.clk.put hi hp
  rw [upd_upd, upd_at] at hc2 hf2
  dsimp only at hc2 hf2
  rw [fps_upd (m := m) (i := i) (x := ⟨(m i).A, (m i).c, L, (m i).bell, dueN L now⟩) rfl, fps_upd (m := m) (i := i) (x := ⟨(m i).A, (m i).c, L, (m i).bell, k⟩) rfl] at hf2
  exact ⟨cs2, ⟨hc2, h.fr.trans hf2⟩, hf2.turned⟩
theorem StM.took {i : Nat} {wr w2 : World} {cs' : Array Value} {L : List DueM} {k n : Nat} (h : StM w b o T cs now m i wr cs' L k) (hi : i < 4)
    (hp : SpPost wr b (o + 1 + i * 2) T cs' ⟨(m i).A, (m i).c, L, (m i).bell, k⟩ ⟨(m i).A, (m i).c, L.eraseIdx n, (m i).bell, k⟩ w2) : ∃ cs2, StM w b o T cs now m i w2 cs2 (L.eraseIdx n) k ∧ Turned (b :: fps m) wr w2 := by
  rw [← upd_at m i ⟨(m i).A, (m i).c, L, (m i).bell, k⟩] at hp
  obtain ⟨cs2, hc2, hf2⟩ := h.clk.put hi hp
  rw [upd_upd] at hc2 hf2
  rw [fps_upd (m := m) (i := i) (x := ⟨(m i).A, (m i).c, L, (m i).bell, k⟩) rfl, fps_upd (m := m) (i := i) (x := ⟨(m i).A, (m i).c, L.eraseIdx n, (m i).bell, k⟩) rfl] at hf2
  exact ⟨cs2, ⟨hc2, h.fr.trans hf2⟩, hf2.turned⟩
theorem StM.over {i : Nat} {wr w2 : World} {cs' : Array Value} {L : List DueM} {k : Nat} (h : StM w b o T cs now m i wr cs' L k) {F : List Nat} (ht : Turned F wr w2) (hF : ∀ k ∈ F, w.heap.size ≤ k) (hm : ∀ k ∈ fps m, k < w.heap.size) (hb : b < w.heap.size) : StM w b o T cs now m i w2 cs' L k :=
  ⟨h.clk.turned ht (fun hh => by have := hF b hh; omega) (fun k hk hh => by rw [fps_upd (m := m) (i := i) (x := ⟨(m i).A, (m i).c, L, (m i).bell, _⟩) rfl] at hk; have := hF k hh; have := hm k hk; omega), ⟨h.fr.size, h.fr.out, h.fr.turned.trans ht (fun i hi => .inr (hF i hi)), fun k hk => .inl hk⟩⟩
theorem StL.next {i : Nat} {wr w4 w6 : World} {cs' cs4 : Array Value} {L : List DueM} {ids : List Int} {A' A9 : Option Addr} {c' c9 k n : Nat} (h : StL w b o T cs now m i wr cs' L ids A' c') (hd : dueN L now = k + 1)
    (hf : FirstOf L now n) (h4 : dueN L now = dueN (L.eraseIdx n) now + 1) (h5 : notAt (L.eraseIdx n) now = notAt L now) (h6 : idsAt L now = (L.getD n default).id :: idsAt (L.eraseIdx n) now)
    (hM : StM w b o T cs now m i w4 cs4 (L.eraseIdx n) k) (happ : App w.heap.size 3 1 (w4.alloc (.cells #[.int .i64 (L.getD n default).id] 3)) A' A9 (ids.length + 1) c9 (ids.map (Value.int .i64) ++ [.int .i64 (L.getD n default).id]) w6)
    (hm : ∀ k ∈ fps m, k < w.heap.size) (hb : b < w.heap.size) (hA : ∀ k ∈ fp A', w.heap.size ≤ k) : StL w b o T cs now m i w6 cs4 (L.eraseIdx n) (ids ++ [(L.getD n default).id]) A9 c9 := by
  have hk : dueN (L.eraseIdx n) now = k := by omega
  have ht : Turned (fp A') w4 w6 := ((Turned.refl (fp A') w4).alloc _).trans happ.turned (fun i hi => .inl hi)
  have hM6 := hM.over ht hA hm hb
  have hl : (L.eraseIdx n).length = L.length - 1 := List.length_eraseIdx_of_lt hf.1
  have hlen := h.len
  have hf1 := hf.1
  refine ⟨by rw [hk]; exact hM6.clk, hM6.fr, by rw [h5]; exact h.not_, by rw [h.ids_, h6]; simp, by rw [List.length_append, List.map_append]; exact happ.own, by rw [List.length_append]; exact happ.nil, by rw [List.length_append]; exact happ.cap, by rw [List.length_append, hl]; simp; omega⟩
end
end Go.Proofs.Ytkjobhocgiefdaa
