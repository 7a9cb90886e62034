/- lock: what one write makes of the locks: an asker's cell, the places, a key, the row, a door. -/
import Derived.Test.YtppgameimddimaaGreatLkW
import Derived.Test.YtppgameimddimaaGreatLkFr
namespace Go.Proofs.YtppgameimddimaaGreat
open Go.ChangeShapes Go.WideShapes Go.ChangeAt Go.RowKit Go.Conc
set_option linter.unusedVariables false
set_option linter.unusedSimpArgs false
section
variable {w w' : World} {b o : Nat} {T : TypeId} {cs : Array Value} {m : LkM}
theorem Lk.ne_lab {k k' : Nat} (h : m.lab k ≠ m.lab k') : k ≠ k' := fun e => h (by rw [e])
/-- what an asker is -/
def LkM.putA (m : LkM) (i : Nat) (x : AskM) : LkM := { m with ask := m.ask.set i x }
theorem Lk.putA (h : Lk w b o T cs m) {g i f : Nat} (hA : m.Aa = some ⟨g, 0, none⟩) (hi : i < m.ask.length) (hf : f < 6) {v : Value} {x : AskM} (hx : (m.ask.getD i default).blk.set f v = x.blk) (hw : x.wf) :
    Lk (w.setCell ⟨g, i * 6 + f, none⟩ v) b o T cs (m.putA i x) ∧ Turned [g] w (w.setCell ⟨g, i * 6 + f, none⟩ v) := by
  have ht : Turned [g] w (w.setCell ⟨g, i * 6 + f, none⟩ v) := (Turned.refl [g] w).setCell (.inl (by simp)) _
  have hg : m.lab g = 1 := h.la g (by rw [hA]; simp [fp])
  have hn : ∀ {k : Nat}, m.lab k ≠ 1 → k ∉ [g] := fun hk hm => by simp at hm; subst hm; exact hk hg
  have hk := h.askers
  rw [hA] at hk
  refine ⟨⟨h.blk.turned ht (hn (by rw [h.lb]; decide)), h.c0, by show cs[o + 1]? = some (Value.slice m.Aa (m.ask.set i x).length m.ca); rw [List.length_set]; exact h.c1, h.c2, h.c3, h.c7, h.row.turned ht (hn (by rw [h.lb]; decide)) (fun k hk => hn (by rw [h.lr k hk]; decide)), ?_,
    own_turned h.keys ht (fun k hk => hn (by rw [h.lk k hk]; decide)), fun c hc => (h.chans c hc).turned ht (hn (by rw [h.lc c hc]; decide)), own_turned h.doors ht (fun k hk => hn (by rw [h.ld k hk]; decide)),
    fun j hj => (h.drs j hj).turned ht (fun k hk => hn (by rw [h.lf j hj k hk]; omega)), fun a ha => ?_, h.lb, h.la, h.lk, h.lc, h.ld, h.lr, h.lf⟩, ht⟩
  · show OwnK 0 _ m.Aa (m.ask.set i x).length m.ca (m.ask.set i x)
    rw [List.length_set, hA]
    exact hk.put hi hf hx
  · rcases List.mem_or_eq_of_mem_set ha with h1 | h1
    · exact h.wf a h1
    · exact h1 ▸ hw
/-- how many places were given -/
theorem Lk.putP (h : Lk w b o T cs m) (hs : o + 7 < cs.size) (p : Int) : Lk (w.setCell ⟨b, o + 7, none⟩ (.int .i64 p)) b o T (cs.setIfInBounds (o + 7) (.int .i64 p)) { m with places := p } ∧ Turned [b] w (w.setCell ⟨b, o + 7, none⟩ (.int .i64 p)) := by
  have ht : Turned [b] w (w.setCell ⟨b, o + 7, none⟩ (.int .i64 p)) := (Turned.refl [b] w).setCell (.inl (by simp)) _
  have hn : ∀ {k : Nat}, m.lab k ≠ 0 → k ∉ [b] := fun hk hm => by simp at hm; subst hm; exact hk h.lb
  have hb : Bk (w.setCell ⟨b, o + 7, none⟩ (.int .i64 p)) b T (cs.setIfInBounds (o + 7) (.int .i64 p)) := h.blk.put _ _
  have at_ : ∀ j, j ≠ o + 7 → (cs.setIfInBounds (o + 7) (.int .i64 p))[j]? = cs[j]? := fun j hj => by rw [Array.getElem?_setIfInBounds, if_neg (Ne.symm hj)]
  refine ⟨⟨hb, (at_ _ (by omega)).trans h.c0, (at_ _ (by omega)).trans h.c1, (at_ _ (by omega)).trans h.c2, (at_ _ (by omega)).trans h.c3, by rw [Array.getElem?_setIfInBounds, if_pos rfl, if_pos hs], ?_, h.askers.turned ht (fun k hk => hn (by rw [h.la k hk]; decide)),
    own_turned h.keys ht (fun k hk => hn (by rw [h.lk k hk]; decide)), fun c hc => (h.chans c hc).turned ht (hn (by rw [h.lc c hc]; decide)), own_turned h.doors ht (fun k hk => hn (by rw [h.ld k hk]; decide)),
    fun j hj => (h.drs j hj).turned ht (fun k hk => hn (by rw [h.lf j hj k hk]; omega)), h.wf, h.lb, h.la, h.lk, h.lc, h.ld, h.lr, h.lf⟩, ht⟩
  have hr := h.row
  exact ⟨hb, (at_ _ (by omega)).trans hr.room, (at_ _ (by omega)).trans hr.puts, (at_ _ (by omega)).trans hr.hdr, hr.own.turned ht (fun k hk => hn (by rw [h.lr k hk]; decide)), hr.ne⟩
/-- a key is taken or given back -/
def LkM.putK (m : LkM) (c : Nat) (v : Bool) : LkM := { m with fr := fun k => if k = c then v else m.fr k }
theorem Lk.putK (h : Lk w b o T cs m) {c s r : Nat} {v : Bool} (hc : c ∈ m.ks) (hlt : c < w.heap.size) : Lk (w.setChan c 1 (if v = true then #[.agg #[]] else #[]) false s r false) b o T cs (m.putK c v) ∧ Turned [c] w (w.setChan c 1 (if v = true then #[.agg #[]] else #[]) false s r false) := by
  have ht : Turned [c] w (w.setChan c 1 (if v = true then #[.agg #[]] else #[]) false s r false) := (Turned.refl [c] w).setChan (.inl (by simp)) _ _ _ _ _ _
  have hl := h.lc c hc
  have hn : ∀ {k : Nat}, m.lab k ≠ 3 → k ∉ [c] := fun hk hm => by simp at hm; subst hm; exact hk hl
  refine ⟨⟨h.blk.turned ht (hn (by rw [h.lb]; decide)), h.c0, h.c1, h.c2, h.c3, h.c7, h.row.turned ht (hn (by rw [h.lb]; decide)) (fun k hk => hn (by rw [h.lr k hk]; decide)), h.askers.turned ht (fun k hk => hn (by rw [h.la k hk]; decide)),
    own_turned h.keys ht (fun k hk => hn (by rw [h.lk k hk]; decide)), fun k hk => ?_, own_turned h.doors ht (fun k hk => hn (by rw [h.ld k hk]; decide)),
    fun j hj => (h.drs j hj).turned ht (fun k hk => hn (by rw [h.lf j hj k hk]; omega)), h.wf, h.lb, h.la, h.lk, h.lc, h.ld, h.lr, h.lf⟩, ht⟩
  by_cases e : k = c
  · subst e
    show KeyOk _ k (if k = k then v else m.fr k)
    rw [if_pos rfl]
    exact ⟨s, r, by simp [World.setChan, hlt]⟩
  · show KeyOk _ k (if k = c then v else m.fr k)
    rw [if_neg e]
    exact (h.chans k hk).turned ht (by simpa using e)
/-- the row is another one -/
def LkM.putR (m : LkM) (P : Int) (l : List EntM) (A : Option Addr) (c : Nat) : LkM := { m with P := P, l := l, Ar := A, cr := c, lab := fun k => if k ∈ fp A then 5 else m.lab k }
theorem Lk.putR (h : Lk w b o T cs m) {P : Int} {l : List EntM} {A : Option Addr} {c : Nat} (hp : Rk w' b (o + 4) T (rkCs cs (o + 4) P A l.length c) m.R P l A c) (ht : Turned (b :: fp m.Ar) w w') (hf : ∀ k ∈ fp A, k ∈ fp m.Ar ∨ w.heap.size ≤ k) :
    Lk w' b o T (rkCs cs (o + 4) P A l.length c) (m.putR P l A c) := by
  have hn : ∀ {k : Nat}, m.lab k ≠ 0 → m.lab k ≠ 5 → k ∉ b :: fp m.Ar := fun h0 h5 hm => by
    rcases List.mem_cons.1 hm with rfl | hm
    · exact h0 h.lb
    · exact h5 (h.lr _ hm)
  have hl : ∀ {k : Nat}, k < w.heap.size → m.lab k ≠ 5 → (m.putR P l A c).lab k = m.lab k := fun hk h5 => by
    show (if _ ∈ fp A then 5 else m.lab _) = _
    rw [if_neg]
    intro hm
    rcases hf _ hm with h1 | h1
    · exact h5 (h.lr _ h1)
    · omega
  have at_ : ∀ j, j ≠ o + 6 → j ≠ o + 5 → (rkCs cs (o + 4) P A l.length c)[j]? = cs[j]? := fun j h6 h5 => by
    unfold rkCs
    rw [Array.getElem?_setIfInBounds, if_neg (by omega), Array.getElem?_setIfInBounds, if_neg (by omega)]
  have hlt := h.lt
  refine ⟨hp.blk, (at_ _ (by omega) (by omega)).trans h.c0, (at_ _ (by omega) (by omega)).trans h.c1, (at_ _ (by omega) (by omega)).trans h.c2, (at_ _ (by omega) (by omega)).trans h.c3, (at_ _ (by omega) (by omega)).trans h.c7, hp,
    h.askers.turned ht (fun k hk => hn (by rw [h.la k hk]; decide) (by rw [h.la k hk]; decide)), own_turned h.keys ht (fun k hk => hn (by rw [h.lk k hk]; decide) (by rw [h.lk k hk]; decide)), fun c hc => (h.chans c hc).turned ht (hn (by rw [h.lc c hc]; decide) (by rw [h.lc c hc]; decide)),
    own_turned h.doors ht (fun k hk => hn (by rw [h.ld k hk]; decide) (by rw [h.ld k hk]; decide)), fun j hj => (h.drs j hj).turned ht (fun k hk => hn (by rw [h.lf j hj k hk]; omega) (by rw [h.lf j hj k hk]; omega)), h.wf,
    (hl h.blk.lt (by rw [h.lb]; decide)).trans h.lb, fun k hk => (hl (hlt k (mem_fpm.2 (.inl hk))) (by rw [h.la k hk]; decide)).trans (h.la k hk), fun k hk => (hl (hlt k (mem_fpm.2 (.inr (.inl hk)))) (by rw [h.lk k hk]; decide)).trans (h.lk k hk), fun k hk => (hl (hlt k (mem_fpm.2 (.inr (.inr (.inl hk))))) (by rw [h.lc k hk]; decide)).trans (h.lc k hk),
    fun k hk => (hl (hlt k (mem_fpm.2 (.inr (.inr (.inr (.inl hk)))))) (by rw [h.ld k hk]; decide)).trans (h.ld k hk), fun k hk => if_pos hk, fun j hj k hk => (hl (hlt k (mem_fpm.2 (.inr (.inr (.inr (.inr (.inr ⟨j, hj, hk⟩))))))) (by rw [h.lf j hj k hk]; omega)).trans (h.lf j hj k hk)⟩
theorem drc_set (ps : List DrM) (i : Nat) (x : DrM) (hx : i < ps.length → (ps.getD i default).blk = x.blk) : drc (ps.set i x) = drc ps := by
  induction ps generalizing i with
  | nil => rfl
  | cons a l ih =>
    have e2 : drc (a :: l) = a.blk ++ drc l := rfl
    cases i with
    | zero =>
      have := hx (by simp)
      simp only [List.getD_cons_zero] at this
      rw [e2, this]
      rfl
    | succ i =>
      have e3 : drc ((a :: l).set (i + 1) x) = a.blk ++ drc (l.set i x) := rfl
      rw [e2, e3, ih i (fun h => by have := hx (by simp; omega); simpa using this)]
/-- a door is another one -/
def LkM.putD (m : LkM) (i : Nat) (d : DrM) (F : List Nat) : LkM := { m with ds := m.ds.set i d, Fd := fun j => if j = i then F else m.Fd j, lab := fun k => if k ∈ F then 6 + i else m.lab k }
theorem Lk.putD (h : Lk w b o T cs m) {i : Nat} {d : DrM} {F : List Nat} (hi : i < m.ds.length) (hd : DrOk w' d F) (hx : (m.ds.getD i default).blk = d.blk) (ht : Turned (m.Fd i) w w') (hf : ∀ k ∈ F, k ∈ m.Fd i ∨ w.heap.size ≤ k) :
    Lk w' b o T cs (m.putD i d F) := by
  have hn : ∀ {k : Nat}, m.lab k ≠ 6 + i → k ∉ m.Fd i := fun h6 hm => h6 (h.lf i hi _ hm)
  have hl : ∀ {k : Nat}, k < w.heap.size → m.lab k ≠ 6 + i → (m.putD i d F).lab k = m.lab k := fun hk h6 => by
    show (if _ ∈ F then 6 + i else m.lab _) = _
    rw [if_neg]
    intro hm
    rcases hf _ hm with h1 | h1
    · exact h6 (h.lf i hi _ h1)
    · omega
  have hlt := h.lt
  refine ⟨h.blk.turned ht (hn (by rw [h.lb]; omega)), h.c0, h.c1, h.c2, by show cs[o + 3]? = some (Value.slice m.Ad (m.ds.set i d).length m.cd); rw [List.length_set]; exact h.c3, h.c7, h.row.turned ht (hn (by rw [h.lb]; omega)) (fun k hk => hn (by rw [h.lr k hk]; omega)),
    h.askers.turned ht (fun k hk => hn (by rw [h.la k hk]; omega)), own_turned h.keys ht (fun k hk => hn (by rw [h.lk k hk]; omega)), fun c hc => (h.chans c hc).turned ht (hn (by rw [h.lc c hc]; omega)),
    ?_, fun j hj => ?_, h.wf,
    (hl h.blk.lt (by rw [h.lb]; omega)).trans h.lb, fun k hk => (hl (hlt k (mem_fpm.2 (.inl hk))) (by rw [h.la k hk]; omega)).trans (h.la k hk), fun k hk => (hl (hlt k (mem_fpm.2 (.inr (.inl hk)))) (by rw [h.lk k hk]; omega)).trans (h.lk k hk), fun k hk => (hl (hlt k (mem_fpm.2 (.inr (.inr (.inl hk))))) (by rw [h.lc k hk]; omega)).trans (h.lc k hk),
    fun k hk => (hl (hlt k (mem_fpm.2 (.inr (.inr (.inr (.inl hk)))))) (by rw [h.ld k hk]; omega)).trans (h.ld k hk), fun k hk => (hl (hlt k (mem_fpm.2 (.inr (.inr (.inr (.inr (.inl hk))))))) (by rw [h.lr k hk]; omega)).trans (h.lr k hk), fun j hj k hk => ?_⟩
  · show w'.ownsRow 0 76 3 (.slice m.Ad (m.ds.set i d).length m.cd) (m.ds.set i d).length (drc (m.ds.set i d))
    rw [List.length_set, drc_set _ _ _ (fun _ => hx)]
    exact own_turned h.doors ht (fun k hk => hn (by rw [h.ld k hk]; omega))
  · have hj' : j < m.ds.length := by have : j < (m.ds.set i d).length := hj; rwa [List.length_set] at this
    show DrOk w' ((m.ds.set i d).getD j default) (if j = i then F else m.Fd j)
    by_cases e : j = i
    · subst e
      rw [if_pos rfl]
      simpa [List.getD, hj'] using hd
    · rw [if_neg e]
      have : (m.ds.set i d).getD j default = m.ds.getD j default := by simp [List.getD, List.getElem?_set_ne (Ne.symm e)]
      rw [this]
      exact (h.drs j hj').turned ht (fun k hk => hn (by rw [h.lf j hj' k hk]; omega))
  · have hj' : j < m.ds.length := by have : j < (m.ds.set i d).length := hj; rwa [List.length_set] at this
    have hk : k ∈ (if j = i then F else m.Fd j) := hk
    by_cases e : j = i
    · subst e
      rw [if_pos rfl] at hk
      exact if_pos hk
    · rw [if_neg e] at hk
      exact (hl (hlt k (mem_fpm.2 (.inr (.inr (.inr (.inr (.inr ⟨j, hj', hk⟩))))))) (by rw [h.lf j hj' k hk]; omega)).trans (h.lf j hj' k hk)
end
end Go.Proofs.YtppgameimddimaaGreat
