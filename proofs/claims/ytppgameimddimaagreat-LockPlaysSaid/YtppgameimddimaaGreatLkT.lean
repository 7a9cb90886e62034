/- lock: steps of the locks one behind the other; place. -/
import Derived.Test.YtppgameimddimaaGreatLkF
import Derived.StillTailTactics
namespace Go.Proofs.YtppgameimddimaaGreat
open Go.ChangeShapes Go.WideShapes Go.ChangeAt Go.RowKit Go.Conc
set_option linter.unusedVariables false
set_option linter.unusedSimpArgs false
/-- the locks in the same cells, another state -/
def LkTo (w : World) (b o : Nat) (T : TypeId) (cs : Array Value) (m : LkM) (w' : World) (m' : LkM) : Prop := ∃ cs', Lk w' b o T cs' m' ∧ FrL w b o 8 T cs (fpm m) w' cs' (fpm m')
section
variable {w w' : World} {b o : Nat} {T : TypeId} {cs : Array Value} {m m1 m2 : LkM}
theorem LkTo.trans {w1 w2 : World} (h : LkTo w b o T cs m w1 m1) (h2 : ∀ cs1, Lk w1 b o T cs1 m1 → LkTo w1 b o T cs1 m1 w2 m2) : LkTo w b o T cs m w2 m2 := by
  obtain ⟨cs1, l1, f1⟩ := h
  obtain ⟨cs2, l2, f2⟩ := h2 cs1 l1
  exact ⟨cs2, l2, f1.trans f2⟩
theorem LkTo.below (h : Lk w b o T cs m) (hb : Below w.heap.size w w') : LkTo w b o T cs m w' m := ⟨cs, h.over hb, FrL.below hb⟩
theorem Lk.size (h : Lk w b o T cs m) : o + 7 < cs.size := by
  have := h.c7
  by_cases hs : o + 7 < cs.size
  · exact hs
  · rw [Array.getElem?_eq_none (by omega)] at this; cases this
theorem Lk.toA (h : Lk w b o T cs m) {g i f : Nat} (hA : m.Aa = some ⟨g, 0, none⟩) (hi : i < m.ask.length) (hf : f < 6) {v : Value} {x : AskM} (hx : (m.ask.getD i default).blk.set f v = x.blk) (hw : x.wf) : LkTo w b o T cs m (w.setCell ⟨g, i * 6 + f, none⟩ v) (m.putA i x) := by
  obtain ⟨h1, h2⟩ := h.putA hA hi hf hx hw
  exact ⟨cs, h1, rfl, fun _ _ => rfl, h2.mono (fun k hk => .inl (by simp at hk; subst hk; exact List.mem_cons_of_mem _ (mem_fpm.2 (.inl (by rw [hA]; simp [fp]))))), fun k hk => .inl hk⟩
theorem Lk.toP (h : Lk w b o T cs m) (p : Int) : LkTo w b o T cs m (w.setCell ⟨b, o + 7, none⟩ (.int .i64 p)) { m with places := p } := by
  obtain ⟨h1, h2⟩ := h.putP h.size p
  exact ⟨_, h1, by simp, fun j hj => by rw [Array.getElem?_setIfInBounds, if_neg (by omega)], h2.mono (fun k hk => .inl (by simp at hk; subst hk; simp)), fun k hk => .inl hk⟩
theorem Lk.toK (h : Lk w b o T cs m) {c s r : Nat} {v : Bool} (hc : c ∈ m.ks) : LkTo w b o T cs m (w.setChan c 1 (if v = true then #[.agg #[]] else #[]) false s r false) (m.putK c v) := by
  obtain ⟨h1, h2⟩ := h.putK (s := s) (r := r) (v := v) hc (h.chans c hc).lt
  exact ⟨cs, h1, rfl, fun _ _ => rfl, h2.mono (fun k hk => .inl (by simp at hk; subst hk; exact List.mem_cons_of_mem _ (mem_fpm.2 (.inr (.inr (.inl hc)))))), fun k hk => .inl hk⟩
theorem Lk.toR (h : Lk w b o T cs m) {P : Int} {l : List EntM} {A : Option Addr} {c : Nat} (hp : Rk w' b (o + 4) T (rkCs cs (o + 4) P A l.length c) m.R P l A c) (ht : Turned (b :: fp m.Ar) w w') (hf : ∀ k ∈ fp A, k ∈ fp m.Ar ∨ w.heap.size ≤ k) : LkTo w b o T cs m w' (m.putR P l A c) := by
  refine ⟨_, h.putR hp ht hf, by simp [rkCs], fun j hj => ?_, ht.mono (fun k hk => .inl ?_), fun k hk => ?_⟩
  · unfold rkCs
    rw [Array.getElem?_setIfInBounds, if_neg (by omega), Array.getElem?_setIfInBounds, if_neg (by omega)]
  · rcases List.mem_cons.1 hk with rfl | hk
    · simp
    · exact List.mem_cons_of_mem _ (mem_fpm.2 (.inr (.inr (.inr (.inr (.inl hk))))))
  · rcases mem_fpm.1 hk with h1 | h1 | h1 | h1 | h1 | h1
    · exact .inl (mem_fpm.2 (.inl h1))
    · exact .inl (mem_fpm.2 (.inr (.inl h1)))
    · exact .inl (mem_fpm.2 (.inr (.inr (.inl h1))))
    · exact .inl (mem_fpm.2 (.inr (.inr (.inr (.inl h1)))))
    · exact (hf k h1).imp (fun h2 => mem_fpm.2 (.inr (.inr (.inr (.inr (.inl h2)))))) (fun x => x)
    · exact .inl (mem_fpm.2 (.inr (.inr (.inr (.inr (.inr h1))))))
theorem Lk.toD (h : Lk w b o T cs m) {i : Nat} {d : DrM} {F : List Nat} (hi : i < m.ds.length) (hd : DrOk w' d F) (hx : (m.ds.getD i default).blk = d.blk) (ht : Turned (m.Fd i) w w') (hf : ∀ k ∈ F, k ∈ m.Fd i ∨ w.heap.size ≤ k) : LkTo w b o T cs m w' (m.putD i d F) := by
  refine ⟨cs, h.putD hi hd hx ht hf, rfl, fun _ _ => rfl, ht.mono (fun k hk => .inl (List.mem_cons_of_mem _ (mem_fpm.2 (.inr (.inr (.inr (.inr (.inr ⟨i, hi, hk⟩)))))))), fun k hk => ?_⟩
  rcases mem_fpm.1 hk with h1 | h1 | h1 | h1 | h1 | ⟨j, hj, h1⟩
  · exact .inl (mem_fpm.2 (.inl h1))
  · exact .inl (mem_fpm.2 (.inr (.inl h1)))
  · exact .inl (mem_fpm.2 (.inr (.inr (.inl h1))))
  · exact .inl (mem_fpm.2 (.inr (.inr (.inr (.inl h1)))))
  · exact .inl (mem_fpm.2 (.inr (.inr (.inr (.inr (.inl h1))))))
  · have hj' : j < m.ds.length := by have : j < (m.ds.set i d).length := hj; rwa [List.length_set] at this
    have h1 : k ∈ (if j = i then F else m.Fd j) := h1
    by_cases e : j = i
    · rw [if_pos e] at h1
      exact (hf k h1).imp (fun h2 => mem_fpm.2 (.inr (.inr (.inr (.inr (.inr ⟨i, hi, h2⟩)))))) (fun x => x)
    · rw [if_neg e] at h1
      exact .inl (mem_fpm.2 (.inr (.inr (.inr (.inr (.inr ⟨j, hj', h1⟩))))))
end
end Go.Proofs.YtppgameimddimaaGreat
