/- clock: Step. -/
import Derived.Test.YtkjobhocgiefdaaClk7
namespace Go.Proofs.Ytkjobhocgiefdaa
open Go.ChangeShapes Go.WideShapes Go.ChangeAt Go.RowKit Go.Conc
set_option linter.unusedVariables false
set_option linter.unusedSimpArgs false
/-! ### plain -/
def idsAt (l : List DueM) (t : Int) : List Int := (l.filter fun d => d.time == t).map DueM.id
def notAt (l : List DueM) (t : Int) : List DueM := l.filter fun d => !(d.time == t)
theorem first_ex : ∀ (l : List DueM) (t : Int), 0 < dueN l t → ∃ k, FirstOf l t k ∧ dueN l t = dueN (l.eraseIdx k) t + 1 ∧ notAt (l.eraseIdx k) t = notAt l t ∧ idsAt l t = (l.getD k default).id :: idsAt (l.eraseIdx k) t
  | [], t, h => by simp [dueN] at h
  | d :: l, t, h => by
    by_cases hd : d.time = t
    · exact ⟨0, ⟨by simp, hd, fun j hj => by omega⟩, by simp [dueN, hd], by simp [notAt, hd], by simp [idsAt, hd]⟩
    · have h' : 0 < dueN l t := by simpa [dueN, List.countP_cons, hd] using h
      obtain ⟨k, ⟨h1, h2, h3⟩, h4, h5, h6⟩ := first_ex l t h'
      refine ⟨k + 1, ⟨by simp; omega, by simpa using h2, fun j hj => ?_⟩, ?_, ?_, ?_⟩
      · rcases j with _ | j
        · simpa using hd
        · simpa using h3 j (by omega)
      · simpa [dueN, List.countP_cons, hd] using h4
      · simpa [notAt, hd] using h5
      · simpa [idsAt, hd] using h6
theorem none_at {l : List DueM} {t : Int} (h : dueN l t = 0) : idsAt l t = [] ∧ notAt l t = l := by
  unfold dueN at h
  rw [List.countP_eq_zero] at h
  refine ⟨?_, ?_⟩
  · unfold idsAt
    rw [List.filter_eq_nil_iff.2 h]; rfl
  · unfold notAt
    rw [List.filter_eq_self]
    intro d hd
    simpa using h d hd
/-! ### the select -/
def recvC (bell : Option Nat) : CommCase := { chan := .chan bell, send := none, zero := .agg #[] }
theorem noway_bell {w : World} {bell : Option Nat} (h : BellOk w bell 0) : NoWay w (recvC bell) := by
  rcases h with ⟨rfl, _⟩ | ⟨c, s, r, rfl, hc⟩
  · exact noWay_nil none
  · exact noWay_recv (by simpa using hc)
theorem res4_0 (a b c d : Option Nat) (v : Value) (ok : Bool) : commResult #[recvC a, recvC b, recvC c, recvC d] .select ((0 : Nat) : Int) v ok = .tuple #[goInt 0, .bool ok, v, .agg #[], .agg #[], .agg #[]] := by simp [commResult, recvC, List.zipIdx_cons]
theorem res4_1 (a b c d : Option Nat) (v : Value) (ok : Bool) : commResult #[recvC a, recvC b, recvC c, recvC d] .select ((1 : Nat) : Int) v ok = .tuple #[goInt 1, .bool ok, .agg #[], v, .agg #[], .agg #[]] := by simp [commResult, recvC, List.zipIdx_cons]
theorem res4_2 (a b c d : Option Nat) (v : Value) (ok : Bool) : commResult #[recvC a, recvC b, recvC c, recvC d] .select ((2 : Nat) : Int) v ok = .tuple #[goInt 2, .bool ok, .agg #[], .agg #[], v, .agg #[]] := by simp [commResult, recvC, List.zipIdx_cons]
theorem res4_3 (a b c d : Option Nat) (v : Value) (ok : Bool) : commResult #[recvC a, recvC b, recvC c, recvC d] .select ((3 : Nat) : Int) v ok = .tuple #[goInt 3, .bool ok, .agg #[], .agg #[], .agg #[], v] := by simp [commResult, recvC, List.zipIdx_cons]
theorem res4_d (a b c d : Option Nat) (v : Value) (ok : Bool) : commResult #[recvC a, recvC b, recvC c, recvC d] .select (-1) v ok = .tuple #[goInt (-1), .bool ok, .agg #[], .agg #[], .agg #[], .agg #[]] := by simp [commResult, recvC, List.zipIdx_cons]
section
variable {w : World} {b o : Nat} {T : TypeId} {cs : Array Value} {now : Int} {m : Nat → SpM}
theorem rep_pop (k : Nat) (v : Value) : (Array.replicate (k + 1) v).extract 1 (Array.replicate (k + 1) v).size = Array.replicate k v := by
  refine Array.ext (by simp) (fun i h1 h2 => by simp)
/-- a ring is taken -/
theorem Sp.rung {q k c s r : Nat} {x : SpM} (h : Sp w b q T cs x) (hk : x.k = k + 1) (hb : x.bell = some c) (hc : w.heap[c]? = some (.chan 64 (Array.replicate (k + 1) (.agg #[])) false s r false)) :
    SpPost w b q T cs x ⟨x.A, x.c, x.rows, x.bell, k⟩ (w.setChan c 64 ((Array.replicate (k + 1) (Value.agg #[])).extract 1 (Array.replicate (k + 1) (Value.agg #[])).size) false s (r + 1) false) := by
  obtain ⟨A, c', rows, bell, k'⟩ := x
  dsimp only at hk hb ⊢
  subst hk
  subst hb
  have hne : b ≠ c := fun e => h.ne (by simp [SpM.fp, e])
  have hlt := (Array.getElem?_eq_some_iff.1 hc).1
  have ht : Turned [c] w (w.setChan c 64 ((Array.replicate (k + 1) (Value.agg #[])).extract 1 (Array.replicate (k + 1) (Value.agg #[])).size) false s (r + 1) false) := (Turned.refl _ w).setChan (.inl (by simp)) _ _ _ _ _ _
  refine ⟨?_, ht.mono (fun k hk => .inl (by simp at hk; simp [SpM.fp, hk])), fun k hk => .inl hk⟩
  rw [set_same h.rows, set_same h.bell]
  exact ⟨h.blk.turned ht (by simpa using hne), h.rows, h.bell, h.own.turned ht (fun k hk => by simp; intro e; subst e; exact h.ab k (by simp) hk), .inr ⟨c, s, r + 1, rfl, (heap_setChan w c _ _ _ _ _ _ hlt).trans (by rw [rep_pop])⟩, h.ne, h.ab⟩
end
end Go.Proofs.Ytkjobhocgiefdaa
