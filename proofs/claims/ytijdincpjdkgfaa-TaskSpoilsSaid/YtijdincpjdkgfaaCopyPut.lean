/- A copied set whose task is written. -/
import Derived.Test.YtijdincpjdkgfaaTaskCopied
import Derived.Test.YtijdincpjdkgfaaSpoilt
set_option maxHeartbeats 2000000
set_option linter.unusedSimpArgs false
namespace Go.Proofs.Ytijdincpjdkgfaa
open Go.ChangeShapes Go.WideShapes Go.ChangeAt Go.RowKit
/-- X with another task at p -/
def setT (X : SetR) (p : Nat) (t : TaskR) : SetR := ⟨X.proto, X.ca, X.cc, X.cores, X.ha, X.hc, X.homes, X.ta, X.tc, X.tasks.set p t⟩
theorem CopyOf.put {B : Nat} {w u : World} {s X : SetR} {g p j : Nat} {t : TaskR} {v : Value} (hX : CopyOf B u s X) (hs : SetOk w s) (hA : X.ta = some ⟨g, 0, none⟩) (hp : p < X.tasks.length) (hj : j < 6)
    (hv : ([.string t.name, .int .i64 t.per, .int .i64 t.dl, .int .i64 t.prio, .int .i64 t.cl, .slice t.pa t.parts.length t.pc] : List Value) = ([.string X.tasks[p].name, .int .i64 X.tasks[p].per, .int .i64 X.tasks[p].dl, .int .i64 X.tasks[p].prio, .int .i64 X.tasks[p].cl, .slice X.tasks[p].pa X.tasks[p].parts.length X.tasks[p].pc] : List Value).set j v)
    (ht : TaskOk u X.tasks[p] → TaskOk u t) (hpa : ∀ k ∈ fp t.pa, k ∈ fp X.tasks[p].pa) : SetOk (u.setCell ⟨g, p * 6 + j, none⟩ v) (setT X p t) := by
  have hx := hX.ok hs
  have TS : Turned [g] u (u.setCell ⟨g, p * 6 + j, none⟩ v) := (Turned.refl [g] u).setCell (p := ⟨g, p * 6 + j, none⟩) (.inl (by simp)) _
  have ot := hX.ot
  rw [hA] at ot
  have ot2 := ownT_put ot hp hj t v hv
  have hg : ∀ a ∈ fp X.ca ++ fp X.ha, a < g := fun a ha => hX.s2 a ha g (by rw [hA]; simp [fp])
  have hg2 : ∀ m, m < X.tasks.length → ∀ b ∈ fp (X.tasks.getD m default).pa, g < b := fun m hm b hb => hX.s3 m hm g (by rw [hA]; simp [fp]) b hb
  refine ⟨hx.proto, hx.cores.turned TS (fun k hk => by have := hg k (by simp [hk]); simp; omega), hx.homes.turned TS (fun k hk => by have := hg k (by simp [hk]); simp; omega), ?_⟩
  have hl : (X.tasks.set p t).length = X.tasks.length := by simp
  refine ⟨?_, ?_, fun t' ht' => ?_⟩
  · show SlOk X.ta (X.tasks.set p t).length X.tc
    rw [hl]; exact hx.tasks.sl
  · show TasksAt _ X.ta (X.tasks.set p t)
    rw [hA]; exact ot2.tasks
  · obtain ⟨m, hm, rfl⟩ := mem_getD ht'
    have hm2 : m < X.tasks.length := by rw [← hl]; exact hm
    by_cases e : p = m
    · subst e
      show TaskOk _ ((X.tasks.set p t).getD p default)
      rw [getD_set_eq hp]
      refine (ht ?_).turned TS ?_
      · exact hx.tasks.ok _ (List.getElem_mem hp)
      · intro k hk
        have := hg2 p hp k (by simpa [List.getD, hp] using hpa k hk)
        simp; omega
    · show TaskOk _ ((X.tasks.set p t).getD m default)
      rw [getD_set_ne' e]
      exact (hx.tasks.ok _ (getD_mem hm2)).turned TS (fun k hk => by have := hg2 m hm2 k hk; simp; omega)
theorem CopyOf.twice {B : Nat} {u : World} {s X : SetR} {p q : Nat} {pB : Bool} {t : TaskR} (hX : CopyOf B u s X) (hp : p < X.tasks.length) (hq : q < X.tasks.length)
    (h1 : t.per = X.tasks[p].per ∧ t.dl = X.tasks[p].dl ∧ t.cl = X.tasks[p].cl ∧ t.parts = X.tasks[p].parts)
    (h2 : t.name = if pB = false then X.tasks[q].name else X.tasks[p].name) (h3 : t.prio = if pB = true then X.tasks[q].prio else X.tasks[p].prio) : Twice s (setT X p t) p q pB := by
  have hl := hX.len
  have gp : ∀ m (hm : m < X.tasks.length), X.tasks.getD m default = X.tasks[m] := fun m hm => by simp [List.getD, hm]
  have L := fun m hm => hX.like m hm
  have lp := L p (by omega)
  have lq := L q (by omega)
  rw [gp p hp] at lp
  rw [gp q hq] at lq
  refine ⟨hX.proto, hX.cores, hX.homes, by show (X.tasks.set p t).length = _; rw [List.length_set, hl], ?_, ?_, ?_, ?_, ?_, ?_⟩
  all_goals
    intro m hm
    show _ = _
    by_cases e : p = m
    · subst e
      show _ = _
      unfold setT
      dsimp only
      rw [getD_set_eq hp]
      first
        | (rw [h1.1]; exact lp.2.1)
        | (rw [h1.2.1]; exact lp.2.2.1)
        | (rw [h1.2.2.1]; exact lp.2.2.2.2.1)
        | (rw [h1.2.2.2]; exact lp.2.2.2.2.2)
        | (rw [h2]; cases pB <;> simp <;> first | exact lq.1 | exact lp.1)
        | (rw [h3]; cases pB <;> simp <;> first | exact lq.2.2.2.1 | exact lp.2.2.2.1)
    · unfold setT
      dsimp only
      rw [getD_set_ne' e]
      obtain ⟨a0, a1, a2, a3, a4, a5⟩ := L m hm
      first
        | exact a1
        | exact a2
        | exact a4
        | exact a5
        | (rw [if_neg (by omega)]; exact a0)
        | (rw [if_neg (by omega)]; exact a3)
/-- a task's parts are written -/
theorem CopyOf.putP {B : Nat} {w u v : World} {s X : SetR} {b p : Nat} {ps : List PartM} (hX : CopyOf B u s X) (hs : SetOk w s) (hp : p < X.tasks.length) (hA : X.tasks[p].pa = some ⟨b, 0, none⟩) (hv : Turned [b] u v)
    (hl : ps.length = X.tasks[p].parts.length) (hP : PartsAt v (some ⟨b, 0, none⟩) ps) (hw : ∀ q ∈ ps, q.wf) : SetOk v (setT X p { X.tasks[p] with parts := ps }) := by
  have hx := hX.ok hs
  have gp : X.tasks.getD p default = X.tasks[p] := by simp [List.getD, hp]
  have hb3 : ∀ a ∈ fp X.ca ++ (fp X.ha ++ fp X.ta), a < b := fun a ha => hX.s3 p hp a ha b (by rw [gp, hA]; simp [fp])
  have hg : ∀ m, m < X.tasks.length → m ≠ p → ∀ k ∈ fp (X.tasks.getD m default).pa, k ≠ b := fun m hm hne k hk => by
    rcases Nat.lt_or_gt_of_ne hne with h | h
    · have := hX.s4 m p h hp k hk b (by rw [gp, hA]; simp [fp]); omega
    · have := hX.s4 p m h hm b (by rw [gp, hA]; simp [fp]) k hk; omega
  refine ⟨hx.proto, hx.cores.turned hv (fun k hk => by have := hb3 k (by simp [hk]); simp; omega), hx.homes.turned hv (fun k hk => by have := hb3 k (by simp [hk]); simp; omega), ?_⟩
  have hll : (X.tasks.set p { X.tasks[p] with parts := ps }).length = X.tasks.length := by simp
  refine ⟨?_, ?_, fun t' ht' => ?_⟩
  · show SlOk X.ta (X.tasks.set p { X.tasks[p] with parts := ps }).length X.tc
    rw [hll]; exact hx.tasks.sl
  · show TasksAt v X.ta (X.tasks.set p { X.tasks[p] with parts := ps })
    have ht : TasksAt v X.ta X.tasks := (hX.ot.turned hv (fun k hk => by have := hb3 k (by simp [hk]); simp; omega)).tasks
    rcases ht with h0 | ⟨b', off, e, hc⟩
    · rw [h0] at hp; simp at hp
    · refine .inr ⟨b', off, e, fun i hi => ?_⟩
      rw [hll] at hi
      have c := hc i hi
      by_cases e : p = i
      · subst e
        rw [getD_set_eq hp]
        rw [gp] at c
        obtain ⟨c0, c1, c2, c3, c4, c5⟩ := c
        exact ⟨c0, c1, c2, c3, c4, by dsimp only; rw [hl]; exact c5⟩
      · rw [getD_set_ne' e]; exact c
  · obtain ⟨m, hm, rfl⟩ := mem_getD ht'
    have hm2 : m < X.tasks.length := by rw [← hll]; exact hm
    by_cases e : p = m
    · subst e
      show TaskOk v ((X.tasks.set p { X.tasks[p] with parts := ps }).getD p default)
      rw [getD_set_eq hp]
      have o := hx.tasks.ok _ (List.getElem_mem hp)
      exact ⟨o.name, o.per, o.dl, o.prio, o.cl, by show SlOk X.tasks[p].pa ps.length X.tasks[p].pc; rw [hl]; exact o.sl, by show PartsAt v X.tasks[p].pa ps; rw [hA]; exact hP, hw⟩
    · show TaskOk v ((X.tasks.set p { X.tasks[p] with parts := ps }).getD m default)
      rw [getD_set_ne' e]
      exact (hx.tasks.ok _ (getD_mem hm2)).turned hv (fun k hk => by have := hg m hm2 (Ne.symm e) k hk; simp; omega)
theorem sameF.trans {a b c : TaskR} (h : sameF a b) (k : sameF b c) : sameF a c := ⟨h.1.trans k.1, h.2.1.trans k.2.1, h.2.2.1.trans k.2.2.1, h.2.2.2.1.trans k.2.2.2.1, h.2.2.2.2.1.trans k.2.2.2.2.1, h.2.2.2.2.2.trans k.2.2.2.2.2⟩
/-- a copy of a copy -/
theorem CopyOf.via {B B' : Nat} {u v : World} {s O X : SetR} (hO : CopyOf B u s O) (hX : CopyOf B' v O X) : CopyOf B' v s X :=
  ⟨hX.proto.trans hO.proto, hX.cores.trans hO.cores, hX.homes.trans hO.homes, hX.len.trans hO.len, fun j hj => (hX.like j (by rw [hO.len]; exact hj)).trans (hO.like j hj), hX.oc, hX.oh, hX.ot, hX.op, hX.s1, hX.s2, hX.s3, hX.s4⟩
theorem CopyOf.turned {B : Nat} {F : List Nat} {u v : World} {s X : SetR} (h : CopyOf B u s X) (ht : Turned F u v) (hF : ∀ k, B ≤ k → k < u.heap.size → k ∉ F) : CopyOf B v s X :=
  ⟨h.proto, h.cores, h.homes, h.len, h.like, h.oc.turned ht (fun k hk => hF k (own_fp h.oc.own k hk).1 (own_fp h.oc.own k hk).2), h.oh.turned ht (fun k hk => hF k (own_fp h.oh.own k hk).1 (own_fp h.oh.own k hk).2),
    h.ot.turned ht (fun k hk => hF k (own_fp h.ot.own k hk).1 (own_fp h.ot.own k hk).2), fun j hj => (h.op j hj).turned ht (fun k hk => hF k (own_fp (h.op j hj).own k hk).1 (own_fp (h.op j hj).own k hk).2), h.s1, h.s2, h.s3, h.s4⟩
theorem CopyOf.few {B : Nat} {u : World} {s X : SetR} (h : CopyOf B u s X) (hf : FewS s) : FewS X := by
  refine ⟨by rw [h.cores]; exact hf.cores, by rw [h.homes]; exact hf.homes, by rw [h.len]; exact hf.tasks, fun t ht => ?_⟩
  obtain ⟨j, hj, rfl⟩ := mem_getD ht
  rw [h.len] at hj
  rw [(h.like j hj).2.2.2.2.2]
  exact hf.parts _ (getD_mem hj)
theorem ptc_cons (a : PartM) (ps : List PartM) : ptc (a :: ps) = .int .i64 a.kind :: .int .i64 a.len :: .int .i64 a.res :: ptc ps := by simp [ptc]
theorem ownP_len0 {B g n c : Nat} {w : World} {a : PartM} {ps : List PartM} (h : OwnP B w (some ⟨g, 0, none⟩) n c (a :: ps)) (x : Int) : OwnP B (w.setCell ⟨g, 1, none⟩ (.int .i64 x)) (some ⟨g, 0, none⟩) n c (⟨a.kind, x, a.res⟩ :: ps) := by
  have hl := h.len
  refine ⟨?_, hl, h.cap, fun e => by cases e⟩
  have := own_put h.own 1 (show 1 < n * 3 by simp at hl; omega) (.int .i64 x)
  rw [ptc_cons] at this
  rw [ptc_cons]
  exact this
theorem ownP_part0 {B g n c : Nat} {w : World} {a : PartM} {ps : List PartM} (h : OwnP B w (some ⟨g, 0, none⟩) n c (a :: ps)) (p : PartM) : OwnP B (((w.setCell ⟨g, 0, none⟩ (.int .i64 p.kind)).setCell ⟨g, 1, none⟩ (.int .i64 p.len)).setCell ⟨g, 2, none⟩ (.int .i64 p.res)) (some ⟨g, 0, none⟩) n c (p :: ps) := by
  have hl := h.len
  have hk : 3 ≤ n * 3 := by simp at hl; omega
  refine ⟨?_, hl, h.cap, fun e => by cases e⟩
  have := own_put (own_put (own_put h.own 0 (by omega) (.int .i64 p.kind)) 1 (by omega) (.int .i64 p.len)) 2 (by omega) (.int .i64 p.res)
  rw [ptc_cons] at this
  rw [ptc_cons]
  exact this
/-- X is s but for task p -/
theorem CopyOf.but {B : Nat} {u : World} {s X : SetR} {p : Nat} {t : TaskR} (hX : CopyOf B u s X) : ButT s (setT X p t) p := by
  refine ⟨hX.proto, hX.cores, hX.homes, by show (X.tasks.set p t).length = _; rw [List.length_set, hX.len], fun m hm hne => ?_⟩
  show sameF ((X.tasks.set p t).getD m default) _
  rw [getD_set_ne' (Ne.symm hne)]
  exact hX.like m hm
end Go.Proofs.Ytijdincpjdkgfaa
