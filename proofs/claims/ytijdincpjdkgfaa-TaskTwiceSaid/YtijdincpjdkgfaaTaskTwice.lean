/- TaskTwice: of two tasks of one name, or of one priority, the later one is told. No condition. -/
import Derived.Test.YtijdincpjdkgfaaKnown8
import Derived.Test.YtijdincpjdkgfaaFews8
import Derived.Test.YtijdincpjdkgfaaTaskCopied
import Derived.Test.YtijdincpjdkgfaaTwice
set_option maxHeartbeats 20000000
set_option maxRecDepth 100000
set_option linter.unusedSimpArgs false
namespace Go.Proofs.Ytijdincpjdkgfaa
open Go.ChangeShapes Go.WideShapes Go.ChangeAt Go.RowKit
/-- X with another task at p -/
def setT (X : SetR) (p : Nat) (t : TaskR) : SetR := ⟨X.proto, X.ca, X.cc, X.cores, X.ha, X.hc, X.homes, X.ta, X.tc, X.tasks.set p t⟩
theorem CopyOf.put {B : Nat} {w u : World} {s X : SetR} {g p j : Nat} {t : TaskR} {v : Value} (hX : CopyOf B u s X) (hs : SetOk w s) (hA : X.ta = some ⟨g, 0, none⟩) (hp : p < X.tasks.length) (hj : j < 6)
    (hv : ([.string t.name, .int .i64 t.per, .int .i64 t.dl, .int .i64 t.prio, .int .i64 t.cl, .slice t.pa t.parts.length t.pc] : List Value) = ([.string X.tasks[p].name, .int .i64 X.tasks[p].per, .int .i64 X.tasks[p].dl, .int .i64 X.tasks[p].prio, .int .i64 X.tasks[p].cl, .slice X.tasks[p].pa X.tasks[p].parts.length X.tasks[p].pc] : List Value).set j v)
    (ht : TaskOk u X.tasks[p] → TaskOk u t) (hpa : t.pa = X.tasks[p].pa) : SetOk (u.setCell ⟨g, p * 6 + j, none⟩ v) (setT X p t) := by
  have hx := hX.ok hs
  have TS : Turned [g] u (u.setCell ⟨g, p * 6 + j, none⟩ v) := (Turned.refl [g] u).setCell (p := ⟨g, p * 6 + j, none⟩) (.inl (by simp)) _
  have ot := hX.ot
  rw [hA] at ot
  have ot2 := ownT_put ot hp hj t v hv
  have hg : ∀ a ∈ fp X.ca ++ fp X.ha, a < g := fun a ha => hX.s2 a ha g (by rw [hA]; simp [fp])
  have hg2 : ∀ m, m < X.tasks.length → ∀ b ∈ fp (X.tasks.getD m default).pa, g < b := fun m hm b hb => hX.s3 m hm g (by rw [hA]; simp [fp]) b hb
  refine ⟨hx.proto, hx.cores.turned TS (fun k hk => by have := hg k (by simp [hk]); simp; omega), hx.homes.turned TS (fun k hk => by have := hg k (by simp [hk]); simp; omega), ?_⟩
  have hl : (X.tasks.set p t).length = X.tasks.length := by simp
  refine ⟨?_, ?_, fun t' ht' => ?_⟩
  · show SlOk X.ta (X.tasks.set p t).length X.tc
    rw [hl]; exact hx.tasks.sl
  · show TasksAt _ X.ta (X.tasks.set p t)
    rw [hA]; exact ot2.tasks
  · obtain ⟨m, hm, rfl⟩ := mem_getD ht'
    have hm2 : m < X.tasks.length := by rw [← hl]; exact hm
    by_cases e : p = m
    · subst e
      show TaskOk _ ((X.tasks.set p t).getD p default)
      rw [getD_set_eq hp]
      refine (ht ?_).turned TS ?_
      · exact hx.tasks.ok _ (List.getElem_mem hp)
      · intro k hk
        rw [hpa] at hk
        have := hg2 p hp k (by simpa [List.getD, hp] using hk)
        simp; omega
    · show TaskOk _ ((X.tasks.set p t).getD m default)
      rw [getD_set_ne' e]
      exact (hx.tasks.ok _ (getD_mem hm2)).turned TS (fun k hk => by have := hg2 m hm2 k hk; simp; omega)
theorem CopyOf.twice {B : Nat} {u : World} {s X : SetR} {p q : Nat} {pB : Bool} {t : TaskR} (hX : CopyOf B u s X) (hp : p < X.tasks.length) (hq : q < X.tasks.length)
    (h1 : t.per = X.tasks[p].per ∧ t.dl = X.tasks[p].dl ∧ t.cl = X.tasks[p].cl ∧ t.parts = X.tasks[p].parts)
    (h2 : t.name = if pB = false then X.tasks[q].name else X.tasks[p].name) (h3 : t.prio = if pB = true then X.tasks[q].prio else X.tasks[p].prio) : Twice s (setT X p t) p q pB := by
  have hl := hX.len
  have gp : ∀ m (hm : m < X.tasks.length), X.tasks.getD m default = X.tasks[m] := fun m hm => by simp [List.getD, hm]
  have L := fun m hm => hX.like m hm
  have lp := L p (by omega)
  have lq := L q (by omega)
  rw [gp p hp] at lp
  rw [gp q hq] at lq
  refine ⟨hX.proto, hX.cores, hX.homes, by show (X.tasks.set p t).length = _; rw [List.length_set, hl], ?_, ?_, ?_, ?_, ?_, ?_⟩
  all_goals
    intro m hm
    show _ = _
    by_cases e : p = m
    · subst e
      show _ = _
      unfold setT
      dsimp only
      rw [getD_set_eq hp]
      first
        | (rw [h1.1]; exact lp.2.1)
        | (rw [h1.2.1]; exact lp.2.2.1)
        | (rw [h1.2.2.1]; exact lp.2.2.2.2.1)
        | (rw [h1.2.2.2]; exact lp.2.2.2.2.2)
        | (rw [h2]; cases pB <;> simp <;> first | exact lq.1 | exact lp.1)
        | (rw [h3]; cases pB <;> simp <;> first | exact lq.2.2.2.1 | exact lp.2.2.2.1)
    · unfold setT
      dsimp only
      rw [getD_set_ne' e]
      obtain ⟨a0, a1, a2, a3, a4, a5⟩ := L m hm
      first
        | exact a1
        | exact a2
        | exact a4
        | exact a5
        | (rw [if_neg (by omega)]; exact a0)
        | (rw [if_neg (by omega)]; exact a3)
end Go.Proofs.Ytijdincpjdkgfaa
namespace Go.Proofs.Ytijdincpjdkgfaa.taskTwice
open Go.ChangeShapes Go.WideShapes Go.ChangeAt Go.RowKit
open Go.ChangeMaps (open_string shut_string)
set_option linter.unusedVariables false

/-- THE WALK: the Go text returns true, and writes nothing that was there. -/
theorem walk (s0 : SetR) (a1 : Int) (a2 : Int) (a3 : Bool) (w : World) (w0 : SetOk w s0) (w1 : (Lit.int .u8 a1).wf = true) (w2 : (Lit.int .u8 a2).wf = true) :
    Calls Try.prog 5 #[.agg #[.int .i64 s0.proto, .slice s0.ca s0.cores.length s0.cc, .slice s0.ha s0.homes.length s0.hc, .slice s0.ta s0.tasks.length s0.tc], .int .u8 a1, .int .u8 a2, .bool a3] w fun e w' => e = .returned (.bool true) ∧ Below w.heap.size w w' := by
  have b1 : 0 ≤ a1 ∧ a1 ≤ 255 := by simp [Lit.wf, IntKind.min, IntKind.max, IntKind.signed, IntKind.bits] at w1; omega
  have b2 : 0 ≤ a2 ∧ a2 ≤ 255 := by simp [Lit.wf, IntKind.min, IntKind.max, IntKind.signed, IntKind.bits] at w2; omega
  obtain ⟨b1, b1'⟩ := b1
  obtain ⟨b2, b2'⟩ := b2
  have hb := (Below.refl w.heap.size w).alloc (Nat.le_refl _) (.cells #[.int .i64 s0.proto, .slice s0.ca s0.cores.length s0.cc, .slice s0.ha s0.homes.length s0.hc, .slice s0.ta s0.tasks.length s0.tc] 25)
  have sc := SetCells.new w s0 25
  have hs := w0.keep (Keeps.of_below hb)
  clear w0 w1 w2
  go_enter Try.func5, Try.ntmps5
  go_wp2_with fail
  refine (known8_any _).mono ?_
  rintro e u1 ⟨rfl, hbx⟩
  replace hb := hb.trans (hbx.mono hb.size)
  replace sc := sc.keep (Keeps.of_below hbx)
  replace hs := hs.keep (Keeps.of_below hbx)
  clear hbx
  obtain ⟨c0, c1, c2, c3⟩ := id sc
  go_wp2_with fail
  refine (fews8_any s0 _ hs).mono ?_
  rintro e u2 ⟨⟨b, rfl, hF⟩, hbx⟩
  clear c0 c1 c2 c3
  replace hb := hb.trans (hbx.mono hb.size)
  replace sc := sc.keep (Keeps.of_below hbx)
  replace hs := hs.keep (Keeps.of_below hbx)
  clear hbx
  cases b
  · go_wp2_with fail
    go_ret
    exact ⟨rfl, hb⟩
  · replace hF := hidp (hF rfl)
    obtain ⟨c0, c1, c2, c3⟩ := id sc
    go_wp2_with fail
    refine (rok_any s0 _ hs).mono ?_
    rintro e u3 ⟨rfl, hbx⟩
    clear c0 c1 c2 c3
    replace hb := hb.trans (hbx.mono hb.size)
    replace sc := sc.keep (Keeps.of_below hbx)
    replace hs := hs.keep (Keeps.of_below hbx)
    clear hbx
    obtain ⟨c0, c1, c2, c3⟩ := id sc
    cases hok : okS s0
    · go_wp2_with fail
      go_ret
      exact ⟨rfl, hb⟩
    · have Hok := hidp hok
      clear hok
      obtain ⟨n, HN⟩ : ∃ n, Hid (s0.tasks.length = n) := ⟨_, rfl⟩
      have hn9 : n ≤ 1000 := by rw [← HN.out]; exact hF.out.tasks
      by_cases h2 : n < 2
      · rw [HN.out] at c3
        go_wp2_with fail
        go_ret
        exact ⟨rfl, hb⟩
      · rw [HN.out] at c3
        go_wp2_with fail
        rw [← HN.out]
        refine (copied_any s0 _ hs hF.out).mono ?_
        rintro e u4 ⟨X, rfl, hX, hbx⟩
        replace hb := hb.trans (hbx.mono hb.size)
        have hsX := hs
        have Hub := hidp (show w.heap.size ≤ u3.heap.size from by have := cell_lt c0; exact Nat.le_of_lt this)
        clear c0 c1 c2 c3 hbx sc
        have HNX : Hid (X.tasks.length = n) := hidp (by rw [hX.len, HN.out])
        obtain ⟨g, hA, hg1, hg2⟩ := own_at hX.ot.own (by rw [HNX.out]; omega)
        have HA := hidp hA
        clear hA
        have hn0 : ¬ (n : Int) = 0 := by omega
        have hn00 : ¬ n = 0 := by omega
        have hnp : (0 : Int) < (n : Int) := by omega
        obtain ⟨p, hm1, hpn⟩ : ∃ p : Nat, a1.tmod (n : Int) = (p : Int) ∧ p < n := ⟨(a1 % (n : Int)).toNat, by rw [Int.tmod_eq_emod_of_nonneg b1]; have := Int.emod_nonneg a1 hn0; omega, by have := Int.emod_nonneg a1 hn0; have := Int.emod_lt_of_pos a1 hnp; omega⟩
        obtain ⟨q, hm2, hqn⟩ : ∃ q : Nat, a2.tmod (n : Int) = (q : Int) ∧ q < n := ⟨(a2 % (n : Int)).toNat, by rw [Int.tmod_eq_emod_of_nonneg b2]; have := Int.emod_nonneg a2 hn0; omega, by have := Int.emod_nonneg a2 hn0; have := Int.emod_lt_of_pos a2 hnp; omega⟩
        have hw1 : IntKind.i64.wrap a1 = a1 := IntWalk.i64_in _ (by omega)
        have hw2 : IntKind.i64.wrap a2 = a2 := IntWalk.i64_in _ (by omega)
        have bk : Bk (u4.alloc (.cells #[.int .i64 X.proto, .slice X.ca X.cores.length X.cc, .slice X.ha X.homes.length X.hc, .slice X.ta n X.tc] 25)).drew u4.heap.size 25 #[.int .i64 X.proto, .slice X.ca X.cores.length X.cc, .slice X.ha X.homes.length X.hc, .slice X.ta n X.tc] := (Bk.new u4 _ _).drewN 1
        have TU := ((Turned.refl [] u4).alloc (.cells #[.int .i64 X.proto, .slice X.ca X.cores.length X.cc, .slice X.ha X.homes.length X.hc, .slice X.ta n X.tc] 25)).drew
        have hXc : CopyOf u3.heap.size (u4.alloc (.cells #[.int .i64 X.proto, .slice X.ca X.cores.length X.cc, .slice X.ha X.homes.length X.hc, .slice X.ta n X.tc] 25)).drew s0 X := ⟨hX.proto, hX.cores, hX.homes, hX.len, hX.like, hX.oc.turned TU (by simp), hX.oh.turned TU (by simp), hX.ot.turned TU (by simp), fun j hj => (hX.op j hj).turned TU (by simp), hX.s1, hX.s2, hX.s3, hX.s4⟩
        replace hb : Below w.heap.size w (u4.alloc (.cells #[.int .i64 X.proto, .slice X.ca X.cores.length X.cc, .slice X.ha X.homes.length X.hc, .slice X.ta n X.tc] 25)).drew := below_drewN (hb.alloc hb.size _) 1
        have hs6 : (u4.alloc (.cells #[.int .i64 X.proto, .slice X.ca X.cores.length X.cc, .slice X.ha X.homes.length X.hc, .slice X.ta n X.tc] 25)).drew.cell? ⟨u4.heap.size, 3, none⟩ = some (.slice X.ta n X.tc) := (Z4 bk).2.2.2
        clear hX TU
        go_wp2_with fail
        rw [HNX.out]
        refine wp_region_held_drew (S := fun w' => w'.cell? ⟨u4.heap.size, 3, none⟩ = some (.slice X.ta n X.tc)) (by kernel_rfl) ?_ (fun hHeld => ?_)
        · exact hs6
        generalize (u4.alloc (.cells #[.int .i64 X.proto, .slice X.ca X.cores.length X.cc, .slice X.ha X.homes.length X.hc, .slice X.ta n X.tc] 25)).drew = v1 at *
        refine wpAnyH_take (i := 0) (v := ?_) rfl (by kernel_rfl) (by kernel_rfl) (by kernel_rfl) (fun _ _ _ h => h) (Or.inl ⟨by rfl, ?_⟩) (by assumption) ?_
        rotate_left 1
        · ((intro w hSw; (try dsimp only at hSw); go_simp); (try with_reducible rfl))
        simp only [Act.put, List.setIfInBounds_toArray, List.set_cons_zero, List.set_cons_succ, List.getElem_toArray, List.getElem_cons_zero, List.getElem_cons_succ]
        refine wpAnyH_take (i := 1) (v := ?_) rfl (by kernel_rfl) (by kernel_rfl) (by kernel_rfl) (fun _ _ _ h => h) (Or.inl ⟨by rfl, ?_⟩) (by assumption) ?_
        rotate_left 1
        · ((intro w hSw; (try dsimp only at hSw); go_simp); (try with_reducible rfl))
        simp only [Act.put, List.setIfInBounds_toArray, List.set_cons_zero, List.set_cons_succ, List.getElem_toArray, List.getElem_cons_zero, List.getElem_cons_succ]
        refine wpAnyH_take (i := 2) (v := ?_) rfl (by kernel_rfl) (by kernel_rfl) (by kernel_rfl) (fun _ _ _ h => h) (Or.inl ⟨by rfl, ?_⟩) (by assumption) ?_
        rotate_left 1
        · ((intro w hSw; (try dsimp only at hSw); go_simp); (try with_reducible rfl))
        simp only [Act.put, List.setIfInBounds_toArray, List.set_cons_zero, List.set_cons_succ, List.getElem_toArray, List.getElem_cons_zero, List.getElem_cons_succ]
        refine wpAnyH_take (i := 3) (v := ?_) rfl (by kernel_rfl) (by kernel_rfl) (by kernel_rfl) (fun _ _ _ h => h) (Or.inl ⟨by rfl, ?_⟩) (by assumption) ?_
        rotate_left 1
        · ((intro w hSw; (try dsimp only at hSw); go_simp); (try with_reducible rfl))
        simp only [Act.put, List.setIfInBounds_toArray, List.set_cons_zero, List.set_cons_succ, List.getElem_toArray, List.getElem_cons_zero, List.getElem_cons_succ]
        refine wpAnyH_take (i := 4) (v := ?_) rfl (by kernel_rfl) (by kernel_rfl) (by kernel_rfl) (fun _ _ _ h => h) (Or.inl ⟨by rfl, ?_⟩) (by assumption) ?_
        rotate_left 1
        · ((intro w hSw; (try dsimp only at hSw); go_simp); (try with_reducible rfl))
        simp only [Act.put, List.setIfInBounds_toArray, List.set_cons_zero, List.set_cons_succ, List.getElem_toArray, List.getElem_cons_zero, List.getElem_cons_succ]
        refine wpAnyH_take (i := 5) (v := ?_) rfl (by kernel_rfl) (by kernel_rfl) (by kernel_rfl) (fun _ _ _ h => h) (Or.inl ⟨by rfl, ?_⟩) (by assumption) ?_
        rotate_left 1
        · ((intro w hSw; (try dsimp only at hSw); go_simp); (try with_reducible rfl))
        simp only [Act.put, List.setIfInBounds_toArray, List.set_cons_zero, List.set_cons_succ, List.getElem_toArray, List.getElem_cons_zero, List.getElem_cons_succ]
        refine wpAnyH_take (i := 8) (v := ?_) rfl (by kernel_rfl) (by kernel_rfl) (by kernel_rfl) (fun _ _ _ h => h) (Or.inl ⟨by rfl, ?_⟩) (by assumption) ?_
        rotate_left 1
        · ((intro w hSw; (try dsimp only at hSw); go_simp); (try with_reducible rfl))
        simp only [Act.put, List.setIfInBounds_toArray, List.set_cons_zero, List.set_cons_succ, List.getElem_toArray, List.getElem_cons_zero, List.getElem_cons_succ]
        refine wpAnyH_take (i := 9) (v := ?_) rfl (by kernel_rfl) (by kernel_rfl) (by kernel_rfl) (fun _ _ _ h => h) (Or.inl ⟨by rfl, ?_⟩) (by assumption) ?_
        rotate_left 1
        · ((intro w hSw; (try dsimp only at hSw); go_simp); (try with_reducible rfl))
        simp only [Act.put, List.setIfInBounds_toArray, List.set_cons_zero, List.set_cons_succ, List.getElem_toArray, List.getElem_cons_zero, List.getElem_cons_succ]
        refine wpAnyH_take (i := 10) (v := ?_) rfl (by kernel_rfl) (by kernel_rfl) (by kernel_rfl) (fun _ _ _ h => h) (Or.inl ⟨by rfl, ?_⟩) (by assumption) ?_
        rotate_left 1
        · ((intro w hSw; (try dsimp only at hSw); go_simp); (try with_reducible rfl))
        simp only [Act.put, List.setIfInBounds_toArray, List.set_cons_zero, List.set_cons_succ, List.getElem_toArray, List.getElem_cons_zero, List.getElem_cons_succ]
        refine wpAnyH_take (i := 12) (v := ?_) rfl (by kernel_rfl) (by kernel_rfl) (by kernel_rfl) (fun _ _ _ h => h) (Or.inl ⟨by rfl, ?_⟩) (by assumption) ?_
        rotate_left 1
        · ((intro w hSw; (try dsimp only at hSw); go_simp); (try with_reducible rfl))
        simp only [Act.put, List.setIfInBounds_toArray, List.set_cons_zero, List.set_cons_succ, List.getElem_toArray, List.getElem_cons_zero, List.getElem_cons_succ]
        refine wpAnyH_take (i := 6) (v := ?_) rfl (by kernel_rfl) (by kernel_rfl) (by kernel_rfl) (fun _ _ _ h => h) (Or.inl ⟨by rfl, ?_⟩) (by assumption) ?_
        rotate_left 1
        · ((intro w hSw; (try dsimp only at hSw); go_simp); (try with_reducible rfl))
        simp only [Act.put, List.setIfInBounds_toArray, List.set_cons_zero, List.set_cons_succ, List.getElem_toArray, List.getElem_cons_zero, List.getElem_cons_succ]
        refine wpAnyH_take (i := 7) (v := ?_) rfl (by kernel_rfl) (by kernel_rfl) (by kernel_rfl) (fun _ _ _ h => h) (Or.inl ⟨by rfl, ?_⟩) (by assumption) ?_
        rotate_left 1
        · ((intro w hSw; (try dsimp only at hSw); go_simp); (try with_reducible rfl))
        simp only [Act.put, List.setIfInBounds_toArray, List.set_cons_zero, List.set_cons_succ, List.getElem_toArray, List.getElem_cons_zero, List.getElem_cons_succ]
        refine wpAnyH_take (i := 11) (v := ?_) rfl (by kernel_rfl) (by kernel_rfl) (by kernel_rfl) (fun _ _ _ h => h) (Or.inl ⟨by rfl, ?_⟩) (by assumption) ?_
        rotate_left 1
        · ((intro w hSw; (try dsimp only at hSw); go_simp); (try with_reducible rfl))
        simp only [Act.put, List.setIfInBounds_toArray, List.set_cons_zero, List.set_cons_succ, List.getElem_toArray, List.getElem_cons_zero, List.getElem_cons_succ]
        refine wpAnyH_take (i := 13) (v := ?_) rfl (by kernel_rfl) (by kernel_rfl) (by kernel_rfl) (fun _ _ _ h => h) (Or.inl ⟨by rfl, ?_⟩) (by assumption) ?_
        rotate_left 1
        · ((intro w hSw; (try dsimp only at hSw); go_simp); (try with_reducible rfl))
        simp only [Act.put, List.setIfInBounds_toArray, List.set_cons_zero, List.set_cons_succ, List.getElem_toArray, List.getElem_cons_zero, List.getElem_cons_succ]
        refine wpAnyH_done (by kernel_rfl) ?_ _
        clear hw1 hw2 hm1 hm2 hHeld
        by_cases hpq : p = q
        · subst hpq
          go_wp2_with fail
          go_ret
          exact ⟨rfl, hb⟩
        · have hne : ((p : Int) == (q : Int)) = false := by rw [beq_eq_false_iff_ne]; omega
          have hpX : p < X.tasks.length := by rw [HNX.out]; exact hpn
          have hqX : q < X.tasks.length := by rw [HNX.out]; exact hqn
          have hps : p < s0.tasks.length := by rw [HN.out]; exact hpn
          have hqs : q < s0.tasks.length := by rw [HN.out]; exact hqn
          obtain ⟨mx, HMX, hmx⟩ : ∃ mx : Nat, Hid (max p q = mx) ∧ (if (p : Int) < (q : Int) then (q : Int) else (p : Int)) = (mx : Int) := ⟨max p q, hidp rfl, by split <;> omega⟩
          have htat : TasksAt v1 X.ta X.tasks := hXc.ot.tasks
          rw [HA.out] at htat hs6
          have hcl : ∀ i, i < X.tasks.length → TaskCells v1 g (i * 6) (X.tasks.getD i default) := by
            obtain ⟨b', o', eA, hcl⟩ := htat.resolve_left (by intro e; rw [e] at hpX; simp at hpX)
            injection eA with eA; injection eA with e1 e2; subst e1; subst e2
            intro i hi
            have := hcl i hi
            rwa [Nat.zero_add] at this
          have otf := hXc.ot.own
          rw [HA.out] at otf
          have fr := own_frozen otf
          have cq := hcl q hqX
          have cp := hcl p hpX
          have gq : X.tasks.getD q default = X.tasks[q] := by simp [List.getD, hqX]
          have gp : X.tasks.getD p default = X.tasks[p] := by simp [List.getD, hpX]
          rw [gq] at cq
          rw [gp] at cp
          obtain ⟨tp, HTP⟩ : ∃ t, Hid (X.tasks[p] = t) := ⟨_, hidp rfl⟩
          obtain ⟨tq, HTQ⟩ : ∃ t, Hid (X.tasks[q] = t) := ⟨_, hidp rfl⟩
          rw [HTP.out] at cp
          rw [HTQ.out] at cq
          have okq : TaskOk v1 tq := HTQ.out ▸ (hXc.ok hsX).tasks.ok _ (List.getElem_mem hqX)
          have hb0 := bk.lt
          have hub := Hub.out
          clear htat hcl gq gp otf
          cases a3
          · -- the name
            obtain ⟨q0, -, -, -, -, -⟩ := cq
            obtain ⟨p0, -, -, -, -, -⟩ := cp
            have fz := fr (p * 6)
            have TS : Turned [g] v1.drew (v1.drew.setCell ⟨g, p * 6, none⟩ (.string tq.name)) := (Turned.refl [g] v1.drew).setCell (p := ⟨g, p * 6, none⟩) (.inl (by simp)) _
            have bk2 : Bk (v1.drew.setCell ⟨g, p * 6, none⟩ (.string tq.name)) u4.heap.size 25 #[.int .i64 X.proto, .slice X.ca X.cores.length X.cc, .slice X.ha X.homes.length X.hc, .slice X.ta n X.tc] := (bk.drewN 1).turned TS (by simp; omega)
            have hb2 : Below w.heap.size w (v1.drew.setCell ⟨g, p * 6, none⟩ (.string tq.name)) := (below_drewN hb 1).trans (TS.below hb.size (by simp; omega))
            have TD := (Turned.refl [] v1).drew
            have hXd : CopyOf u3.heap.size v1.drew s0 X := ⟨hXc.proto, hXc.cores, hXc.homes, hXc.len, hXc.like, hXc.oc.turned TD (by simp), hXc.oh.turned TD (by simp), hXc.ot.turned TD (by simp), fun j hj => (hXc.op j hj).turned TD (by simp), hXc.s1, hXc.s2, hXc.s3, hXc.s4⟩
            have hset : SetOk (v1.drew.setCell ⟨g, p * 6, none⟩ (.string tq.name)) (setT X p { tp with name := tq.name }) := hXd.put hsX HA.out hpX (j := 0) (by decide) (by rw [HTP.out]; rfl) (fun h => by rw [HTP.out] at h; exact { h with name := okq.name, at_ := h.at_ }) (by rw [HTP.out])
            have htw : Twice s0 (setT X p { tp with name := tq.name }) p q false := hXd.twice hpX hqX (by rw [HTP.out]; exact ⟨rfl, rfl, rfl, rfl⟩) (by rw [HTQ.out]; rfl) (by rw [HTP.out]; rfl)
            have hts := htw.tells Hok.out hps hqs hpq
            have C := check_any (setT X p { tp with name := tq.name }) _ hset
            rw [hts.1, hts.2, HMX.out] at C
            unfold setT at C
            dsimp only at C
            rw [List.length_set, HNX.out, HA.out] at C
            rw [HA.out] at bk2
            have ew : v1.drew.setCell ⟨g, p * 6, none⟩ (.string tq.name) = (v1.setCell ⟨g, p * 6, none⟩ (.string tq.name)).drew := rfl
            rw [ew] at C bk2 hb2
            clear ew
            obtain ⟨d0, d1, d2, d3⟩ := Z4 bk2
            have hs10 : v1.drew.cell? ⟨u4.heap.size, 3, none⟩ = some (.slice (some ⟨g, 0, none⟩) n X.tc) ∧ v1.drew.cell? ⟨g, q * 6, none⟩ = some (.string tq.name) := ⟨hs6, q0⟩
            have hs12 : (v1.drew.setCell ⟨g, p * 6, none⟩ (.string tq.name)).cell? ⟨u4.heap.size, 3, none⟩ = some (.slice (some ⟨g, 0, none⟩) n X.tc) ∧ (v1.drew.setCell ⟨g, p * 6, none⟩ (.string tq.name)).cell? ⟨g, q * 6, none⟩ = some (.string tq.name) := ⟨TS.cell hs10.1 (by simp; omega), (World.cell?_setCell_other _ ⟨g, p * 6, none⟩ ⟨g, q * 6, none⟩ _ (by intro e; injection e with e1 e2; omega)).trans hs10.2⟩
            clear htw hts hset hXd hXc TS TD bk fr okq
            go_wp2_with fail
            rw [HA.out]
            refine wp_region_held_drew (S := fun w' => w'.cell? ⟨u4.heap.size, 3, none⟩ = some (.slice (some ⟨g, 0, none⟩) n X.tc) ∧ w'.cell? ⟨g, q * 6, none⟩ = some (.string tq.name)) (by kernel_rfl) ?_ (fun hHeld => ?_)
            · exact hs10
            refine wpAnyH_take (i := 0) (v := ?_) rfl (by kernel_rfl) (by kernel_rfl) (by kernel_rfl) (fun _ _ _ h => h) (Or.inl ⟨by rfl, ?_⟩) (by assumption) ?_
            rotate_left 1
            · ((intro w hSw; (try dsimp only at hSw); go_simp); (try with_reducible rfl))
            simp only [Act.put, List.setIfInBounds_toArray, List.set_cons_zero, List.set_cons_succ, List.getElem_toArray, List.getElem_cons_zero, List.getElem_cons_succ]
            refine wpAnyH_take (i := 1) (v := ?_) rfl (by kernel_rfl) (by kernel_rfl) (by kernel_rfl) (fun _ _ _ h => h) (Or.inl ⟨by rfl, ?_⟩) (by assumption) ?_
            rotate_left 1
            · ((intro w hSw; (try dsimp only at hSw); go_simp); (try with_reducible rfl))
            simp only [Act.put, List.setIfInBounds_toArray, List.set_cons_zero, List.set_cons_succ, List.getElem_toArray, List.getElem_cons_zero, List.getElem_cons_succ]
            refine wpAnyH_take (i := 2) (v := ?_) rfl (by kernel_rfl) (by kernel_rfl) (by kernel_rfl) (fun _ _ _ h => h) (Or.inl ⟨by rfl, ?_⟩) (by assumption) ?_
            rotate_left 1
            · ((intro w hSw; (try dsimp only at hSw); go_simp); (try with_reducible rfl))
            simp only [Act.put, List.setIfInBounds_toArray, List.set_cons_zero, List.set_cons_succ, List.getElem_toArray, List.getElem_cons_zero, List.getElem_cons_succ]
            refine wpAnyH_take (i := 3) (v := ?_) rfl (by kernel_rfl) (by kernel_rfl) (by kernel_rfl) (fun _ _ _ h => h) (Or.inl ⟨by rfl, ?_⟩) (by assumption) ?_
            rotate_left 1
            · ((intro w hSw; (try dsimp only at hSw); go_simp); (try with_reducible rfl))
            simp only [Act.put, List.setIfInBounds_toArray, List.set_cons_zero, List.set_cons_succ, List.getElem_toArray, List.getElem_cons_zero, List.getElem_cons_succ]
            refine wpAnyH_take (i := 4) (v := ?_) rfl (by kernel_rfl) (by kernel_rfl) (by kernel_rfl) (fun _ _ _ h => h) (Or.inl ⟨by rfl, ?_⟩) (by assumption) ?_
            rotate_left 1
            · ((intro w hSw; (try dsimp only at hSw); go_simp); (try with_reducible rfl))
            simp only [Act.put, List.setIfInBounds_toArray, List.set_cons_zero, List.set_cons_succ, List.getElem_toArray, List.getElem_cons_zero, List.getElem_cons_succ]
            refine wpAnyH_take (i := 5) (v := ?_) rfl (by kernel_rfl) (by kernel_rfl) (by kernel_rfl) (fun _ _ _ h => h) (Or.inl ⟨by rfl, ?_⟩) (by assumption) ?_
            rotate_left 1
            · ((intro w hSw; (try dsimp only at hSw); go_simp); (try with_reducible rfl))
            simp only [Act.put, List.setIfInBounds_toArray, List.set_cons_zero, List.set_cons_succ, List.getElem_toArray, List.getElem_cons_zero, List.getElem_cons_succ]
            refine wpAnyH_take (i := 6) (v := ?_) rfl (by kernel_rfl) (by kernel_rfl) (by kernel_rfl) (fun _ _ _ h => h) (Or.inl ⟨by rfl, ?_⟩) (by assumption) ?_
            rotate_left 1
            · ((intro w hSw; (try dsimp only at hSw); go_simp); (try with_reducible rfl))
            simp only [Act.put, List.setIfInBounds_toArray, List.set_cons_zero, List.set_cons_succ, List.getElem_toArray, List.getElem_cons_zero, List.getElem_cons_succ]
            refine wpAnyH_take (i := 7) (v := ?_) rfl (by kernel_rfl) (by kernel_rfl) (by kernel_rfl) (fun _ _ _ h => h) (Or.inl ⟨by rfl, ?_⟩) (by assumption) ?_
            rotate_left 1
            · ((intro w hSw; (try dsimp only at hSw); go_simp); (try with_reducible rfl))
            simp only [Act.put, List.setIfInBounds_toArray, List.set_cons_zero, List.set_cons_succ, List.getElem_toArray, List.getElem_cons_zero, List.getElem_cons_succ]
            refine wpAnyH_take (i := 8) (v := ?_) rfl (by kernel_rfl) (by kernel_rfl) (by kernel_rfl) (fun _ _ _ h => h) (Or.inl ⟨by rfl, ?_⟩) (by assumption) ?_
            rotate_left 1
            · ((intro w hSw; (try dsimp only at hSw); go_simp); (try with_reducible rfl))
            simp only [Act.put, List.setIfInBounds_toArray, List.set_cons_zero, List.set_cons_succ, List.getElem_toArray, List.getElem_cons_zero, List.getElem_cons_succ]
            refine wpAnyH_take (i := 9) (v := ?_) rfl (by kernel_rfl) (by kernel_rfl) (by kernel_rfl) (fun _ _ _ h => h) (Or.inl ⟨by rfl, ?_⟩) (by assumption) ?_
            rotate_left 1
            · ((intro w hSw; (try dsimp only at hSw); go_simp); (try with_reducible rfl))
            simp only [Act.put, List.setIfInBounds_toArray, List.set_cons_zero, List.set_cons_succ, List.getElem_toArray, List.getElem_cons_zero, List.getElem_cons_succ]
            refine wpAnyH_take (i := 10) (v := ?_) rfl (by kernel_rfl) (by kernel_rfl) (by kernel_rfl) (fun _ _ _ h => h) (Or.inl ⟨by rfl, ?_⟩) (by assumption) ?_
            rotate_left 1
            · ((intro w hSw; (try dsimp only at hSw); go_simp); (try with_reducible rfl))
            simp only [Act.put, List.setIfInBounds_toArray, List.set_cons_zero, List.set_cons_succ, List.getElem_toArray, List.getElem_cons_zero, List.getElem_cons_succ]
            refine wpAnyH_ready (rs := [11]) (by kernel_rfl) (by simp) ?_
            refine AllReadyH.cons rfl (fun K hK => ?_) AllReadyH.nil
            go_simp
            refine hK.out _ _ ?_ (fun hHeld => ?_)
            · exact hs12
            clear hK K
            try simp only [Act.put, List.setIfInBounds_toArray, List.set_cons_zero, List.set_cons_succ, List.getElem_toArray, List.getElem_cons_zero, List.getElem_cons_succ]
            refine wpAnyH_done (by kernel_rfl) ?_ _
            go_wp2_with fail
            refine C.mono ?_
            rintro e v5 ⟨rfl, hb5⟩
            go_wp2_with fail
            all_goals
              go_ret
              exact ⟨ret_bool (by have := HMX.out; simp; omega), hb2.trans (hb5.mono hb2.size)⟩
          · -- the priority
            obtain ⟨-, -, -, q0, -, -⟩ := cq
            obtain ⟨-, -, -, p0, -, -⟩ := cp
            have fz := fr (p * 6 + 3)
            have TS : Turned [g] v1.drew (v1.drew.setCell ⟨g, p * 6 + 3, none⟩ (.int .i64 tq.prio)) := (Turned.refl [g] v1.drew).setCell (p := ⟨g, p * 6 + 3, none⟩) (.inl (by simp)) _
            have bk2 : Bk (v1.drew.setCell ⟨g, p * 6 + 3, none⟩ (.int .i64 tq.prio)) u4.heap.size 25 #[.int .i64 X.proto, .slice X.ca X.cores.length X.cc, .slice X.ha X.homes.length X.hc, .slice X.ta n X.tc] := (bk.drewN 1).turned TS (by simp; omega)
            have hb2 : Below w.heap.size w (v1.drew.setCell ⟨g, p * 6 + 3, none⟩ (.int .i64 tq.prio)) := (below_drewN hb 1).trans (TS.below hb.size (by simp; omega))
            have TD := (Turned.refl [] v1).drew
            have hXd : CopyOf u3.heap.size v1.drew s0 X := ⟨hXc.proto, hXc.cores, hXc.homes, hXc.len, hXc.like, hXc.oc.turned TD (by simp), hXc.oh.turned TD (by simp), hXc.ot.turned TD (by simp), fun j hj => (hXc.op j hj).turned TD (by simp), hXc.s1, hXc.s2, hXc.s3, hXc.s4⟩
            have hset : SetOk (v1.drew.setCell ⟨g, p * 6 + 3, none⟩ (.int .i64 tq.prio)) (setT X p { tp with prio := tq.prio }) := hXd.put hsX HA.out hpX (j := 3) (by decide) (by rw [HTP.out]; rfl) (fun h => by rw [HTP.out] at h; exact { h with prio := okq.prio, at_ := h.at_ }) (by rw [HTP.out])
            have htw : Twice s0 (setT X p { tp with prio := tq.prio }) p q true := hXd.twice hpX hqX (by rw [HTP.out]; exact ⟨rfl, rfl, rfl, rfl⟩) (by rw [HTP.out]; rfl) (by rw [HTQ.out]; rfl)
            have hts := htw.tells Hok.out hps hqs hpq
            have C := check_any (setT X p { tp with prio := tq.prio }) _ hset
            rw [hts.1, hts.2, HMX.out] at C
            unfold setT at C
            dsimp only at C
            rw [List.length_set, HNX.out, HA.out] at C
            rw [HA.out] at bk2
            have ew : v1.drew.setCell ⟨g, p * 6 + 3, none⟩ (.int .i64 tq.prio) = (v1.setCell ⟨g, p * 6 + 3, none⟩ (.int .i64 tq.prio)).drew := rfl
            rw [ew] at C bk2 hb2
            clear ew
            obtain ⟨d0, d1, d2, d3⟩ := Z4 bk2
            have hs10 : v1.drew.cell? ⟨u4.heap.size, 3, none⟩ = some (.slice (some ⟨g, 0, none⟩) n X.tc) ∧ v1.drew.cell? ⟨g, q * 6 + 3, none⟩ = some (.int .i64 tq.prio) := ⟨hs6, q0⟩
            have hs12 : (v1.drew.setCell ⟨g, p * 6 + 3, none⟩ (.int .i64 tq.prio)).cell? ⟨u4.heap.size, 3, none⟩ = some (.slice (some ⟨g, 0, none⟩) n X.tc) ∧ (v1.drew.setCell ⟨g, p * 6 + 3, none⟩ (.int .i64 tq.prio)).cell? ⟨g, q * 6 + 3, none⟩ = some (.int .i64 tq.prio) := ⟨TS.cell hs10.1 (by simp; omega), (World.cell?_setCell_other _ ⟨g, p * 6 + 3, none⟩ ⟨g, q * 6 + 3, none⟩ _ (by intro e; injection e with e1 e2; omega)).trans hs10.2⟩
            clear htw hts hset hXd hXc TS TD bk fr okq
            go_wp2_with fail
            rw [HA.out]
            refine wp_region_held_drew (S := fun w' => w'.cell? ⟨u4.heap.size, 3, none⟩ = some (.slice (some ⟨g, 0, none⟩) n X.tc) ∧ w'.cell? ⟨g, q * 6 + 3, none⟩ = some (.int .i64 tq.prio)) (by kernel_rfl) ?_ (fun hHeld => ?_)
            · exact hs10
            refine wpAnyH_take (i := 0) (v := ?_) rfl (by kernel_rfl) (by kernel_rfl) (by kernel_rfl) (fun _ _ _ h => h) (Or.inl ⟨by rfl, ?_⟩) (by assumption) ?_
            rotate_left 1
            · ((intro w hSw; (try dsimp only at hSw); go_simp); (try with_reducible rfl))
            simp only [Act.put, List.setIfInBounds_toArray, List.set_cons_zero, List.set_cons_succ, List.getElem_toArray, List.getElem_cons_zero, List.getElem_cons_succ]
            refine wpAnyH_take (i := 1) (v := ?_) rfl (by kernel_rfl) (by kernel_rfl) (by kernel_rfl) (fun _ _ _ h => h) (Or.inl ⟨by rfl, ?_⟩) (by assumption) ?_
            rotate_left 1
            · ((intro w hSw; (try dsimp only at hSw); go_simp); (try with_reducible rfl))
            simp only [Act.put, List.setIfInBounds_toArray, List.set_cons_zero, List.set_cons_succ, List.getElem_toArray, List.getElem_cons_zero, List.getElem_cons_succ]
            refine wpAnyH_take (i := 2) (v := ?_) rfl (by kernel_rfl) (by kernel_rfl) (by kernel_rfl) (fun _ _ _ h => h) (Or.inl ⟨by rfl, ?_⟩) (by assumption) ?_
            rotate_left 1
            · ((intro w hSw; (try dsimp only at hSw); go_simp); (try with_reducible rfl))
            simp only [Act.put, List.setIfInBounds_toArray, List.set_cons_zero, List.set_cons_succ, List.getElem_toArray, List.getElem_cons_zero, List.getElem_cons_succ]
            refine wpAnyH_take (i := 3) (v := ?_) rfl (by kernel_rfl) (by kernel_rfl) (by kernel_rfl) (fun _ _ _ h => h) (Or.inl ⟨by rfl, ?_⟩) (by assumption) ?_
            rotate_left 1
            · ((intro w hSw; (try dsimp only at hSw); go_simp); (try with_reducible rfl))
            simp only [Act.put, List.setIfInBounds_toArray, List.set_cons_zero, List.set_cons_succ, List.getElem_toArray, List.getElem_cons_zero, List.getElem_cons_succ]
            refine wpAnyH_take (i := 4) (v := ?_) rfl (by kernel_rfl) (by kernel_rfl) (by kernel_rfl) (fun _ _ _ h => h) (Or.inl ⟨by rfl, ?_⟩) (by assumption) ?_
            rotate_left 1
            · ((intro w hSw; (try dsimp only at hSw); go_simp); (try with_reducible rfl))
            simp only [Act.put, List.setIfInBounds_toArray, List.set_cons_zero, List.set_cons_succ, List.getElem_toArray, List.getElem_cons_zero, List.getElem_cons_succ]
            refine wpAnyH_take (i := 5) (v := ?_) rfl (by kernel_rfl) (by kernel_rfl) (by kernel_rfl) (fun _ _ _ h => h) (Or.inl ⟨by rfl, ?_⟩) (by assumption) ?_
            rotate_left 1
            · ((intro w hSw; (try dsimp only at hSw); go_simp); (try with_reducible rfl))
            simp only [Act.put, List.setIfInBounds_toArray, List.set_cons_zero, List.set_cons_succ, List.getElem_toArray, List.getElem_cons_zero, List.getElem_cons_succ]
            refine wpAnyH_take (i := 6) (v := ?_) rfl (by kernel_rfl) (by kernel_rfl) (by kernel_rfl) (fun _ _ _ h => h) (Or.inl ⟨by rfl, ?_⟩) (by assumption) ?_
            rotate_left 1
            · ((intro w hSw; (try dsimp only at hSw); go_simp); (try with_reducible rfl))
            simp only [Act.put, List.setIfInBounds_toArray, List.set_cons_zero, List.set_cons_succ, List.getElem_toArray, List.getElem_cons_zero, List.getElem_cons_succ]
            refine wpAnyH_take (i := 7) (v := ?_) rfl (by kernel_rfl) (by kernel_rfl) (by kernel_rfl) (fun _ _ _ h => h) (Or.inl ⟨by rfl, ?_⟩) (by assumption) ?_
            rotate_left 1
            · ((intro w hSw; (try dsimp only at hSw); go_simp); (try with_reducible rfl))
            simp only [Act.put, List.setIfInBounds_toArray, List.set_cons_zero, List.set_cons_succ, List.getElem_toArray, List.getElem_cons_zero, List.getElem_cons_succ]
            refine wpAnyH_take (i := 8) (v := ?_) rfl (by kernel_rfl) (by kernel_rfl) (by kernel_rfl) (fun _ _ _ h => h) (Or.inl ⟨by rfl, ?_⟩) (by assumption) ?_
            rotate_left 1
            · ((intro w hSw; (try dsimp only at hSw); go_simp); (try with_reducible rfl))
            simp only [Act.put, List.setIfInBounds_toArray, List.set_cons_zero, List.set_cons_succ, List.getElem_toArray, List.getElem_cons_zero, List.getElem_cons_succ]
            refine wpAnyH_take (i := 9) (v := ?_) rfl (by kernel_rfl) (by kernel_rfl) (by kernel_rfl) (fun _ _ _ h => h) (Or.inl ⟨by rfl, ?_⟩) (by assumption) ?_
            rotate_left 1
            · ((intro w hSw; (try dsimp only at hSw); go_simp); (try with_reducible rfl))
            simp only [Act.put, List.setIfInBounds_toArray, List.set_cons_zero, List.set_cons_succ, List.getElem_toArray, List.getElem_cons_zero, List.getElem_cons_succ]
            refine wpAnyH_take (i := 10) (v := ?_) rfl (by kernel_rfl) (by kernel_rfl) (by kernel_rfl) (fun _ _ _ h => h) (Or.inl ⟨by rfl, ?_⟩) (by assumption) ?_
            rotate_left 1
            · ((intro w hSw; (try dsimp only at hSw); go_simp); (try with_reducible rfl))
            simp only [Act.put, List.setIfInBounds_toArray, List.set_cons_zero, List.set_cons_succ, List.getElem_toArray, List.getElem_cons_zero, List.getElem_cons_succ]
            refine wpAnyH_ready (rs := [11]) (by kernel_rfl) (by simp) ?_
            refine AllReadyH.cons rfl (fun K hK => ?_) AllReadyH.nil
            go_simp
            refine hK.out _ _ ?_ (fun hHeld => ?_)
            · exact hs12
            clear hK K
            try simp only [Act.put, List.setIfInBounds_toArray, List.set_cons_zero, List.set_cons_succ, List.getElem_toArray, List.getElem_cons_zero, List.getElem_cons_succ]
            refine wpAnyH_done (by kernel_rfl) ?_ _
            go_wp2_with fail
            refine C.mono ?_
            rintro e v5 ⟨rfl, hb5⟩
            go_wp2_with fail
            all_goals
              go_ret
              exact ⟨ret_bool (by have := HMX.out; simp; omega), hb2.trans (hb5.mono hb2.size)⟩

theorem own : ownKnob Try.prog.godebug = none := by kernel_rfl
theorem laidOut : laidOutB Try.prog = true := by kernel_rfl

/-! THE ROW's STEP -/
set_option maxRecDepth 100000 in
theorem lifted (os : Os) (started : os.Started) (H : Type) (enc : TypeId × Value → H) :
    ReturnsInHanded {} Try.checked os 5 .any (Rows.taskTwiceSpec.pre6 enc Try.prog Try.f5 Rows.taskTwiceRow.domain false) (Rows.taskTwiceSpec.post enc Try.prog Try.f5 false true false false) := by
  refine returnsInHanded_of_change (C := Try.checked) own started (by kernel_rfl) Try.func5
    (ChangeSpec.witness6 (enc := enc) (C := Try.checked) false ⟨#[], #[.agg #[.int .i64 0, .slice none 0 0, .slice none 0 0, .slice none 0 0], .int .u8 0, .int .u8 0, .bool false], []⟩ 8 (by kernel_rfl) (by kernel_rfl) (by kernel_rfl) (by kernel_rfl)) ?_
  intro W base args ds gs before hval0 hW hcnd _
  have hval : ∀ (j : Nat) t v, Try.f5.params[j]? = some t → args[j]? = some v → Value.okWide Try.prog W .any base t v := hval0
  have hW' := hW
  obtain ⟨p, q, hA0, hV, rfl, hfz, hnd⟩ := hW
  have hA : DataW.TrodAll enc Try.prog W 0 (fun _ => true) true Try.f5.params.toList args.toList ds p := hA0
  rw [Try.params5] at hA hval
  obtain ⟨v0, vs0, d0, ds0, p0, q0, hargs, rfl, rfl, h0, r0⟩ := trodAll_cons hA
  obtain ⟨v1, vs1, d1, ds1, p1, q1, rfl, rfl, rfl, h1, r1⟩ := trodAll_cons r0
  obtain ⟨v2, vs2, d2, ds2, p2, q2, rfl, rfl, rfl, h2, r2⟩ := trodAll_cons r1
  obtain ⟨v3, vs3, d3, ds3, p3, q3, rfl, rfl, rfl, h3, r3⟩ := trodAll_cons r2
  obtain ⟨rfl, rfl, rfl⟩ := trodAll_nil r3
  obtain rfl : args = #[v0, v1, v2, v3] := by cases args; simp_all
  obtain ⟨rfl, rfl⟩ := trodVars_none hV
  have k0 := h0
  have lt0 : ∀ x ∈ p0, x.block < W.heap.size := by obtain ⟨m, hm⟩ := k0; exact DataW.trod_lt m _ _ _ hm
  obtain ⟨s0, w0, rfl⟩ := setTypes.arg_set (hval 0 25 v0 rfl rfl) h0
  obtain ⟨a1, rfl, rfl, rfl, w1⟩ := open_int Try.underlying5 (hval 1 5 v1 rfl rfl) h1
  obtain ⟨a2, rfl, rfl, rfl, w2⟩ := open_int Try.underlying5 (hval 2 5 v2 rfl rfl) h2
  obtain ⟨a3, rfl, rfl, rfl⟩ := open_bool Try.underlying4 (hval 3 4 v3 rfl rfl) h3
  clear hA0 hval0
  refine (walk s0 a1 a2 a3 W w0 w1 w2).mono fun e W' ⟨he, bel⟩ => ?_
  subst he
  exact ⟨_, rfl, _, _, _, [], _, [], hW', trodAll_mk1 (shut_bool Try.underlying4 _), (trodAll_cons_mk (Below.trod laidOut (by kernel_rfl) (of_decide_eq_true (by kernel_rfl)) k0 bel lt0) (trodAll_cons_mk (shut_int Try.underlying5 w1) (trodAll_cons_mk (shut_int Try.underlying5 w2) (trodAll_cons_mk (shut_bool Try.underlying4 a3) trodAll_mk0)))), rfl, bel.frame _, fun h => by cases h⟩

theorem over : Rows.taskTwiceRow.holds Try.pinned (OpenSpec.ofChange Rows.taskTwiceSpec) :=
  OpenClaim.holds_of_wide 5 Try.f5 rfl rfl rfl rfl rfl rfl rfl ⟨rfl, rfl, rfl, rfl, rfl⟩ rfl rfl rfl rfl rfl (by kernel_rfl) Try.func5 (by kernel_rfl)
    (of_decide_eq_true (by kernel_rfl)) (by unfold Func.isWrapper; first | (rw [if_pos (by decide +kernel)]; kernel_rfl) | (rw [if_neg (by decide +kernel)]; exact ⟨rfl, rfl⟩))
    (fun os started H enc _ => lifted os started H enc)

/-- THE STATEMENT -/
theorem proved : Rows.TaskTwiceSaid := over
#print axioms proved
end Go.Proofs.Ytijdincpjdkgfaa.taskTwice

