/- task.SameTask. -/
import Derived.Test.YtnfkebdbfflhdaaSame2
namespace Go.Proofs.Ytnfkebdbfflhdaa
open Go.ChangeShapes Go.WideShapes Go.ChangeAt Go.RowKit
set_option linter.unusedVariables false
set_option linter.unusedSimpArgs false
def sameT (t u : TaskR) : Bool := t.name.toList == u.name.toList && (t.per == u.per && (t.dl == u.dl && (t.prio == u.prio && (t.cl == u.cl && decide (t.parts = u.parts)))))

set_option maxHeartbeats 2000000 in
theorem sameTask_any (t u : TaskR) (w : World) (ht : TaskOk w t) (hu : TaskOk w u) : Calls Try.prog 27 #[.agg #[.string t.name, .int .i64 t.per, .int .i64 t.dl, .int .i64 t.prio, .int .i64 t.cl, .slice t.pa t.parts.length t.pc], .agg #[.string u.name, .int .i64 u.per, .int .i64 u.dl, .int .i64 u.prio, .int .i64 u.cl, .slice u.pa u.parts.length u.pc]] w fun e w' => e = .returned (.bool (sameT t u)) ∧ Below w.heap.size w w' := by
  obtain ⟨nm, per, dl, prio, cl, pa, pc, parts⟩ := t
  obtain ⟨nm2, per2, dl2, prio2, cl2, pa2, pc2, parts2⟩ := u
  have hb1 := (Below.refl w.heap.size w).alloc (Nat.le_refl _) (.cells #[.string nm, .int .i64 per, .int .i64 dl, .int .i64 prio, .int .i64 cl, .slice pa parts.length pc] 37)
  have hb := hb1.alloc hb1.size (.cells #[.string nm2, .int .i64 per2, .int .i64 dl2, .int .i64 prio2, .int .i64 cl2, .slice pa2 parts2.length pc2] 37)
  have S1 := hidp ht.sl
  have S2 := hidp hu.sl
  have P1 := hidp (ht.at_.keep (Keeps.of_below hb))
  have P2 := hidp (hu.at_.keep (Keeps.of_below hb))
  dsimp only at S1 S2 P1 P2
  obtain ⟨b, hB⟩ : ∃ b, sameT ⟨nm, per, dl, prio, cl, pa, pc, parts⟩ ⟨nm2, per2, dl2, prio2, cl2, pa2, pc2, parts2⟩ = b := ⟨_, rfl⟩
  rw [hB]
  unfold sameT at hB
  dsimp only at hB
  clear hb1 ht hu
  cases h0 : (nm.toList == nm2.toList)
  · have Hs : Hid (b = false) := hidp (by rw [← hB]; simp only [h0, Bool.true_and, Bool.false_and])
    clear hB
    go_enter Try.func27, Try.ntmps27
    go_wp2_with (first | (go_at_call 39; (with_reducible refine (eqP_any _ _ _ _ _ _ _ S1.out S2.out P1.out P2.out).mono ?_); rintro e w2 ⟨rfl, hq⟩))
    go_ret
    exact ⟨ret_bool Hs.out.symm, hb⟩
  · cases h1 : (per == per2)
    · have Hs : Hid (b = false) := hidp (by rw [← hB]; simp only [h0, h1, Bool.true_and, Bool.false_and])
      clear hB
      go_enter Try.func27, Try.ntmps27
      go_wp2_with (first | (go_at_call 39; (with_reducible refine (eqP_any _ _ _ _ _ _ _ S1.out S2.out P1.out P2.out).mono ?_); rintro e w2 ⟨rfl, hq⟩))
      go_ret
      exact ⟨ret_bool Hs.out.symm, hb⟩
    · cases h2 : (dl == dl2)
      · have Hs : Hid (b = false) := hidp (by rw [← hB]; simp only [h0, h1, h2, Bool.true_and, Bool.false_and])
        clear hB
        go_enter Try.func27, Try.ntmps27
        go_wp2_with (first | (go_at_call 39; (with_reducible refine (eqP_any _ _ _ _ _ _ _ S1.out S2.out P1.out P2.out).mono ?_); rintro e w2 ⟨rfl, hq⟩))
        go_ret
        exact ⟨ret_bool Hs.out.symm, hb⟩
      · cases h3 : (prio == prio2)
        · have Hs : Hid (b = false) := hidp (by rw [← hB]; simp only [h0, h1, h2, h3, Bool.true_and, Bool.false_and])
          clear hB
          go_enter Try.func27, Try.ntmps27
          go_wp2_with (first | (go_at_call 39; (with_reducible refine (eqP_any _ _ _ _ _ _ _ S1.out S2.out P1.out P2.out).mono ?_); rintro e w2 ⟨rfl, hq⟩))
          go_ret
          exact ⟨ret_bool Hs.out.symm, hb⟩
        · cases h4 : (cl == cl2)
          · have Hs : Hid (b = false) := hidp (by rw [← hB]; simp only [h0, h1, h2, h3, h4, Bool.true_and, Bool.false_and])
            clear hB
            go_enter Try.func27, Try.ntmps27
            go_wp2_with (first | (go_at_call 39; (with_reducible refine (eqP_any _ _ _ _ _ _ _ S1.out S2.out P1.out P2.out).mono ?_); rintro e w2 ⟨rfl, hq⟩))
            go_ret
            exact ⟨ret_bool Hs.out.symm, hb⟩
          · have Hs : Hid (decide (parts = parts2) = b) := hidp (by rw [← hB]; simp only [h0, h1, h2, h3, h4, Bool.true_and])
            clear hB
            go_enter Try.func27, Try.ntmps27
            go_wp2_with (first | (go_at_call 39; (with_reducible refine (eqP_any _ _ _ _ _ _ _ S1.out S2.out P1.out P2.out).mono ?_); rintro e w2 ⟨rfl, hq⟩))
            go_ret
            exact ⟨ret_bool Hs.out, hq.below hb⟩
end Go.Proofs.Ytnfkebdbfflhdaa
