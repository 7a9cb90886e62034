/- swingbridgelaw10.few: true just of sets that are few. -/
import Derived.Test.YtnfkebdbfflhdaaTaskCopy
namespace Go.Proofs.Ytnfkebdbfflhdaa
open Go.ChangeShapes Go.WideShapes Go.ChangeAt Go.RowKit
set_option linter.unusedVariables false
def FewQ10 (w : World) (s : SetR) (e : Ending) (w' : World) : Prop := (∃ b : Bool, e = .returned (.bool b) ∧ (b = true → FewS s ∧ s.tasks.length ≤ 9)) ∧ Below w.heap.size w w'
set_option maxRecDepth 100000 in
theorem fews10_any (s : SetR) (w : World) (hs : SetOk w s) : Calls Try.prog 8 #[.agg #[.int .i64 s.proto, .slice s.ca s.cores.length s.cc, .slice s.ha s.homes.length s.hc, .slice s.ta s.tasks.length s.tc]] w (FewQ10 w s) := by
  have hb := (Below.refl w.heap.size w).alloc (Nat.le_refl _) (.cells #[.int .i64 s.proto, .slice s.ca s.cores.length s.cc, .slice s.ha s.homes.length s.hc, .slice s.ta s.tasks.length s.tc] 25)
  have CB := hidp (SetCells.new w s 25)
  have l1 : s.tasks.length ≤ maxLen := Nat.le_trans hs.tasks.sl.2.1 hs.tasks.sl.2.2
  have l2 : s.cores.length ≤ maxLen := Nat.le_trans hs.cores.sl.2.1 hs.cores.sl.2.2
  have l3 : s.homes.length ≤ maxLen := Nat.le_trans hs.homes.sl.2.1 hs.homes.sl.2.2
  unfold maxLen at l1 l2 l3
  have HR := hidp hs.tasks.at_
  have Hok := hidp hs.tasks.ok
  clear hs
  obtain ⟨proto, ca, cc, cores, ha, hc, homes, ta, tc, tasks⟩ := s
  dsimp only at HR Hok l1 l2 l3 hb ⊢
  have F : ∀ w', Below w.heap.size w w' → FewQ10 w ⟨proto, ca, cc, cores, ha, hc, homes, ta, tc, tasks⟩ (.returned (.bool false)) w' := fun w' h => ⟨⟨false, rfl, fun e => by cases e⟩, h⟩
  have HF := hidp F
  clear F
  have hc0 : (8 : Int) < (cores.length : Int) ∨ ¬ (8 : Int) < (cores.length : Int) ∧ (10 : Int) < (homes.length : Int) ∨ ¬ (8 : Int) < (cores.length : Int) ∧ ¬ (10 : Int) < (homes.length : Int) ∧ (9 : Int) < (tasks.length : Int) ∨ ¬ (8 : Int) < (cores.length : Int) ∧ ¬ (10 : Int) < (homes.length : Int) ∧ ¬ (9 : Int) < (tasks.length : Int) := by omega
  rcases hc0 with h | ⟨h, g⟩ | ⟨h, g, f⟩ | ⟨h, g, f⟩
  · go_enter Try.func8, Try.ntmps8
    go_wp2
    go_ret
    exact HF.out _ hb
  · go_enter Try.func8, Try.ntmps8
    go_wp2
    go_ret
    exact HF.out _ hb
  · go_enter Try.func8, Try.ntmps8
    go_wp2
    go_ret
    exact HF.out _ hb
  · go_enter Try.func8, Try.ntmps8
    go_wp2
    go_loopg [3] tasks.length (fun gg i wr => ∃ k : Nat, k + gg = tasks.length ∧ i = .int .i64 k ∧ SetCells wr w.heap.size ⟨proto, ca, cc, cores, ha, hc, homes, ta, tc, tasks⟩ ∧ Below w.heap.size w wr ∧ Hid (∀ j, j < k → (tasks.getD j default).parts.length ≤ 10))
    case atStart => exact ⟨0, by omega, rfl, CB.out, hb, hidp (by omega)⟩
    case round =>
      obtain ⟨k, hk, rfl, sc, hw, Hj⟩ := hrel
      have sc2 := sc
      obtain ⟨c0, c1, c2, c3⟩ := sc2
      dsimp only at c0 c1 c2 c3
      by_cases hlt : k < tasks.length
      · obtain ⟨g0, off, hA, hcl⟩ := HR.out.resolve_left (by intro e; rw [e] at hlt; simp at hlt)
        subst hA
        obtain ⟨t, HT⟩ : ∃ t, Hid (tasks.getD k default = t) := ⟨_, rfl⟩
        have tcl := (HT.out ▸ hcl k hlt).keep (Keeps.of_below hw)
        obtain ⟨d0, _, _, _, _, d5⟩ := tcl
        have hok := Hok.out t (HT.out ▸ getD_mem hlt)
        have n1 := hok.name
        have n2 : t.parts.length ≤ maxLen := Nat.le_trans hok.sl.2.1 hok.sl.2.2
        unfold maxLen at n1 n2
        clear hcl hok
        by_cases z1 : (20 : Int) < (t.name.size : Int)
        · go_wp2
          go_ret
          exact HF.out _ hw
        · by_cases z2 : (10 : Int) < (t.parts.length : Int)
          · go_wp2
            go_ret
            exact HF.out _ hw
          · have Hj2 : Hid (∀ j, j < k + 1 → (tasks.getD j default).parts.length ≤ 10) := hidp (by
              intro j hj
              by_cases e : j = k
              · subst e; rw [HT.out]; omega
              · exact Hj.out j (by omega))
            go_wp2
            go_roundg (gk - 1)
            case measure => omega
            case rel => exact ⟨k + 1, by omega, by go_num, sc, hw, Hj2⟩
      · have hk2 : k = tasks.length := by omega
        have HQ : Hid (FewS ⟨proto, ca, cc, cores, ha, hc, homes, ta, tc, tasks⟩ ∧ tasks.length ≤ 9) := hidp (by
          refine ⟨⟨by dsimp only; omega, by dsimp only; omega, by dsimp only; omega, fun t ht => ?_⟩, by omega⟩
          obtain ⟨j, hj, rfl⟩ := mem_getD ht
          dsimp only at hj
          have := Hj.out j (by omega)
          dsimp only
          omega)
        go_wp2
        go_ret
        exact ⟨⟨true, rfl, fun _ => HQ.out⟩, hw⟩

end Go.Proofs.Ytnfkebdbfflhdaa
