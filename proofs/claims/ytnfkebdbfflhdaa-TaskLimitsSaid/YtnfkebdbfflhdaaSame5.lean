/- task.Same. -/
import Derived.Test.YtnfkebdbfflhdaaSame4
namespace Go.Proofs.Ytnfkebdbfflhdaa
open Go.ChangeShapes Go.WideShapes Go.ChangeAt Go.RowKit
set_option linter.unusedVariables false
set_option linter.unusedSimpArgs false
def sameS (s t : SetR) : Bool := s.proto == t.proto && (decide (s.cores = t.cores) && (decide (s.homes = t.homes) && sameTs s.tasks t.tasks))

set_option maxHeartbeats 4000000 in
theorem same_any (s t : SetR) (w : World) (hs : SetOk w s) (ht : SetOk w t) : Calls Try.prog 26 #[.agg #[.int .i64 s.proto, .slice s.ca s.cores.length s.cc, .slice s.ha s.homes.length s.hc, .slice s.ta s.tasks.length s.tc], .agg #[.int .i64 t.proto, .slice t.ca t.cores.length t.cc, .slice t.ha t.homes.length t.hc, .slice t.ta t.tasks.length t.tc]] w fun e w' => e = .returned (.bool (sameS s t)) ∧ Below w.heap.size w w' := by
  have hb1 := (Below.refl w.heap.size w).alloc (Nat.le_refl _) (.cells #[.int .i64 s.proto, .slice s.ca s.cores.length s.cc, .slice s.ha s.homes.length s.hc, .slice s.ta s.tasks.length s.tc] 25)
  have hb := hb1.alloc hb1.size (.cells #[.int .i64 t.proto, .slice t.ca t.cores.length t.cc, .slice t.ha t.homes.length t.hc, .slice t.ta t.tasks.length t.tc] 25)
  have s1 := (SetCells.new w s 25).keep (Keeps.alloc (w.alloc (.cells #[.int .i64 s.proto, .slice s.ca s.cores.length s.cc, .slice s.ha s.homes.length s.hc, .slice s.ta s.tasks.length s.tc] 25)) (.cells #[.int .i64 t.proto, .slice t.ca t.cores.length t.cc, .slice t.ha t.homes.length t.hc, .slice t.ta t.tasks.length t.tc] 25))
  have s2 := SetCells.new (w.alloc (.cells #[.int .i64 s.proto, .slice s.ca s.cores.length s.cc, .slice s.ha s.homes.length s.hc, .slice s.ta s.tasks.length s.tc] 25)) t 25
  rw [show (w.alloc (.cells #[.int .i64 s.proto, .slice s.ca s.cores.length s.cc, .slice s.ha s.homes.length s.hc, .slice s.ta s.tasks.length s.tc] 25)).heap.size = w.heap.size + 1 by simp] at s2
  have X := hidp (hs.keep (Keeps.of_below hb))
  have Y := hidp (ht.keep (Keeps.of_below hb))
  clear hb1 hs ht
  obtain ⟨c0, c1, c2, c3⟩ := id s1
  obtain ⟨d0, d1, d2, d3⟩ := id s2
  obtain ⟨b, hB⟩ : ∃ b, sameS s t = b := ⟨_, rfl⟩
  rw [hB]
  unfold sameS at hB
  cases h0 : (s.proto == t.proto)
  · have Hs : Hid (b = false) := hidp (by rw [← hB]; simp only [h0, Bool.true_and, Bool.false_and])
    clear hB
    go_enter Try.func26, Try.ntmps26
    go_wp2_with fail
    go_ret
    exact ⟨ret_bool Hs.out.symm, hb⟩
  · cases h1 : decide (s.cores = t.cores)
    · have Hs : Hid (b = false) := hidp (by rw [← hB]; simp only [h0, h1, Bool.true_and, Bool.false_and])
      clear hB
      go_enter Try.func26, Try.ntmps26
      go_wp2_with fail
      refine (eqI_any _ _ _ _ _ _ _ X.out.cores Y.out.cores).mono ?_
      rintro e w2 ⟨rfl, hq⟩
      rw [h1]
      clear c0 c1 c2 c3 d0 d1 d2 d3
      replace hb := hq.below hb
      replace s1 := s1.keep (Keeps.of_qt hq)
      replace s2 := s2.keep (Keeps.of_qt hq)
      replace X := hidp (X.out.keep (Keeps.of_qt hq))
      replace Y := hidp (Y.out.keep (Keeps.of_qt hq))
      clear hq
      obtain ⟨c0, c1, c2, c3⟩ := id s1
      obtain ⟨d0, d1, d2, d3⟩ := id s2
      go_wp2_with fail
      go_ret
      exact ⟨ret_bool Hs.out.symm, hb⟩
    · cases h2 : decide (s.homes = t.homes)
      · have Hs : Hid (b = false) := hidp (by rw [← hB]; simp only [h0, h1, h2, Bool.true_and, Bool.false_and])
        clear hB
        go_enter Try.func26, Try.ntmps26
        go_wp2_with fail
        refine (eqI_any _ _ _ _ _ _ _ X.out.cores Y.out.cores).mono ?_
        rintro e w2 ⟨rfl, hq⟩
        rw [h1]
        clear c0 c1 c2 c3 d0 d1 d2 d3
        replace hb := hq.below hb
        replace s1 := s1.keep (Keeps.of_qt hq)
        replace s2 := s2.keep (Keeps.of_qt hq)
        replace X := hidp (X.out.keep (Keeps.of_qt hq))
        replace Y := hidp (Y.out.keep (Keeps.of_qt hq))
        clear hq
        obtain ⟨c0, c1, c2, c3⟩ := id s1
        obtain ⟨d0, d1, d2, d3⟩ := id s2
        go_wp2_with fail
        refine (eqI_any _ _ _ _ _ _ _ X.out.homes Y.out.homes).mono ?_
        rintro e w2 ⟨rfl, hq⟩
        rw [h2]
        clear c0 c1 c2 c3 d0 d1 d2 d3
        replace hb := hq.below hb
        replace s1 := s1.keep (Keeps.of_qt hq)
        replace s2 := s2.keep (Keeps.of_qt hq)
        replace X := hidp (X.out.keep (Keeps.of_qt hq))
        replace Y := hidp (Y.out.keep (Keeps.of_qt hq))
        clear hq
        obtain ⟨c0, c1, c2, c3⟩ := id s1
        obtain ⟨d0, d1, d2, d3⟩ := id s2
        go_wp2_with fail
        go_ret
        exact ⟨ret_bool Hs.out.symm, hb⟩
      · have Hs : Hid (sameTs s.tasks t.tasks = b) := hidp (by rw [← hB]; simp only [h0, h1, h2, Bool.true_and])
        clear hB
        go_enter Try.func26, Try.ntmps26
        go_wp2_with fail
        refine (eqI_any _ _ _ _ _ _ _ X.out.cores Y.out.cores).mono ?_
        rintro e w2 ⟨rfl, hq⟩
        rw [h1]
        clear c0 c1 c2 c3 d0 d1 d2 d3
        replace hb := hq.below hb
        replace s1 := s1.keep (Keeps.of_qt hq)
        replace s2 := s2.keep (Keeps.of_qt hq)
        replace X := hidp (X.out.keep (Keeps.of_qt hq))
        replace Y := hidp (Y.out.keep (Keeps.of_qt hq))
        clear hq
        obtain ⟨c0, c1, c2, c3⟩ := id s1
        obtain ⟨d0, d1, d2, d3⟩ := id s2
        go_wp2_with fail
        refine (eqI_any _ _ _ _ _ _ _ X.out.homes Y.out.homes).mono ?_
        rintro e w2 ⟨rfl, hq⟩
        rw [h2]
        clear c0 c1 c2 c3 d0 d1 d2 d3
        replace hb := hq.below hb
        replace s1 := s1.keep (Keeps.of_qt hq)
        replace s2 := s2.keep (Keeps.of_qt hq)
        replace X := hidp (X.out.keep (Keeps.of_qt hq))
        replace Y := hidp (Y.out.keep (Keeps.of_qt hq))
        clear hq
        obtain ⟨c0, c1, c2, c3⟩ := id s1
        obtain ⟨d0, d1, d2, d3⟩ := id s2
        go_wp2_with fail
        refine (eqF_any _ _ _ _ _ _ _ X.out.tasks Y.out.tasks).mono ?_
        rintro e w2 ⟨rfl, hb2⟩
        go_wp2_with fail
        go_ret
        exact ⟨ret_bool Hs.out, hb.trans (hb2.mono hb.size)⟩
end Go.Proofs.Ytnfkebdbfflhdaa
