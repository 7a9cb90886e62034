/- delay: resource. -/
import Derived.Test.YtmchjmgifipfoaaTraceM
import Derived.Test.YtmchjmgifipfoaaSound
import Derived.Test.YtmchjmgifipfoaaOwn
namespace Go.Proofs.Ytmchjmgifipfoaa
open Go.ChangeShapes Go.WideShapes Go.ChangeAt Go.RowKit
set_option linter.unusedVariables false
set_option linter.unusedSimpArgs false

set_option maxHeartbeats 1000000 in
set_option maxRecDepth 100000 in
theorem dres_any (s : SetR) (x : WaitM) (w : World) (hs : SetOk w s) : Calls Try.prog 38 #[.agg #[.int .i64 s.proto, .slice s.ca s.cores.length s.cc, .slice s.ha s.homes.length s.hc, .slice s.ta s.tasks.length s.tc], .agg #[.int .i64 x.task, .int .i64 x.part, .int .i64 x.ask, .int .i64 x.got, .int .i64 x.fin]] w fun e w' => e = .returned (.tuple #[.int .i64 (resI s x), .bool (resL s x)]) ∧ Below w.heap.size w w' := by
  have hb := ((Below.refl w.heap.size w).alloc (Nat.le_refl _) (.cells #[.int .i64 s.proto, .slice s.ca s.cores.length s.cc, .slice s.ha s.homes.length s.hc, .slice s.ta s.tasks.length s.tc] 26)).alloc (by simp) (.cells #[.int .i64 x.task, .int .i64 x.part, .int .i64 x.ask, .int .i64 x.got, .int .i64 x.fin] 35)
  have l3 : s.tasks.length ≤ maxLen := Nat.le_trans hs.tasks.sl.2.1 hs.tasks.sl.2.2
  unfold maxLen at l3
  by_cases h0 : 0 ≤ x.task
  · by_cases h1 : x.task < s.tasks.length
    · obtain ⟨n, hn⟩ : ∃ n : Nat, x.task = n := ⟨x.task.toNat, by omega⟩
      obtain ⟨g, off, hA, hc⟩ := hs.tasks.at_.resolve_left (by intro e; rw [e] at h1; simp at h1; omega)
      obtain ⟨t, HT⟩ : ∃ t, Hid (s.tasks.getD n default = t) := ⟨_, rfl⟩
      have HT2 : Hid (s.tasks.getD x.task.toNat default = t) := hidp (by rw [hn]; exact HT.out)
      have hlt : n < s.tasks.length := by omega
      have hc := (HT.out ▸ hc n hlt).keep (Keeps.of_below hb)
      have hto := hs.tasks.ok t (HT.out ▸ getD_mem hlt)
      have lp : t.parts.length ≤ maxLen := Nat.le_trans hto.sl.2.1 hto.sl.2.2
      unfold maxLen at lp
      have HP := hidp (hto.at_.keep (Keeps.of_below hb))
      have c5 := hc.2.2.2.2.2
      have dn : decide (s.tasks.length ≤ n) = false := by simp; omega
      by_cases h2 : 0 ≤ x.part
      · by_cases h3 : x.part < t.parts.length
        · have HY := hidp (res_yes (inS_true h0 h1 h2 (by rw [HT2.out]; exact h3)))
          obtain ⟨m, hm⟩ : ∃ m : Nat, x.part = m := ⟨x.part.toNat, by omega⟩
          obtain ⟨q, HQ⟩ : ∃ q, Hid (t.parts.getD m default = q) := ⟨_, rfl⟩
          have Hq : Hid (prtAt s x = q) := hidp (by unfold prtAt; rw [HT2.out, hm]; exact HQ.out)
          have HI : Hid (resI s x = q.res) := hidp (by rw [HY.out.1, Hq.out])
          have HL : Hid (resL s x = (q.kind == 3)) := hidp (by rw [HY.out.2, Hq.out]; rfl)
          have hml : m < t.parts.length := by omega
          obtain ⟨g2, off2, hB, hd⟩ := HP.out.resolve_left (by intro e; rw [e] at hml; simp at hml)
          obtain ⟨d0, d1, d2⟩ := HQ.out ▸ hd m hml
          have dm : decide (t.parts.length ≤ m) = false := by simp; omega
          clear hd hc hto HP HY Hq HQ HT HT2 hs h0 h1 h2 h3
          obtain ⟨proto, ca, cc, cores, ha, hc, homes, ta, tc, tasks⟩ := s
          obtain ⟨xt, xp, xa, xg, xf⟩ := x
          obtain ⟨nm, per, dl, prio, cl, pa, pc, parts⟩ := t
          dsimp only at hA hB hn hm hlt hml dn dm c5 d0 d1 d2 HI HL hb l3 lp ⊢
          subst hA hB hn hm
          go_enter Try.func38, Try.ntmps38
          go_wp2_with fail
          go_quiet (fail)
          go_wp2_with fail
          go_ret2
          exact ⟨ret_ib HI.out.symm HL.out.symm, below_drewN hb _⟩
        · have HY := hidp (res_no (s := s) (x := x) (inS_false (fun h => by have := h.2.2.2; rw [HT2.out] at this; exact h3 this)))
          obtain ⟨m, hm⟩ : ∃ m : Nat, x.part = m := ⟨x.part.toNat, by omega⟩
          have dm : decide (t.parts.length ≤ m) = true := by simp; omega
          have dm2 : decide ((t.parts.length : Int) ≤ (m : Int)) = true := by simp; omega
          clear hc hto HP HT HT2 hs h0 h1 h2 h3
          obtain ⟨proto, ca, cc, cores, ha, hc, homes, ta, tc, tasks⟩ := s
          obtain ⟨xt, xp, xa, xg, xf⟩ := x
          obtain ⟨nm, per, dl, prio, cl, pa, pc, parts⟩ := t
          dsimp only at hA hn hm hlt dn dm dm2 c5 HY hb l3 lp ⊢
          subst hA hn hm
          go_enter Try.func38, Try.ntmps38
          go_wp2_with fail
          go_ret2
          exact ⟨ret_ib HY.out.1.symm HY.out.2.symm, hb⟩
      · have HY := hidp (res_no (s := s) (x := x) (inS_false (fun h => h2 h.2.2.1)))
        have h2' : x.part < 0 := by omega
        have d2 : decide (x.part < 0) = true := by simpa using h2'
        clear hc hto HP HT HT2 hs h0 h1 h2
        obtain ⟨proto, ca, cc, cores, ha, hc, homes, ta, tc, tasks⟩ := s
        obtain ⟨xt, xp, xa, xg, xf⟩ := x
        obtain ⟨nm, per, dl, prio, cl, pa, pc, parts⟩ := t
        dsimp only at hA hn hlt dn d2 h2' c5 HY hb l3 lp ⊢
        subst hA hn
        go_enter Try.func38, Try.ntmps38
        go_wp2_with fail
        go_ret2
        exact ⟨ret_ib HY.out.1.symm HY.out.2.symm, hb⟩
    · have HY := hidp (res_no (s := s) (x := x) (inS_false (fun h => h1 h.2.1)))
      obtain ⟨n, hn⟩ : ∃ n : Nat, x.task = n := ⟨x.task.toNat, by omega⟩
      have dn : decide (s.tasks.length ≤ n) = true := by simp; omega
      have dn2 : decide ((s.tasks.length : Int) ≤ (n : Int)) = true := by simp; omega
      clear hs h0 h1
      obtain ⟨proto, ca, cc, cores, ha, hc, homes, ta, tc, tasks⟩ := s
      obtain ⟨xt, xp, xa, xg, xf⟩ := x
      dsimp only at hn dn dn2 HY hb l3 ⊢
      subst hn
      go_enter Try.func38, Try.ntmps38
      go_wp2_with fail
      go_ret2
      exact ⟨ret_ib HY.out.1.symm HY.out.2.symm, hb⟩
  · have HY := hidp (res_no (s := s) (x := x) (inS_false (fun h => h0 h.1)))
    have h0' : x.task < 0 := by omega
    have d0 : decide (x.task < 0) = true := by simpa using h0'
    clear hs h0
    obtain ⟨proto, ca, cc, cores, ha, hc, homes, ta, tc, tasks⟩ := s
    obtain ⟨xt, xp, xa, xg, xf⟩ := x
    dsimp only at h0' d0 HY hb l3 ⊢
    go_enter Try.func38, Try.ntmps38
    go_wp2_with fail
    go_ret2
    exact ⟨ret_ib HY.out.1.symm HY.out.2.symm, hb⟩
end Go.Proofs.Ytmchjmgifipfoaa
