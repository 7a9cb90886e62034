/- legal: resource. -/
import Derived.Test.YtmchjmgifipfoaaLegal1
import Derived.RegionTactic
namespace Go.Proofs.Ytmchjmgifipfoaa
open Go.ChangeShapes Go.WideShapes Go.ChangeAt Go.RowKit
set_option linter.unusedVariables false
set_option linter.unusedSimpArgs false

set_option maxHeartbeats 2000000 in
set_option maxRecDepth 100000 in
theorem lres_any (s : SetR) (x : WaitM) (w : World) (hs : SetOk w s) : Calls Try.prog 36 #[.agg #[.int .i64 s.proto, .slice s.ca s.cores.length s.cc, .slice s.ha s.homes.length s.hc, .slice s.ta s.tasks.length s.tc], .agg #[.int .i64 x.task, .int .i64 x.part, .int .i64 x.ask, .int .i64 x.got, .int .i64 x.fin]] w fun e w' => e = .returned (.tuple #[.int .i64 (resI s x), .bool (resL s x)]) ∧ Below w.heap.size w w' := by
  have hb := ((Below.refl w.heap.size w).alloc (Nat.le_refl _) (.cells #[.int .i64 s.proto, .slice s.ca s.cores.length s.cc, .slice s.ha s.homes.length s.hc, .slice s.ta s.tasks.length s.tc] 26)).alloc (by simp) (.cells #[.int .i64 x.task, .int .i64 x.part, .int .i64 x.ask, .int .i64 x.got, .int .i64 x.fin] 35)
  have l3 : s.tasks.length ≤ maxLen := Nat.le_trans hs.tasks.sl.2.1 hs.tasks.sl.2.2
  unfold maxLen at l3
  have ws : IntKind.i64.wrap ((s.tasks.length : Int) - 1) = (s.tasks.length : Int) - 1 := IntWalk.i64_in _ (by omega)
  cases h1 : inB x.task 0 ((s.tasks.length : Int) - 1) with
  | false =>
    have HY := hidp (res_no (s := s) (x := x) (inS_false (fun h => by have := inB_false.1 h1; omega)))
    obtain ⟨proto, ca, cc, cores, ha, hcp, homes, ta, tc, tasks⟩ := s
    obtain ⟨xt, xp, xa, xg, xf⟩ := x
    dsimp only at h1 HY hb l3 ws ⊢
    have H1 := hidp h1
    clear h1 hs
    go_enter Try.func36, Try.ntmps36
    go_wp2_with fail
    go_quiet ((go_at_call 32; with_reducible exact Calls.quiet_of (lwithin_q H1.out _)))
    clear ws
    go_wp2_with fail
    go_ret2
    exact ⟨ret_ib HY.out.1.symm HY.out.2.symm, below_drewN hb _⟩
  | true =>
    have g1 := inB_true.1 h1
    obtain ⟨n, hn⟩ : ∃ n : Nat, x.task = n := ⟨x.task.toNat, by omega⟩
    have hlt : n < s.tasks.length := by omega
    obtain ⟨g, off, hA, hc⟩ := hs.tasks.at_.resolve_left (by intro e; rw [e] at hlt; simp at hlt)
    obtain ⟨t, HT⟩ : ∃ t, Hid (s.tasks.getD n default = t) := ⟨_, rfl⟩
    have HT2 : Hid (s.tasks.getD x.task.toNat default = t) := hidp (by rw [hn]; exact HT.out)
    have hc := (HT.out ▸ hc n hlt).keep (Keeps.of_below hb)
    have hto := hs.tasks.ok t (HT.out ▸ getD_mem hlt)
    have lp : t.parts.length ≤ maxLen := Nat.le_trans hto.sl.2.1 hto.sl.2.2
    unfold maxLen at lp
    have HP := hidp (hto.at_.keep (Keeps.of_below hb))
    have c5 := hc.2.2.2.2.2
    have dn : decide (s.tasks.length ≤ n) = false := by simp; omega
    have wp : IntKind.i64.wrap ((t.parts.length : Int) - 1) = (t.parts.length : Int) - 1 := IntWalk.i64_in _ (by omega)
    cases h2 : inB x.part 0 ((t.parts.length : Int) - 1) with
    | false =>
      have HY := hidp (res_no (s := s) (x := x) (inS_false (fun h => by have := inB_false.1 h2; rw [HT2.out] at h; omega)))
      clear hc hto HP HT HT2 hs g1
      obtain ⟨proto, ca, cc, cores, ha, hcp, homes, ta, tc, tasks⟩ := s
      obtain ⟨xt, xp, xa, xg, xf⟩ := x
      obtain ⟨nm, per, dl, prio, cl, pa, pc, parts⟩ := t
      dsimp only at h1 h2 hA hn hlt dn c5 HY hb l3 lp ws wp ⊢
      have H1 := hidp h1
      have H2 := hidp h2
      clear h1 h2
      subst hA hn
      go_enter Try.func36, Try.ntmps36
      go_wp2_with fail
      go_quiet ((first | (go_at_call 32; with_reducible exact Calls.quiet_of (lwithin_q H1.out _)) | (go_at_call 32; with_reducible exact Calls.quiet_of (lwithin_q H2.out _))))
      clear ws wp
      go_wp2_with fail
      go_ret2
      exact ⟨ret_ib HY.out.1.symm HY.out.2.symm, below_drewN hb _⟩
    | true =>
      have g2 := inB_true.1 h2
      have HY := hidp (res_yes (inS_true (s := s) (x := x) (by omega) (by omega) g2.1 (by rw [HT2.out]; omega)))
      obtain ⟨m, hm⟩ : ∃ m : Nat, x.part = m := ⟨x.part.toNat, by omega⟩
      obtain ⟨q, HQ⟩ : ∃ q, Hid (t.parts.getD m default = q) := ⟨_, rfl⟩
      have Hq : Hid (prtAt s x = q) := hidp (by unfold prtAt; rw [HT2.out, hm]; exact HQ.out)
      have HI : Hid (resI s x = q.res) := hidp (by rw [HY.out.1, Hq.out])
      have HL : Hid (resL s x = (q.kind == 3)) := hidp (by rw [HY.out.2, Hq.out]; rfl)
      have hml : m < t.parts.length := by omega
      obtain ⟨g2', off2, hB, hd⟩ := HP.out.resolve_left (by intro e; rw [e] at hml; simp at hml)
      obtain ⟨d0, d1, d2⟩ := HQ.out ▸ hd m hml
      have dm : decide (t.parts.length ≤ m) = false := by simp; omega
      clear hd hc hto HP HY Hq HQ HT HT2 hs g1 g2
      obtain ⟨proto, ca, cc, cores, ha, hcp, homes, ta, tc, tasks⟩ := s
      obtain ⟨xt, xp, xa, xg, xf⟩ := x
      obtain ⟨nm, per, dl, prio, cl, pa, pc, parts⟩ := t
      dsimp only at h1 h2 hA hB hn hm hlt hml dn dm c5 d0 d1 d2 HI HL hb l3 lp ws wp ⊢
      have H1 := hidp h1
      have H2 := hidp h2
      clear h1 h2
      subst hA hB hn hm
      go_enter Try.func36, Try.ntmps36
      go_wp2_with fail
      go_quiet ((first | (go_at_call 32; with_reducible exact Calls.quiet_of (lwithin_q H1.out _)) | (go_at_call 32; with_reducible exact Calls.quiet_of (lwithin_q H2.out _))))
      clear ws wp
      go_wp2_with fail
      have ka := Keeps.alloc ((((w.alloc (.cells #[.int .i64 proto, .slice ca cores.length cc, .slice ha homes.length hcp, .slice (some ⟨g, off, none⟩) tasks.length tc] 26)).alloc (.cells #[.int .i64 (n : Int), .int .i64 (m : Int), .int .i64 xa, .int .i64 xg, .int .i64 xf] 35)).drewN (nq + 1))) (.cells #[.int .i64 0, .int .i64 0, .int .i64 0] 51)
      have c5' := ka _ _ c5
      have d0' := ka _ _ d0
      have d1' := ka _ _ d1
      have d2' := ka _ _ d2
      clear ka
      go_region
      go_wp2_with fail
      go_quiet (fail)
      go_wp2_with fail
      go_ret2
      exact ⟨ret_ib HI.out.symm HL.out.symm, below_drewN ((below_drewN hb _).alloc (below_drewN hb _).size _) _⟩
end Go.Proofs.Ytmchjmgifipfoaa
