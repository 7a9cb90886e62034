/- delay: lower. -/
import Derived.Test.YtmchjmgifipfoaaDelay1
namespace Go.Proofs.Ytmchjmgifipfoaa
open Go.ChangeShapes Go.WideShapes Go.ChangeAt Go.RowKit
set_option linter.unusedVariables false
set_option linter.unusedSimpArgs false

/-- a slot at the cluster of task k, of one of greater Prio -/
def lowB (s : SetR) (x : SlotM) (k : Nat) : Bool :=
  decide (0 ≤ x.task ∧ x.task < s.tasks.length) && ((x.cl == (s.tasks.getD k default).cl) && decide ((s.tasks.getD k default).prio < (s.tasks.getD x.task.toNat default).prio))
theorem lowB_no {s : SetR} {x : SlotM} {k : Nat} (h : ¬ (0 ≤ x.task ∧ x.task < s.tasks.length)) : lowB s x k = false := by unfold lowB; rw [decide_eq_false h]; rfl
theorem lowB_yes {s : SetR} {x : SlotM} {k : Nat} (h : 0 ≤ x.task ∧ x.task < s.tasks.length) : lowB s x k = ((x.cl == (s.tasks.getD k default).cl) && decide ((s.tasks.getD k default).prio < (s.tasks.getD x.task.toNat default).prio)) := by unfold lowB; rw [decide_eq_true h]; rfl

set_option maxHeartbeats 1000000 in
set_option maxRecDepth 100000 in
theorem dlower_any (s : SetR) (x : SlotM) (k : Nat) (w : World) (hs : SetOk w s) (hk : k < s.tasks.length) : Calls Try.prog 53 #[.agg #[.int .i64 s.proto, .slice s.ca s.cores.length s.cc, .slice s.ha s.homes.length s.hc, .slice s.ta s.tasks.length s.tc], .agg #[.int .i64 x.time, .int .i64 x.cl, .int .i64 x.task, .bool x.held], .int .i64 (k : Int)] w fun e w' => e = .returned (.bool (lowB s x k)) ∧ Below w.heap.size w w' := by
  have hb := ((Below.refl w.heap.size w).alloc (Nat.le_refl _) (.cells #[.int .i64 s.proto, .slice s.ca s.cores.length s.cc, .slice s.ha s.homes.length s.hc, .slice s.ta s.tasks.length s.tc] 26)).alloc (by simp) (.cells #[.int .i64 x.time, .int .i64 x.cl, .int .i64 x.task, .bool x.held] 29)
  have l3 : s.tasks.length ≤ maxLen := Nat.le_trans hs.tasks.sl.2.1 hs.tasks.sl.2.2
  unfold maxLen at l3
  by_cases h0 : 0 ≤ x.task
  · by_cases h1 : x.task < s.tasks.length
    · obtain ⟨n, hn⟩ : ∃ n : Nat, x.task = n := ⟨x.task.toNat, by omega⟩
      have HY := hidp (lowB_yes (k := k) ⟨h0, h1⟩)
      obtain ⟨g, off, hA, hc⟩ := hs.tasks.at_.resolve_left (by intro e; rw [e] at hk; simp at hk)
      obtain ⟨t, HT⟩ : ∃ t, Hid (s.tasks.getD n default = t) := ⟨_, rfl⟩
      obtain ⟨r, HR⟩ : ∃ r, Hid (s.tasks.getD k default = r) := ⟨_, rfl⟩
      have hlt : n < s.tasks.length := by omega
      obtain ⟨a0, a1, a2, a3, a4, a5⟩ := (HT.out ▸ hc n hlt).keep (Keeps.of_below hb)
      obtain ⟨b0, b1, b2, b3, b4, b5⟩ := (HR.out ▸ hc k hk).keep (Keeps.of_below hb)
      have dn : decide (s.tasks.length ≤ n) = false := by simp; omega
      have dk : decide (s.tasks.length ≤ k) = false := by simp; omega
      have HV : Hid (lowB s x k = ((x.cl == r.cl) && decide (r.prio < t.prio))) := hidp (by rw [HY.out, HR.out, hn]; simp only [Int.toNat_natCast, HT.out])
      clear hc HY HT HR hs h0 h1
      obtain ⟨proto, ca, cc, cores, ha, hc, homes, ta, tc, tasks⟩ := s
      obtain ⟨xt, xc, xk, xh⟩ := x
      obtain ⟨nm, per, dl, prio, cl, pa, pc, parts⟩ := t
      obtain ⟨nm2, per2, dl2, prio2, cl2, pa2, pc2, parts2⟩ := r
      dsimp only at hA hn hlt dn dk hk a0 a1 a2 a3 a4 a5 b0 b1 b2 b3 b4 b5 HV hb l3 ⊢
      subst hA hn
      by_cases e : xc = cl2
      · subst e
        have HV2 : Hid (lowB ⟨proto, ca, cc, cores, ha, hc, homes, some ⟨g, off, none⟩, tc, tasks⟩ ⟨xt, xc, n, xh⟩ k = decide (prio2 < prio)) := hidp (by rw [HV.out]; simp)
        clear HV
        go_enter Try.func53, Try.ntmps53
        go_wp2_with fail
        go_quiet (fail)
        go_wp2_with fail
        go_ret
        exact ⟨ret_bool HV2.out.symm, below_drewN hb _⟩
      · have HV2 : Hid (lowB ⟨proto, ca, cc, cores, ha, hc, homes, some ⟨g, off, none⟩, tc, tasks⟩ ⟨xt, xc, n, xh⟩ k = false) := hidp (by rw [HV.out]; simp [e])
        have e1 : (xc == cl2) = false := by simpa using e
        clear HV
        go_enter Try.func53, Try.ntmps53
        go_wp2_with fail
        go_quiet (fail)
        go_wp2_with fail
        go_ret
        exact ⟨ret_bool HV2.out.symm, below_drewN hb _⟩
    · have HY := hidp (lowB_no (s := s) (x := x) (k := k) (fun h => h1 h.2))
      obtain ⟨n, hn⟩ : ∃ n : Nat, x.task = n := ⟨x.task.toNat, by omega⟩
      have dn : decide (s.tasks.length ≤ n) = true := by simp; omega
      have dn2 : decide ((s.tasks.length : Int) ≤ (n : Int)) = true := by simp; omega
      clear hs h0 h1
      obtain ⟨proto, ca, cc, cores, ha, hc, homes, ta, tc, tasks⟩ := s
      obtain ⟨xt, xc, xk, xh⟩ := x
      dsimp only at hn dn dn2 hk HY hb l3 ⊢
      subst hn
      go_enter Try.func53, Try.ntmps53
      go_wp2_with fail
      go_ret
      exact ⟨ret_bool HY.out.symm, hb⟩
  · have HY := hidp (lowB_no (s := s) (x := x) (k := k) (fun h => h0 h.1))
    have h0' : x.task < 0 := by omega
    have d0 : decide (x.task < 0) = true := by simpa using h0'
    clear hs h0
    obtain ⟨proto, ca, cc, cores, ha, hc, homes, ta, tc, tasks⟩ := s
    obtain ⟨xt, xc, xk, xh⟩ := x
    dsimp only at h0' d0 HY hk hb l3 ⊢
    go_enter Try.func53, Try.ntmps53
    go_wp2_with fail
    go_ret
    exact ⟨ret_bool HY.out.symm, hb⟩
end Go.Proofs.Ytmchjmgifipfoaa
