/- swingbridgeref11: Agent. -/
import Derived.Test.YtindcpgmfdkpcaaGreatRef14c
import Derived.Test.YtindcpgmfdkpcaaGreatRef11b
namespace Go.Proofs.YtindcpgmfdkpcaaGreat
open Go.ChangeShapes Go.WideShapes Go.ChangeAt Go.RowKit
set_option linter.unusedVariables false
set_option linter.unusedSimpArgs false

set_option maxHeartbeats 4000000 in
set_option maxRecDepth 100000 in
theorem ragent_any (s : SetR) (bs : List Int) (ba : Option Addr) (bc : Nat) (of part : Int) (w : World) (hs : SetOk w s) (hB : IntsOk w ba bc bs) : Calls Tryz.prog 27 #[.agg #[.int .i64 s.proto, .slice s.ca s.cores.length s.cc, .slice s.ha s.homes.length s.hc, .slice s.ta s.tasks.length s.tc], .slice ba bs.length bc, .int .i64 of, .int .i64 part] w fun e w' => e = .returned (.tuple #[.int .i64 (agentV s bs of part), .bool (agentK s bs of part)]) ∧ Below w.heap.size w w' := by
  have hb := (Below.refl w.heap.size w).alloc (Nat.le_refl _) (.cells #[.int .i64 s.proto, .slice s.ca s.cores.length s.cc, .slice s.ha s.homes.length s.hc, .slice s.ta s.tasks.length s.tc] 25)
  have sc := SetCells.new w s 25
  have H := hs.keep (Keeps.of_below hb)
  have HS := hidp hs
  have HB := hidp hB
  have l3 : s.tasks.length ≤ maxLen := Nat.le_trans hs.tasks.sl.2.1 hs.tasks.sl.2.2
  have l4 : bs.length ≤ maxLen := Nat.le_trans hB.sl.2.1 hB.sl.2.2
  unfold maxLen at l3 l4
  by_cases k : fairK s of part = true
  · have hk := fairK_iff.1 k
    have Hk := hidp k
    obtain ⟨p, HP⟩ : ∃ p, Hid (lockP s of part = p) := ⟨_, rfl⟩
    have hpp : partAt s of part = p := by rw [← HP.out]; unfold lockP; rw [if_pos k]
    by_cases e2 : bs.length = s.tasks.length
    · have d1 : ((bs.length : Int) != (s.tasks.length : Int)) = false := by simp [e2]
      obtain ⟨v1, v2⟩ := agent_yes hk.1 e2 hk.2.1 hk.2.2.1 hk.2.2.2
      obtain ⟨ho, r1, r2⟩ := thereB_true.1 hk.1
      have hg := Good.of ho
      have hin : of.toNat < s.tasks.length := by omega
      have hpm : p ∈ (s.tasks.getD of.toNat default).parts := by rw [← hpp]; unfold partAt; exact getD_mem (by omega)
      have hq := (hg.parts _ (getD_mem hin)).good p hpm
      obtain ⟨q0, q1, q2, q3⟩ := hq
      have k3 : p.kind = 3 := by rw [← hpp]; exact hk.2.2.2
      obtain ⟨q31, q32⟩ := q3 k3
      obtain ⟨r, hr⟩ : ∃ r : Nat, p.res = r := ⟨p.res.toNat, by omega⟩
      have hrl2 : r < s.homes.length := by omega
      have HhA := hs.homes.at_
      obtain ⟨gh, oh, hHA, hhc⟩ := HhA.resolve_left (by intro e; rw [e] at hrl2; simp at hrl2)
      obtain ⟨h, HH⟩ : ∃ h, Hid (s.homes.getD r 0 = h) := ⟨_, rfl⟩
      have Hhc := hidp (HH.out ▸ hhc r hrl2)
      have hhome : homeV s of part = h := by unfold homeV; rw [hpp, hr]; simpa using HH.out
      obtain ⟨L, HLo⟩ : ∃ L, Hid (lowerV s of h = L) := ⟨_, rfl⟩
      have hLb := lowerV_bd s of h
      rw [HLo.out] at hLb
      obtain ⟨L0, L1⟩ := hLb
      have hleast : leastV s of part = p.len + L := by unfold leastV; rw [hpp, hhome, HLo.out]
      obtain ⟨rs, Hrs⟩ : ∃ rs, Hid (rivL s bs (prioOf s of) h 0 s.tasks = rs) := ⟨_, rfl⟩
      obtain ⟨own, hown⟩ : ∃ own, p.len + L = own := ⟨_, rfl⟩
      obtain ⟨F, HF⟩ : ∃ F, Hid (winF own rs = F) := ⟨_, rfl⟩
      have Hv : Hid (agentV s bs of part = (fixO F own).getD 0) := hidp (by rw [v1, hleast, hhome, Hrs.out, hown, ← HF.out]; rfl)
      have HvK : Hid (agentK s bs of part = (fixO F own).isSome) := hidp (by rw [v2, hleast, hhome, Hrs.out, hown, ← HF.out]; rfl)
      have Hhi : Hid (∀ wd, higherV s bs of h wd = capV (workS wd rs)) := hidp (fun wd => by unfold higherV; rw [if_pos (higherB_true.2 ⟨hk.1, e2⟩), Hrs.out])
      have Hm : Hid (∀ x y, x ≤ y → F x ≤ F y) := hidp (fun x y h => by rw [← HF.out]; exact winF_mono own rs h)
      have HW : Hid (∀ x, F x = own + capV (workS x rs)) := hidp (fun x => by rw [← HF.out]; rfl)
      have Ho : Hid (∀ x, own ≤ F x ∧ F x ≤ own + 1000000) := hidp (fun x => by rw [← HF.out]; exact winF_own own rs x)
      have o1 : 1 ≤ own := by omega
      have o2 : own ≤ 120 := by omega
      have Hown := hidp hown
      clear v1 v2 ho r1 r2 hg hin hpm q0 q3 k3 q31 q32 hhome hleast hhc HhA hk hpp hs hB e2 k
      obtain ⟨kd, ln, rsx⟩ := p
      dsimp only at *
      subst hr
      obtain ⟨proto, ca, cc, cores, ha, hc, homes, ta, tc, tasks⟩ := s
      dsimp only at hHA hrl2 l3 hb sc H d1 ⊢
      subst hHA
      go_enter Tryz.func27, Tryz.ntmps27
      go_wp2_with fail
      refine (rlock_any _ _ _ _ H).mono ?_
      rintro e w2 ⟨rfl, hb2⟩
      replace hb := hb.trans (hb2.mono hb.size)
      replace sc := sc.keep (Keeps.of_below hb2)
      replace H := H.keep (Keeps.of_below hb2)
      clear hb2
      try clear sc_0 sc_1 sc_2 sc_3
      have scx := sc
      obtain ⟨sc_0, sc_1, sc_2, sc_3⟩ := scx
      try dsimp only at sc_0 sc_1 sc_2 sc_3
      rw [HP.out, Hk.out]
      have ch := Keeps.of_below hb _ _ Hhc.out
      have kk := Keeps.alloc w2 (.cells #[.int .i64 kd, .int .i64 ln, .int .i64 r] 43)
      have sc' := sc.keep kk
      have H' := H.keep kk
      have ch' := kk _ _ ch
      have pb : (w2.alloc (.cells #[.int .i64 kd, .int .i64 ln, .int .i64 r] 43)).cell? ⟨w2.heap.size, 1, none⟩ = some (.int .i64 ln) := by simp
      replace hb := hb.alloc hb.size (.cells #[.int .i64 kd, .int .i64 ln, .int .i64 r] 43)
      obtain ⟨e0, e1, e2, e3⟩ := id sc'
      dsimp only at e0 e1 e2 e3
      clear sc_0 sc_1 sc_2 sc_3 ch kk H sc
      go_wp2_with fail
      have pb := Keeps.drew _ _ _ pb
      have s0 := Keeps.drew _ _ _ e0
      have s1 := Keeps.drew _ _ _ e1
      have s2 := Keeps.drew _ _ _ e2
      have s3 := Keeps.drew _ _ _ e3
      have H' := H'.keep (Keeps.drew _)
      have hb := hb.drew
      have hwr : IntKind.i64.wrap (ln + L) = own := by rw [Hown.out]; exact IntWalk.i64_in _ (by omega)
      clear e0 e1 e2 e3 ch' sc' hown
      go_region_held3 (fun w' => w'.cell? ⟨w2.heap.size, 1, none⟩ = some (.int .i64 ln) ∧ w'.cell? ⟨w.heap.size, 0, none⟩ = some (.int .i64 proto) ∧ w'.cell? ⟨w.heap.size, 1, none⟩ = some (.slice ca cores.length cc) ∧ w'.cell? ⟨w.heap.size, 2, none⟩ = some (.slice (some ⟨gh, oh, none⟩) homes.length hc) ∧ w'.cell? ⟨w.heap.size, 3, none⟩ = some (.slice ta tasks.length tc)) (exact ⟨pb, s0, s1, s2, s3⟩)
        (first
          | (go_at_call 54; refine (rlower_any _ of h _ H').mono ?_; rintro e u ⟨rfl, hb3⟩; have pb := Keeps.of_below hb3 _ _ pb; have s0 := Keeps.of_below hb3 _ _ s0; have s1 := Keeps.of_below hb3 _ _ s1; have s2 := Keeps.of_below hb3 _ _ s2; have s3 := Keeps.of_below hb3 _ _ s3; have H' := H'.keep (Keeps.of_below hb3); have hb := hb.trans (hb3.mono hb.size); rw [HLo.out]))
      have sc : SetCells u w.heap.size ⟨proto, ca, cc, cores, some ⟨gh, oh, none⟩, hc, homes, ta, tc, tasks⟩ := ⟨s0, s1, s2, s3⟩
      clear pb s0 s1 s2 s3 hwr Hown L0 L1 q1 q2 HLo H'
      go_wp2_with fail
      go_loopg [14] (2000000 - own).toNat (fun g s14 wr => ∃ x : Int, x + g = 2000000 ∧ own ≤ x ∧ x ≤ own + 1000000 ∧ s14 = .int .i64 x ∧ Hid (∀ u, own ≤ u → u < x → F u ≠ u) ∧ Hid (x ≤ F x) ∧ SetCells wr w.heap.size ⟨proto, ca, cc, cores, some ⟨gh, oh, none⟩, hc, homes, ta, tc, tasks⟩ ∧ Below w.heap.size w wr)
      case atStart => exact ⟨own, by omega, Int.le_refl _, by omega, rfl, hidp (fun u a b => by omega), hidp (Ho.out own).1, sc, hb⟩
      case round =>
        clear sc hb
        obtain ⟨x, hx, hox, hx1, rfl, Hn, Hle, sc, hb⟩ := hrel
        obtain ⟨sc_0, sc_1, sc_2, sc_3⟩ := id sc
        dsimp only at sc_0 sc_1 sc_2 sc_3
        by_cases hlt : x ≤ 3000
        · obtain ⟨y, HY⟩ : ∃ y, Hid (F x = y) := ⟨_, rfl⟩
          obtain ⟨v, HV⟩ : ∃ v, Hid (capV (workS x rs) = v) := ⟨_, rfl⟩
          have hy : own + v = y := by rw [← HV.out, ← HY.out]; exact (HW.out x).symm
          have hv0 : own ≤ y ∧ y ≤ own + 1000000 := by rw [← HY.out]; exact Ho.out x
          have hxy : x ≤ y := by rw [← HY.out]; exact Hle.out
          obtain ⟨y0, y1⟩ := hv0
          have hv1 : 0 ≤ v := by omega
          have hv2 : v ≤ 1000000 := by omega
          have Hy := hidp hy
          clear hy
          have H2 := HS.out.keep (Keeps.of_below hb)
          have HB2 := HB.out.keep (Keeps.of_below hb)
          go_wp2_with fail
          refine (rhigher_any _ bs ba bc of h x _ H2 HB2 (by unfold I64; omega)).mono ?_
          rintro e w3 ⟨rfl, hb2⟩
          replace hb := hb.trans (hb2.mono hb.size)
          replace sc := sc.keep (Keeps.of_below hb2)
          clear hb2
          try clear sc_0 sc_1 sc_2 sc_3
          have scx := sc
          obtain ⟨sc_0, sc_1, sc_2, sc_3⟩ := scx
          try dsimp only at sc_0 sc_1 sc_2 sc_3
          rw [Hhi.out, HV.out]
          clear H2 HB2
          by_cases he : y = x
          · have Hz : Hid (fixO F own = some x) := hidp (fixO_at hox hlt (by rw [HY.out]; exact he) Hn.out)
            have heq : (own + v == x) = true := by have := Hy.out; simp; omega
            clear he
            go_wp2
            go_ret2
            exact ⟨by rw [Hv.out, HvK.out, Hz.out]; rfl, hb⟩
          · have Hp : Hid (∀ u, own ≤ u → u < y → F u ≠ u) := hidp (by rw [← HY.out]; exact fix_pass Hm.out Hn.out)
            have Hl : Hid (y ≤ F y) := hidp (by have := Hm.out x y hxy; rw [HY.out] at this; exact this)
            have heq : (own + v == x) = false := by have := Hy.out; simp; omega
            have hlt2 : x < y := by omega
            clear he
            go_wp2
            go_roundg (2000000 - y).toNat
            case measure => omega
            case rel => exact ⟨y, by omega, y0, y1, by rw [← Hy.out], Hp, Hl, sc, hb⟩
        · have Hz : Hid (fixO F own = none) := hidp (fixO_not (by omega) (fun u a b => Hn.out u a (by omega)))
          go_wp2
          go_ret2
          exact ⟨by rw [Hv.out, HvK.out, Hz.out]; rfl, hb⟩
    · obtain ⟨k1, k2⟩ := agent_not (s := s) (bs := bs) (of := of) (part := part) (fun h => e2 h.2.1)
      have Hv := hidp k1
      have Hk2 := hidp k2
      have d1 : ((bs.length : Int) != (s.tasks.length : Int)) = true := by simp; omega
      clear k1 k2 e2 hk k hpp
      go_enter Tryz.func27, Tryz.ntmps27
      go_wp2_with fail
      refine (rlock_any _ _ _ _ H).mono ?_
      rintro e w2 ⟨rfl, hb2⟩
      replace hb := hb.trans (hb2.mono hb.size)
      replace sc := sc.keep (Keeps.of_below hb2)
      clear hb2
      rw [HP.out, Hk.out]
      obtain ⟨e0, e1, e2, e3⟩ := sc.keep (Keeps.alloc w2 (.cells #[.int .i64 p.kind, .int .i64 p.len, .int .i64 p.res] 43))
      go_wp2_with fail
      go_ret2
      exact ⟨ret_ib Hv.out.symm Hk2.out.symm, hb.alloc hb.size _⟩
  · obtain ⟨k1, k2⟩ := agent_not (s := s) (bs := bs) (of := of) (part := part) (fun h => k (fairK_iff.2 ⟨h.1, h.2.2⟩))
    have Hv := hidp k1
    have Hk2 := hidp k2
    have Hk : Hid (fairK s of part = false) := hidp (by simpa using k)
    have HP : Hid (lockP s of part = ⟨0, 0, 0⟩) := hidp (by unfold lockP; rw [if_neg k])
    clear k1 k2 k
    go_enter Tryz.func27, Tryz.ntmps27
    go_wp2_with fail
    refine (rlock_any _ _ _ _ H).mono ?_
    rintro e w2 ⟨rfl, hb2⟩
    replace hb := hb.trans (hb2.mono hb.size)
    replace sc := sc.keep (Keeps.of_below hb2)
    replace H := H.keep (Keeps.of_below hb2)
    clear hb2
    try clear sc_0 sc_1 sc_2 sc_3
    have scx := sc
    obtain ⟨sc_0, sc_1, sc_2, sc_3⟩ := scx
    try dsimp only at sc_0 sc_1 sc_2 sc_3
    rw [HP.out, Hk.out]
    go_wp2_with fail
    go_ret2
    exact ⟨ret_ib Hv.out.symm Hk2.out.symm, hb.alloc hb.size _⟩
end Go.Proofs.YtindcpgmfdkpcaaGreat
