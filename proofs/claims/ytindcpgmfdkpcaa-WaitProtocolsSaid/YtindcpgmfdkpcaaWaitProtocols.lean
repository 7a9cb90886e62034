/- WaitProtocols: two that share a lock on one core wait the same in one line and at a gate of one core; at an agent the higher one for the other one, the lower one for as many as come. No condition. -/
import Derived.Test.YtindcpgmfdkpcaaKnown16
import Derived.Test.YtindcpgmfdkpcaaOk3
set_option linter.unusedSimpArgs false
namespace Go.Proofs.Ytindcpgmfdkpcaa
theorem prot_F {x y u : Int} (hx : 1 ≤ x ∧ x ≤ 50) (hu : 1 ≤ u ∧ u ≤ 3000) : winF y [⟨90, 100, x⟩] u = y + x * ((u + 90 + 99) / 100) := by
  have hq : 1 ≤ (u + 90 + 99) / 100 ∧ (u + 90 + 99) / 100 ≤ 31 := by omega
  have e1 : jobV u 90 100 = (u + 90 + 99) / 100 := by
    rw [jobV_in (by omega)]
    have e : u + 90 + 100 - 1 = u + 90 + 99 := by omega
    rw [e]; omega
  generalize hQ : (u + 90 + 99) / 100 = q at *
  have h1 : 0 ≤ x * q := Int.mul_nonneg (by omega) (by omega)
  have h2 : x * q ≤ 50 * 31 := Int.mul_le_mul (by omega) (by omega) (by omega) (by omega)
  have e2 : workV u 90 100 x = x * q := by
    unfold workV
    rw [e1, show max x 0 = x by omega, Int.mul_comm q x]; omega
  unfold winF capV
  simp only [workS, e2]
  omega
theorem prot_vals {S : SetR} {p x y : Int} (hS : twoS16 S p 1 x 1 y) (hp : 1 ≤ p ∧ p ≤ 3) (hx : 1 ≤ x ∧ x ≤ 50) (hy : 1 ≤ y ∧ y ≤ 50) :
    (p = 1 → waitV S [90, 190] 0 1 = x + y ∧ waitK S [90, 190] 0 1 = true ∧ waitV S [90, 190] 1 1 = x + y ∧ waitK S [90, 190] 1 1 = true) ∧
    (p = 3 → waitV S [90, 190] 0 1 = x + max x y ∧ waitK S [90, 190] 0 1 = true ∧ waitV S [90, 190] 1 1 = y + max x y ∧ waitK S [90, 190] 1 1 = true) ∧
    (p = 2 → waitV S [90, 190] 0 1 = x + y ∧ waitK S [90, 190] 0 1 = true ∧ ∀ v, fixO (winF y [⟨90, 100, x⟩]) y = some v → waitV S [90, 190] 1 1 = v ∧ waitK S [90, 190] 1 1 = true) := by
  obtain ⟨p1, p2, p3, a1, a2, c1, c2, p4⟩ := hS
  have hok := okTwo p1 p2 p3 p4 hp (by decide) (by omega) (by decide) (by omega)
  have ht0 : thereB S 0 = true := thereB_true.2 ⟨hok, by decide, by rw [p4]; simp⟩
  have ht1 : thereB S 1 = true := thereB_true.2 ⟨hok, by decide, by rw [p4]; simp⟩
  have hl : ([90, 190] : List Int).length = S.tasks.length := by rw [p4]; rfl
  have q0 : partAt S 0 1 = ⟨3, x, 0⟩ := by unfold partAt; rw [p4]; rfl
  have q1 : partAt S 1 1 = ⟨3, y, 0⟩ := by unfold partAt; rw [p4]; rfl
  have k0 : fairK S 0 1 = true := fairK_iff.2 ⟨ht0, by decide, by rw [p4]; show (1 : Int) < 2; decide, by rw [q0]⟩
  have k1 : fairK S 1 1 = true := fairK_iff.2 ⟨ht1, by decide, by rw [p4]; show (1 : Int) < 2; decide, by rw [q1]⟩
  have m0 : maxL [⟨1, 1, 0⟩, ⟨3, x, 0⟩] = x := by simp [maxL]; omega
  have m1 : maxL [⟨1, 1, 0⟩, ⟨3, y, 0⟩] = y := by simp [maxL]; omega
  have n0 : ¬ x = 0 := by omega
  have n1 : ¬ y = 0 := by omega
  refine ⟨fun e => ?_, fun e => ?_, fun e => ?_⟩
  · have f0 : fairV S 0 1 = x + y := by unfold fairV; rw [if_pos k0, q0, p4]; simp [othL, m0, m1, n0, n1, tot]
    have f1 : fairV S 1 1 = x + y := by unfold fairV; rw [if_pos k1, q1, p4]; simp [othL, m0, m1, n0, n1, tot]; omega
    refine ⟨?_, ?_, ?_, ?_⟩
    · unfold waitV; rw [if_pos hl, if_pos (by omega), f0]
    · unfold waitK; rw [if_pos hl, if_neg (by omega), k0]
    · unfold waitV; rw [if_pos hl, if_pos (by omega), f1]
    · unfold waitK; rw [if_pos hl, if_neg (by omega), k1]
  · have hc : coresV S = 1 := by unfold coresV; rw [if_pos hok, p2]; rfl
    have hb : ∀ k, besV S k = 0 := fun k => by
      unfold besV
      rw [hc, show (1 : Int) - 1 = 0 from rfl]
      have e0 : ∀ zs : List Int, tops zs 0 = [] := fun zs => by
        unfold tops
        rw [show clampN 0 zs.length = 0 by unfold clampN; omega]
        rfl
      rw [e0]; rfl
    have i0 : insV S 0 1 = x := by unfold insV; rw [if_pos k0, hb, q0]; simp
    have i1 : insV S 1 1 = y := by unfold insV; rw [if_pos k1, hb, q1]; simp
    have ha : askersV S 0 = 2 := by unfold askersV; rw [if_pos hok, p4]; simp [askN, sumK, n0, n1]
    have hr : rndV S 0 = 1 := by unfold rndV coreAt; rw [ha, p2]; decide
    have hs : slowL S 0 0 S.tasks = max x y := by rw [p4]; simp [slowL, m0, m1, n0, n1, hb]; omega
    have ho0 : outV S 0 = max x y := by
      unfold outV
      rw [if_pos ⟨ht0, by rw [p4]; show ¬ maxL [⟨1, 1, 0⟩, ⟨3, x, 0⟩] = 0; rw [m0]; exact n0⟩]
      have e : (S.tasks.getD (0 : Int).toNat default).cl = 0 := by rw [p4]; rfl
      rw [e, hr, hs]; omega
    have ho1 : outV S 1 = max x y := by
      unfold outV
      rw [if_pos ⟨ht1, by rw [p4]; show ¬ maxL [⟨1, 1, 0⟩, ⟨3, y, 0⟩] = 0; rw [m1]; exact n1⟩]
      have e : (S.tasks.getD (1 : Int).toNat default).cl = 0 := by rw [p4]; rfl
      rw [e, hr, hs]; omega
    have f0 : tokV S 0 1 = x + max x y := by unfold tokV; rw [if_pos k0, i0, ho0]
    have f1 : tokV S 1 1 = y + max x y := by unfold tokV; rw [if_pos k1, i1, ho1]
    refine ⟨?_, ?_, ?_, ?_⟩
    · unfold waitV; rw [if_pos hl, if_neg (by omega), if_neg (by omega), f0]
    · unfold waitK; rw [if_pos hl, if_neg (by omega), k0]
    · unfold waitV; rw [if_pos hl, if_neg (by omega), if_neg (by omega), f1]
    · unfold waitK; rw [if_pos hl, if_neg (by omega), k1]
  · have s0 : atV S 0 0 = x := by unfold atV; rw [show ((0 : Int)) = ((0 : Nat) : Int) from rfl, srv_in hok (by rw [p4]; simp), p4, p3]; simp [srvB, sumK]
    have mm1 : mostV S 1 0 = y := by unfold mostV; rw [show ((1 : Int)) = ((1 : Nat) : Int) from rfl, srv_in hok (by rw [p4]; simp), p4, p3]; simp [srvB, maxL]; omega
    have h0 : homeV S 0 1 = 0 := by unfold homeV; rw [q0, p3]; rfl
    have h1 : homeV S 1 1 = 0 := by unfold homeV; rw [q1, p3]; rfl
    have P0 : prioOf S 0 = 1 := by unfold prioOf; rw [p4]; rfl
    have P1 : prioOf S 1 = 2 := by unfold prioOf; rw [p4]; rfl
    have L0 : lowerV S 0 0 = y := by unfold lowerV; rw [if_pos ht0, P0, p4]; simp [lowL, mm1]; omega
    have L1 : lowerV S 1 0 = 0 := by unfold lowerV; rw [if_pos ht1, P1, p4]; simp [lowL]
    have R0 : rivL S [90, 190] 1 0 0 S.tasks = [] := by rw [p4]; simp [rivL]
    have R1 : rivL S [90, 190] 2 0 0 S.tasks = [⟨90, 100, x⟩] := by rw [p4]; simp [rivL, s0]
    have e0 := agent_yes (s := S) (bs := [90, 190]) (of := 0) (part := 1) ht0 hl (by decide) (by rw [p4]; show (1 : Int) < 2; decide) (by rw [q0])
    have e1 := agent_yes (s := S) (bs := [90, 190]) (of := 1) (part := 1) ht1 hl (by decide) (by rw [p4]; show (1 : Int) < 2; decide) (by rw [q1])
    have f0 : leastV S 0 1 = x + y := by unfold leastV; rw [q0, h0, L0]
    have f1 : leastV S 1 1 = y := by unfold leastV; rw [q1, h1, L1]; simp
    rw [f0, P0, h0, R0] at e0
    rw [f1, P1, h1, R1] at e1
    have x0 : fixO (winF (x + y) []) (x + y) = some (x + y) := fixO_at (Int.le_refl _) (by omega) (by unfold winF capV; simp only [workS]; omega) (fun u a b => by omega)
    unfold setV setK at e0 e1
    rw [x0] at e0
    refine ⟨?_, ?_, fun v hv => ?_⟩
    · unfold waitV; rw [if_pos hl, if_neg (by omega), if_pos (by omega)]; exact e0.1
    · unfold waitK; rw [if_pos hl, if_pos (by omega)]; exact e0.2
    · rw [hv] at e1
      refine ⟨?_, ?_⟩
      · unfold waitV; rw [if_pos hl, if_neg (by omega), if_pos (by omega)]; exact e1.1
      · unfold waitK; rw [if_pos hl, if_pos (by omega)]; exact e1.2
end Go.Proofs.Ytindcpgmfdkpcaa
set_option maxHeartbeats 4000000
set_option maxRecDepth 100000
namespace Go.Proofs.Ytindcpgmfdkpcaa.waitProtocols
open Go.ChangeShapes Go.WideShapes Go.ChangeAt Go.RowKit
open Go.ChangeMaps (open_string shut_string)
set_option linter.unusedVariables false

/-- THE WALK: the Go text returns true, and writes nothing that was there. -/
theorem walk (a0 : Int) (a1 : Int) (a2 : Int) (w : World) (w0 : (Lit.int .u8 a0).wf = true) (w1 : (Lit.int .u8 a1).wf = true) (w2 : (Lit.int .u8 a2).wf = true) :
    Calls Try.prog 7 #[.int .u8 a0, .int .u8 a1, .int .u8 a2] w fun e w' => e = .returned (.bool true) ∧ Below w.heap.size w w' := by
  obtain ⟨x, x0, x1, hx⟩ := mod_u8 50 w0 (by decide)
  obtain ⟨y, y0, y1, hy⟩ := mod_u8 50 w1 (by decide)
  obtain ⟨z, z0, z1, hz⟩ := mod_u8 3 w2 (by decide)
  have hb := Below.refl w.heap.size w
  have hx64 : I64 (x + 1) := by unfold I64; omega
  have hy64 : I64 (y + 1) := by unfold I64; omega
  have hz3 : z = 0 ∨ z = 1 ∨ z = 2 := by omega
  clear z0 z1
  rcases hz3 with rfl | rfl | rfl
  · go_enter Try.func7, Try.ntmps7
    go_wp2_with fail
    refine (known16_any _).mono ?_
    rintro e u1 ⟨rfl, hb2⟩
    replace hb := hb.trans (hb2.mono hb.size)
    clear hb2
    go_wp2_with fail
    refine (two16_any 1 1 (x + 1) 1 (y + 1) _ (by decide) (by decide) hx64 (by decide) hy64).mono ?_
    rintro e w1 ⟨⟨S, rfl, hs, hS⟩, hb2⟩
    replace hb := hb.trans (hb2.mono hb.size)
    clear hb2
    obtain ⟨v1, v2, v3, v4⟩ := (prot_vals hS (by decide) (by omega) (by omega)).1 rfl
    clear hS
    have sc := SetCells.new w1 S 26
    replace hb := hb.alloc hb.size (.cells #[.int .i64 S.proto, .slice S.ca S.cores.length S.cc, .slice S.ha S.homes.length S.hc, .slice S.ta S.tasks.length S.tc] 26)
    replace hs := hs.keep (Keeps.alloc w1 (.cells #[.int .i64 S.proto, .slice S.ca S.cores.length S.cc, .slice S.ha S.homes.length S.hc, .slice S.ta S.tasks.length S.tc] 26))
    have k1 := Keeps.alloc (w1.alloc (.cells #[.int .i64 S.proto, .slice S.ca S.cores.length S.cc, .slice S.ha S.homes.length S.hc, .slice S.ta S.tasks.length S.tc] 26)) (.cells #[.int .i64 90, .int .i64 190] 3)
    have HB := lit_ints (w := w1.alloc (.cells #[.int .i64 S.proto, .slice S.ca S.cores.length S.cc, .slice S.ha S.homes.length S.hc, .slice S.ta S.tasks.length S.tc] 26)) (g := w1.heap.size + 1) (zs := [90, 190]) (t := 3) (by simp) rfl (by decide) (by decide)
    replace sc := sc.keep k1
    replace hs := hs.keep k1
    replace hb := hb.alloc hb.size (.cells #[.int .i64 90, .int .i64 190] 3)
    clear k1
    go_wp2_with fail
    refine (wpart_any S [90, 190] _ 2 0 1 _ hs HB).mono ?_
    rintro e u2 ⟨rfl, hb2⟩
    replace hb := hb.trans (hb2.mono hb.size)
    replace sc := sc.keep (Keeps.of_below hb2)
    replace hs := hs.keep (Keeps.of_below hb2)
    replace HB := HB.keep (Keeps.of_below hb2)
    clear hb2
    try clear sc_0 sc_1 sc_2 sc_3
    have scx := sc
    obtain ⟨sc_0, sc_1, sc_2, sc_3⟩ := scx
    try dsimp only at sc_0 sc_1 sc_2 sc_3
    rw [v1, v2]
    go_wp2_with fail
    refine (wpart_any S [90, 190] _ 2 1 1 _ hs HB).mono ?_
    rintro e u3 ⟨rfl, hb2⟩
    replace hb := hb.trans (hb2.mono hb.size)
    clear hb2
    rw [v3, v4]
    clear v1 v2 v3 v4
    go_wp2_with fail
    go_ret
    exact ⟨rfl, hb⟩
  · go_enter Try.func7, Try.ntmps7
    go_wp2_with fail
    refine (known16_any _).mono ?_
    rintro e u1 ⟨rfl, hb2⟩
    replace hb := hb.trans (hb2.mono hb.size)
    clear hb2
    go_wp2_with fail
    refine (two16_any 2 1 (x + 1) 1 (y + 1) _ (by decide) (by decide) hx64 (by decide) hy64).mono ?_
    rintro e w1 ⟨⟨S, rfl, hs, hS⟩, hb2⟩
    replace hb := hb.trans (hb2.mono hb.size)
    clear hb2
    obtain ⟨v1, v2, v3⟩ := (prot_vals hS (by decide) (by omega) (by omega)).2.2 rfl
    clear hS
    have sc := SetCells.new w1 S 26
    replace hb := hb.alloc hb.size (.cells #[.int .i64 S.proto, .slice S.ca S.cores.length S.cc, .slice S.ha S.homes.length S.hc, .slice S.ta S.tasks.length S.tc] 26)
    replace hs := hs.keep (Keeps.alloc w1 (.cells #[.int .i64 S.proto, .slice S.ca S.cores.length S.cc, .slice S.ha S.homes.length S.hc, .slice S.ta S.tasks.length S.tc] 26))
    have k1 := Keeps.alloc (w1.alloc (.cells #[.int .i64 S.proto, .slice S.ca S.cores.length S.cc, .slice S.ha S.homes.length S.hc, .slice S.ta S.tasks.length S.tc] 26)) (.cells #[.int .i64 90, .int .i64 190] 3)
    have HB := lit_ints (w := w1.alloc (.cells #[.int .i64 S.proto, .slice S.ca S.cores.length S.cc, .slice S.ha S.homes.length S.hc, .slice S.ta S.tasks.length S.tc] 26)) (g := w1.heap.size + 1) (zs := [90, 190]) (t := 3) (by simp) rfl (by decide) (by decide)
    replace sc := sc.keep k1
    replace hs := hs.keep k1
    replace hb := hb.alloc hb.size (.cells #[.int .i64 90, .int .i64 190] 3)
    clear k1
    obtain ⟨V, HV⟩ : ∃ V, Hid (waitV S [90, 190] 1 1 = V) := ⟨_, hidp rfl⟩
    obtain ⟨K, HK⟩ : ∃ K, Hid (waitK S [90, 190] 1 1 = K) := ⟨_, hidp rfl⟩
    rw [HV.out, HK.out] at v3
    obtain ⟨F, HF⟩ : ∃ F, Hid (winF (y + 1) [⟨90, 100, x + 1⟩] = F) := ⟨_, hidp rfl⟩
    have Hm : Hid (∀ a b, a ≤ b → F a ≤ F b) := hidp (fun a b h => by rw [← HF.out]; exact winF_mono _ _ h)
    have HFu : Hid (∀ u, 1 ≤ u → u ≤ 3000 → F u = y + 1 + (x + 1) * ((u + 90 + 99) / 100)) := hidp (fun u h1 h2 => by rw [← HF.out]; exact prot_F (by omega) ⟨h1, h2⟩)
    rw [HF.out] at v3
    have V3 := hidp v3
    clear v3
    go_wp2_with fail
    refine (wpart_any S [90, 190] _ 2 0 1 _ hs HB).mono ?_
    rintro e u2 ⟨rfl, hb2⟩
    replace hb := hb.trans (hb2.mono hb.size)
    replace sc := sc.keep (Keeps.of_below hb2)
    replace hs := hs.keep (Keeps.of_below hb2)
    replace HB := HB.keep (Keeps.of_below hb2)
    clear hb2
    try clear sc_0 sc_1 sc_2 sc_3
    have scx := sc
    obtain ⟨sc_0, sc_1, sc_2, sc_3⟩ := scx
    try dsimp only at sc_0 sc_1 sc_2 sc_3
    rw [v1, v2]
    go_wp2_with fail
    refine (wpart_any S [90, 190] _ 2 1 1 _ hs HB).mono ?_
    rintro e u3 ⟨rfl, hb2⟩
    replace hb := hb.trans (hb2.mono hb.size)
    clear hb2
    rw [HV.out, HK.out]
    clear v1 v2 hs HB sc sc_0 sc_1 sc_2 sc_3
    have hstart : Hid (∀ u, y + 1 ≤ u → u < y + 1 + (x + 1) → F u ≠ u) ∧ Hid (y + 1 + (x + 1) ≤ F (y + 1 + (x + 1))) := by
      have h1 : y + 1 + (x + 1) ≤ F (y + 1) := by
        rw [HFu.out _ (by omega) (by omega)]
        have h2 : 1 ≤ (y + 1 + 90 + 99) / 100 := by omega
        have h3 : (x + 1) * 1 ≤ (x + 1) * ((y + 1 + 90 + 99) / 100) := Int.mul_le_mul_of_nonneg_left h2 (by omega)
        omega
      exact ⟨hidp (fun u a b => by have := Hm.out (y + 1) u a; omega), hidp (by have := Hm.out (y + 1) (y + 1 + (x + 1)) (by omega); omega)⟩
    obtain ⟨Hs1, Hs2⟩ := hstart
    go_wp2_with fail
    go_loopg [16] (3001 - (y + 1 + (x + 1))).toNat (fun g a wr => ∃ v : Int, v + g = 3001 ∧ (y + 1 ≤ v ∧ v ≤ 1700) ∧ a = .int .i64 v ∧ Hid (∀ u, y + 1 ≤ u → u < v → F u ≠ u) ∧ Hid (v ≤ F v) ∧ u3 = wr)
    case atStart => exact ⟨y + 1 + (x + 1), by omega, ⟨by omega, by omega⟩, by go_num, Hs1, Hs2, rfl⟩
    case round =>
      obtain ⟨v, hv, ⟨hv1, hv2⟩, rfl, Hn, Hle, rfl⟩ := hrel
      have hv3 : v ≤ 3000 := by omega
      obtain ⟨q, hq⟩ : ∃ q, (v + 90 + 99) / 100 = q := ⟨_, rfl⟩
      have hq0 : 0 ≤ q := by omega
      have hq1 : q ≤ 31 := by omega
      have hd : (v + 90 + 99).tdiv 100 = q := by rw [Int.tdiv_eq_ediv_of_nonneg (by omega), hq]
      obtain ⟨r, hr⟩ : ∃ r, (x + 1) * q = r := ⟨_, rfl⟩
      have hr0 : 0 ≤ r := by rw [← hr]; exact Int.mul_nonneg (by omega) hq0
      have hr1 : r ≤ 50 * 31 := by rw [← hr]; exact Int.mul_le_mul (by omega) hq1 hq0 (by omega)
      have HFv : Hid (F v = y + 1 + r) := hidp (by rw [HFu.out v (by omega) hv3, hq, hr])
      have hvF : v ≤ y + 1 + r := by have := Hle.out; rw [HFv.out] at this; exact this
      clear hq
      by_cases e : y + 1 + r = v
      · have e1 : (y + 1 + r != v) = false := by simpa using e
        obtain ⟨f1, f2⟩ := V3.out v (fixO_at hv1 hv3 (by rw [HFv.out]; exact e) Hn.out)
        subst f1
        subst f2
        clear e hvF
        go_wp2_with fail
        go_ret
        exact ⟨rfl, hb⟩
      · have e1 : (y + 1 + r != v) = true := by simpa using e
        have Hp : Hid (∀ u, y + 1 ≤ u → u < y + 1 + r → F u ≠ u) := hidp (by rw [← HFv.out]; exact fix_pass Hm.out Hn.out)
        have Hl : Hid (y + 1 + r ≤ F (y + 1 + r)) := hidp (by have := Hm.out v (y + 1 + r) hvF; rw [HFv.out] at this; exact this)
        have hlt : (3001 - (y + 1 + r)).toNat < gk := by omega
        clear hvF e
        go_wp2_with fail
        go_roundg (3001 - (y + 1 + r)).toNat
        case measure => omega
        case rel => exact ⟨y + 1 + r, by omega, ⟨by omega, by omega⟩, by go_num, Hp, Hl, rfl⟩
  · go_enter Try.func7, Try.ntmps7
    go_wp2_with fail
    refine (known16_any _).mono ?_
    rintro e u1 ⟨rfl, hb2⟩
    replace hb := hb.trans (hb2.mono hb.size)
    clear hb2
    go_wp2_with fail
    refine (two16_any 3 1 (x + 1) 1 (y + 1) _ (by decide) (by decide) hx64 (by decide) hy64).mono ?_
    rintro e w1 ⟨⟨S, rfl, hs, hS⟩, hb2⟩
    replace hb := hb.trans (hb2.mono hb.size)
    clear hb2
    obtain ⟨mm, hmm⟩ : ∃ mm, max (x + 1) (y + 1) = mm := ⟨_, rfl⟩
    have hm0 : 0 ≤ mm := by omega
    have hm1 : mm ≤ 50 := by omega
    obtain ⟨v1, v2, v3, v4⟩ := (prot_vals hS (by decide) (by omega) (by omega)).2.1 rfl
    rw [hmm] at v1 v3
    clear hS
    have sc := SetCells.new w1 S 26
    replace hb := hb.alloc hb.size (.cells #[.int .i64 S.proto, .slice S.ca S.cores.length S.cc, .slice S.ha S.homes.length S.hc, .slice S.ta S.tasks.length S.tc] 26)
    replace hs := hs.keep (Keeps.alloc w1 (.cells #[.int .i64 S.proto, .slice S.ca S.cores.length S.cc, .slice S.ha S.homes.length S.hc, .slice S.ta S.tasks.length S.tc] 26))
    have k1 := Keeps.alloc (w1.alloc (.cells #[.int .i64 S.proto, .slice S.ca S.cores.length S.cc, .slice S.ha S.homes.length S.hc, .slice S.ta S.tasks.length S.tc] 26)) (.cells #[.int .i64 90, .int .i64 190] 3)
    have HB := lit_ints (w := w1.alloc (.cells #[.int .i64 S.proto, .slice S.ca S.cores.length S.cc, .slice S.ha S.homes.length S.hc, .slice S.ta S.tasks.length S.tc] 26)) (g := w1.heap.size + 1) (zs := [90, 190]) (t := 3) (by simp) rfl (by decide) (by decide)
    replace sc := sc.keep k1
    replace hs := hs.keep k1
    replace hb := hb.alloc hb.size (.cells #[.int .i64 90, .int .i64 190] 3)
    clear k1
    go_wp2_with fail
    refine (wpart_any S [90, 190] _ 2 0 1 _ hs HB).mono ?_
    rintro e u2 ⟨rfl, hb2⟩
    replace hb := hb.trans (hb2.mono hb.size)
    replace sc := sc.keep (Keeps.of_below hb2)
    replace hs := hs.keep (Keeps.of_below hb2)
    replace HB := HB.keep (Keeps.of_below hb2)
    clear hb2
    try clear sc_0 sc_1 sc_2 sc_3
    have scx := sc
    obtain ⟨sc_0, sc_1, sc_2, sc_3⟩ := scx
    try dsimp only at sc_0 sc_1 sc_2 sc_3
    rw [v1, v2]
    go_wp2_with fail
    refine (wpart_any S [90, 190] _ 2 1 1 _ hs HB).mono ?_
    rintro e u3 ⟨rfl, hb2⟩
    replace hb := hb.trans (hb2.mono hb.size)
    clear hb2
    rw [v3, v4]
    clear v1 v2 v3 v4
    have Hmm := hidp hmm
    have hif : (if y + 1 < x + 1 then x + 1 else y + 1) = mm := by rw [← hmm]; split <;> omega
    clear hmm
    go_wp2_with fail
    go_ret
    exact ⟨rfl, hb⟩

theorem own : ownKnob Try.prog.godebug = none := by kernel_rfl
theorem laidOut : laidOutB Try.prog = true := by kernel_rfl

/-! THE ROW's STEP -/
set_option maxRecDepth 100000 in
theorem lifted (os : Os) (started : os.Started) (H : Type) (enc : TypeId × Value → H) :
    ReturnsInHanded {} Try.checked os 7 .any (Rows.waitProtocolsSpec.pre6 enc Try.prog Try.f7 Rows.waitProtocolsRow.domain false) (Rows.waitProtocolsSpec.post enc Try.prog Try.f7 false true false false) := by
  refine returnsInHanded_of_change (C := Try.checked) own started (by kernel_rfl) Try.func7
    (ChangeSpec.witness6 (enc := enc) (C := Try.checked) false ⟨#[], #[.int .u8 0, .int .u8 0, .int .u8 0], []⟩ 8 (by kernel_rfl) (by kernel_rfl) (by kernel_rfl) (by kernel_rfl)) ?_
  intro W base args ds gs before hval0 hW hcnd _
  have hval : ∀ (j : Nat) t v, Try.f7.params[j]? = some t → args[j]? = some v → Value.okWide Try.prog W .any base t v := hval0
  have hW' := hW
  obtain ⟨p, q, hA0, hV, rfl, hfz, hnd⟩ := hW
  have hA : DataW.TrodAll enc Try.prog W 0 (fun _ => true) true Try.f7.params.toList args.toList ds p := hA0
  rw [Try.params7] at hA hval
  obtain ⟨v0, vs0, d0, ds0, p0, q0, hargs, rfl, rfl, h0, r0⟩ := trodAll_cons hA
  obtain ⟨v1, vs1, d1, ds1, p1, q1, rfl, rfl, rfl, h1, r1⟩ := trodAll_cons r0
  obtain ⟨v2, vs2, d2, ds2, p2, q2, rfl, rfl, rfl, h2, r2⟩ := trodAll_cons r1
  obtain ⟨rfl, rfl, rfl⟩ := trodAll_nil r2
  obtain rfl : args = #[v0, v1, v2] := by cases args; simp_all
  obtain ⟨rfl, rfl⟩ := trodVars_none hV
  obtain ⟨a0, rfl, rfl, rfl, w0⟩ := open_int Try.underlying5 (hval 0 5 v0 rfl rfl) h0
  obtain ⟨a1, rfl, rfl, rfl, w1⟩ := open_int Try.underlying5 (hval 1 5 v1 rfl rfl) h1
  obtain ⟨a2, rfl, rfl, rfl, w2⟩ := open_int Try.underlying5 (hval 2 5 v2 rfl rfl) h2
  clear hA0 hval0
  refine (walk a0 a1 a2 W w0 w1 w2).mono fun e W' ⟨he, bel⟩ => ?_
  subst he
  exact ⟨_, rfl, _, _, _, [], _, [], hW', trodAll_mk1 (shut_bool Try.underlying4 _), (trodAll_cons_mk (shut_int Try.underlying5 w0) (trodAll_cons_mk (shut_int Try.underlying5 w1) (trodAll_cons_mk (shut_int Try.underlying5 w2) trodAll_mk0))), rfl, bel.frame _, fun h => by cases h⟩

theorem over : Rows.waitProtocolsRow.holds Try.pinned (OpenSpec.ofChange Rows.waitProtocolsSpec) :=
  OpenClaim.holds_of_wide 7 Try.f7 rfl rfl rfl rfl rfl rfl rfl ⟨rfl, rfl, rfl, rfl, rfl⟩ rfl rfl rfl rfl rfl (by kernel_rfl) Try.func7 (by kernel_rfl)
    (of_decide_eq_true (by kernel_rfl)) (by unfold Func.isWrapper; first | (rw [if_pos (by decide +kernel)]; kernel_rfl) | (rw [if_neg (by decide +kernel)]; exact ⟨rfl, rfl⟩))
    (fun os started H enc _ => lifted os started H enc)

/-- THE STATEMENT -/
theorem proved : Rows.WaitProtocolsSaid := over
#print axioms proved
end Go.Proofs.Ytindcpgmfdkpcaa.waitProtocols

