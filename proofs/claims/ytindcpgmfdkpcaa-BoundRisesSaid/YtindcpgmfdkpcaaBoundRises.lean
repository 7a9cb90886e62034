/- BoundRises: with greater bounds, a greater window what is told isn't less. No condition. -/
import Derived.Test.YtindcpgmfdkpcaaKnown17
import Derived.Test.YtindcpgmfdkpcaaFew17
import Derived.Test.YtindcpgmfdkpcaaBoundMono
import Derived.Test.YtindcpgmfdkpcaaRef11a
import Derived.Test.YtindcpgmfdkpcaaOk3
import Derived.StillTailTactics
set_option linter.unusedSimpArgs false
namespace Go.Proofs.Ytindcpgmfdkpcaa
theorem getD_map (n : Nat) (f : Nat → Int) (k : Nat) : ((List.range n).map f).getD k 0 = if k < n then f k else 0 := by
  by_cases h : k < n
  · simp [List.getD, h]
  · simp [List.getD, h]
end Go.Proofs.Ytindcpgmfdkpcaa
set_option maxHeartbeats 20000000
set_option maxRecDepth 100000
namespace Go.Proofs.Ytindcpgmfdkpcaa.boundRises
open Go.ChangeShapes Go.WideShapes Go.ChangeAt Go.RowKit
open Go.ChangeMaps (open_string shut_string)
set_option linter.unusedVariables false

/-- THE WALK: the Go text returns true, and writes nothing that was there. -/
theorem walk (s0 : SetR) (a1 : Option Addr) (len1 cap1 : Nat) (z1 : List Int) (a2 : Option Addr) (len2 cap2 : Nat) (z2 : List Int) (a3 : Int) (w : World) (w0 : SetOk w s0) (w1 : IsRow .u8 w a1 len1 cap1 z1) (w2 : IsRow .u8 w a2 len2 cap2 z2) (w3 : (Lit.int .u16 a3).wf = true) :
    Calls Try.prog 8 #[.agg #[.int .i64 s0.proto, .slice s0.ca s0.cores.length s0.cc, .slice s0.ha s0.homes.length s0.hc, .slice s0.ta s0.tasks.length s0.tc], .slice a1 len1 cap1, .slice a2 len2 cap2, .int .u16 a3] w fun e w' => e = .returned (.bool true) ∧ Below w.heap.size w w' := by
  have hb := (Below.refl w.heap.size w).alloc (Nat.le_refl _) (.cells #[.int .i64 s0.proto, .slice s0.ca s0.cores.length s0.cc, .slice s0.ha s0.homes.length s0.hc, .slice s0.ta s0.tasks.length s0.tc] 26)
  have sc := SetCells.new w s0 26
  have hs := w0.keep (Keeps.of_below hb)
  have HS := hidp w0
  obtain ⟨r1, r2, r3, r4⟩ := w1.row
  obtain ⟨q1, q2, q3, q4⟩ := w2.row
  obtain ⟨us, hus⟩ : ∃ l, z1.take len1 = l := ⟨_, rfl⟩
  obtain ⟨ms, hms⟩ : ∃ l, z2.take len2 = l := ⟨_, rfl⟩
  rw [hus] at r1 r2 r4
  rw [hms] at q1 q2 q4
  have HU := hidp r1
  have HM := hidp q1
  have Hul := hidp r2
  have Hml := hidp q2
  have HUb : Hid (∀ k, k < us.length → 0 ≤ us.getD k 0 ∧ us.getD k 0 ≤ 255) := hidp (fun k hk => u8_bd r4 k hk)
  have HMb : Hid (∀ k, k < ms.length → 0 ≤ ms.getD k 0 ∧ ms.getD k 0 ≤ 255) := hidp (fun k hk => u8_bd q4 k hk)
  have hw3 : 0 ≤ a3 ∧ a3 ≤ 65535 := by
    have := w3
    simp [Lit.wf, IntKind.min, IntKind.max, IntKind.signed, IntKind.bits] at this; omega
  obtain ⟨wd0, wd1⟩ := hw3
  have m1 : len1 ≤ maxLen := r3
  have m2 : len2 ≤ maxLen := q3
  have l3 : s0.tasks.length ≤ maxLen := Nat.le_trans w0.tasks.sl.2.1 w0.tasks.sl.2.2
  unfold maxLen at m1 m2 l3
  obtain ⟨i0, hi0, hy0, hy1, hy2⟩ := info_parts infoZ
  have HS1 : Hid (∀ u, Below w.heap.size w u → SetOk u s0) := hidp (fun u h => HS.out.keep (Keeps.of_below h))
  obtain ⟨Th, HTh⟩ : ∃ b, Hid (thereB s0 0 = b) := ⟨_, rfl⟩
  have Hn6 : Hid (Th = true → 1 ≤ s0.tasks.length ∧ s0.tasks.length ≤ 6) := hidp (fun h => by
    have := (thereB_true.1 (HTh.out.trans h)).1
    exact (Good.of this).ntasks)
  obtain ⟨BL, HBL⟩ : ∃ l, Hid ((List.range s0.tasks.length).map (fun k => us.getD k 0) = l) := ⟨_, hidp rfl⟩
  obtain ⟨CL, HCL⟩ : ∃ l, Hid ((List.range s0.tasks.length).map (fun k => us.getD k 0 + ms.getD k 0) = l) := ⟨_, hidp rfl⟩
  have HBl : Hid (BL.length = s0.tasks.length) := hidp (by rw [← HBL.out]; simp)
  have HCl : Hid (CL.length = s0.tasks.length) := hidp (by rw [← HCL.out]; simp)
  have Hmono : Hid (s0.tasks.length ≤ us.length → s0.tasks.length ≤ ms.length → ∀ i : Nat, (nextK s0 CL i = true → nextK s0 BL i = true ∧ nextV s0 BL i ≤ nextV s0 CL i) ∧ othersV s0 BL i a3 ≤ othersV s0 CL i (a3 + 3) ∧ nextK s0 BL i = waitsK s0 BL i ∧ (nextK s0 BL i = true → ownV s0 BL i ≤ nextV s0 BL i)) := hidp (fun hu hm i => by
    have hle : ∀ k, BL.getD k 0 ≤ CL.getD k 0 := fun k => by
      rw [← HBL.out, ← HCL.out, getD_map, getD_map]
      split
      · rename_i h; have := HMb.out k (by omega); omega
      · omega
    have hll : CL.length = BL.length := by rw [HBl.out, HCl.out]
    have n1 : nnB BL = true := nn_yes (fun k hk => by
      rw [HBl.out] at hk; rw [← HBL.out, getD_map, if_pos hk]; exact (HUb.out k (by omega)).1)
    have n2 : nnB CL = true := nn_yes (fun k hk => by
      rw [HCl.out] at hk; rw [← HCL.out, getD_map, if_pos hk]; have := (HUb.out k (by omega)).1; have := (HMb.out k (by omega)).1; omega)
    refine ⟨fun h => next_rises hle hll n1 n2 h, others_rises hle hll n1 n2 (by omega), ?_, next_own⟩
    unfold nextK; rw [HBl.out]; simp)
  have HBI : Hid (s0.tasks.length ≤ us.length → ∀ n ∈ BL, I64 n) := hidp (fun hu n hn => by
    rw [← HBL.out] at hn
    obtain ⟨k, hk, rfl⟩ := List.mem_map.1 hn
    have := HUb.out k (by have := List.mem_range.1 hk; omega)
    unfold I64; omega)
  have HCI : Hid (s0.tasks.length ≤ us.length → s0.tasks.length ≤ ms.length → ∀ n ∈ CL, I64 n) := hidp (fun hu hm n hn => by
    rw [← HCL.out] at hn
    obtain ⟨k, hk, rfl⟩ := List.mem_map.1 hn
    have := HUb.out k (by have := List.mem_range.1 hk; omega)
    have := HMb.out k (by have := List.mem_range.1 hk; omega)
    unfold I64; omega)
  obtain ⟨NB, HNB⟩ : ∃ f : Nat → Int, Hid (∀ i : Nat, nextV s0 BL i = f i) := ⟨fun i => nextV s0 BL i, hidp (fun _ => rfl)⟩
  obtain ⟨NC, HNC⟩ : ∃ f : Nat → Int, Hid (∀ i : Nat, nextV s0 CL i = f i) := ⟨fun i => nextV s0 CL i, hidp (fun _ => rfl)⟩
  obtain ⟨KB, HKB⟩ : ∃ f : Nat → Bool, Hid (∀ i : Nat, nextK s0 BL i = f i) := ⟨fun i => nextK s0 BL i, hidp (fun _ => rfl)⟩
  obtain ⟨KC, HKC⟩ : ∃ f : Nat → Bool, Hid (∀ i : Nat, nextK s0 CL i = f i) := ⟨fun i => nextK s0 CL i, hidp (fun _ => rfl)⟩
  obtain ⟨OB, HOB⟩ : ∃ f : Nat → Int, Hid (∀ i : Nat, ownV s0 BL i = f i) := ⟨fun i => ownV s0 BL i, hidp (fun _ => rfl)⟩
  obtain ⟨WB, HWB⟩ : ∃ f : Nat → Bool, Hid (∀ i : Nat, waitsK s0 BL i = f i) := ⟨fun i => waitsK s0 BL i, hidp (fun _ => rfl)⟩
  obtain ⟨XB, HXB⟩ : ∃ f : Nat → Int, Hid (∀ i : Nat, othersV s0 BL i a3 = f i) := ⟨fun i => othersV s0 BL i a3, hidp (fun _ => rfl)⟩
  obtain ⟨XC, HXC⟩ : ∃ f : Nat → Int, Hid (∀ i : Nat, othersV s0 CL i (a3 + 3) = f i) := ⟨fun i => othersV s0 CL i (a3 + 3), hidp (fun _ => rfl)⟩
  have HM2 : Hid (s0.tasks.length ≤ us.length → s0.tasks.length ≤ ms.length → ∀ i : Nat, (KC i = true → KB i = true ∧ NB i ≤ NC i) ∧ XB i ≤ XC i ∧ KB i = WB i ∧ (KB i = true → OB i ≤ NB i)) := hidp (fun hu hm i => by
    have h := Hmono.out hu hm i
    rw [HNB.out, HNC.out, HKB.out, HKC.out, HOB.out, HWB.out, HXB.out, HXC.out] at h
    exact h)
  have hwd64 : I64 a3 := by unfold I64; omega
  have hwd64' : I64 (a3 + 3) := by unfold I64; omega
  clear w0 w1 w2 w3 r1 r2 r3 r4 q1 q2 q3 q4 hus hms Hmono
  obtain ⟨S, hSS⟩ : ∃ S : SetR, S = s0 := ⟨s0, rfl⟩
  have HSS := hidp hSS
  clear hSS
  obtain ⟨proto, ca, cc, cores, ha, hc, homes, ta, tc, tasks⟩ := s0
  dsimp only at l3 hb sc hs HS1 Hn6 HBL HCL HBl HCl HM2 HBI HCI ⊢
  go_enter Try.func8, Try.ntmps8
  go_wp2_with fail
  refine (known17_any _).mono ?_
  rintro e u1 ⟨rfl, hb2⟩
  replace hb := hb.trans (hb2.mono hb.size)
  replace sc := sc.keep (Keeps.of_below hb2)
  replace hs := hs.keep (Keeps.of_below hb2)
  clear hb2
  try clear sc_0 sc_1 sc_2 sc_3
  have scx := sc
  obtain ⟨sc_0, sc_1, sc_2, sc_3⟩ := scx
  try dsimp only at sc_0 sc_1 sc_2 sc_3
  go_wp2_with fail
  refine (few17_any _ _ hs).mono ?_
  rintro e u2 ⟨⟨b, rfl⟩, hb2⟩
  replace hb := hb.trans (hb2.mono hb.size)
  replace sc := sc.keep (Keeps.of_below hb2)
  replace hs := hs.keep (Keeps.of_below hb2)
  clear hb2
  try clear sc_0 sc_1 sc_2 sc_3
  have scx := sc
  obtain ⟨sc_0, sc_1, sc_2, sc_3⟩ := scx
  try dsimp only at sc_0 sc_1 sc_2 sc_3
  cases b
  · go_wp2_with fail
    go_ret
    exact ⟨rfl, hb⟩
  go_wp2_with fail
  refine (rthere_any _ 0 _ hs).mono ?_
  rintro e u3 ⟨rfl, hb2⟩
  replace hb := hb.trans (hb2.mono hb.size)
  replace sc := sc.keep (Keeps.of_below hb2)
  replace hs := hs.keep (Keeps.of_below hb2)
  clear hb2
  try clear sc_0 sc_1 sc_2 sc_3
  have scx := sc
  obtain ⟨sc_0, sc_1, sc_2, sc_3⟩ := scx
  try dsimp only at sc_0 sc_1 sc_2 sc_3
  rw [HTh.out]
  cases Th
  · go_wp2_with fail
    go_ret
    exact ⟨rfl, hb⟩
  obtain ⟨n1, n6⟩ := Hn6.out rfl
  by_cases f1 : (len1 : Int) < (tasks.length : Int)
  · go_wp2_with fail
    go_ret
    exact ⟨rfl, hb⟩
  by_cases f2 : (len2 : Int) < (tasks.length : Int)
  · go_wp2_with fail
    go_ret
    exact ⟨rfl, hb⟩
  have g1 : decide (len1 < tasks.length) = false := by simp; omega
  have g2 : decide (len2 < tasks.length) = false := by simp; omega
  have hU : tasks.length ≤ us.length := by have := Hul.out; omega
  have hM : tasks.length ≤ ms.length := by have := Hml.out; omega
  have HM3 := hidp (HM2.out hU hM)
  have HBi := hidp (HBI.out hU)
  have HCi := hidp (HCI.out hU hM)
  clear HM2 HBI HCI
  go_wp2_with fail
  have hz3 : w.heap.size + 1 ≤ u3.heap.size := cell_lt sc_0
  clear sc_0 sc_1 sc_2 sc_3
  go_loopg [9, 10, 11] tasks.length (fun gg x9 x10 i wr => ∃ (k c d : Nat) (A C : Option Addr), k + gg = tasks.length ∧ i = .int .i64 k ∧ x9 = .slice A k c ∧ x10 = .slice C k d ∧ OwnN (w.heap.size + 1) wr A k c ((List.range k).map (fun k => us.getD k 0)) ∧ OwnN (w.heap.size + 1) wr C k d ((List.range k).map (fun k => us.getD k 0 + ms.getD k 0)) ∧ (∀ j ∈ fp A, j ∉ fp C) ∧ SetCells wr w.heap.size ⟨proto, ca, cc, cores, ha, hc, homes, ta, tc, tasks⟩ ∧ Below w.heap.size w wr ∧ w.heap.size + 1 ≤ wr.heap.size)
  case atStart => exact ⟨0, 0, 0, none, none, by omega, rfl, rfl, rfl, OwnN.none _ _, OwnN.none _ _, by simp [fp], sc, hb, hz3⟩
  case round =>
    clear sc hb hs
    obtain ⟨k, c, d, A, C, hk, rfl, rfl, rfl, oA, oC, hdis, sc, hw, hz⟩ := hrel
    obtain ⟨sc_0, sc_1, sc_2, sc_3⟩ := id sc
    dsimp only at sc_0 sc_1 sc_2 sc_3
    by_cases hlt : k < tasks.length
    · have hku : k < us.length := by omega
      have hkm : k < ms.length := by omega
      obtain ⟨gu, ou, hAU, hcu⟩ := HU.out.resolve_left (by intro e; rw [e] at hku; simp at hku)
      obtain ⟨gm, om, hAM, hcm⟩ := HM.out.resolve_left (by intro e; rw [e] at hkm; simp at hkm)
      subst hAU
      subst hAM
      obtain ⟨x, Hx⟩ : ∃ x, Hid (us.getD k 0 = x) := ⟨_, rfl⟩
      obtain ⟨y, Hy⟩ : ∃ y, Hid (ms.getD k 0 = y) := ⟨_, rfl⟩
      have hx := HUb.out k hku
      have hy := HMb.out k hkm
      rw [Hx.out] at hx
      rw [Hy.out] at hy
      obtain ⟨x0, x1⟩ := hx
      obtain ⟨y0, y1⟩ := hy
      have Hcu := hidp (Hx.out ▸ hcu k hku)
      have Hcm := hidp (Hy.out ▸ hcm k hkm)
      have cu := Keeps.of_below hw _ _ Hcu.out
      have k1I : (k : Int) < (len1 : Int) := by omega
      have k2I : (k : Int) < (len2 : Int) := by omega
      have N2 : Hid (k + 1 ≤ maxLen) := hidp (by unfold maxLen; omega)
      have T2 : Hid ((k + 1) * 8 ≤ 140737488355328) := hidp (by omega)
      have hown4 := oA.turned ((Turned.refl [] wr).alloc (.cells #[.int .i64 x] 3)) (by simp)
      have oC4 := oC.turned ((Turned.refl [] wr).alloc (.cells #[.int .i64 x] 3)) (by simp)
      have S2 := hidp (Lies.newCells' wr [.int .i64 x] 3)
      have Z2 : Hid (w.heap.size + 1 ≤ (wr.alloc (.cells #[.int .i64 x] 3)).heap.size) := hidp (Nat.le_trans hz (by simp))
      have sc4 := sc.keep (Keeps.alloc _ (.cells #[.int .i64 x] 3))
      have hw4 := hw.alloc hw.size (.cells #[.int .i64 x] 3)
      have O2 := hidp (ints_one x)
      have HfA := hidp (own_fp hown4.own)
      have HfC := hidp (own_fp oC4.own)
      have Hdis := hidp hdis
      clear hcu hcm hdis oA oC hz hw sc
      go_wp2_with (at_builtin; refine wpList_app2 _ rfl (.tmp 53) (.tmp 59) 23 rfl (w.heap.size + 1) 3 i0 _ 1 8 Try.underlying23 hi0 hy0 hy1 hy2 rfl (by decide) A k c _ rfl hown4.own _ _ 1 1 [.int .i64 x] rfl (by simp) rfl S2.out O2.out N2.out T2.out Z2.out ?_; intro A' c' w5 happ)
      have hw5 := hw4.trans (happ.turned.below hw4.size (fun j hj => by have := (HfA.out _ hj).1; omega))
      have oA5 := hown4.app (ps := [x]) happ rfl
      have oC5 := oC4.turned happ.turned (fun j hj hj2 => Hdis.out j hj2 hj)
      have sc5 := sc4.turned happ.turned (fun hf => by have := (HfA.out _ hf).1; omega)
      have hz5 := Nat.le_trans Z2.out happ.turned.size
      have hdis5 : ∀ j ∈ fp A', j ∉ fp C := fun j hj hj2 => by
        rcases happ.fps j hj with h | h
        · exact Hdis.out j h hj2
        · have := (HfC.out j hj2).2; omega
      have cu5 := Keeps.of_below hw5 _ _ Hcu.out
      have cm5 := Keeps.of_below hw5 _ _ Hcm.out
      have hwx : IntKind.i64.wrap x = x := IntWalk.i64_in _ (by omega)
      have hwy : IntKind.i64.wrap y = y := IntWalk.i64_in _ (by omega)
      have hwr : IntKind.i64.wrap (x + y) = x + y := IntWalk.i64_in _ (by omega)
      clear happ hown4 oC4 S2 O2 sc4 hw4 Z2 cu sc_0 sc_1 sc_2 sc_3
      have Hdis5 := hidp hdis5
      have HfA5 := hidp (own_fp oA5.own)
      have HfC5 := hidp (own_fp oC5.own)
      clear hdis5
      have hs := And.intro (Keeps.drew _ _ _ cu5) (Keeps.drew _ _ _ cm5)
      have oA6 := oA5.turned ((Turned.refl [] w5).drewN 1) (by simp)
      have oC6 := oC5.turned ((Turned.refl [] w5).drewN 1) (by simp)
      have sc6 := sc5.keep (Keeps.drew _)
      have hw6 := hw5.drew
      have hz6 : w.heap.size + 1 ≤ w5.drew.heap.size := hz5
      clear oA5 oC5 sc5 hz5 hw5 cu5 cm5
      refine wp_region_held_drew (S := fun w' => w'.cell? ⟨gu, ou + k, none⟩ = some (.int .u8 x) ∧ w'.cell? ⟨gm, om + k, none⟩ = some (.int .u8 y)) (by kernel_rfl) ?_ (fun hHeld => ?_)
      · exact hs
      change OwnN _ w5.drew _ _ _ _ at oA6
      change OwnN _ w5.drew _ _ _ _ at oC6
      generalize w5.drew = u5 at *
      refine wpAnyH_take (i := 0) (v := ?_) rfl (by kernel_rfl) (by kernel_rfl) (by kernel_rfl) (fun _ _ _ h => h) (Or.inl ⟨by rfl, ?_⟩) (by assumption) ?_
      rotate_left 1
      · ((intro w hSw; (try dsimp only at hSw); go_simp); (try with_reducible rfl))
      simp only [Act.put, List.setIfInBounds_toArray, List.set_cons_zero, List.set_cons_succ, List.getElem_toArray, List.getElem_cons_zero, List.getElem_cons_succ]
      refine wpAnyH_take (i := 1) (v := ?_) rfl (by kernel_rfl) (by kernel_rfl) (by kernel_rfl) (fun _ _ _ h => h) (Or.inl ⟨by rfl, ?_⟩) (by assumption) ?_
      rotate_left 1
      · ((intro w hSw; (try dsimp only at hSw); go_simp); (try with_reducible rfl))
      simp only [Act.put, List.setIfInBounds_toArray, List.set_cons_zero, List.set_cons_succ, List.getElem_toArray, List.getElem_cons_zero, List.getElem_cons_succ]
      refine wpAnyH_take (i := 2) (v := ?_) rfl (by kernel_rfl) (by kernel_rfl) (by kernel_rfl) (fun _ _ _ h => h) (Or.inl ⟨by rfl, ?_⟩) (by assumption) ?_
      rotate_left 1
      · ((intro w hSw; (try dsimp only at hSw); go_simp); (try with_reducible rfl))
      simp only [Act.put, List.setIfInBounds_toArray, List.set_cons_zero, List.set_cons_succ, List.getElem_toArray, List.getElem_cons_zero, List.getElem_cons_succ]
      refine wpAnyH_take (i := 3) (v := ?_) rfl (by kernel_rfl) (by kernel_rfl) (by kernel_rfl) (fun _ _ _ h => h) (Or.inl ⟨by rfl, ?_⟩) (by assumption) ?_
      rotate_left 1
      · ((intro w hSw; (try dsimp only at hSw); go_simp); (try with_reducible rfl))
      simp only [Act.put, List.setIfInBounds_toArray, List.set_cons_zero, List.set_cons_succ, List.getElem_toArray, List.getElem_cons_zero, List.getElem_cons_succ]
      refine wpAnyH_take (i := 4) (v := ?_) rfl (by kernel_rfl) (by kernel_rfl) (by kernel_rfl) (fun _ _ _ h => h) (Or.inl ⟨by rfl, ?_⟩) (by assumption) ?_
      rotate_left 1
      · ((intro w hSw; (try dsimp only at hSw); go_simp); (try with_reducible rfl))
      simp only [Act.put, List.setIfInBounds_toArray, List.set_cons_zero, List.set_cons_succ, List.getElem_toArray, List.getElem_cons_zero, List.getElem_cons_succ]
      refine wpAnyH_take (i := 5) (v := ?_) rfl (by kernel_rfl) (by kernel_rfl) (by kernel_rfl) (fun _ _ _ h => h) (Or.inl ⟨by rfl, ?_⟩) (by assumption) ?_
      rotate_left 1
      · ((intro w hSw; (try dsimp only at hSw); go_simp); (try with_reducible rfl))
      simp only [Act.put, List.setIfInBounds_toArray, List.set_cons_zero, List.set_cons_succ, List.getElem_toArray, List.getElem_cons_zero, List.getElem_cons_succ]
      refine wpAnyH_take (i := 6) (v := ?_) rfl (by kernel_rfl) (by kernel_rfl) (by kernel_rfl) (fun _ _ _ h => h) (Or.inl ⟨by rfl, ?_⟩) (by assumption) ?_
      rotate_left 1
      · ((intro w hSw; (try dsimp only at hSw); go_simp); (try with_reducible rfl))
      simp only [Act.put, List.setIfInBounds_toArray, List.set_cons_zero, List.set_cons_succ, List.getElem_toArray, List.getElem_cons_zero, List.getElem_cons_succ]
      refine wpAnyH_take (i := 7) (v := ?_) rfl (by kernel_rfl) (by kernel_rfl) (by kernel_rfl) (fun _ _ _ h => h) (Or.inl ⟨by rfl, ?_⟩) (by assumption) ?_
      rotate_left 1
      · ((intro w hSw; (try dsimp only at hSw); go_simp); (try with_reducible rfl))
      simp only [Act.put, List.setIfInBounds_toArray, List.set_cons_zero, List.set_cons_succ, List.getElem_toArray, List.getElem_cons_zero, List.getElem_cons_succ]
      refine wpAnyH_take (i := 8) (v := ?_) rfl (by kernel_rfl) (by kernel_rfl) (by kernel_rfl) (fun _ _ _ h => h) (Or.inl ⟨by rfl, ?_⟩) (by assumption) ?_
      rotate_left 1
      · ((intro w hSw; (try dsimp only at hSw); go_simp); (try with_reducible rfl))
      simp only [Act.put, List.setIfInBounds_toArray, List.set_cons_zero, List.set_cons_succ, List.getElem_toArray, List.getElem_cons_zero, List.getElem_cons_succ]
      refine wpAnyH_take (i := 9) (v := ?_) rfl (by kernel_rfl) (by kernel_rfl) (by kernel_rfl) (fun _ _ _ h => h) (Or.inl ⟨by rfl, ?_⟩) (by assumption) ?_
      rotate_left 1
      · ((intro w hSw; (try dsimp only at hSw); go_simp); (try with_reducible rfl))
      simp only [Act.put, List.setIfInBounds_toArray, List.set_cons_zero, List.set_cons_succ, List.getElem_toArray, List.getElem_cons_zero, List.getElem_cons_succ]
      refine wpAnyH_take (i := 10) (v := ?_) rfl (by kernel_rfl) (by kernel_rfl) (by kernel_rfl) (fun _ _ _ h => h) (Or.inl ⟨by rfl, ?_⟩) (by assumption) ?_
      rotate_left 1
      · ((intro w hSw; (try dsimp only at hSw); go_simp); (try with_reducible rfl))
      simp only [Act.put, List.setIfInBounds_toArray, List.set_cons_zero, List.set_cons_succ, List.getElem_toArray, List.getElem_cons_zero, List.getElem_cons_succ]
      refine wpAnyH_take (i := 11) (v := ?_) rfl (by kernel_rfl) (by kernel_rfl) (by kernel_rfl) (fun _ _ _ h => h) (Or.inl ⟨by rfl, ?_⟩) (by assumption) ?_
      rotate_left 1
      · ((intro w hSw; (try dsimp only at hSw); go_simp); (try with_reducible rfl))
      simp only [Act.put, List.setIfInBounds_toArray, List.set_cons_zero, List.set_cons_succ, List.getElem_toArray, List.getElem_cons_zero, List.getElem_cons_succ]
      refine wpAnyH_ready (rs := [12]) (by kernel_rfl) (by simp) ?_
      refine AllReadyH.cons rfl (fun K hK => ?_) AllReadyH.nil
      go_simp
      have k4 := Keeps.alloc u5 (.cells #[.int .i64 (x + y)] 3)
      have hs4 := And.intro (k4 _ _ hs.1) (k4 _ _ hs.2)
      have oA7 := oA6.turned ((Turned.refl [] u5).alloc (.cells #[.int .i64 (x + y)] 3)) (by simp)
      have oC7 := oC6.turned ((Turned.refl [] u5).alloc (.cells #[.int .i64 (x + y)] 3)) (by simp)
      have S2 := hidp (Lies.newCells' u5 [.int .i64 (x + y)] 3)
      have Z2 : Hid (w.heap.size + 1 ≤ (u5.alloc (.cells #[.int .i64 (x + y)] 3)).heap.size) := hidp (Nat.le_trans hz6 (by simp))
      have sc7 := sc6.keep k4
      have hw7 := hw6.alloc hw6.size (.cells #[.int .i64 (x + y)] 3)
      clear hHeld k4 oA6 oC6 sc6 hw6 hz6
      refine hK.out _ _ ?_ (fun hHeld => ?_)
      · exact hs4
      clear hK K
      try simp only [Act.put, List.setIfInBounds_toArray, List.set_cons_zero, List.set_cons_succ, List.getElem_toArray, List.getElem_cons_zero, List.getElem_cons_succ]
      have O2 := hidp (ints_one (x + y))
      have HfA7 := hidp (own_fp oA7.own)
      have HfC7 := hidp (own_fp oC7.own)
      have Q2 : Hid ((some (⟨u5.heap.size, 0, none⟩ : Addr)) = none → 1 = 0 ∧ 1 = 0) := hidp (fun e => by cases e)
      have L2 : Hid (([x + y].map (Value.int .i64)).length = 1 * 1) := hidp rfl
      refine wpAnyH_ready (rs := [13]) (by kernel_rfl) (by simp) ?_
      refine AllReadyH.cons rfl (fun K hK => ?_) AllReadyH.nil
      refine step_app2 (u5.alloc (.cells #[.int .i64 (x + y)] 3)) rfl (.tmp 61) (.tmp 73) 23 rfl (w.heap.size + 1) 3 i0 _ 1 8 Try.underlying23 hi0 hy0 hy1 hy2 rfl (by decide) C k d _ rfl oC7.own _ _ 1 1 [.int .i64 (x + y)] rfl Q2.out L2.out S2.out O2.out N2.out T2.out Z2.out ?_
      intro C' d' w8 happ
      have sc8 := sc7.turned happ.turned (fun hf => by have := (HfC7.out _ hf).1; omega)
      have hw8 := hw7.trans (happ.turned.below hw7.size (fun j hj => by have := (HfC7.out _ hj).1; omega))
      have hz8 := Nat.le_trans Z2.out happ.turned.size
      have oA8 := oA7.turned happ.turned (fun j hj hj2 => Hdis5.out j hj hj2)
      have oC8 := oC7.app (ps := [x + y]) happ rfl
      have hdis8 : ∀ j ∈ fp A', j ∉ fp C' := fun j hj hj2 => by
        rcases happ.fps j hj2 with h | h
        · exact Hdis5.out j hj h
        · have := (HfA7.out j hj).2; omega
      have Hd8 := hidp hdis8
      have hs8 := And.intro (Keeps.of_below hw8 _ _ Hcu.out) (Keeps.of_below hw8 _ _ Hcm.out)
      clear hHeld hs hs4 hdis8 happ oA7 oC7 sc7 hw7 Z2 S2
      refine hK.out _ _ ?_ (fun hHeld => ?_)
      · exact hs8
      clear hK K
      try simp only [Act.put, List.setIfInBounds_toArray, List.set_cons_zero, List.set_cons_succ, List.getElem_toArray, List.getElem_cons_zero, List.getElem_cons_succ]
      refine wpAnyH_take (i := 14) (v := ?_) rfl (by kernel_rfl) (by kernel_rfl) (by kernel_rfl) (fun _ _ _ h => h) (Or.inl ⟨by rfl, ?_⟩) (by assumption) ?_
      rotate_left 1
      · ((intro w hSw; (try dsimp only at hSw); go_simp); (try with_reducible rfl))
      simp only [Act.put, List.setIfInBounds_toArray, List.set_cons_zero, List.set_cons_succ, List.getElem_toArray, List.getElem_cons_zero, List.getElem_cons_succ]
      refine wpAnyH_done (by kernel_rfl) ?_ _
      clear hHeld hs8 hwx hwy hwr
      go_wp2_with fail
      go_roundg (gk - 1)
      case measure => omega
      case rel => exact ⟨k + 1, c', d', A', C', by omega, by go_num, rfl, rfl, by rw [range_snoc, Hx.out]; exact oA8, by rw [range_snoc, Hx.out, Hy.out]; exact oC8, Hd8.out, sc8, hw8, hz8⟩
    · obtain rfl : k = tasks.length := by omega
      rw [HBL.out] at oA
      rw [HCL.out] at oC
      have HB := oA.ok HBi.out
      have HC := oC.ok HCi.out
      have eB := oA.len
      have eC := oC.len
      have EB := hidp eB
      have EC := hidp eC
      clear oA oC hdis hz eB eC
      go_wp2_with fail
      clear sc_0 sc_1 sc_2 sc_3
      go_loopg [13] tasks.length (fun gg i w8 => ∃ k : Nat, k + gg = tasks.length ∧ i = .int .i64 k ∧ IntsOk w8 A c BL ∧ IntsOk w8 C d CL ∧ SetCells w8 w.heap.size ⟨proto, ca, cc, cores, ha, hc, homes, ta, tc, tasks⟩ ∧ Below w.heap.size w w8)
      case atStart => exact ⟨0, by omega, rfl, HB, HC, sc, hw⟩
      case round =>
        clear HB HC sc hw
        obtain ⟨k, hk2, rfl, HB, HC, sc, hb⟩ := hrel
        obtain ⟨sc_0, sc_1, sc_2, sc_3⟩ := id sc
        dsimp only at sc_0 sc_1 sc_2 sc_3
        by_cases hlt : k < tasks.length
        · obtain ⟨m1', m2', m3', m4'⟩ := HM3.out k
          obtain ⟨nb, Hnb⟩ : ∃ x, Hid (NB k = x) := ⟨_, hidp rfl⟩
          obtain ⟨nc, Hnc⟩ : ∃ x, Hid (NC k = x) := ⟨_, hidp rfl⟩
          obtain ⟨kb, Hkb⟩ : ∃ x, Hid (KB k = x) := ⟨_, hidp rfl⟩
          obtain ⟨kc, Hkc⟩ : ∃ x, Hid (KC k = x) := ⟨_, hidp rfl⟩
          obtain ⟨ob, Hob⟩ : ∃ x, Hid (OB k = x) := ⟨_, hidp rfl⟩
          obtain ⟨xb, Hxb⟩ : ∃ x, Hid (XB k = x) := ⟨_, hidp rfl⟩
          obtain ⟨xc, Hxc⟩ : ∃ x, Hid (XC k = x) := ⟨_, hidp rfl⟩
          rw [Hnb.out, Hnc.out, Hkb.out, Hkc.out] at m1'
          rw [Hxb.out, Hxc.out] at m2'
          rw [Hkb.out] at m3'
          rw [Hkb.out, Hob.out, Hnb.out] at m4'
          have Hwb : Hid (WB k = kb) := hidp m3'.symm
          have hcase : (kc = true ∧ kb = true) ∨ (kc = false ∧ kb = true) ∨ (kc = false ∧ kb = false) := by
            cases kc with
            | true => exact .inl ⟨rfl, (m1' rfl).1⟩
            | false => cases kb with
              | true => exact .inr (.inl ⟨rfl, rfl⟩)
              | false => exact .inr (.inr ⟨rfl, rfl⟩)
          have dx : decide (xc < xb) = false := by simp; omega
          have HN1 := next_any ⟨proto, ca, cc, cores, ha, hc, homes, ta, tc, tasks⟩ BL A c k
          rw [EB.out.symm] at HN1
          have HN2 := next_any ⟨proto, ca, cc, cores, ha, hc, homes, ta, tc, tasks⟩ CL C d k
          rw [EC.out.symm] at HN2
          have HO1 := own_any ⟨proto, ca, cc, cores, ha, hc, homes, ta, tc, tasks⟩ BL A c k
          rw [EB.out.symm] at HO1
          have HX1 := others17_any ⟨proto, ca, cc, cores, ha, hc, homes, ta, tc, tasks⟩ BL A c k a3
          rw [EB.out.symm, HXB.out, Hxb.out] at HX1
          have HX2 := others17_any ⟨proto, ca, cc, cores, ha, hc, homes, ta, tc, tasks⟩ CL C d k (a3 + 3)
          rw [EC.out.symm, HXC.out, Hxc.out] at HX2
          have hX1 := hidp HX1
          have hX2 := hidp HX2
          clear m2' m3' HX1 HX2
          have hwr3 : IntKind.i64.wrap (a3 + 3) = a3 + 3 := IntWalk.i64_in _ (by omega)
          go_wp2_with fail
          refine (HN1 _ (HS1.out _ hb) HB).mono ?_
          rintro e u4 ⟨rfl, hb2⟩
          replace hb := hb.trans (hb2.mono hb.size)
          replace sc := sc.keep (Keeps.of_below hb2)
          replace HB := HB.keep (Keeps.of_below hb2)
          replace HC := HC.keep (Keeps.of_below hb2)
          clear hb2
          try clear sc_0 sc_1 sc_2 sc_3
          have scx := sc
          obtain ⟨sc_0, sc_1, sc_2, sc_3⟩ := scx
          try dsimp only at sc_0 sc_1 sc_2 sc_3
          rw [HNB.out, HKB.out, Hnb.out, Hkb.out]
          go_wp2_with fail
          refine (HN2 _ (HS1.out _ hb) HC).mono ?_
          rintro e u5 ⟨rfl, hb2⟩
          replace hb := hb.trans (hb2.mono hb.size)
          replace sc := sc.keep (Keeps.of_below hb2)
          replace HB := HB.keep (Keeps.of_below hb2)
          replace HC := HC.keep (Keeps.of_below hb2)
          clear hb2
          try clear sc_0 sc_1 sc_2 sc_3
          have scx := sc
          obtain ⟨sc_0, sc_1, sc_2, sc_3⟩ := scx
          try dsimp only at sc_0 sc_1 sc_2 sc_3
          rw [HNC.out, HKC.out, Hnc.out, Hkc.out]
          go_wp2_with fail
          refine (HO1 _ (HS1.out _ hb) HB).mono ?_
          rintro e u6 ⟨rfl, hb2⟩
          replace hb := hb.trans (hb2.mono hb.size)
          replace sc := sc.keep (Keeps.of_below hb2)
          replace HB := HB.keep (Keeps.of_below hb2)
          replace HC := HC.keep (Keeps.of_below hb2)
          clear hb2
          try clear sc_0 sc_1 sc_2 sc_3
          have scx := sc
          obtain ⟨sc_0, sc_1, sc_2, sc_3⟩ := scx
          try dsimp only at sc_0 sc_1 sc_2 sc_3
          rw [HOB.out, HWB.out, Hob.out, Hwb.out]
          go_wp2_with fail
          have H' := hidp (HS1.out _ hb.drew)
          have HB' := HB.keep (Keeps.drew _)
          have HC' := HC.keep (Keeps.drew _)
          obtain ⟨s0, s1, s2, s3⟩ := sc.keep (Keeps.drew _)
          dsimp only at s0 s1 s2 s3
          replace hb := hb.drew
          clear sc_0 sc_1 sc_2 sc_3 sc HB HC HN1 HN2 HO1
          rcases hcase with ⟨rfl, rfl⟩ | ⟨rfl, rfl⟩ | ⟨rfl, rfl⟩
          · have dy : decide (nc < nb) = false := by have := (m1' rfl).2; simp; omega
            have dz : decide (nb < ob) = false := by have := m4' rfl; simp; omega
            clear m1' m4'
            go_region_held3 (fun w' => w'.cell? ⟨w.heap.size, 0, none⟩ = some (.int .i64 proto) ∧ w'.cell? ⟨w.heap.size, 1, none⟩ = some (.slice ca cores.length cc) ∧ w'.cell? ⟨w.heap.size, 2, none⟩ = some (.slice ha homes.length hc) ∧ w'.cell? ⟨w.heap.size, 3, none⟩ = some (.slice ta tasks.length tc)) (exact ⟨s0, s1, s2, s3⟩)
              (first
                | (go_at_call 31; (with_reducible refine (hX1.out _ (HS1.out _ hb) HB' hwd64).mono ?_); rintro e u ⟨rfl, hb3⟩; have s0 := Keeps.of_below hb3 _ _ s0; have s1 := Keeps.of_below hb3 _ _ s1; have s2 := Keeps.of_below hb3 _ _ s2; have s3 := Keeps.of_below hb3 _ _ s3; have HB' := HB'.keep (Keeps.of_below hb3); have HC' := HC'.keep (Keeps.of_below hb3); have hb := hb.trans (hb3.mono hb.size))
                | (go_at_call 31; (with_reducible refine (hX2.out _ (HS1.out _ hb) HC' hwd64').mono ?_); rintro e u ⟨rfl, hb3⟩; have s0 := Keeps.of_below hb3 _ _ s0; have s1 := Keeps.of_below hb3 _ _ s1; have s2 := Keeps.of_below hb3 _ _ s2; have s3 := Keeps.of_below hb3 _ _ s3; have HB' := HB'.keep (Keeps.of_below hb3); have HC' := HC'.keep (Keeps.of_below hb3); have hb := hb.trans (hb3.mono hb.size)))
            clear hwr3
            go_wp2_with fail
            go_roundg (gk - 1)
            case measure => omega
            case rel => exact ⟨k + 1, by omega, by go_num, HB', HC', ⟨s0, s1, s2, s3⟩, hb⟩
          · have dz : decide (nb < ob) = false := by have := m4' rfl; simp; omega
            clear m1' m4'
            have hs := And.intro s0 (And.intro s1 (And.intro s2 s3))
            clear s0 s1 s2 s3
            refine wp_region_held_drew (S := fun w' => w'.cell? ⟨w.heap.size, 0, none⟩ = some (.int .i64 proto) ∧ w'.cell? ⟨w.heap.size, 1, none⟩ = some (.slice ca cores.length cc) ∧ w'.cell? ⟨w.heap.size, 2, none⟩ = some (.slice ha homes.length hc) ∧ w'.cell? ⟨w.heap.size, 3, none⟩ = some (.slice ta tasks.length tc)) (by kernel_rfl) ?_ (fun hHeld => ?_)
            · exact hs
            generalize u6.drew = u7 at *
            refine wpAnyH_take (i := 0) (v := ?_) rfl (by kernel_rfl) (by kernel_rfl) (by kernel_rfl) (fun _ _ _ h => h) (Or.inl ⟨by rfl, ?_⟩) (by assumption) ?_
            rotate_left 1
            · ((intro w hSw; (try dsimp only at hSw); go_simp); (try with_reducible rfl))
            simp only [Act.put, List.setIfInBounds_toArray, List.set_cons_zero, List.set_cons_succ, List.getElem_toArray, List.getElem_cons_zero, List.getElem_cons_succ]
            refine wpAnyH_take (i := 1) (v := ?_) rfl (by kernel_rfl) (by kernel_rfl) (by kernel_rfl) (fun _ _ _ h => h) (Or.inl ⟨by rfl, ?_⟩) (by assumption) ?_
            rotate_left 1
            · ((intro w hSw; (try dsimp only at hSw); go_simp); (try with_reducible rfl))
            simp only [Act.put, List.setIfInBounds_toArray, List.set_cons_zero, List.set_cons_succ, List.getElem_toArray, List.getElem_cons_zero, List.getElem_cons_succ]
            refine wpAnyH_take (i := 2) (v := undef) rfl (by kernel_rfl) (by kernel_rfl) (by kernel_rfl) (fun _ _ _ h => h) (Or.inr ⟨by rfl, rfl⟩) (by assumption) ?_
            simp only [Act.put, List.setIfInBounds_toArray, List.set_cons_zero, List.set_cons_succ, List.getElem_toArray, List.getElem_cons_zero, List.getElem_cons_succ]
            refine wpAnyH_take (i := 3) (v := undef) rfl (by kernel_rfl) (by kernel_rfl) (by kernel_rfl) (fun _ _ _ h => h) (Or.inr ⟨by rfl, rfl⟩) (by assumption) ?_
            simp only [Act.put, List.setIfInBounds_toArray, List.set_cons_zero, List.set_cons_succ, List.getElem_toArray, List.getElem_cons_zero, List.getElem_cons_succ]
            refine wpAnyH_take (i := 4) (v := undef) rfl (by kernel_rfl) (by kernel_rfl) (by kernel_rfl) (fun _ _ _ h => h) (Or.inr ⟨by rfl, rfl⟩) (by assumption) ?_
            simp only [Act.put, List.setIfInBounds_toArray, List.set_cons_zero, List.set_cons_succ, List.getElem_toArray, List.getElem_cons_zero, List.getElem_cons_succ]
            refine wpAnyH_take (i := 5) (v := undef) rfl (by kernel_rfl) (by kernel_rfl) (by kernel_rfl) (fun _ _ _ h => h) (Or.inr ⟨by rfl, rfl⟩) (by assumption) ?_
            simp only [Act.put, List.setIfInBounds_toArray, List.set_cons_zero, List.set_cons_succ, List.getElem_toArray, List.getElem_cons_zero, List.getElem_cons_succ]
            refine wpAnyH_take (i := 6) (v := undef) rfl (by kernel_rfl) (by kernel_rfl) (by kernel_rfl) (fun _ _ _ h => h) (Or.inr ⟨by rfl, rfl⟩) (by assumption) ?_
            simp only [Act.put, List.setIfInBounds_toArray, List.set_cons_zero, List.set_cons_succ, List.getElem_toArray, List.getElem_cons_zero, List.getElem_cons_succ]
            refine wpAnyH_take (i := 7) (v := undef) rfl (by kernel_rfl) (by kernel_rfl) (by kernel_rfl) (fun _ _ _ h => h) (Or.inr ⟨by rfl, rfl⟩) (by assumption) ?_
            simp only [Act.put, List.setIfInBounds_toArray, List.set_cons_zero, List.set_cons_succ, List.getElem_toArray, List.getElem_cons_zero, List.getElem_cons_succ]
            refine wpAnyH_take (i := 8) (v := undef) rfl (by kernel_rfl) (by kernel_rfl) (by kernel_rfl) (fun _ _ _ h => h) (Or.inr ⟨by rfl, rfl⟩) (by assumption) ?_
            simp only [Act.put, List.setIfInBounds_toArray, List.set_cons_zero, List.set_cons_succ, List.getElem_toArray, List.getElem_cons_zero, List.getElem_cons_succ]
            refine wpAnyH_take (i := 9) (v := ?_) rfl (by kernel_rfl) (by kernel_rfl) (by kernel_rfl) (fun _ _ _ h => h) (Or.inl ⟨by rfl, ?_⟩) (by assumption) ?_
            rotate_left 1
            · ((intro w hSw; (try dsimp only at hSw); go_simp); (try with_reducible rfl))
            simp only [Act.put, List.setIfInBounds_toArray, List.set_cons_zero, List.set_cons_succ, List.getElem_toArray, List.getElem_cons_zero, List.getElem_cons_succ]
            refine wpAnyH_take (i := 10) (v := ?_) rfl (by kernel_rfl) (by kernel_rfl) (by kernel_rfl) (fun _ _ _ h => h) (Or.inl ⟨by rfl, ?_⟩) (by assumption) ?_
            rotate_left 1
            · ((intro w hSw; (try dsimp only at hSw); go_simp); (try with_reducible rfl))
            simp only [Act.put, List.setIfInBounds_toArray, List.set_cons_zero, List.set_cons_succ, List.getElem_toArray, List.getElem_cons_zero, List.getElem_cons_succ]
            refine wpAnyH_take (i := 11) (v := ?_) rfl (by kernel_rfl) (by kernel_rfl) (by kernel_rfl) (fun _ _ _ h => h) (Or.inl ⟨by rfl, ?_⟩) (by assumption) ?_
            rotate_left 1
            · ((intro w hSw; (try dsimp only at hSw); go_simp); (try with_reducible rfl))
            simp only [Act.put, List.setIfInBounds_toArray, List.set_cons_zero, List.set_cons_succ, List.getElem_toArray, List.getElem_cons_zero, List.getElem_cons_succ]
            refine wpAnyH_take (i := 12) (v := ?_) rfl (by kernel_rfl) (by kernel_rfl) (by kernel_rfl) (fun _ _ _ h => h) (Or.inl ⟨by rfl, ?_⟩) (by assumption) ?_
            rotate_left 1
            · ((intro w hSw; (try dsimp only at hSw); go_simp); (try with_reducible rfl))
            simp only [Act.put, List.setIfInBounds_toArray, List.set_cons_zero, List.set_cons_succ, List.getElem_toArray, List.getElem_cons_zero, List.getElem_cons_succ]
            refine wpAnyH_take (i := 13) (v := ?_) rfl (by kernel_rfl) (by kernel_rfl) (by kernel_rfl) (fun _ _ _ h => h) (Or.inl ⟨by rfl, ?_⟩) (by assumption) ?_
            rotate_left 1
            · ((intro w hSw; (try dsimp only at hSw); go_simp); (try with_reducible rfl))
            simp only [Act.put, List.setIfInBounds_toArray, List.set_cons_zero, List.set_cons_succ, List.getElem_toArray, List.getElem_cons_zero, List.getElem_cons_succ]
            refine wpAnyH_take (i := 14) (v := ?_) rfl (by kernel_rfl) (by kernel_rfl) (by kernel_rfl) (fun _ _ _ h => h) (Or.inl ⟨by rfl, ?_⟩) (by assumption) ?_
            rotate_left 1
            · ((intro w hSw; (try dsimp only at hSw); go_simp); (try with_reducible rfl))
            simp only [Act.put, List.setIfInBounds_toArray, List.set_cons_zero, List.set_cons_succ, List.getElem_toArray, List.getElem_cons_zero, List.getElem_cons_succ]
            refine wpAnyH_take (i := 16) (v := ?_) rfl (by kernel_rfl) (by kernel_rfl) (by kernel_rfl) (fun _ _ _ h => h) (Or.inl ⟨by rfl, ?_⟩) (by assumption) ?_
            rotate_left 1
            · ((intro w hSw; (try dsimp only at hSw); go_simp); (try with_reducible rfl))
            simp only [Act.put, List.setIfInBounds_toArray, List.set_cons_zero, List.set_cons_succ, List.getElem_toArray, List.getElem_cons_zero, List.getElem_cons_succ]
            refine wpAnyH_take (i := 17) (v := ?_) rfl (by kernel_rfl) (by kernel_rfl) (by kernel_rfl) (fun _ _ _ h => h) (Or.inl ⟨by rfl, ?_⟩) (by assumption) ?_
            rotate_left 1
            · ((intro w hSw; (try dsimp only at hSw); go_simp); (try with_reducible rfl))
            simp only [Act.put, List.setIfInBounds_toArray, List.set_cons_zero, List.set_cons_succ, List.getElem_toArray, List.getElem_cons_zero, List.getElem_cons_succ]
            refine wpAnyH_take (i := 18) (v := ?_) rfl (by kernel_rfl) (by kernel_rfl) (by kernel_rfl) (fun _ _ _ h => h) (Or.inl ⟨by rfl, ?_⟩) (by assumption) ?_
            rotate_left 1
            · ((intro w hSw; (try dsimp only at hSw); go_simp); (try with_reducible rfl))
            simp only [Act.put, List.setIfInBounds_toArray, List.set_cons_zero, List.set_cons_succ, List.getElem_toArray, List.getElem_cons_zero, List.getElem_cons_succ]
            refine wpAnyH_take (i := 19) (v := ?_) rfl (by kernel_rfl) (by kernel_rfl) (by kernel_rfl) (fun _ _ _ h => h) (Or.inl ⟨by rfl, ?_⟩) (by assumption) ?_
            rotate_left 1
            · ((intro w hSw; (try dsimp only at hSw); go_simp); (try with_reducible rfl))
            simp only [Act.put, List.setIfInBounds_toArray, List.set_cons_zero, List.set_cons_succ, List.getElem_toArray, List.getElem_cons_zero, List.getElem_cons_succ]
            refine wpAnyH_take (i := 20) (v := ?_) rfl (by kernel_rfl) (by kernel_rfl) (by kernel_rfl) (fun _ _ _ h => h) (Or.inl ⟨by rfl, ?_⟩) (by assumption) ?_
            rotate_left 1
            · ((intro w hSw; (try dsimp only at hSw); go_simp); (try with_reducible rfl))
            simp only [Act.put, List.setIfInBounds_toArray, List.set_cons_zero, List.set_cons_succ, List.getElem_toArray, List.getElem_cons_zero, List.getElem_cons_succ]
            refine wpAnyH_ready (rs := [15]) (by kernel_rfl) (by simp) ?_
            refine AllReadyH.cons rfl (fun K hK => ?_) AllReadyH.nil
            go_simp
            refine (hX1.out _ (HS1.out _ hb) HB' hwd64).mono ?_
            rintro e u8 ⟨rfl, hb3⟩
            have k3 := Keeps.of_below hb3
            replace hs := And.intro (k3 _ _ hs.1) (And.intro (k3 _ _ hs.2.1) (And.intro (k3 _ _ hs.2.2.1) (k3 _ _ hs.2.2.2)))
            replace HB' := HB'.keep k3
            replace HC' := HC'.keep k3
            replace hb := hb.trans (hb3.mono hb.size)
            clear hHeld hb3 k3
            go_wp2_with fail
            refine hK.out _ _ ?_ (fun hHeld => ?_)
            · exact hs
            clear hK K
            try simp only [Act.put, List.setIfInBounds_toArray, List.set_cons_zero, List.set_cons_succ, List.getElem_toArray, List.getElem_cons_zero, List.getElem_cons_succ]
            refine wpAnyH_ready (rs := [21]) (by kernel_rfl) (by simp) ?_
            refine AllReadyH.cons rfl (fun K hK => ?_) AllReadyH.nil
            go_simp
            refine (hX2.out _ (HS1.out _ hb) HC' hwd64').mono ?_
            rintro e u9 ⟨rfl, hb3⟩
            have k3 := Keeps.of_below hb3
            replace hs := And.intro (k3 _ _ hs.1) (And.intro (k3 _ _ hs.2.1) (And.intro (k3 _ _ hs.2.2.1) (k3 _ _ hs.2.2.2)))
            replace HB' := HB'.keep k3
            replace HC' := HC'.keep k3
            replace hb := hb.trans (hb3.mono hb.size)
            clear hHeld hb3 k3
            go_wp2_with fail
            refine hK.out _ _ ?_ (fun hHeld => ?_)
            · exact hs
            clear hK K
            try simp only [Act.put, List.setIfInBounds_toArray, List.set_cons_zero, List.set_cons_succ, List.getElem_toArray, List.getElem_cons_zero, List.getElem_cons_succ]
            refine wpAnyH_take (i := 22) (v := ?_) rfl (by kernel_rfl) (by kernel_rfl) (by kernel_rfl) (fun _ _ _ h => h) (Or.inl ⟨by rfl, ?_⟩) (by assumption) ?_
            rotate_left 1
            · ((intro w hSw; (try dsimp only at hSw); go_simp); (try with_reducible rfl))
            simp only [Act.put, List.setIfInBounds_toArray, List.set_cons_zero, List.set_cons_succ, List.getElem_toArray, List.getElem_cons_zero, List.getElem_cons_succ]
            refine wpAnyH_take (i := 23) (v := ?_) rfl (by kernel_rfl) (by kernel_rfl) (by kernel_rfl) (fun _ _ _ h => h) (Or.inl ⟨by rfl, ?_⟩) (by assumption) ?_
            rotate_left 1
            · ((intro w hSw; (try dsimp only at hSw); go_simp); (try with_reducible rfl))
            simp only [Act.put, List.setIfInBounds_toArray, List.set_cons_zero, List.set_cons_succ, List.getElem_toArray, List.getElem_cons_zero, List.getElem_cons_succ]
            refine wpAnyH_take (i := 24) (v := ?_) rfl (by kernel_rfl) (by kernel_rfl) (by kernel_rfl) (fun _ _ _ h => h) (Or.inl ⟨by rfl, ?_⟩) (by assumption) ?_
            rotate_left 1
            · ((intro w hSw; (try dsimp only at hSw); go_simp); (try with_reducible rfl))
            simp only [Act.put, List.setIfInBounds_toArray, List.set_cons_zero, List.set_cons_succ, List.getElem_toArray, List.getElem_cons_zero, List.getElem_cons_succ]
            refine wpAnyH_take (i := 25) (v := ?_) rfl (by kernel_rfl) (by kernel_rfl) (by kernel_rfl) (fun _ _ _ h => h) (Or.inl ⟨by rfl, ?_⟩) (by assumption) ?_
            rotate_left 1
            · ((intro w hSw; (try dsimp only at hSw); go_simp); (try with_reducible rfl))
            simp only [Act.put, List.setIfInBounds_toArray, List.set_cons_zero, List.set_cons_succ, List.getElem_toArray, List.getElem_cons_zero, List.getElem_cons_succ]
            refine wpAnyH_take (i := 26) (v := ?_) rfl (by kernel_rfl) (by kernel_rfl) (by kernel_rfl) (fun _ _ _ h => h) (Or.inl ⟨by rfl, ?_⟩) (by assumption) ?_
            rotate_left 1
            · ((intro w hSw; (try dsimp only at hSw); go_simp); (try with_reducible rfl))
            simp only [Act.put, List.setIfInBounds_toArray, List.set_cons_zero, List.set_cons_succ, List.getElem_toArray, List.getElem_cons_zero, List.getElem_cons_succ]
            refine wpAnyH_take (i := 27) (v := ?_) rfl (by kernel_rfl) (by kernel_rfl) (by kernel_rfl) (fun _ _ _ h => h) (Or.inl ⟨by rfl, ?_⟩) (by assumption) ?_
            rotate_left 1
            · ((intro w hSw; (try dsimp only at hSw); go_simp); (try with_reducible rfl))
            simp only [Act.put, List.setIfInBounds_toArray, List.set_cons_zero, List.set_cons_succ, List.getElem_toArray, List.getElem_cons_zero, List.getElem_cons_succ]
            refine wpAnyH_take (i := 28) (v := ?_) rfl (by kernel_rfl) (by kernel_rfl) (by kernel_rfl) (fun _ _ _ h => h) (Or.inl ⟨by rfl, ?_⟩) (by assumption) ?_
            rotate_left 1
            · ((intro w hSw; (try dsimp only at hSw); go_simp); (try with_reducible rfl))
            simp only [Act.put, List.setIfInBounds_toArray, List.set_cons_zero, List.set_cons_succ, List.getElem_toArray, List.getElem_cons_zero, List.getElem_cons_succ]
            refine wpAnyH_take (i := 29) (v := ?_) rfl (by kernel_rfl) (by kernel_rfl) (by kernel_rfl) (fun _ _ _ h => h) (Or.inl ⟨by rfl, ?_⟩) (by assumption) ?_
            rotate_left 1
            · ((intro w hSw; (try dsimp only at hSw); go_simp); (try with_reducible rfl))
            simp only [Act.put, List.setIfInBounds_toArray, List.set_cons_zero, List.set_cons_succ, List.getElem_toArray, List.getElem_cons_zero, List.getElem_cons_succ]
            refine wpAnyH_take (i := 30) (v := ?_) rfl (by kernel_rfl) (by kernel_rfl) (by kernel_rfl) (fun _ _ _ h => h) (Or.inl ⟨by rfl, ?_⟩) (by assumption) ?_
            rotate_left 1
            · ((intro w hSw; (try dsimp only at hSw); go_simp); (try with_reducible rfl))
            simp only [Act.put, List.setIfInBounds_toArray, List.set_cons_zero, List.set_cons_succ, List.getElem_toArray, List.getElem_cons_zero, List.getElem_cons_succ]
            refine wpAnyH_take (i := 31) (v := ?_) rfl (by kernel_rfl) (by kernel_rfl) (by kernel_rfl) (fun _ _ _ h => h) (Or.inl ⟨by rfl, ?_⟩) (by assumption) ?_
            rotate_left 1
            · ((intro w hSw; (try dsimp only at hSw); go_simp); (try with_reducible rfl))
            simp only [Act.put, List.setIfInBounds_toArray, List.set_cons_zero, List.set_cons_succ, List.getElem_toArray, List.getElem_cons_zero, List.getElem_cons_succ]
            refine wpAnyH_take (i := 32) (v := ?_) rfl (by kernel_rfl) (by kernel_rfl) (by kernel_rfl) (fun _ _ _ h => h) (Or.inl ⟨by rfl, ?_⟩) (by assumption) ?_
            rotate_left 1
            · ((intro w hSw; (try dsimp only at hSw); go_simp); (try with_reducible rfl))
            simp only [Act.put, List.setIfInBounds_toArray, List.set_cons_zero, List.set_cons_succ, List.getElem_toArray, List.getElem_cons_zero, List.getElem_cons_succ]
            refine wpAnyH_take (i := 33) (v := ?_) rfl (by kernel_rfl) (by kernel_rfl) (by kernel_rfl) (fun _ _ _ h => h) (Or.inl ⟨by rfl, ?_⟩) (by assumption) ?_
            rotate_left 1
            · ((intro w hSw; (try dsimp only at hSw); go_simp); (try with_reducible rfl))
            simp only [Act.put, List.setIfInBounds_toArray, List.set_cons_zero, List.set_cons_succ, List.getElem_toArray, List.getElem_cons_zero, List.getElem_cons_succ]
            refine wpAnyH_take (i := 34) (v := ?_) rfl (by kernel_rfl) (by kernel_rfl) (by kernel_rfl) (fun _ _ _ h => h) (Or.inl ⟨by rfl, ?_⟩) (by assumption) ?_
            rotate_left 1
            · ((intro w hSw; (try dsimp only at hSw); go_simp); (try with_reducible rfl))
            simp only [Act.put, List.setIfInBounds_toArray, List.set_cons_zero, List.set_cons_succ, List.getElem_toArray, List.getElem_cons_zero, List.getElem_cons_succ]
            refine wpAnyH_take (i := 35) (v := ?_) rfl (by kernel_rfl) (by kernel_rfl) (by kernel_rfl) (fun _ _ _ h => h) (Or.inl ⟨by rfl, ?_⟩) (by assumption) ?_
            rotate_left 1
            · ((intro w hSw; (try dsimp only at hSw); go_simp); (try with_reducible rfl))
            simp only [Act.put, List.setIfInBounds_toArray, List.set_cons_zero, List.set_cons_succ, List.getElem_toArray, List.getElem_cons_zero, List.getElem_cons_succ]
            refine wpAnyH_take (i := 36) (v := ?_) rfl (by kernel_rfl) (by kernel_rfl) (by kernel_rfl) (fun _ _ _ h => h) (Or.inl ⟨by rfl, ?_⟩) (by assumption) ?_
            rotate_left 1
            · ((intro w hSw; (try dsimp only at hSw); go_simp); (try with_reducible rfl))
            simp only [Act.put, List.setIfInBounds_toArray, List.set_cons_zero, List.set_cons_succ, List.getElem_toArray, List.getElem_cons_zero, List.getElem_cons_succ]
            refine wpAnyH_done (by kernel_rfl) ?_ _
            clear hHeld hwr3
            go_wp2_with fail
            go_roundg (gk - 1)
            case measure => omega
            case rel => exact ⟨k + 1, by omega, by go_num, HB', HC', hs, hb⟩
          · clear m1' m4'
            have hs := And.intro s0 (And.intro s1 (And.intro s2 s3))
            clear s0 s1 s2 s3
            refine wp_region_held_drew (S := fun w' => w'.cell? ⟨w.heap.size, 0, none⟩ = some (.int .i64 proto) ∧ w'.cell? ⟨w.heap.size, 1, none⟩ = some (.slice ca cores.length cc) ∧ w'.cell? ⟨w.heap.size, 2, none⟩ = some (.slice ha homes.length hc) ∧ w'.cell? ⟨w.heap.size, 3, none⟩ = some (.slice ta tasks.length tc)) (by kernel_rfl) ?_ (fun hHeld => ?_)
            · exact hs
            generalize u6.drew = u7 at *
            refine wpAnyH_take (i := 0) (v := ?_) rfl (by kernel_rfl) (by kernel_rfl) (by kernel_rfl) (fun _ _ _ h => h) (Or.inl ⟨by rfl, ?_⟩) (by assumption) ?_
            rotate_left 1
            · ((intro w hSw; (try dsimp only at hSw); go_simp); (try with_reducible rfl))
            simp only [Act.put, List.setIfInBounds_toArray, List.set_cons_zero, List.set_cons_succ, List.getElem_toArray, List.getElem_cons_zero, List.getElem_cons_succ]
            refine wpAnyH_take (i := 1) (v := ?_) rfl (by kernel_rfl) (by kernel_rfl) (by kernel_rfl) (fun _ _ _ h => h) (Or.inl ⟨by rfl, ?_⟩) (by assumption) ?_
            rotate_left 1
            · ((intro w hSw; (try dsimp only at hSw); go_simp); (try with_reducible rfl))
            simp only [Act.put, List.setIfInBounds_toArray, List.set_cons_zero, List.set_cons_succ, List.getElem_toArray, List.getElem_cons_zero, List.getElem_cons_succ]
            refine wpAnyH_take (i := 2) (v := undef) rfl (by kernel_rfl) (by kernel_rfl) (by kernel_rfl) (fun _ _ _ h => h) (Or.inr ⟨by rfl, rfl⟩) (by assumption) ?_
            simp only [Act.put, List.setIfInBounds_toArray, List.set_cons_zero, List.set_cons_succ, List.getElem_toArray, List.getElem_cons_zero, List.getElem_cons_succ]
            refine wpAnyH_take (i := 3) (v := undef) rfl (by kernel_rfl) (by kernel_rfl) (by kernel_rfl) (fun _ _ _ h => h) (Or.inr ⟨by rfl, rfl⟩) (by assumption) ?_
            simp only [Act.put, List.setIfInBounds_toArray, List.set_cons_zero, List.set_cons_succ, List.getElem_toArray, List.getElem_cons_zero, List.getElem_cons_succ]
            refine wpAnyH_take (i := 4) (v := undef) rfl (by kernel_rfl) (by kernel_rfl) (by kernel_rfl) (fun _ _ _ h => h) (Or.inr ⟨by rfl, rfl⟩) (by assumption) ?_
            simp only [Act.put, List.setIfInBounds_toArray, List.set_cons_zero, List.set_cons_succ, List.getElem_toArray, List.getElem_cons_zero, List.getElem_cons_succ]
            refine wpAnyH_take (i := 5) (v := undef) rfl (by kernel_rfl) (by kernel_rfl) (by kernel_rfl) (fun _ _ _ h => h) (Or.inr ⟨by rfl, rfl⟩) (by assumption) ?_
            simp only [Act.put, List.setIfInBounds_toArray, List.set_cons_zero, List.set_cons_succ, List.getElem_toArray, List.getElem_cons_zero, List.getElem_cons_succ]
            refine wpAnyH_take (i := 6) (v := undef) rfl (by kernel_rfl) (by kernel_rfl) (by kernel_rfl) (fun _ _ _ h => h) (Or.inr ⟨by rfl, rfl⟩) (by assumption) ?_
            simp only [Act.put, List.setIfInBounds_toArray, List.set_cons_zero, List.set_cons_succ, List.getElem_toArray, List.getElem_cons_zero, List.getElem_cons_succ]
            refine wpAnyH_take (i := 7) (v := undef) rfl (by kernel_rfl) (by kernel_rfl) (by kernel_rfl) (fun _ _ _ h => h) (Or.inr ⟨by rfl, rfl⟩) (by assumption) ?_
            simp only [Act.put, List.setIfInBounds_toArray, List.set_cons_zero, List.set_cons_succ, List.getElem_toArray, List.getElem_cons_zero, List.getElem_cons_succ]
            refine wpAnyH_take (i := 8) (v := undef) rfl (by kernel_rfl) (by kernel_rfl) (by kernel_rfl) (fun _ _ _ h => h) (Or.inr ⟨by rfl, rfl⟩) (by assumption) ?_
            simp only [Act.put, List.setIfInBounds_toArray, List.set_cons_zero, List.set_cons_succ, List.getElem_toArray, List.getElem_cons_zero, List.getElem_cons_succ]
            refine wpAnyH_take (i := 9) (v := ?_) rfl (by kernel_rfl) (by kernel_rfl) (by kernel_rfl) (fun _ _ _ h => h) (Or.inl ⟨by rfl, ?_⟩) (by assumption) ?_
            rotate_left 1
            · ((intro w hSw; (try dsimp only at hSw); go_simp); (try with_reducible rfl))
            simp only [Act.put, List.setIfInBounds_toArray, List.set_cons_zero, List.set_cons_succ, List.getElem_toArray, List.getElem_cons_zero, List.getElem_cons_succ]
            refine wpAnyH_take (i := 10) (v := ?_) rfl (by kernel_rfl) (by kernel_rfl) (by kernel_rfl) (fun _ _ _ h => h) (Or.inl ⟨by rfl, ?_⟩) (by assumption) ?_
            rotate_left 1
            · ((intro w hSw; (try dsimp only at hSw); go_simp); (try with_reducible rfl))
            simp only [Act.put, List.setIfInBounds_toArray, List.set_cons_zero, List.set_cons_succ, List.getElem_toArray, List.getElem_cons_zero, List.getElem_cons_succ]
            refine wpAnyH_take (i := 11) (v := ?_) rfl (by kernel_rfl) (by kernel_rfl) (by kernel_rfl) (fun _ _ _ h => h) (Or.inl ⟨by rfl, ?_⟩) (by assumption) ?_
            rotate_left 1
            · ((intro w hSw; (try dsimp only at hSw); go_simp); (try with_reducible rfl))
            simp only [Act.put, List.setIfInBounds_toArray, List.set_cons_zero, List.set_cons_succ, List.getElem_toArray, List.getElem_cons_zero, List.getElem_cons_succ]
            refine wpAnyH_take (i := 12) (v := ?_) rfl (by kernel_rfl) (by kernel_rfl) (by kernel_rfl) (fun _ _ _ h => h) (Or.inl ⟨by rfl, ?_⟩) (by assumption) ?_
            rotate_left 1
            · ((intro w hSw; (try dsimp only at hSw); go_simp); (try with_reducible rfl))
            simp only [Act.put, List.setIfInBounds_toArray, List.set_cons_zero, List.set_cons_succ, List.getElem_toArray, List.getElem_cons_zero, List.getElem_cons_succ]
            refine wpAnyH_take (i := 13) (v := ?_) rfl (by kernel_rfl) (by kernel_rfl) (by kernel_rfl) (fun _ _ _ h => h) (Or.inl ⟨by rfl, ?_⟩) (by assumption) ?_
            rotate_left 1
            · ((intro w hSw; (try dsimp only at hSw); go_simp); (try with_reducible rfl))
            simp only [Act.put, List.setIfInBounds_toArray, List.set_cons_zero, List.set_cons_succ, List.getElem_toArray, List.getElem_cons_zero, List.getElem_cons_succ]
            refine wpAnyH_take (i := 14) (v := ?_) rfl (by kernel_rfl) (by kernel_rfl) (by kernel_rfl) (fun _ _ _ h => h) (Or.inl ⟨by rfl, ?_⟩) (by assumption) ?_
            rotate_left 1
            · ((intro w hSw; (try dsimp only at hSw); go_simp); (try with_reducible rfl))
            simp only [Act.put, List.setIfInBounds_toArray, List.set_cons_zero, List.set_cons_succ, List.getElem_toArray, List.getElem_cons_zero, List.getElem_cons_succ]
            refine wpAnyH_take (i := 16) (v := ?_) rfl (by kernel_rfl) (by kernel_rfl) (by kernel_rfl) (fun _ _ _ h => h) (Or.inl ⟨by rfl, ?_⟩) (by assumption) ?_
            rotate_left 1
            · ((intro w hSw; (try dsimp only at hSw); go_simp); (try with_reducible rfl))
            simp only [Act.put, List.setIfInBounds_toArray, List.set_cons_zero, List.set_cons_succ, List.getElem_toArray, List.getElem_cons_zero, List.getElem_cons_succ]
            refine wpAnyH_take (i := 17) (v := ?_) rfl (by kernel_rfl) (by kernel_rfl) (by kernel_rfl) (fun _ _ _ h => h) (Or.inl ⟨by rfl, ?_⟩) (by assumption) ?_
            rotate_left 1
            · ((intro w hSw; (try dsimp only at hSw); go_simp); (try with_reducible rfl))
            simp only [Act.put, List.setIfInBounds_toArray, List.set_cons_zero, List.set_cons_succ, List.getElem_toArray, List.getElem_cons_zero, List.getElem_cons_succ]
            refine wpAnyH_take (i := 18) (v := ?_) rfl (by kernel_rfl) (by kernel_rfl) (by kernel_rfl) (fun _ _ _ h => h) (Or.inl ⟨by rfl, ?_⟩) (by assumption) ?_
            rotate_left 1
            · ((intro w hSw; (try dsimp only at hSw); go_simp); (try with_reducible rfl))
            simp only [Act.put, List.setIfInBounds_toArray, List.set_cons_zero, List.set_cons_succ, List.getElem_toArray, List.getElem_cons_zero, List.getElem_cons_succ]
            refine wpAnyH_take (i := 19) (v := ?_) rfl (by kernel_rfl) (by kernel_rfl) (by kernel_rfl) (fun _ _ _ h => h) (Or.inl ⟨by rfl, ?_⟩) (by assumption) ?_
            rotate_left 1
            · ((intro w hSw; (try dsimp only at hSw); go_simp); (try with_reducible rfl))
            simp only [Act.put, List.setIfInBounds_toArray, List.set_cons_zero, List.set_cons_succ, List.getElem_toArray, List.getElem_cons_zero, List.getElem_cons_succ]
            refine wpAnyH_take (i := 20) (v := ?_) rfl (by kernel_rfl) (by kernel_rfl) (by kernel_rfl) (fun _ _ _ h => h) (Or.inl ⟨by rfl, ?_⟩) (by assumption) ?_
            rotate_left 1
            · ((intro w hSw; (try dsimp only at hSw); go_simp); (try with_reducible rfl))
            simp only [Act.put, List.setIfInBounds_toArray, List.set_cons_zero, List.set_cons_succ, List.getElem_toArray, List.getElem_cons_zero, List.getElem_cons_succ]
            refine wpAnyH_ready (rs := [15]) (by kernel_rfl) (by simp) ?_
            refine AllReadyH.cons rfl (fun K hK => ?_) AllReadyH.nil
            go_simp
            refine (hX1.out _ (HS1.out _ hb) HB' hwd64).mono ?_
            rintro e u8 ⟨rfl, hb3⟩
            have k3 := Keeps.of_below hb3
            replace hs := And.intro (k3 _ _ hs.1) (And.intro (k3 _ _ hs.2.1) (And.intro (k3 _ _ hs.2.2.1) (k3 _ _ hs.2.2.2)))
            replace HB' := HB'.keep k3
            replace HC' := HC'.keep k3
            replace hb := hb.trans (hb3.mono hb.size)
            clear hHeld hb3 k3
            go_wp2_with fail
            refine hK.out _ _ ?_ (fun hHeld => ?_)
            · exact hs
            clear hK K
            try simp only [Act.put, List.setIfInBounds_toArray, List.set_cons_zero, List.set_cons_succ, List.getElem_toArray, List.getElem_cons_zero, List.getElem_cons_succ]
            refine wpAnyH_ready (rs := [21]) (by kernel_rfl) (by simp) ?_
            refine AllReadyH.cons rfl (fun K hK => ?_) AllReadyH.nil
            go_simp
            refine (hX2.out _ (HS1.out _ hb) HC' hwd64').mono ?_
            rintro e u9 ⟨rfl, hb3⟩
            have k3 := Keeps.of_below hb3
            replace hs := And.intro (k3 _ _ hs.1) (And.intro (k3 _ _ hs.2.1) (And.intro (k3 _ _ hs.2.2.1) (k3 _ _ hs.2.2.2)))
            replace HB' := HB'.keep k3
            replace HC' := HC'.keep k3
            replace hb := hb.trans (hb3.mono hb.size)
            clear hHeld hb3 k3
            go_wp2_with fail
            refine hK.out _ _ ?_ (fun hHeld => ?_)
            · exact hs
            clear hK K
            try simp only [Act.put, List.setIfInBounds_toArray, List.set_cons_zero, List.set_cons_succ, List.getElem_toArray, List.getElem_cons_zero, List.getElem_cons_succ]
            refine wpAnyH_take (i := 22) (v := ?_) rfl (by kernel_rfl) (by kernel_rfl) (by kernel_rfl) (fun _ _ _ h => h) (Or.inl ⟨by rfl, ?_⟩) (by assumption) ?_
            rotate_left 1
            · ((intro w hSw; (try dsimp only at hSw); go_simp); (try with_reducible rfl))
            simp only [Act.put, List.setIfInBounds_toArray, List.set_cons_zero, List.set_cons_succ, List.getElem_toArray, List.getElem_cons_zero, List.getElem_cons_succ]
            refine wpAnyH_take (i := 23) (v := ?_) rfl (by kernel_rfl) (by kernel_rfl) (by kernel_rfl) (fun _ _ _ h => h) (Or.inl ⟨by rfl, ?_⟩) (by assumption) ?_
            rotate_left 1
            · ((intro w hSw; (try dsimp only at hSw); go_simp); (try with_reducible rfl))
            simp only [Act.put, List.setIfInBounds_toArray, List.set_cons_zero, List.set_cons_succ, List.getElem_toArray, List.getElem_cons_zero, List.getElem_cons_succ]
            refine wpAnyH_take (i := 24) (v := ?_) rfl (by kernel_rfl) (by kernel_rfl) (by kernel_rfl) (fun _ _ _ h => h) (Or.inl ⟨by rfl, ?_⟩) (by assumption) ?_
            rotate_left 1
            · ((intro w hSw; (try dsimp only at hSw); go_simp); (try with_reducible rfl))
            simp only [Act.put, List.setIfInBounds_toArray, List.set_cons_zero, List.set_cons_succ, List.getElem_toArray, List.getElem_cons_zero, List.getElem_cons_succ]
            refine wpAnyH_take (i := 25) (v := ?_) rfl (by kernel_rfl) (by kernel_rfl) (by kernel_rfl) (fun _ _ _ h => h) (Or.inl ⟨by rfl, ?_⟩) (by assumption) ?_
            rotate_left 1
            · ((intro w hSw; (try dsimp only at hSw); go_simp); (try with_reducible rfl))
            simp only [Act.put, List.setIfInBounds_toArray, List.set_cons_zero, List.set_cons_succ, List.getElem_toArray, List.getElem_cons_zero, List.getElem_cons_succ]
            refine wpAnyH_take (i := 26) (v := ?_) rfl (by kernel_rfl) (by kernel_rfl) (by kernel_rfl) (fun _ _ _ h => h) (Or.inl ⟨by rfl, ?_⟩) (by assumption) ?_
            rotate_left 1
            · ((intro w hSw; (try dsimp only at hSw); go_simp); (try with_reducible rfl))
            simp only [Act.put, List.setIfInBounds_toArray, List.set_cons_zero, List.set_cons_succ, List.getElem_toArray, List.getElem_cons_zero, List.getElem_cons_succ]
            refine wpAnyH_take (i := 27) (v := ?_) rfl (by kernel_rfl) (by kernel_rfl) (by kernel_rfl) (fun _ _ _ h => h) (Or.inl ⟨by rfl, ?_⟩) (by assumption) ?_
            rotate_left 1
            · ((intro w hSw; (try dsimp only at hSw); go_simp); (try with_reducible rfl))
            simp only [Act.put, List.setIfInBounds_toArray, List.set_cons_zero, List.set_cons_succ, List.getElem_toArray, List.getElem_cons_zero, List.getElem_cons_succ]
            refine wpAnyH_take (i := 28) (v := ?_) rfl (by kernel_rfl) (by kernel_rfl) (by kernel_rfl) (fun _ _ _ h => h) (Or.inl ⟨by rfl, ?_⟩) (by assumption) ?_
            rotate_left 1
            · ((intro w hSw; (try dsimp only at hSw); go_simp); (try with_reducible rfl))
            simp only [Act.put, List.setIfInBounds_toArray, List.set_cons_zero, List.set_cons_succ, List.getElem_toArray, List.getElem_cons_zero, List.getElem_cons_succ]
            refine wpAnyH_take (i := 29) (v := ?_) rfl (by kernel_rfl) (by kernel_rfl) (by kernel_rfl) (fun _ _ _ h => h) (Or.inl ⟨by rfl, ?_⟩) (by assumption) ?_
            rotate_left 1
            · ((intro w hSw; (try dsimp only at hSw); go_simp); (try with_reducible rfl))
            simp only [Act.put, List.setIfInBounds_toArray, List.set_cons_zero, List.set_cons_succ, List.getElem_toArray, List.getElem_cons_zero, List.getElem_cons_succ]
            refine wpAnyH_take (i := 30) (v := ?_) rfl (by kernel_rfl) (by kernel_rfl) (by kernel_rfl) (fun _ _ _ h => h) (Or.inl ⟨by rfl, ?_⟩) (by assumption) ?_
            rotate_left 1
            · ((intro w hSw; (try dsimp only at hSw); go_simp); (try with_reducible rfl))
            simp only [Act.put, List.setIfInBounds_toArray, List.set_cons_zero, List.set_cons_succ, List.getElem_toArray, List.getElem_cons_zero, List.getElem_cons_succ]
            refine wpAnyH_take (i := 31) (v := ?_) rfl (by kernel_rfl) (by kernel_rfl) (by kernel_rfl) (fun _ _ _ h => h) (Or.inl ⟨by rfl, ?_⟩) (by assumption) ?_
            rotate_left 1
            · ((intro w hSw; (try dsimp only at hSw); go_simp); (try with_reducible rfl))
            simp only [Act.put, List.setIfInBounds_toArray, List.set_cons_zero, List.set_cons_succ, List.getElem_toArray, List.getElem_cons_zero, List.getElem_cons_succ]
            refine wpAnyH_take (i := 32) (v := undef) rfl (by kernel_rfl) (by kernel_rfl) (by kernel_rfl) (fun _ _ _ h => h) (Or.inr ⟨by rfl, rfl⟩) (by assumption) ?_
            simp only [Act.put, List.setIfInBounds_toArray, List.set_cons_zero, List.set_cons_succ, List.getElem_toArray, List.getElem_cons_zero, List.getElem_cons_succ]
            refine wpAnyH_take (i := 33) (v := undef) rfl (by kernel_rfl) (by kernel_rfl) (by kernel_rfl) (fun _ _ _ h => h) (Or.inr ⟨by rfl, rfl⟩) (by assumption) ?_
            simp only [Act.put, List.setIfInBounds_toArray, List.set_cons_zero, List.set_cons_succ, List.getElem_toArray, List.getElem_cons_zero, List.getElem_cons_succ]
            refine wpAnyH_take (i := 34) (v := undef) rfl (by kernel_rfl) (by kernel_rfl) (by kernel_rfl) (fun _ _ _ h => h) (Or.inr ⟨by rfl, rfl⟩) (by assumption) ?_
            simp only [Act.put, List.setIfInBounds_toArray, List.set_cons_zero, List.set_cons_succ, List.getElem_toArray, List.getElem_cons_zero, List.getElem_cons_succ]
            refine wpAnyH_take (i := 35) (v := ?_) rfl (by kernel_rfl) (by kernel_rfl) (by kernel_rfl) (fun _ _ _ h => h) (Or.inl ⟨by rfl, ?_⟩) (by assumption) ?_
            rotate_left 1
            · ((intro w hSw; (try dsimp only at hSw); go_simp); (try with_reducible rfl))
            simp only [Act.put, List.setIfInBounds_toArray, List.set_cons_zero, List.set_cons_succ, List.getElem_toArray, List.getElem_cons_zero, List.getElem_cons_succ]
            refine wpAnyH_take (i := 36) (v := ?_) rfl (by kernel_rfl) (by kernel_rfl) (by kernel_rfl) (fun _ _ _ h => h) (Or.inl ⟨by rfl, ?_⟩) (by assumption) ?_
            rotate_left 1
            · ((intro w hSw; (try dsimp only at hSw); go_simp); (try with_reducible rfl))
            simp only [Act.put, List.setIfInBounds_toArray, List.set_cons_zero, List.set_cons_succ, List.getElem_toArray, List.getElem_cons_zero, List.getElem_cons_succ]
            refine wpAnyH_done (by kernel_rfl) ?_ _
            clear hHeld hwr3
            go_wp2_with fail
            go_roundg (gk - 1)
            case measure => omega
            case rel => exact ⟨k + 1, by omega, by go_num, HB', HC', hs, hb⟩
        · go_wp2_with fail
          go_ret
          exact ⟨rfl, hb⟩

theorem own : ownKnob Try.prog.godebug = none := by kernel_rfl
theorem laidOut : laidOutB Try.prog = true := by kernel_rfl

/-! THE ROW's STEP -/
set_option maxRecDepth 100000 in
theorem lifted (os : Os) (started : os.Started) (H : Type) (enc : TypeId × Value → H) :
    ReturnsInHanded {} Try.checked os 8 .any (Rows.boundRisesSpec.pre6 enc Try.prog Try.f8 Rows.boundRisesRow.domain false) (Rows.boundRisesSpec.post enc Try.prog Try.f8 false true false false) := by
  refine returnsInHanded_of_change (C := Try.checked) own started (by kernel_rfl) Try.func8
    (ChangeSpec.witness6 (enc := enc) (C := Try.checked) false ⟨#[], #[.agg #[.int .i64 0, .slice none 0 0, .slice none 0 0, .slice none 0 0], .slice none 0 0, .slice none 0 0, .int .u16 0], []⟩ 8 (by kernel_rfl) (by kernel_rfl) (by kernel_rfl) (by kernel_rfl)) ?_
  intro W base args ds gs before hval0 hW hcnd _
  have hval : ∀ (j : Nat) t v, Try.f8.params[j]? = some t → args[j]? = some v → Value.okWide Try.prog W .any base t v := hval0
  have hW' := hW
  obtain ⟨p, q, hA0, hV, rfl, hfz, hnd⟩ := hW
  have hA : DataW.TrodAll enc Try.prog W 0 (fun _ => true) true Try.f8.params.toList args.toList ds p := hA0
  rw [Try.params8] at hA hval
  obtain ⟨v0, vs0, d0, ds0, p0, q0, hargs, rfl, rfl, h0, r0⟩ := trodAll_cons hA
  obtain ⟨v1, vs1, d1, ds1, p1, q1, rfl, rfl, rfl, h1, r1⟩ := trodAll_cons r0
  obtain ⟨v2, vs2, d2, ds2, p2, q2, rfl, rfl, rfl, h2, r2⟩ := trodAll_cons r1
  obtain ⟨v3, vs3, d3, ds3, p3, q3, rfl, rfl, rfl, h3, r3⟩ := trodAll_cons r2
  obtain ⟨rfl, rfl, rfl⟩ := trodAll_nil r3
  obtain rfl : args = #[v0, v1, v2, v3] := by cases args; simp_all
  obtain ⟨rfl, rfl⟩ := trodVars_none hV
  have k0 := h0
  have lt0 : ∀ x ∈ p0, x.block < W.heap.size := by obtain ⟨m, hm⟩ := k0; exact DataW.trod_lt m _ _ _ hm
  obtain ⟨s0, w0, rfl⟩ := setTypes.arg_set (hval 0 26 v0 rfl rfl) h0
  obtain ⟨a1, len1, cap1, rfl⟩ := okWide_slice Try.underlying30 (hval 1 30 v1 rfl rfl)
  have k1 := h1
  have lt1 : ∀ x ∈ p1, x.block < W.heap.size := by obtain ⟨m, hm⟩ := k1; exact DataW.trod_lt m _ _ _ hm
  obtain ⟨z1, w1⟩ : ∃ zs, IsRow .u8 W a1 len1 cap1 zs := by
    obtain ⟨fuel, hf⟩ := h1
    rcases open_ints Try.underlying30 Try.underlying5 (by kernel_rfl) hf with ⟨hcs, _⟩ | ⟨x, l, c, zs, hcs, _, hl, hm, hz, _, hcell, hwz⟩
    · simp [Value.cells] at hcs
      obtain ⟨rfl, rfl, rfl⟩ := hcs
      exact ⟨[], .inl ⟨rfl, rfl, rfl, rfl⟩⟩
    · simp [Value.cells] at hcs
      obtain ⟨rfl, rfl, rfl⟩ := hcs
      exact ⟨zs, .inr ⟨_, rfl, hl, hm, by simpa using hz, hcell, hwz⟩⟩
  obtain ⟨a2, len2, cap2, rfl⟩ := okWide_slice Try.underlying30 (hval 2 30 v2 rfl rfl)
  have k2 := h2
  have lt2 : ∀ x ∈ p2, x.block < W.heap.size := by obtain ⟨m, hm⟩ := k2; exact DataW.trod_lt m _ _ _ hm
  obtain ⟨z2, w2⟩ : ∃ zs, IsRow .u8 W a2 len2 cap2 zs := by
    obtain ⟨fuel, hf⟩ := h2
    rcases open_ints Try.underlying30 Try.underlying5 (by kernel_rfl) hf with ⟨hcs, _⟩ | ⟨x, l, c, zs, hcs, _, hl, hm, hz, _, hcell, hwz⟩
    · simp [Value.cells] at hcs
      obtain ⟨rfl, rfl, rfl⟩ := hcs
      exact ⟨[], .inl ⟨rfl, rfl, rfl, rfl⟩⟩
    · simp [Value.cells] at hcs
      obtain ⟨rfl, rfl, rfl⟩ := hcs
      exact ⟨zs, .inr ⟨_, rfl, hl, hm, by simpa using hz, hcell, hwz⟩⟩
  obtain ⟨a3, rfl, rfl, rfl, w3⟩ := open_int Try.underlying49 (hval 3 49 v3 rfl rfl) h3
  clear hA0 hval0
  refine (walk s0 a1 len1 cap1 z1 a2 len2 cap2 z2 a3 W w0 w1 w2 w3).mono fun e W' ⟨he, bel⟩ => ?_
  subst he
  exact ⟨_, rfl, _, _, _, [], _, [], hW', trodAll_mk1 (shut_bool Try.underlying4 _), (trodAll_cons_mk (Below.trod laidOut (by kernel_rfl) (of_decide_eq_true (by kernel_rfl)) k0 bel lt0) (trodAll_cons_mk (Below.trod laidOut (by kernel_rfl) (of_decide_eq_true (by kernel_rfl)) k1 bel lt1) (trodAll_cons_mk (Below.trod laidOut (by kernel_rfl) (of_decide_eq_true (by kernel_rfl)) k2 bel lt2) (trodAll_cons_mk (shut_int Try.underlying49 w3) trodAll_mk0)))), rfl, bel.frame _, fun h => by cases h⟩

theorem over : Rows.boundRisesRow.holds Try.pinned (OpenSpec.ofChange Rows.boundRisesSpec) :=
  OpenClaim.holds_of_wide 8 Try.f8 rfl rfl rfl rfl rfl rfl rfl ⟨rfl, rfl, rfl, rfl, rfl⟩ rfl rfl rfl rfl rfl (by kernel_rfl) Try.func8 (by kernel_rfl)
    (of_decide_eq_true (by kernel_rfl)) (by unfold Func.isWrapper; first | (rw [if_pos (by decide +kernel)]; kernel_rfl) | (rw [if_neg (by decide +kernel)]; exact ⟨rfl, rfl⟩))
    (fun os started H enc _ => lifted os started H enc)

/-- THE STATEMENT -/
theorem proved : Rows.BoundRisesSaid := over
#print axioms proved
end Go.Proofs.Ytindcpgmfdkpcaa.boundRises

