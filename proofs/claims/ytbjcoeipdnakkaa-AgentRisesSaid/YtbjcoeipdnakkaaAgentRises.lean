/- AgentRises: with greater bounds a request doesn't take less. No condition. -/
import Derived.Test.YtbjcoeipdnakkaaKnown14
import Derived.Test.YtbjcoeipdnakkaaFew14
import Derived.Test.YtbjcoeipdnakkaaRef14d
import Derived.Test.YtbjcoeipdnakkaaOk3
import Derived.Test.YtbjcoeipdnakkaaOwnPut
set_option linter.unusedSimpArgs false
namespace Go.Proofs.Ytbjcoeipdnakkaa
theorem jobV_bound {w b b' p : Int} (h : b ≤ b') : jobV w b p ≤ jobV w b' p := by
  by_cases hp : 0 < p
  · exact jobV_mono (Int.le_refl _) h (Int.le_refl _) hp
  · rw [jobV_out (by omega)]; exact (jobV_bd _ _ _).1
theorem workV_bound {w b b' p e : Int} (h : b ≤ b') : workV w b p e ≤ workV w b' p e := by
  have h1 := jobV_bound (w := w) (p := p) h
  have h2 := (jobV_bd w b p).1
  have h3 : jobV w b p * max e 0 ≤ jobV w b' p * max e 0 := Int.mul_le_mul_of_nonneg_right h1 (by omega)
  unfold workV; omega
theorem riv_bound (s : SetR) {bs cs : List Int} (pr cl wd : Int) (hle : ∀ k, bs.getD k 0 ≤ cs.getD k 0) (k : Nat) (ts : List TaskR) : workS wd (rivL s bs pr cl k ts) ≤ workS wd (rivL s cs pr cl k ts) := by
  induction ts generalizing k with
  | nil => simp [rivL, workS]
  | cons t ts ih =>
    have h1 := ih (k + 1)
    simp only [rivL, workS_append]
    split
    · have := workV_bound (w := wd) (p := t.per) (e := atV s k cl) (hle k)
      simp only [workS]; omega
    · simp only [workS]; omega
theorem agent_rises {s : SetR} {bs cs : List Int} {of part : Int} (hle : ∀ k, bs.getD k 0 ≤ cs.getD k 0) (hl : cs.length = bs.length) (h : agentK s cs of part = true) : agentK s bs of part = true ∧ agentV s bs of part ≤ agentV s cs of part := by
  have hb : agentB s cs of part = true := by
    cases e : agentB s cs of part with
    | true => rfl
    | false => unfold agentK agentO at h; rw [e] at h; cases h
  obtain ⟨k1, k2⟩ := agentB_true.1 hb
  have hb2 : agentB s bs of part = true := agentB_true.2 ⟨k1, by rw [← hl]; exact k2⟩
  obtain ⟨f1, f2, f3, f4⟩ := fairK_iff.1 k1
  obtain ⟨ho, r1, r2⟩ := thereB_true.1 f1
  have hp : partAt s of part ∈ (s.tasks.getD of.toNat default).parts := by unfold partAt; exact getD_mem (by omega)
  have hlen := ((Good.of ho).parts _ (getD_mem (by omega : of.toNat < s.tasks.length))).lens _ hp
  have hlo := lowerV_bd s of (homeV s of part)
  unfold agentK agentO at h
  unfold agentV agentK agentO
  rw [if_pos hb] at h ⊢
  rw [if_pos hb2]
  cases e : fixO (winF (leastV s of part) (rivL s cs (prioOf s of) (homeV s of part) 0 s.tasks)) (leastV s of part) with
  | none => rw [e] at h; cases h
  | some v =>
    obtain ⟨u, hu, huv⟩ := fix_le (F := winF (leastV s of part) (rivL s bs (prioOf s of) (homeV s of part) 0 s.tasks)) (fun x y hxy => winF_mono _ _ hxy) (fun x => by
      have := riv_bound s (prioOf s of) (homeV s of part) x hle 0 s.tasks
      unfold winF capV; omega) (Int.le_refl _) (fun x => (winF_own _ _ x).1) (by unfold leastV; omega) e
    rw [hu]
    exact ⟨rfl, huv⟩
theorem set_le {bs : List Int} {k : Nat} {x : Int} (h : bs.getD k 0 ≤ x) : ∀ j, bs.getD j 0 ≤ (bs.set k x).getD j 0 := by
  intro j
  by_cases e : k = j
  · subst e
    by_cases hk : k < bs.length
    · simp [List.getD, hk] at h ⊢; exact h
    · simp [List.getD, hk]
  · simp [List.getD, List.getElem?_set, e]
end Go.Proofs.Ytbjcoeipdnakkaa
set_option maxHeartbeats 20000000
set_option maxRecDepth 100000
namespace Go.Proofs.Ytbjcoeipdnakkaa.agentRises
open Go.ChangeShapes Go.WideShapes Go.ChangeAt Go.RowKit
open Go.ChangeMaps (open_string shut_string)
set_option linter.unusedVariables false

/-- THE WALK: the Go text returns true, and writes nothing that was there. -/
theorem walk (s0 : SetR) (a1 : Option Addr) (len1 cap1 : Nat) (z1 : List Int) (a2 : Int) (a3 : Int) (w : World) (w0 : SetOk w s0) (w1 : IsRow .i64 w a1 len1 cap1 z1) (w2 : (Lit.int .u8 a2).wf = true) (w3 : (Lit.int .u8 a3).wf = true) :
    Calls Try.prog 7 #[.agg #[.int .i64 s0.proto, .slice s0.ca s0.cores.length s0.cc, .slice s0.ha s0.homes.length s0.hc, .slice s0.ta s0.tasks.length s0.tc], .slice a1 len1 cap1, .int .u8 a2, .int .u8 a3] w fun e w' => e = .returned (.bool true) ∧ Below w.heap.size w w' := by
  have hb := (Below.refl w.heap.size w).alloc (Nat.le_refl _) (.cells #[.int .i64 s0.proto, .slice s0.ca s0.cores.length s0.cc, .slice s0.ha s0.homes.length s0.hc, .slice s0.ta s0.tasks.length s0.tc] 26)
  have sc := SetCells.new w s0 26
  have hs := w0.keep (Keeps.of_below hb)
  have HS := hidp w0
  obtain ⟨hB0, hBl⟩ := w1.ints
  obtain ⟨bs, hbs⟩ : ∃ bs, z1.take len1 = bs := ⟨_, rfl⟩
  rw [hbs] at hB0 hBl
  subst hBl
  have HB := hidp hB0
  have l4 : bs.length ≤ maxLen := Nat.le_trans hB0.sl.2.1 hB0.sl.2.2
  have l3 : s0.tasks.length ≤ maxLen := Nat.le_trans w0.tasks.sl.2.1 w0.tasks.sl.2.2
  unfold maxLen at l4 l3
  obtain ⟨mo, hm⟩ : ∃ n : Nat, a2 = n := nat_u8 w2
  obtain ⟨wh, hn⟩ : ∃ n : Nat, a3 = n := nat_u8 w3
  have mo255 : mo ≤ 255 := u8_le w2 hm
  have wh255 : wh ≤ 255 := u8_le w3 hn
  subst hn
  subst hm
  obtain ⟨i0, hi0, hy0, hy1, hy2⟩ := info_parts infoZ
  have HB1 : Hid (∀ u, Below w.heap.size w u → IntsOk u a1 cap1 bs) := hidp (fun u h => HB.out.keep (Keeps.of_below h))
  have HS1 : Hid (∀ u, Below w.heap.size w u → SetOk u s0) := hidp (fun u h => HS.out.keep (Keeps.of_below h))
  clear w0 w1 w2 w3 hB0 hbs
  obtain ⟨V, HV⟩ : ∃ V : Nat → Nat → Int, Hid (∀ i j : Nat, agentV s0 bs i j = V i j) := ⟨fun i j => agentV s0 bs i j, hidp (fun _ _ => rfl)⟩
  obtain ⟨K, HK⟩ : ∃ K : Nat → Nat → Bool, Hid (∀ i j : Nat, agentK s0 bs i j = K i j) := ⟨fun i j => agentK s0 bs i j, hidp (fun _ _ => rfl)⟩
  have HR := hidp HS.out.tasks.at_
  have Hok := hidp HS.out.tasks.ok
  obtain ⟨Th, HTh⟩ : ∃ b, Hid (thereB s0 0 = b) := ⟨_, rfl⟩
  have HVc : Hid (∀ cs : List Int, (∀ k, bs.getD k 0 ≤ cs.getD k 0) → cs.length = bs.length → ∀ i j : Nat, agentK s0 cs i j = true → K i j = true ∧ V i j ≤ agentV s0 cs i j) := hidp (fun cs h1 h2 i j h => by rw [← HV.out, ← HK.out]; exact agent_rises h1 h2 h)
  obtain ⟨AV, HAV⟩ : ∃ f : List Int → Nat → Nat → Int, Hid (∀ cs (i j : Nat), agentV s0 cs i j = f cs i j) := ⟨fun cs i j => agentV s0 cs i j, hidp (fun _ _ _ => rfl)⟩
  obtain ⟨AK, HAK⟩ : ∃ f : List Int → Nat → Nat → Bool, Hid (∀ cs (i j : Nat), agentK s0 cs i j = f cs i j) := ⟨fun cs i j => agentK s0 cs i j, hidp (fun _ _ _ => rfl)⟩
  obtain ⟨proto, ca, cc, cores, ha, hc, homes, ta, tc, tasks⟩ := s0
  dsimp only at l3 hb sc hs HR Hok ⊢
  go_enter Try.func7, Try.ntmps7
  go_wp2_with fail
  refine (known14_any _).mono ?_
  rintro e u1 ⟨rfl, hb2⟩
  replace hb := hb.trans (hb2.mono hb.size)
  replace sc := sc.keep (Keeps.of_below hb2)
  replace hs := hs.keep (Keeps.of_below hb2)
  clear hb2
  try clear sc_0 sc_1 sc_2 sc_3
  have scx := sc
  obtain ⟨sc_0, sc_1, sc_2, sc_3⟩ := scx
  try dsimp only at sc_0 sc_1 sc_2 sc_3
  go_wp2_with fail
  refine (few14_any _ _ hs).mono ?_
  rintro e u2 ⟨⟨b, rfl⟩, hb2⟩
  replace hb := hb.trans (hb2.mono hb.size)
  replace sc := sc.keep (Keeps.of_below hb2)
  replace hs := hs.keep (Keeps.of_below hb2)
  clear hb2
  try clear sc_0 sc_1 sc_2 sc_3
  have scx := sc
  obtain ⟨sc_0, sc_1, sc_2, sc_3⟩ := scx
  try dsimp only at sc_0 sc_1 sc_2 sc_3
  cases b
  · go_wp2_with fail
    go_ret
    exact ⟨rfl, hb⟩
  by_cases h10 : (10 : Int) < (bs.length : Int)
  · go_wp2_with fail
    go_ret
    exact ⟨rfl, hb⟩
  by_cases h00 : bs.length = 0
  · have e0 : ((bs.length : Int) == 0) = true := by simp [h00]
    clear h00
    go_wp2_with fail
    go_ret
    exact ⟨rfl, hb⟩
  have e0 : ((bs.length : Int) == 0) = false := by rw [beq_eq_false_iff_ne]; omega
  have d10 : decide ((10 : Int) < (bs.length : Int)) = false := by simpa using h10
  go_wp2_with fail
  refine (rthere_any _ 0 _ hs).mono ?_
  rintro e u3 ⟨rfl, hb2⟩
  replace hb := hb.trans (hb2.mono hb.size)
  replace sc := sc.keep (Keeps.of_below hb2)
  replace hs := hs.keep (Keeps.of_below hb2)
  clear hb2
  try clear sc_0 sc_1 sc_2 sc_3
  have scx := sc
  obtain ⟨sc_0, sc_1, sc_2, sc_3⟩ := scx
  try dsimp only at sc_0 sc_1 sc_2 sc_3
  rw [HTh.out]
  cases Th
  · go_wp2_with fail
    go_ret
    exact ⟨rfl, hb⟩
  have hsz : bs.length ≤ 10 := by omega
  have Q2 : Hid (a1 = none → bs.length = 0 ∧ cap1 = 0) := hidp HB.out.sl.1
  have L2 : Hid ((bs.map (Value.int .i64)).length = bs.length * 1) := hidp (by simp)
  have O2 : Hid (∀ u ∈ bs.map (Value.int .i64), u.oneCell' = true) := hidp (fun u hu => by obtain ⟨n, _, rfl⟩ := List.mem_map.1 hu; rfl)
  have N2 : Hid (0 + bs.length ≤ maxLen) := hidp (by unfold maxLen; omega)
  have T2 : Hid ((0 + bs.length) * 8 ≤ 140737488355328) := hidp (by omega)
  have S2 : Hid (Lies u3.heap.size u3 a1 (bs.map (Value.int .i64))) := hidp (Row.lies (HB1.out _ hb).at_)
  have Z2 : Hid (w.heap.size + 1 ≤ u3.heap.size) := hidp (cell_lt sc.1)
  have P2 : Hid (0 < bs.length) := hidp (by omega)
  obtain ⟨kk, hkk⟩ : ∃ kk, wh % bs.length = kk := ⟨_, rfl⟩
  have hkl : kk < bs.length := by rw [← hkk]; exact Nat.mod_lt _ P2.out
  have ht1 : (wh : Int).tmod (bs.length : Int) = (kk : Int) := by rw [Int.tmod_eq_emod_of_nonneg (by omega), ← hkk]; simp
  have hne : ¬ bs.length = 0 := h00
  clear hkk h00
  obtain ⟨x, Hx⟩ : ∃ x, Hid (bs.getD kk 0 = x) := ⟨_, rfl⟩
  have Hcell : Hid (∀ (u : World) (g c : Nat), u.ownsRow (w.heap.size + 1) 3 1 (.slice (some ⟨g, 0, none⟩) bs.length c) bs.length (bs.map (Value.int .i64)) → u.cell? ⟨g, kk, none⟩ = some (.int .i64 x)) := hidp (fun u g c h => by
    obtain ⟨b, off, e, hc⟩ := (Lies.row (B := u.heap.size) (k := .i64) (Lies.of_own h)).resolve_left (by intro e; rw [e] at hkl; simp at hkl)
    cases e
    have := hc kk hkl
    rw [Nat.zero_add, Hx.out] at this
    exact this)
  have hcase : x < 0 ∨ ¬ x < 0 ∧ 1073741824 < x ∨ ¬ x < 0 ∧ ¬ 1073741824 < x := by omega
  rcases hcase with hx1 | ⟨hx1, hx2⟩ | ⟨hx1, hx2⟩
  · go_wp2_with (at_builtin; (refine wpList_app2 _ rfl (.const (.slice none 0 0)) (.tmp 37) 23 rfl (w.heap.size + 1) 3 i0 _ 1 8 Try.underlying23 hi0 hy0 hy1 hy2 rfl (by decide) none 0 0 [] rfl (World.ownsRow_nil _ _ _ _) u3.heap.size a1 bs.length cap1 (bs.map (Value.int .i64)) rfl Q2.out L2.out S2.out O2.out N2.out T2.out Z2.out ?_; intro A' c' w4 happ; simp only [Nat.zero_add, List.nil_append] at happ; obtain ⟨g, hA', hg1, hg2⟩ := own_at happ.own P2.out; subst hA'; simp only [Nat.zero_add]; have hbw := hb.trans (happ.turned.below hb.size (by simp [fp])); have cc0 := Hcell.out _ _ _ happ.own; have fz0 := own_frozen happ.own kk; have sc4 := sc.turned happ.turned (by simp [fp]); obtain ⟨sc_0, sc_1, sc_2, sc_3⟩ := id sc4))
    go_ret
    exact ⟨rfl, hbw⟩
  · go_wp2_with (at_builtin; (refine wpList_app2 _ rfl (.const (.slice none 0 0)) (.tmp 37) 23 rfl (w.heap.size + 1) 3 i0 _ 1 8 Try.underlying23 hi0 hy0 hy1 hy2 rfl (by decide) none 0 0 [] rfl (World.ownsRow_nil _ _ _ _) u3.heap.size a1 bs.length cap1 (bs.map (Value.int .i64)) rfl Q2.out L2.out S2.out O2.out N2.out T2.out Z2.out ?_; intro A' c' w4 happ; simp only [Nat.zero_add, List.nil_append] at happ; obtain ⟨g, hA', hg1, hg2⟩ := own_at happ.own P2.out; subst hA'; simp only [Nat.zero_add]; have hbw := hb.trans (happ.turned.below hb.size (by simp [fp])); have cc0 := Hcell.out _ _ _ happ.own; have fz0 := own_frozen happ.own kk; have sc4 := sc.turned happ.turned (by simp [fp]); obtain ⟨sc_0, sc_1, sc_2, sc_3⟩ := id sc4))
    go_ret
    exact ⟨rfl, hbw⟩
  · go_wp2_with (at_builtin; (refine wpList_app2 _ rfl (.const (.slice none 0 0)) (.tmp 37) 23 rfl (w.heap.size + 1) 3 i0 _ 1 8 Try.underlying23 hi0 hy0 hy1 hy2 rfl (by decide) none 0 0 [] rfl (World.ownsRow_nil _ _ _ _) u3.heap.size a1 bs.length cap1 (bs.map (Value.int .i64)) rfl Q2.out L2.out S2.out O2.out N2.out T2.out Z2.out ?_; intro A' c' w4 happ; simp only [Nat.zero_add, List.nil_append] at happ; obtain ⟨g, hA', hg1, hg2⟩ := own_at happ.own P2.out; subst hA'; simp only [Nat.zero_add]; have hbw := hb.trans (happ.turned.below hb.size (by simp [fp])); have cc0 := Hcell.out _ _ _ happ.own; have fz0 := own_frozen happ.own kk; have sc4 := sc.turned happ.turned (by simp [fp]); obtain ⟨sc_0, sc_1, sc_2, sc_3⟩ := id sc4))
    have hx3 : 0 ≤ x := by omega
    have oN : OwnN (w.heap.size + 1) w4 (some ⟨g, 0, none⟩) bs.length c' bs := ⟨happ.own, rfl, happ.cap, happ.nil⟩
    have oP := oN.put hkl (x + mo)
    have TS := (Turned.refl [g] w4).setCell (p := ⟨g, kk, none⟩) (.inl (by simp)) (.int .i64 (x + mo))
    have hb5 := hbw.trans (TS.below hbw.size (by simp; omega))
    have sc5 := sc4.turned TS (by simp; omega)
    have Hcs : Hid (∀ k, bs.getD k 0 ≤ (bs.set kk (x + mo)).getD k 0) := hidp (set_le (by rw [Hx.out]; omega))
    have HCl : Hid ((bs.set kk (x + mo)).length = bs.length) := hidp (by simp)
    have cok := oP.ok (fun z hz => by
      rcases List.mem_or_eq_of_mem_set hz with h | h
      · exact HB.out.wf z h
      · rw [h]; unfold I64; omega)
    obtain ⟨cs, hcs⟩ : ∃ cs, bs.set kk (x + mo) = cs := ⟨_, rfl⟩
    rw [hcs] at Hcs HCl cok
    clear hcs oN oP TS happ hbw sc4 sc_0 sc_1 sc_2 sc_3 cc0 fz0 hb sc S2 hs
    obtain ⟨w5, hw5⟩ : ∃ w5, w4.setCell ⟨g, kk, none⟩ (.int .i64 (x + mo)) = w5 := ⟨_, rfl⟩
    rw [hw5] at hb5 sc5 cok ⊢
    clear hw5
    go_loopg [11] tasks.length (fun gg i wr => ∃ k : Nat, k + gg = tasks.length ∧ i = .int .i64 k ∧ SetCells wr w.heap.size ⟨proto, ca, cc, cores, ha, hc, homes, ta, tc, tasks⟩ ∧ IntsOk wr (some ⟨g, 0, none⟩) c' cs ∧ Below w.heap.size w wr)
    case atStart => exact ⟨0, by omega, rfl, sc5, cok, hb5⟩
    case round =>
      clear sc5 cok hb5
      obtain ⟨i, hi, rfl, sc, cok, hb⟩ := hrel
      obtain ⟨sc_0, sc_1, sc_2, sc_3⟩ := id sc
      dsimp only at sc_0 sc_1 sc_2 sc_3
      by_cases hlt : i < tasks.length
      · obtain ⟨g5, off, hA, hcl⟩ := HR.out.resolve_left (by intro e; rw [e] at hlt; simp at hlt)
        subst hA
        obtain ⟨t, HT⟩ : ∃ t, Hid (tasks.getD i default = t) := ⟨_, rfl⟩
        have Ht5 := hidp ((HT.out ▸ hcl i hlt).2.2.2.2.2)
        have l5 : t.parts.length ≤ maxLen := Nat.le_trans (Hok.out t (HT.out ▸ getD_mem hlt)).sl.2.1 (Hok.out t (HT.out ▸ getD_mem hlt)).sl.2.2
        unfold maxLen at l5
        clear hcl
        go_wp2
        go_loopg [12] t.parts.length (fun g2 j wr => ∃ k : Nat, k + g2 = t.parts.length ∧ j = .int .i64 k ∧ SetCells wr w.heap.size ⟨proto, ca, cc, cores, ha, hc, homes, some ⟨g5, off, none⟩, tc, tasks⟩ ∧ IntsOk wr (some ⟨g, 0, none⟩) c' cs ∧ Below w.heap.size w wr)
        case atStart => exact ⟨0, by omega, rfl, sc, cok, hb⟩
        case round =>
          clear sc_0 sc_1 sc_2 sc_3 sc cok hb
          obtain ⟨j, hj, rfl, sc, cok, hb⟩ := hrel
          obtain ⟨sc_0, sc_1, sc_2, sc_3⟩ := id sc
          dsimp only at sc_0 sc_1 sc_2 sc_3
          have d5 := Keeps.of_below hb _ _ Ht5.out
          by_cases hlj : j < t.parts.length
          · go_wp2_with fail
            have CC := apart_any _ bs a1 cap1 i j _ (HS1.out _ hb) (HB1.out _ hb)
            rw [HV.out, HK.out] at CC
            refine CC.mono ?_
            rintro e u6 ⟨rfl, hb2⟩
            clear CC
            replace hb := hb.trans (hb2.mono hb.size)
            replace sc := sc.keep (Keeps.of_below hb2)
            replace cok := cok.keep (Keeps.of_below hb2)
            clear hb2
            try clear sc_0 sc_1 sc_2 sc_3
            have scx := sc
            obtain ⟨sc_0, sc_1, sc_2, sc_3⟩ := scx
            try dsimp only at sc_0 sc_1 sc_2 sc_3
            go_wp2_with fail
            have CC := apart_any _ cs (some ⟨g, 0, none⟩) c' i j _ (HS1.out _ hb) cok
            rw [HAV.out, HAK.out, HCl.out] at CC
            refine CC.mono ?_
            rintro e u7 ⟨rfl, hb2⟩
            clear CC
            replace hb := hb.trans (hb2.mono hb.size)
            replace sc := sc.keep (Keeps.of_below hb2)
            replace cok := cok.keep (Keeps.of_below hb2)
            clear hb2
            try clear sc_0 sc_1 sc_2 sc_3
            have scx := sc
            obtain ⟨sc_0, sc_1, sc_2, sc_3⟩ := scx
            try dsimp only at sc_0 sc_1 sc_2 sc_3
            clear d5
            by_cases e : AK cs i j = true
            · obtain ⟨e1, e2⟩ := HVc.out cs Hcs.out HCl.out i j (by rw [HAK.out]; exact e)
              rw [HAV.out] at e2
              go_wp2
              go_roundg (t.parts.length - j - 1)
              case measure => omega
              case rel => exact ⟨j + 1, by omega, by go_num, sc, cok, hb⟩
            · have e : AK cs i j = false := by simpa using e
              go_wp2
              go_roundg (t.parts.length - j - 1)
              case measure => omega
              case rel => exact ⟨j + 1, by omega, by go_num, sc, cok, hb⟩
          · go_wp2
            go_roundg (tasks.length - i - 1)
            case measure => omega
            case rel => exact ⟨i + 1, by omega, by go_num, sc, cok, hb⟩
      · go_wp2
        go_ret
        exact ⟨rfl, hb⟩

theorem own : ownKnob Try.prog.godebug = none := by kernel_rfl
theorem laidOut : laidOutB Try.prog = true := by kernel_rfl

/-! THE ROW's STEP -/
set_option maxRecDepth 100000 in
theorem lifted (os : Os) (started : os.Started) (H : Type) (enc : TypeId × Value → H) :
    ReturnsInHanded {} Try.checked os 7 .any (Rows.agentRisesSpec.pre6 enc Try.prog Try.f7 Rows.agentRisesRow.domain false) (Rows.agentRisesSpec.post enc Try.prog Try.f7 false true false false) := by
  refine returnsInHanded_of_change (C := Try.checked) own started (by kernel_rfl) Try.func7
    (ChangeSpec.witness6 (enc := enc) (C := Try.checked) false ⟨#[], #[.agg #[.int .i64 0, .slice none 0 0, .slice none 0 0, .slice none 0 0], .slice none 0 0, .int .u8 0, .int .u8 0], []⟩ 8 (by kernel_rfl) (by kernel_rfl) (by kernel_rfl) (by kernel_rfl)) ?_
  intro W base args ds gs before hval0 hW hcnd _
  have hval : ∀ (j : Nat) t v, Try.f7.params[j]? = some t → args[j]? = some v → Value.okWide Try.prog W .any base t v := hval0
  have hW' := hW
  obtain ⟨p, q, hA0, hV, rfl, hfz, hnd⟩ := hW
  have hA : DataW.TrodAll enc Try.prog W 0 (fun _ => true) true Try.f7.params.toList args.toList ds p := hA0
  rw [Try.params7] at hA hval
  obtain ⟨v0, vs0, d0, ds0, p0, q0, hargs, rfl, rfl, h0, r0⟩ := trodAll_cons hA
  obtain ⟨v1, vs1, d1, ds1, p1, q1, rfl, rfl, rfl, h1, r1⟩ := trodAll_cons r0
  obtain ⟨v2, vs2, d2, ds2, p2, q2, rfl, rfl, rfl, h2, r2⟩ := trodAll_cons r1
  obtain ⟨v3, vs3, d3, ds3, p3, q3, rfl, rfl, rfl, h3, r3⟩ := trodAll_cons r2
  obtain ⟨rfl, rfl, rfl⟩ := trodAll_nil r3
  obtain rfl : args = #[v0, v1, v2, v3] := by cases args; simp_all
  obtain ⟨rfl, rfl⟩ := trodVars_none hV
  have k0 := h0
  have lt0 : ∀ x ∈ p0, x.block < W.heap.size := by obtain ⟨m, hm⟩ := k0; exact DataW.trod_lt m _ _ _ hm
  obtain ⟨s0, w0, rfl⟩ := setTypes.arg_set (hval 0 26 v0 rfl rfl) h0
  obtain ⟨a1, len1, cap1, rfl⟩ := okWide_slice Try.underlying23 (hval 1 23 v1 rfl rfl)
  have k1 := h1
  have lt1 : ∀ x ∈ p1, x.block < W.heap.size := by obtain ⟨m, hm⟩ := k1; exact DataW.trod_lt m _ _ _ hm
  obtain ⟨z1, w1⟩ : ∃ zs, IsRow .i64 W a1 len1 cap1 zs := by
    obtain ⟨fuel, hf⟩ := h1
    rcases open_ints Try.underlying23 Try.underlying3 (by kernel_rfl) hf with ⟨hcs, _⟩ | ⟨x, l, c, zs, hcs, _, hl, hm, hz, _, hcell, hwz⟩
    · simp [Value.cells] at hcs
      obtain ⟨rfl, rfl, rfl⟩ := hcs
      exact ⟨[], .inl ⟨rfl, rfl, rfl, rfl⟩⟩
    · simp [Value.cells] at hcs
      obtain ⟨rfl, rfl, rfl⟩ := hcs
      exact ⟨zs, .inr ⟨_, rfl, hl, hm, by simpa using hz, hcell, hwz⟩⟩
  obtain ⟨a2, rfl, rfl, rfl, w2⟩ := open_int Try.underlying5 (hval 2 5 v2 rfl rfl) h2
  obtain ⟨a3, rfl, rfl, rfl, w3⟩ := open_int Try.underlying5 (hval 3 5 v3 rfl rfl) h3
  clear hA0 hval0
  refine (walk s0 a1 len1 cap1 z1 a2 a3 W w0 w1 w2 w3).mono fun e W' ⟨he, bel⟩ => ?_
  subst he
  exact ⟨_, rfl, _, _, _, [], _, [], hW', trodAll_mk1 (shut_bool Try.underlying4 _), (trodAll_cons_mk (Below.trod laidOut (by kernel_rfl) (of_decide_eq_true (by kernel_rfl)) k0 bel lt0) (trodAll_cons_mk (Below.trod laidOut (by kernel_rfl) (of_decide_eq_true (by kernel_rfl)) k1 bel lt1) (trodAll_cons_mk (shut_int Try.underlying5 w2) (trodAll_cons_mk (shut_int Try.underlying5 w3) trodAll_mk0)))), rfl, bel.frame _, fun h => by cases h⟩

theorem over : Rows.agentRisesRow.holds Try.pinned (OpenSpec.ofChange Rows.agentRisesSpec) :=
  OpenClaim.holds_of_wide 7 Try.f7 rfl rfl rfl rfl rfl rfl rfl ⟨rfl, rfl, rfl, rfl, rfl⟩ rfl rfl rfl rfl rfl (by kernel_rfl) Try.func7 (by kernel_rfl)
    (of_decide_eq_true (by kernel_rfl)) (by unfold Func.isWrapper; first | (rw [if_pos (by decide +kernel)]; kernel_rfl) | (rw [if_neg (by decide +kernel)]; exact ⟨rfl, rfl⟩))
    (fun os started H enc _ => lifted os started H enc)

/-- THE STATEMENT -/
theorem proved : Rows.AgentRisesSaid := over
#print axioms proved
end Go.Proofs.Ytbjcoeipdnakkaa.agentRises

