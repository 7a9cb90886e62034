/- AgentLeast: what is told is enough, and nothing less is: by trying. No condition. -/
import Derived.Test.YtbjcoeipdnakkaaKnown14
import Derived.Test.YtbjcoeipdnakkaaFew14
import Derived.Test.YtbjcoeipdnakkaaRef14d
import Derived.Test.YtbjcoeipdnakkaaOk3
set_option maxHeartbeats 20000000
set_option maxRecDepth 100000
namespace Go.Proofs.Ytbjcoeipdnakkaa.agentLeast
open Go.ChangeShapes Go.WideShapes Go.ChangeAt Go.RowKit
open Go.ChangeMaps (open_string shut_string)
set_option linter.unusedVariables false

/-- THE WALK: the Go text returns true, and writes nothing that was there. -/
theorem walk (s0 : SetR) (a1 : Option Addr) (len1 cap1 : Nat) (z1 : List Int) (a2 : Int) (a3 : Int) (w : World) (w0 : SetOk w s0) (w1 : IsRow .i64 w a1 len1 cap1 z1) (w2 : (Lit.int .u8 a2).wf = true) (w3 : (Lit.int .u8 a3).wf = true) :
    Calls Try.prog 6 #[.agg #[.int .i64 s0.proto, .slice s0.ca s0.cores.length s0.cc, .slice s0.ha s0.homes.length s0.hc, .slice s0.ta s0.tasks.length s0.tc], .slice a1 len1 cap1, .int .u8 a2, .int .u8 a3] w fun e w' => e = .returned (.bool true) ∧ Below w.heap.size w w' := by
  have hb := (Below.refl w.heap.size w).alloc (Nat.le_refl _) (.cells #[.int .i64 s0.proto, .slice s0.ca s0.cores.length s0.cc, .slice s0.ha s0.homes.length s0.hc, .slice s0.ta s0.tasks.length s0.tc] 26)
  have sc := SetCells.new w s0 26
  have hs := w0.keep (Keeps.of_below hb)
  have HS := hidp w0
  obtain ⟨hB0, hBl⟩ := w1.ints
  obtain ⟨bs, hbs⟩ : ∃ bs, z1.take len1 = bs := ⟨_, rfl⟩
  rw [hbs] at hB0 hBl
  subst hBl
  have HB := hidp hB0
  have l4 : bs.length ≤ maxLen := Nat.le_trans hB0.sl.2.1 hB0.sl.2.2
  have l3 : s0.tasks.length ≤ maxLen := Nat.le_trans w0.tasks.sl.2.1 w0.tasks.sl.2.2
  unfold maxLen at l4 l3
  obtain ⟨n, hn⟩ : ∃ n : Nat, a2 = n := nat_u8 w2
  obtain ⟨m, hm⟩ : ∃ m : Nat, a3 = m := nat_u8 w3
  have n255 : n ≤ 255 := u8_le w2 hn
  have m255 : m ≤ 255 := u8_le w3 hm
  subst hn
  subst hm
  clear w1 w2 w3 hB0 hbs
  by_cases eth : thereB s0 n = true
  · obtain ⟨ho, r1, r2⟩ := thereB_true.1 eth
    have hnl : n < s0.tasks.length := by omega
    have Hth := hidp eth
    have hg := Good.of ho
    obtain ⟨t, HT⟩ : ∃ t, Hid (s0.tasks.getD n default = t) := ⟨_, rfl⟩
    have hm2 : t ∈ s0.tasks := HT.out ▸ getD_mem hnl
    have Tok := w0.tasks.ok t hm2
    have Tg := hg.parts t hm2
    have hpl := Tg.len
    obtain ⟨g, off, hA, hcl⟩ := w0.tasks.at_.resolve_left (by intro e; rw [e] at hnl; simp at hnl)
    have Ht5 := hidp ((HT.out ▸ hcl n hnl).2.2.2.2.2)
    obtain ⟨gp, op, hP, hpc⟩ := Tok.at_.resolve_left (by intro e; rw [e] at hpl; simp at hpl)
    have Hpc := hidp hpc
    have HL2 := hidp Tg.good
    have HhA := hidp w0.homes.at_
    obtain ⟨parts, hparts⟩ : ∃ parts, t.parts = parts := ⟨_, rfl⟩
    have Hpt : Hid ((s0.tasks.getD n default).parts = parts) := hidp (by rw [HT.out, hparts])
    rw [hP, hparts] at Ht5
    rw [hparts] at Hpc HL2 hpl
    clear hcl hm2 Tok Tg hpc hP hparts hg HT w0 r1 eth
    have hrl := hidp (fun (P C : Int) => Nat.le_trans (rivL_len s0 bs P C 0 s0.tasks) (Good.of ho).ntasks.2)
    have Hnhom := hidp (Good.of ho).nhomes
    have Hno : Hid (∀ p : Int, ¬ (0 ≤ p ∧ p < parts.length ∧ (parts.getD p.toNat default).kind = 3) → agentV s0 bs n p = 0 ∧ agentK s0 bs n p = false) := hidp (fun p h => agent_not (fun h2 => h ⟨h2.2.2.1, by
      have h3 := h2.2.2.2.1; simp only [Int.toNat_natCast] at h3; rw [Hpt.out] at h3; exact h3, by
      have h3 := h2.2.2.2.2; unfold partAt at h3; simp only [Int.toNat_natCast] at h3; rw [Hpt.out] at h3; exact h3⟩))
    have Hpa : Hid (∀ m : Nat, partAt s0 n m = parts.getD m default) := hidp (fun m => by unfold partAt; simp only [Int.toNat_natCast]; rw [Hpt.out])
    have Hyes : Hid (bs.length = s0.tasks.length → ∀ m : Nat, m < parts.length → (parts.getD m default).kind = 3 → (agentV s0 bs n m = setV (leastV s0 n m) (rivL s0 bs (prioOf s0 n) (homeV s0 n m) 0 s0.tasks) ∧ agentK s0 bs n m = setK (leastV s0 n m) (rivL s0 bs (prioOf s0 n) (homeV s0 n m) 0 s0.tasks))) := hidp (fun hl m hm hk => 
      agent_yes Hth.out hl (by omega) (by simp only [Int.toNat_natCast]; rw [Hpt.out]; omega) (by rw [Hpa.out]; exact hk))
    have HB1 : Hid (∀ u, Below w.heap.size w u → IntsOk u a1 cap1 bs) := hidp (fun u h => HB.out.keep (Keeps.of_below h))
    have Hhi : Hid (bs.length = s0.tasks.length → ∀ c wd, higherV s0 bs n c wd = capV (workS wd (rivL s0 bs (prioOf s0 n) c 0 s0.tasks))) := hidp (fun hl c wd => by unfold higherV; rw [if_pos (higherB_true.2 ⟨Hth.out, hl⟩)])
    clear Hpt ho
    obtain ⟨V, HV⟩ : ∃ V, Hid (agentV s0 bs n m = V) := ⟨_, rfl⟩
    obtain ⟨K, HK⟩ : ∃ K, Hid (agentK s0 bs n m = K) := ⟨_, rfl⟩
    obtain ⟨S, hS, hSv⟩ : ∃ S : SetR, S = s0 ∧ S = s0 := ⟨s0, rfl, rfl⟩
    have HSs := hidp hSv
    clear hSv hS
    obtain ⟨proto, ca, cc, cores, ha, hc, homes, ta, tc, tasks⟩ := s0
    dsimp only at hA hnl l3 r2 hb sc hs HhA Hnhom HL2 ⊢
    subst hA
    have dn : decide (tasks.length ≤ n) = false := by simp; omega
    go_enter Try.func6, Try.ntmps6
    go_wp2_with fail
    refine (known14_any _).mono ?_
    rintro e u1 ⟨rfl, hb2⟩
    replace hb := hb.trans (hb2.mono hb.size)
    replace sc := sc.keep (Keeps.of_below hb2)
    replace hs := hs.keep (Keeps.of_below hb2)
    clear hb2
    try clear sc_0 sc_1 sc_2 sc_3
    have scx := sc
    obtain ⟨sc_0, sc_1, sc_2, sc_3⟩ := scx
    try dsimp only at sc_0 sc_1 sc_2 sc_3
    go_wp2_with fail
    refine (few14_any _ _ hs).mono ?_
    rintro e u2 ⟨⟨b, rfl⟩, hb2⟩
    replace hb := hb.trans (hb2.mono hb.size)
    replace sc := sc.keep (Keeps.of_below hb2)
    replace hs := hs.keep (Keeps.of_below hb2)
    clear hb2
    try clear sc_0 sc_1 sc_2 sc_3
    have scx := sc
    obtain ⟨sc_0, sc_1, sc_2, sc_3⟩ := scx
    try dsimp only at sc_0 sc_1 sc_2 sc_3
    cases b
    · go_wp2_with fail
      go_ret
      exact ⟨rfl, hb⟩
    by_cases h10 : (10 : Int) < (bs.length : Int)
    · go_wp2_with fail
      go_ret
      exact ⟨rfl, hb⟩
    go_wp2_with fail
    refine (rthere_any _ n _ hs).mono ?_
    rintro e u3 ⟨rfl, hb2⟩
    replace hb := hb.trans (hb2.mono hb.size)
    replace sc := sc.keep (Keeps.of_below hb2)
    replace hs := hs.keep (Keeps.of_below hb2)
    clear hb2
    try clear sc_0 sc_1 sc_2 sc_3
    have scx := sc
    obtain ⟨sc_0, sc_1, sc_2, sc_3⟩ := scx
    try dsimp only at sc_0 sc_1 sc_2 sc_3
    rw [Hth.out]
    have d5 := Keeps.of_below hb _ _ Ht5.out
    by_cases hml : m < parts.length
    · by_cases hl : bs.length = tasks.length
      · have d1 : ((bs.length : Int) != (tasks.length : Int)) = false := by simp [hl]
        have HLn := hidp hl
        clear hl
        obtain ⟨q, HQ⟩ : ∃ q, Hid (parts.getD m default = q) := ⟨_, rfl⟩
        have pcl := (HQ.out ▸ Hpc.out m hml).keep (Keeps.of_below hb)
        obtain ⟨x0, x1, x2⟩ := pcl
        have dm : decide (parts.length ≤ m) = false := by simp; omega
        have kk := Keeps.alloc u3 (.cells #[.int .i64 q.kind, .int .i64 q.len, .int .i64 q.res] 29)
        have hs' := hs.keep kk
        have hb' := hb.alloc hb.size (.cells #[.int .i64 q.kind, .int .i64 q.len, .int .i64 q.res] 29)
        have sc' := sc.keep kk
        have pc : PartCells (u3.alloc (.cells #[.int .i64 q.kind, .int .i64 q.len, .int .i64 q.res] 29)) u3.heap.size 0 q := ⟨by simp, by simp, by simp⟩
        obtain ⟨e0, e1, e2, e3⟩ := id sc'
        dsimp only at e0 e1 e2 e3
        clear hs hb sc kk
        have hs := hs'
        have hb := hb'
        have sc := sc'
        clear hs' hb' sc'
        go_wp2_with fail
        refine (apart_any _ bs a1 cap1 n m _ hs (HB1.out _ hb)).mono ?_
        rintro e u4 ⟨rfl, hb2⟩
        replace hb := hb.trans (hb2.mono hb.size)
        replace sc := sc.keep (Keeps.of_below hb2)
        replace hs := hs.keep (Keeps.of_below hb2)
        replace pc := pc.keep (Keeps.of_below hb2)
        clear hb2
        try clear sc_0 sc_1 sc_2 sc_3
        have scx := sc
        obtain ⟨sc_0, sc_1, sc_2, sc_3⟩ := scx
        try dsimp only at sc_0 sc_1 sc_2 sc_3
        rw [HV.out, HK.out]
        obtain ⟨y0, y1, y2⟩ := id pc
        clear e0 e1 e2 e3 x0 x1 x2 d5
        by_cases k : q.kind = 3
        · have k2 : (q.kind != 3) = false := by simpa using k
          obtain ⟨v1, v2⟩ := Hyes.out HLn.out m hml (by rw [HQ.out]; exact k)
          have pa := Hpa.out m
          rw [HQ.out] at pa
          obtain ⟨g0, g1, g2, g3⟩ := HL2.out q (HQ.out ▸ getD_mem hml)
          obtain ⟨g31, g32⟩ := g3 k
          try dsimp only at g32
          obtain ⟨r, hr⟩ : ∃ r : Nat, q.res = r := ⟨q.res.toNat, by omega⟩
          have hrl2 : r < homes.length := by omega
          obtain ⟨gh, oh, hHA, hhc⟩ := HhA.out.resolve_left (by intro e; rw [e] at hrl2; simp at hrl2)
          obtain ⟨h, HH⟩ : ∃ h, Hid (homes.getD r 0 = h) := ⟨_, rfl⟩
          have ch := Keeps.of_below hb _ _ (HH.out ▸ hhc r hrl2)
          have hhome : homeV _ n m = h := (by unfold homeV; rw [pa, hr]; simpa using HH.out : homeV (⟨proto, ca, cc, cores, ha, hc, homes, some ⟨g, off, none⟩, tc, tasks⟩ : SetR) n m = h)
          obtain ⟨L, HLo⟩ : ∃ L, Hid (lowerV (⟨proto, ca, cc, cores, ha, hc, homes, some ⟨g, off, none⟩, tc, tasks⟩ : SetR) n h = L) := ⟨_, rfl⟩
          have hLb := lowerV_bd (⟨proto, ca, cc, cores, ha, hc, homes, some ⟨g, off, none⟩, tc, tasks⟩ : SetR) n h
          rw [HLo.out] at hLb
          obtain ⟨L0, L1⟩ := hLb
          have hleast : leastV (⟨proto, ca, cc, cores, ha, hc, homes, some ⟨g, off, none⟩, tc, tasks⟩ : SetR) n m = q.len + L := by unfold leastV; rw [pa, hhome, HLo.out]
          obtain ⟨rs, Hrs⟩ : ∃ rs, Hid (rivL (⟨proto, ca, cc, cores, ha, hc, homes, some ⟨g, off, none⟩, tc, tasks⟩ : SetR) bs (prioOf (⟨proto, ca, cc, cores, ha, hc, homes, some ⟨g, off, none⟩, tc, tasks⟩ : SetR) n) h 0 tasks = rs) := ⟨_, rfl⟩
          obtain ⟨own, hown⟩ : ∃ own, q.len + L = own := ⟨_, rfl⟩
          obtain ⟨F, HF⟩ : ∃ F, Hid (winF own rs = F) := ⟨_, rfl⟩
          have Hv : Hid (V = (fixO F own).getD 0) := hidp (by rw [← HV.out, v1, hleast, hhome, Hrs.out, hown, ← HF.out]; rfl)
          have HvK : Hid (K = (fixO F own).isSome) := hidp (by rw [← HK.out, v2, hleast, hhome, Hrs.out, hown, ← HF.out]; rfl)
          have Hh2 : Hid (∀ wd, higherV (⟨proto, ca, cc, cores, ha, hc, homes, some ⟨g, off, none⟩, tc, tasks⟩ : SetR) bs n h wd = capV (workS wd rs)) := hidp (fun wd => by rw [Hhi.out HLn.out, Hrs.out])
          have HW : Hid (∀ x, F x = own + capV (workS x rs)) := hidp (fun x => by rw [← HF.out]; rfl)
          have Ho : Hid (∀ x, own ≤ F x ∧ F x ≤ own + 1000000) := hidp (fun x => by rw [← HF.out]; exact winF_own own rs x)
          have o1 : 1 ≤ own := by omega
          have o2 : own ≤ 120 := by omega
          have Hown := hidp hown
          have hwr : IntKind.i64.wrap (q.len + L) = own := by rw [hown]; exact IntWalk.i64_in _ (by omega)
          have hwn : IntKind.i64.wrap (n : Int) = n := IntWalk.i64_in _ (by omega)
          clear v1 v2 pa g0 g1 g2 g3 g31 g32 hhome hleast hhc k hown
          obtain ⟨kd, ln, rsx⟩ := q
          dsimp only at *
          subst hr
          subst hHA
          go_wp2_with fail
          have pb := Keeps.drew _ _ _ y1
          have s0 := Keeps.drew _ _ _ sc_0
          have s1 := Keeps.drew _ _ _ sc_1
          have s2 := Keeps.drew _ _ _ sc_2
          have s3 := Keeps.drew _ _ _ sc_3
          have H' := hs.keep (Keeps.drew u4)
          have hb := hb.drew
          clear y0 y1 y2 pc sc_0 sc_1 sc_2 sc_3 sc hs ch
          go_region_held3 (fun w' => w'.cell? ⟨u3.heap.size, 0 + 1, none⟩ = some (.int .i64 ln) ∧ w'.cell? ⟨w.heap.size, 0, none⟩ = some (.int .i64 proto) ∧ w'.cell? ⟨w.heap.size, 1, none⟩ = some (.slice ca cores.length cc) ∧ w'.cell? ⟨w.heap.size, 2, none⟩ = some (.slice (some ⟨gh, oh, none⟩) homes.length hc) ∧ w'.cell? ⟨w.heap.size, 3, none⟩ = some (.slice (some ⟨g, off, none⟩) tasks.length tc)) (exact ⟨pb, s0, s1, s2, s3⟩)
            (first
              | (go_at_call 22; refine (lower_any _ n h _ H').mono ?_; rintro e u ⟨rfl, hb3⟩; have pb := Keeps.of_below hb3 _ _ pb; have s0 := Keeps.of_below hb3 _ _ s0; have s1 := Keeps.of_below hb3 _ _ s1; have s2 := Keeps.of_below hb3 _ _ s2; have s3 := Keeps.of_below hb3 _ _ s3; have H' := H'.keep (Keeps.of_below hb3); have hb := hb.trans (hb3.mono hb.size); rw [HLo.out]))
          have sc : SetCells u w.heap.size ⟨proto, ca, cc, cores, some ⟨gh, oh, none⟩, hc, homes, some ⟨g, off, none⟩, tc, tasks⟩ := ⟨s0, s1, s2, s3⟩
          clear pb s0 s1 s2 s3 hwr hwn Hown L0 L1 HLo H'
          go_wp2_with fail
          go_loopg [14] (3001 - own).toNat (fun gg s14 wr => ∃ x : Int, x + gg = 3001 ∧ own ≤ x ∧ s14 = .int .i64 x ∧ Hid (∀ u, own ≤ u → u < x → F u ≠ u) ∧ SetCells wr w.heap.size ⟨proto, ca, cc, cores, some ⟨gh, oh, none⟩, hc, homes, some ⟨g, off, none⟩, tc, tasks⟩ ∧ Below w.heap.size w wr)
          case atStart => exact ⟨own, by omega, Int.le_refl _, rfl, hidp (fun u a b => by omega), sc, hb⟩
          case round =>
            clear sc hb
            obtain ⟨x, hx, hox, rfl, Hn, sc, hb⟩ := hrel
            obtain ⟨sc_0, sc_1, sc_2, sc_3⟩ := id sc
            dsimp only at sc_0 sc_1 sc_2 sc_3
            by_cases hlt : x ≤ 3000
            · obtain ⟨v, HVv⟩ : ∃ v, Hid (capV (workS x rs) = v) := ⟨_, rfl⟩
              have hy : F x = own + v := by rw [HW.out, HVv.out]
              have hv0 := Ho.out x
              rw [hy] at hv0
              obtain ⟨y0, y1⟩ := hv0
              have Hy := hidp hy
              clear hy
              have H2 := HS.out.keep (Keeps.of_below hb)
              go_wp2_with fail
              refine (higher_any _ bs a1 cap1 n h x _ H2 (HB1.out _ hb) (by unfold I64; omega)).mono ?_
              rintro e w3 ⟨rfl, hb2⟩
              replace hb := hb.trans (hb2.mono hb.size)
              replace sc := sc.keep (Keeps.of_below hb2)
              clear hb2
              try clear sc_0 sc_1 sc_2 sc_3
              have scx := sc
              obtain ⟨sc_0, sc_1, sc_2, sc_3⟩ := scx
              try dsimp only at sc_0 sc_1 sc_2 sc_3
              rw [Hh2.out, HVv.out]
              clear H2
              by_cases he : own + v = x
              · have Hz : Hid (fixO F own = some x) := hidp (fixO_at hox hlt (by rw [Hy.out]; exact he) Hn.out)
                have heq : (own + v == x) = true := by simpa using he
                have hK : K = true := by rw [HvK.out, Hz.out]; rfl
                have hV : (V == x) = true := by rw [Hv.out, Hz.out]; simp
                clear he
                go_wp2
                go_ret
                exact ⟨rfl, hb⟩
              · have heq : (own + v == x) = false := by simpa using he
                have Hp : Hid (∀ u, own ≤ u → u < x + 1 → F u ≠ u) := hidp (fun u a b => by
                  by_cases e : u < x
                  · exact Hn.out u a e
                  · obtain rfl : u = x := by omega
                    rw [Hy.out]; exact he)
                clear he
                go_wp2
                go_roundg (3001 - (x + 1)).toNat
                case measure => omega
                case rel => exact ⟨x + 1, by omega, by omega, rfl, Hp, sc, hb⟩
            · have Hz : Hid (fixO F own = none) := hidp (fixO_not (by omega) (fun u a b => Hn.out u a (by omega)))
              have hK : K = false := by rw [HvK.out, Hz.out]; rfl
              have hV : (V == 0) = true := by rw [Hv.out, Hz.out]; simp
              go_wp2
              go_ret
              exact ⟨rfl, hb⟩
        · have k2 : (q.kind != 3) = true := by simpa using k
          obtain ⟨k3, k4⟩ := Hno.out m (fun h => by have h2 := h.2.2; simp only [Int.toNat_natCast] at h2; rw [HQ.out] at h2; exact k h2)
          have e1 : V = 0 := HV.out.symm.trans k3
          have e2 : K = false := HK.out.symm.trans k4
          clear k3 k4 k HV HK
          subst e1
          subst e2
          go_wp2_with fail
          go_ret
          exact ⟨rfl, hb⟩
      · have d1 : ((bs.length : Int) != (tasks.length : Int)) = true := by simp; omega
        have dm : decide (parts.length ≤ m) = false := by simp; omega
        clear hl
        go_wp2_with fail
        go_ret
        exact ⟨rfl, hb⟩
    · have dm : decide (parts.length ≤ m) = true := by simp; omega
      go_wp2_with fail
      go_ret
      exact ⟨rfl, hb⟩
  · have Hth : Hid (thereB s0 n = false) := hidp (by simpa using eth)
    clear eth w0
    have hB := HB.out.keep (Keeps.of_below hb)
    go_enter Try.func6, Try.ntmps6
    go_wp2_with fail
    refine (known14_any _).mono ?_
    rintro e u1 ⟨rfl, hb2⟩
    replace hb := hb.trans (hb2.mono hb.size)
    replace sc := sc.keep (Keeps.of_below hb2)
    replace hs := hs.keep (Keeps.of_below hb2)
    replace hB := hB.keep (Keeps.of_below hb2)
    clear hb2
    try clear sc_0 sc_1 sc_2 sc_3
    have scx := sc
    obtain ⟨sc_0, sc_1, sc_2, sc_3⟩ := scx
    try dsimp only at sc_0 sc_1 sc_2 sc_3
    go_wp2_with fail
    refine (few14_any s0 _ hs).mono ?_
    rintro e u2 ⟨⟨b, rfl⟩, hb2⟩
    replace hb := hb.trans (hb2.mono hb.size)
    replace sc := sc.keep (Keeps.of_below hb2)
    replace hs := hs.keep (Keeps.of_below hb2)
    replace hB := hB.keep (Keeps.of_below hb2)
    clear hb2
    try clear sc_0 sc_1 sc_2 sc_3
    have scx := sc
    obtain ⟨sc_0, sc_1, sc_2, sc_3⟩ := scx
    try dsimp only at sc_0 sc_1 sc_2 sc_3
    cases b
    · go_wp2_with fail
      go_ret
      exact ⟨rfl, hb⟩
    · by_cases h10 : (10 : Int) < (bs.length : Int)
      · go_wp2_with fail
        go_ret
        exact ⟨rfl, hb⟩
      · go_wp2_with fail
        refine (rthere_any s0 n _ hs).mono ?_
        rintro e u3 ⟨rfl, hb2⟩
        replace hb := hb.trans (hb2.mono hb.size)
        replace sc := sc.keep (Keeps.of_below hb2)
        replace hs := hs.keep (Keeps.of_below hb2)
        replace hB := hB.keep (Keeps.of_below hb2)
        clear hb2
        try clear sc_0 sc_1 sc_2 sc_3
        have scx := sc
        obtain ⟨sc_0, sc_1, sc_2, sc_3⟩ := scx
        try dsimp only at sc_0 sc_1 sc_2 sc_3
        rw [Hth.out]
        go_wp2_with fail
        go_ret
        exact ⟨rfl, hb⟩

theorem own : ownKnob Try.prog.godebug = none := by kernel_rfl
theorem laidOut : laidOutB Try.prog = true := by kernel_rfl

/-! THE ROW's STEP -/
set_option maxRecDepth 100000 in
theorem lifted (os : Os) (started : os.Started) (H : Type) (enc : TypeId × Value → H) :
    ReturnsInHanded {} Try.checked os 6 .any (Rows.agentLeastSpec.pre6 enc Try.prog Try.f6 Rows.agentLeastRow.domain false) (Rows.agentLeastSpec.post enc Try.prog Try.f6 false true false false) := by
  refine returnsInHanded_of_change (C := Try.checked) own started (by kernel_rfl) Try.func6
    (ChangeSpec.witness6 (enc := enc) (C := Try.checked) false ⟨#[], #[.agg #[.int .i64 0, .slice none 0 0, .slice none 0 0, .slice none 0 0], .slice none 0 0, .int .u8 0, .int .u8 0], []⟩ 8 (by kernel_rfl) (by kernel_rfl) (by kernel_rfl) (by kernel_rfl)) ?_
  intro W base args ds gs before hval0 hW hcnd _
  have hval : ∀ (j : Nat) t v, Try.f6.params[j]? = some t → args[j]? = some v → Value.okWide Try.prog W .any base t v := hval0
  have hW' := hW
  obtain ⟨p, q, hA0, hV, rfl, hfz, hnd⟩ := hW
  have hA : DataW.TrodAll enc Try.prog W 0 (fun _ => true) true Try.f6.params.toList args.toList ds p := hA0
  rw [Try.params6] at hA hval
  obtain ⟨v0, vs0, d0, ds0, p0, q0, hargs, rfl, rfl, h0, r0⟩ := trodAll_cons hA
  obtain ⟨v1, vs1, d1, ds1, p1, q1, rfl, rfl, rfl, h1, r1⟩ := trodAll_cons r0
  obtain ⟨v2, vs2, d2, ds2, p2, q2, rfl, rfl, rfl, h2, r2⟩ := trodAll_cons r1
  obtain ⟨v3, vs3, d3, ds3, p3, q3, rfl, rfl, rfl, h3, r3⟩ := trodAll_cons r2
  obtain ⟨rfl, rfl, rfl⟩ := trodAll_nil r3
  obtain rfl : args = #[v0, v1, v2, v3] := by cases args; simp_all
  obtain ⟨rfl, rfl⟩ := trodVars_none hV
  have k0 := h0
  have lt0 : ∀ x ∈ p0, x.block < W.heap.size := by obtain ⟨m, hm⟩ := k0; exact DataW.trod_lt m _ _ _ hm
  obtain ⟨s0, w0, rfl⟩ := setTypes.arg_set (hval 0 26 v0 rfl rfl) h0
  obtain ⟨a1, len1, cap1, rfl⟩ := okWide_slice Try.underlying23 (hval 1 23 v1 rfl rfl)
  have k1 := h1
  have lt1 : ∀ x ∈ p1, x.block < W.heap.size := by obtain ⟨m, hm⟩ := k1; exact DataW.trod_lt m _ _ _ hm
  obtain ⟨z1, w1⟩ : ∃ zs, IsRow .i64 W a1 len1 cap1 zs := by
    obtain ⟨fuel, hf⟩ := h1
    rcases open_ints Try.underlying23 Try.underlying3 (by kernel_rfl) hf with ⟨hcs, _⟩ | ⟨x, l, c, zs, hcs, _, hl, hm, hz, _, hcell, hwz⟩
    · simp [Value.cells] at hcs
      obtain ⟨rfl, rfl, rfl⟩ := hcs
      exact ⟨[], .inl ⟨rfl, rfl, rfl, rfl⟩⟩
    · simp [Value.cells] at hcs
      obtain ⟨rfl, rfl, rfl⟩ := hcs
      exact ⟨zs, .inr ⟨_, rfl, hl, hm, by simpa using hz, hcell, hwz⟩⟩
  obtain ⟨a2, rfl, rfl, rfl, w2⟩ := open_int Try.underlying5 (hval 2 5 v2 rfl rfl) h2
  obtain ⟨a3, rfl, rfl, rfl, w3⟩ := open_int Try.underlying5 (hval 3 5 v3 rfl rfl) h3
  clear hA0 hval0
  refine (walk s0 a1 len1 cap1 z1 a2 a3 W w0 w1 w2 w3).mono fun e W' ⟨he, bel⟩ => ?_
  subst he
  exact ⟨_, rfl, _, _, _, [], _, [], hW', trodAll_mk1 (shut_bool Try.underlying4 _), (trodAll_cons_mk (Below.trod laidOut (by kernel_rfl) (of_decide_eq_true (by kernel_rfl)) k0 bel lt0) (trodAll_cons_mk (Below.trod laidOut (by kernel_rfl) (of_decide_eq_true (by kernel_rfl)) k1 bel lt1) (trodAll_cons_mk (shut_int Try.underlying5 w2) (trodAll_cons_mk (shut_int Try.underlying5 w3) trodAll_mk0)))), rfl, bel.frame _, fun h => by cases h⟩

theorem over : Rows.agentLeastRow.holds Try.pinned (OpenSpec.ofChange Rows.agentLeastSpec) :=
  OpenClaim.holds_of_wide 6 Try.f6 rfl rfl rfl rfl rfl rfl rfl ⟨rfl, rfl, rfl, rfl, rfl⟩ rfl rfl rfl rfl rfl (by kernel_rfl) Try.func6 (by kernel_rfl)
    (of_decide_eq_true (by kernel_rfl)) (by unfold Func.isWrapper; first | (rw [if_pos (by decide +kernel)]; kernel_rfl) | (rw [if_neg (by decide +kernel)]; exact ⟨rfl, rfl⟩))
    (fun os started H enc _ => lifted os started H enc)

/-- THE STATEMENT -/
theorem proved : Rows.AgentLeastSaid := over
#print axioms proved
end Go.Proofs.Ytbjcoeipdnakkaa.agentLeast

