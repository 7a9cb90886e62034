/- swingbridgeref11: Cores, Askers, inside, Inside, up. -/
import Derived.Test.YtindcpgmfdkpcaaGreatToken3
import Derived.Test.YtindcpgmfdkpcaaGreatRef11b
namespace Go.Proofs.YtindcpgmfdkpcaaGreat
open Go.ChangeShapes Go.WideShapes Go.ChangeAt Go.RowKit
set_option linter.unusedVariables false
set_option linter.unusedSimpArgs false

theorem rup_any (a b : Int) (w : World) (h0 : 0 ≤ a) (h1 : a ≤ 100) (h2 : 1 ≤ b) (h3 : b ≤ 3) : Calls Tryz.prog 79 #[.int .i64 a, .int .i64 b] w fun e w' => e = .returned (.int .i64 ((a + b - 1) / b)) ∧ w = w' := by
  have c0 : (b == 0) = false := by simp; omega
  have c1 : (b == -1) = false := by simp; omega
  have d1 : (a + b - 1).tdiv b = (a + b - 1) / b := Int.tdiv_eq_ediv_of_nonneg (by omega)
  obtain ⟨q, hq⟩ : ∃ q, (a + b - 1) / b = q := ⟨_, rfl⟩
  rw [hq] at d1 ⊢
  have q0 : 0 ≤ q ∧ q ≤ 103 := by
    rw [← hq]
    have hb : b = 1 ∨ b = 2 ∨ b = 3 := by omega
    rcases hb with rfl | rfl | rfl <;> omega
  obtain ⟨q1, q2⟩ := q0
  clear hq
  go_enter Tryz.func79, Tryz.ntmps79
  go_wp2
  go_ret
  exact ⟨rfl, rfl⟩

set_option maxHeartbeats 2000000 in
set_option maxRecDepth 100000 in
theorem rcores_any (s : SetR) (w : World) (hs : SetOk w s) (ho : okS s = true) : Calls Tryz.prog 94 #[.agg #[.int .i64 s.proto, .slice s.ca s.cores.length s.cc, .slice s.ha s.homes.length s.hc, .slice s.ta s.tasks.length s.tc]] w fun e w' => e = .returned (.int .i64 (coresV s)) ∧ Below w.heap.size w w' := by
  have hb := (Below.refl w.heap.size w).alloc (Nat.le_refl _) (.cells #[.int .i64 s.proto, .slice s.ca s.cores.length s.cc, .slice s.ha s.homes.length s.hc, .slice s.ta s.tasks.length s.tc] 25)
  have sc := SetCells.new w s 25
  have HS := hidp hs
  have Hv : Hid (coresV s = tot s.cores) := hidp (by unfold coresV; rw [if_pos ho])
  have hg := Good.of ho
  have Hc := hidp hg.cores
  have hl3 := hg.ncores.2
  have HR := hidp hs.cores.at_
  have Ho := hidp ho
  rw [Hv.out]
  clear hg hs ho Hv
  obtain ⟨proto, ca, cc, cores, ha, hc, homes, ta, tc, tasks⟩ := s
  dsimp only at HR Hc hl3 hb ⊢
  go_enter Tryz.func94, Tryz.ntmps94
  go_wp2
  go_loopg [3, 4] cores.length (fun g t i wr => ∃ (k : Nat) (x : Int), k + g = cores.length ∧ i = .int .i64 k ∧ t = .int .i64 x ∧ Hid (tot (cores.take k) = x) ∧ SetCells wr w.heap.size ⟨proto, ca, cc, cores, ha, hc, homes, ta, tc, tasks⟩ ∧ Below w.heap.size w wr)
  case atStart => exact ⟨0, 0, by omega, rfl, rfl, hidp (by simp [tot]), sc, hb⟩
  case round =>
    clear sc hb
    obtain ⟨k, x, hk, rfl, rfl, Hx, sc, hb⟩ := hrel
    obtain ⟨sc_0, sc_1, sc_2, sc_3⟩ := id sc
    dsimp only at sc_0 sc_1 sc_2 sc_3
    have hx := tot_bd3 (l := cores.take k) (fun n hn => Hc.out n (List.mem_of_mem_take hn))
    rw [Hx.out, List.length_take] at hx
    obtain ⟨x0, x1⟩ := hx
    have x2 : x ≤ 9 := by omega
    have x3 : 0 ≤ x := by omega
    clear x0 x1
    by_cases hlt : k < cores.length
    · obtain ⟨g, off, hA, hcl⟩ := HR.out.resolve_left (by intro e; rw [e] at hlt; simp at hlt)
      subst hA
      obtain ⟨n, HN⟩ : ∃ n, Hid (cores.getD k 0 = n) := ⟨_, rfl⟩
      have hn := Hc.out n (by rw [← HN.out]; simp [List.getD, hlt])
      obtain ⟨n0, n1⟩ := hn
      have Hs : Hid (tot (cores.take (k + 1)) = x + n) := hidp (by rw [tot_snoc _ _ hlt, Hx.out, HN.out])
      have Hcn := hidp (HN.out ▸ hcl k hlt)
      clear hcl
      go_wp2_with fail
      refine (rok_any _ _ (HS.out.keep (Keeps.of_below hb))).mono ?_
      rintro e w2 ⟨rfl, hb2⟩
      replace hb := hb.trans (hb2.mono hb.size)
      replace sc := sc.keep (Keeps.of_below hb2)
      clear hb2
      try clear sc_0 sc_1 sc_2 sc_3
      have scx := sc
      obtain ⟨sc_0, sc_1, sc_2, sc_3⟩ := scx
      try dsimp only at sc_0 sc_1 sc_2 sc_3
      rw [Ho.out]
      have cn := Keeps.of_below hb _ _ Hcn.out
      go_wp2
      go_roundg (gk - 1)
      case measure => omega
      case rel => exact ⟨k + 1, x + n, by omega, by go_num, rfl, Hs, sc, hb⟩
    · have Hz : Hid (tot cores = x) := hidp (by rw [← Hx.out, List.take_of_length_le (by omega)])
      go_wp2
      go_ret
      exact ⟨ret_int Hz.out.symm, hb⟩

theorem lock_pos {ps : List PartM} (h : LenOk ps) : (0 < maxL ps) ↔ sumK 3 ps ≠ 0 := by
  have h1 := maxL_le_sum h
  have h2 := maxL_nn ps
  constructor
  · intro h3; omega
  · intro h3
    by_cases e : maxL ps = 0
    · exact absurd (sum_le_maxL h e) h3
    · omega
set_option maxHeartbeats 2000000 in
set_option maxRecDepth 100000 in
theorem raskers_any (s : SetR) (cl : Int) (w : World) (hs : SetOk w s) (ho : okS s = true) : Calls Tryz.prog 80 #[.agg #[.int .i64 s.proto, .slice s.ca s.cores.length s.cc, .slice s.ha s.homes.length s.hc, .slice s.ta s.tasks.length s.tc], .int .i64 cl] w fun e w' => e = .returned (.int .i64 (askersV s cl)) ∧ Below w.heap.size w w' := by
  have hb := (Below.refl w.heap.size w).alloc (Nat.le_refl _) (.cells #[.int .i64 s.proto, .slice s.ca s.cores.length s.cc, .slice s.ha s.homes.length s.hc, .slice s.ta s.tasks.length s.tc] 25)
  have sc := SetCells.new w s 25
  have HS := hidp hs
  have Hv : Hid (askersV s cl = askN cl s.tasks) := hidp (by unfold askersV; rw [if_pos ho])
  have hg := Good.of ho
  have HG := hidp hg.parts
  have n6 := hg.ntasks.2
  have HR := hidp hs.tasks.at_
  have Hok := hidp hs.tasks.ok
  have Ho := hidp ho
  rw [Hv.out]
  clear hg hs ho Hv
  obtain ⟨proto, ca, cc, cores, ha, hc, homes, ta, tc, tasks⟩ := s
  dsimp only at HR HG n6 hb Hok ⊢
  go_enter Tryz.func80, Tryz.ntmps80
  go_wp2
  go_loopg [5, 6] tasks.length (fun g t i wr => ∃ (k : Nat) (x : Int), k + g = tasks.length ∧ i = .int .i64 k ∧ t = .int .i64 x ∧ Hid (askN cl (tasks.take k) = x) ∧ SetCells wr w.heap.size ⟨proto, ca, cc, cores, ha, hc, homes, ta, tc, tasks⟩ ∧ Below w.heap.size w wr)
  case atStart => exact ⟨0, 0, by omega, rfl, rfl, hidp (by simp [askN]), sc, hb⟩
  case round =>
    clear sc hb
    obtain ⟨k, x, hk, rfl, rfl, Hx, sc, hb⟩ := hrel
    obtain ⟨sc_0, sc_1, sc_2, sc_3⟩ := id sc
    dsimp only at sc_0 sc_1 sc_2 sc_3
    have hx := askN_bd cl (tasks.take k)
    rw [Hx.out, List.length_take] at hx
    obtain ⟨x0, x1⟩ := hx
    have x2 : x ≤ 6 := by omega
    clear x1
    by_cases hlt : k < tasks.length
    · obtain ⟨g, off, hA, hcl⟩ := HR.out.resolve_left (by intro e; rw [e] at hlt; simp at hlt)
      subst hA
      obtain ⟨t, HT⟩ : ∃ t, Hid (tasks.getD k default = t) := ⟨_, rfl⟩
      have hm : t ∈ tasks := HT.out ▸ getD_mem hlt
      have TL : Hid (TaskLen w t) := hidp ⟨(Hok.out t hm).at_, (HG.out t hm).lens, by have := (HG.out t hm).len; omega⟩
      obtain ⟨m, HM⟩ : ∃ m, Hid (maxL t.parts = m) := ⟨_, rfl⟩
      have Hp := hidp (lock_pos (HG.out t hm).lens)
      have Hs : Hid (askN cl (tasks.take (k + 1)) = x + if t.cl = cl ∧ 0 < m then 1 else 0) := hidp (by
        rw [askN_snoc _ _ _ hlt, Hx.out, HT.out, ← HM.out]
        congr 1
        by_cases e1 : t.cl = cl
        · by_cases e2 : 0 < maxL t.parts
          · rw [if_pos ⟨e1, Hp.out.1 e2⟩, if_pos ⟨e1, e2⟩]
          · rw [if_neg (fun h => e2 (Hp.out.2 h.2)), if_neg (fun h => e2 h.2)]
        · rw [if_neg (fun h => e1 h.1), if_neg (fun h => e1 h.1)])
      have Htc := hidp (HT.out ▸ hcl k hlt)
      clear hcl hm
      go_wp2_with fail
      refine (rok_any _ _ (HS.out.keep (Keeps.of_below hb))).mono ?_
      rintro e w2 ⟨rfl, hb2⟩
      replace hb := hb.trans (hb2.mono hb.size)
      replace sc := sc.keep (Keeps.of_below hb2)
      clear hb2
      try clear sc_0 sc_1 sc_2 sc_3
      have scx := sc
      obtain ⟨sc_0, sc_1, sc_2, sc_3⟩ := scx
      try dsimp only at sc_0 sc_1 sc_2 sc_3
      rw [Ho.out]
      obtain ⟨d0, d1, d2, d3, d4, d5⟩ := Htc.out.keep (Keeps.of_below hb)
      by_cases e1 : t.cl = cl
      · have e2 : (t.cl == cl) = true := by simpa using e1
        have E1 := hidp e1
        clear e1
        go_wp2_with fail
        refine (rlongest_any t _ (TL.out.keep (Keeps.of_below hb))).mono ?_
        rintro e w3 ⟨rfl, hb2⟩
        replace hb := hb.trans (hb2.mono hb.size)
        replace sc := sc.keep (Keeps.of_below hb2)
        clear hb2
        try clear sc_0 sc_1 sc_2 sc_3
        have scx := sc
        obtain ⟨sc_0, sc_1, sc_2, sc_3⟩ := scx
        try dsimp only at sc_0 sc_1 sc_2 sc_3
        rw [HM.out]
        clear d0 d1 d2 d3 d4 d5
        by_cases e3 : 0 < m
        · have Hz : Hid (askN cl (tasks.take (k + 1)) = x + 1) := hidp (by rw [Hs.out, if_pos ⟨E1.out, e3⟩])
          go_wp2
          go_roundg (gk - 1)
          case measure => omega
          case rel => exact ⟨k + 1, x + 1, by omega, by go_num, rfl, Hz, sc, hb⟩
        · have Hz : Hid (askN cl (tasks.take (k + 1)) = x) := hidp (by rw [Hs.out, if_neg (fun h => e3 h.2)]; omega)
          go_wp2
          go_roundg (gk - 1)
          case measure => omega
          case rel => exact ⟨k + 1, x, by omega, by go_num, rfl, Hz, sc, hb⟩
      · have e2 : (t.cl == cl) = false := by simpa using e1
        have Hz : Hid (askN cl (tasks.take (k + 1)) = x) := hidp (by rw [Hs.out, if_neg (fun h => e1 h.1)]; omega)
        clear e1
        go_wp2
        go_roundg (gk - 1)
        case measure => omega
        case rel => exact ⟨k + 1, x, by omega, by go_num, rfl, Hz, sc, hb⟩
    · have Hz : Hid (askN cl tasks = x) := hidp (by rw [← Hx.out, List.take_of_length_le (by omega)])
      go_wp2
      go_ret
      exact ⟨ret_int Hz.out.symm, hb⟩


set_option maxHeartbeats 2000000 in
set_option maxRecDepth 100000 in
theorem rinside_any (s : SetR) (of : Int) (w : World) (hs : SetOk w s) (ho : okS s = true) : Calls Tryz.prog 78 #[.agg #[.int .i64 s.proto, .slice s.ca s.cores.length s.cc, .slice s.ha s.homes.length s.hc, .slice s.ta s.tasks.length s.tc], .int .i64 of] w fun e w' => e = .returned (.int .i64 (besV s of)) ∧ Below w.heap.size w w' := by
  have hb := (Below.refl w.heap.size w).alloc (Nat.le_refl _) (.cells #[.int .i64 s.proto, .slice s.ca s.cores.length s.cc, .slice s.ha s.homes.length s.hc, .slice s.ta s.tasks.length s.tc] 25)
  have sc := SetCells.new w s 25
  have H := hs.keep (Keeps.of_below hb)
  have hg := Good.of ho
  have Ho := hidp ho
  obtain ⟨cv, Hcv⟩ : ∃ cv, Hid (coresV s = cv) := ⟨_, rfl⟩
  have hcv : 0 ≤ cv ∧ cv ≤ 9 := by
    rw [← Hcv.out]; unfold coresV; rw [if_pos ho]
    have h1 := tot_bd3 hg.cores
    have h2 := hg.ncores
    omega
  obtain ⟨q1, q2⟩ := hcv
  have Hlen := hidp (Nat.le_trans (rothL_len of 0 s.tasks) hg.ntasks.2)
  have Hi := hidp (fun x (hx : x ∈ rothL of 0 s.tasks) => (show I64 x by have := rothL_bd (of := of) (k := 0) (ts := s.tasks) (fun q hq => (hg.parts q hq).lens) x hx; unfold I64; omega))
  have HV : Hid (besV s of = sumW (tops (rothL of 0 s.tasks) (cv - 1))) := hidp (by unfold besV; rw [Hcv.out])
  obtain ⟨zs, hzs⟩ : ∃ zs, rothL of 0 s.tasks = zs := ⟨_, rfl⟩
  rw [hzs] at HV Hlen Hi
  have Hzs := hidp hzs
  have hl6 := Hlen.out
  have hwr : IntKind.i64.wrap (cv - 1) = cv - 1 := IntWalk.i64_in _ (by omega)
  clear hzs hg ho hs
  obtain ⟨e0, e1, e2, e3⟩ := sc
  have s0 := Keeps.drew _ _ _ e0
  have s1 := Keeps.drew _ _ _ e1
  have s2 := Keeps.drew _ _ _ e2
  have s3 := Keeps.drew _ _ _ e3
  have H' := H.keep (Keeps.drew _)
  have hb := hb.drew
  clear e0 e1 e2 e3 H
  go_enter Tryz.func78, Tryz.ntmps78
  go_wp2_with fail
  go_region_held3 (fun w' => w'.cell? ⟨w.heap.size, 0, none⟩ = some (.int .i64 s.proto) ∧ w'.cell? ⟨w.heap.size, 1, none⟩ = some (.slice s.ca s.cores.length s.cc) ∧ w'.cell? ⟨w.heap.size, 2, none⟩ = some (.slice s.ha s.homes.length s.hc) ∧ w'.cell? ⟨w.heap.size, 3, none⟩ = some (.slice s.ta s.tasks.length s.tc)) (exact ⟨s0, s1, s2, s3⟩)
    (first
      | (go_at_call 53; refine (rothers_any s of _ H' Ho.out).mono ?_; rintro e u ⟨A, c, rfl, hrow0, hsl0, hb3⟩; have s0 := Keeps.of_below hb3 _ _ s0; have s1 := Keeps.of_below hb3 _ _ s1; have s2 := Keeps.of_below hb3 _ _ s2; have s3 := Keeps.of_below hb3 _ _ s3; have H' := H'.keep (Keeps.of_below hb3); have hb := hb.trans (hb3.mono hb.size); rw [Hzs.out] at hrow0 hsl0 ⊢; have hrow := hrow0; have HB := hidp hsl0)
      | (go_at_call 94; refine (rcores_any s _ H' Ho.out).mono ?_; rintro e u ⟨rfl, hb3⟩; have s0 := Keeps.of_below hb3 _ _ s0; have s1 := Keeps.of_below hb3 _ _ s1; have s2 := Keeps.of_below hb3 _ _ s2; have s3 := Keeps.of_below hb3 _ _ s3; have H' := H'.keep (Keeps.of_below hb3); have hb := hb.trans (hb3.mono hb.size); rw [Hcv.out]; (try have hrow := hrow.keep (Keeps.of_below hb3)))
      | (go_at_call 52; refine (rsum_any (zs := zs) (k := cv - 1) hrow rfl HB.out.2.1 HB.out.1 (by omega) (by unfold I64; omega) Hi.out).mono ?_; rintro e u ⟨rfl, hb3⟩; have s0 := Keeps.of_below hb3 _ _ s0; have s1 := Keeps.of_below hb3 _ _ s1; have s2 := Keeps.of_below hb3 _ _ s2; have s3 := Keeps.of_below hb3 _ _ s3; have hb := hb.trans (hb3.mono hb.size); skip))
  clear hwr
  go_wp2_with fail
  go_ret
  exact ⟨ret_int HV.out.symm, hb⟩

set_option maxHeartbeats 4000000 in
set_option maxRecDepth 100000 in
theorem rInside_any (s : SetR) (of part : Int) (w : World) (hs : SetOk w s) : Calls Tryz.prog 56 #[.agg #[.int .i64 s.proto, .slice s.ca s.cores.length s.cc, .slice s.ha s.homes.length s.hc, .slice s.ta s.tasks.length s.tc], .int .i64 of, .int .i64 part] w fun e w' => e = .returned (.tuple #[.int .i64 (insV s of part), .bool (fairK s of part)]) ∧ Below w.heap.size w w' := by
  have hb := (Below.refl w.heap.size w).alloc (Nat.le_refl _) (.cells #[.int .i64 s.proto, .slice s.ca s.cores.length s.cc, .slice s.ha s.homes.length s.hc, .slice s.ta s.tasks.length s.tc] 25)
  have sc := SetCells.new w s 25
  have H := hs.keep (Keeps.of_below hb)
  clear hs
  by_cases k : fairK s of part = true
  · obtain ⟨f1, f2, f3, f4⟩ := fairK_iff.1 k
    obtain ⟨ho, r1, r2⟩ := thereB_true.1 f1
    have Ho := hidp ho
    obtain ⟨p, HP⟩ : ∃ p, Hid (lockP s of part = p) := ⟨_, rfl⟩
    have hpp : partAt s of part = p := by rw [← HP.out]; unfold lockP; rw [if_pos k]
    have hp : p ∈ (s.tasks.getD of.toNat default).parts := by rw [← hpp]; unfold partAt; exact getD_mem (by omega)
    have hq := ((Good.of ho).parts _ (getD_mem (by omega : of.toNat < s.tasks.length))).lens _ hp
    obtain ⟨q1, q2⟩ := hq
    obtain ⟨B, HB⟩ : ∃ B, Hid (besV s of = B) := ⟨_, rfl⟩
    have hBb := besV_bd ho of
    rw [HB.out] at hBb
    obtain ⟨B0, B1⟩ := hBb
    have Hk := hidp k
    have Hv : Hid (insV s of part = p.len + B) := hidp (by unfold insV; rw [if_pos k, hpp, HB.out])
    have hwr : IntKind.i64.wrap (p.len + B) = p.len + B := IntWalk.i64_in _ (by omega)
    clear k f1 f2 f3 f4 ho r1 r2 hpp hp
    go_enter Tryz.func56, Tryz.ntmps56
    go_wp2_with fail
    refine (rlock_any _ _ _ _ H).mono ?_
    rintro e w2 ⟨rfl, hb2⟩
    replace hb := hb.trans (hb2.mono hb.size)
    replace sc := sc.keep (Keeps.of_below hb2)
    replace H := H.keep (Keeps.of_below hb2)
    clear hb2
    rw [HP.out, Hk.out]
    have kk := Keeps.alloc w2 (.cells #[.int .i64 p.kind, .int .i64 p.len, .int .i64 p.res] 43)
    obtain ⟨e0, e1, e2, e3⟩ := sc.keep kk
    have pb : (w2.alloc (.cells #[.int .i64 p.kind, .int .i64 p.len, .int .i64 p.res] 43)).cell? ⟨w2.heap.size, 1, none⟩ = some (.int .i64 p.len) := by simp
    have pb := Keeps.drew _ _ _ pb
    have s0 := Keeps.drew _ _ _ e0
    have s1 := Keeps.drew _ _ _ e1
    have s2 := Keeps.drew _ _ _ e2
    have s3 := Keeps.drew _ _ _ e3
    have H' := (H.keep kk).keep (Keeps.drew _)
    have hb := (hb.alloc hb.size (.cells #[.int .i64 p.kind, .int .i64 p.len, .int .i64 p.res] 43)).drew
    clear H sc e0 e1 e2 e3 kk
    go_wp2_with fail
    go_region_held3 (fun w' => w'.cell? ⟨w2.heap.size, 1, none⟩ = some (.int .i64 p.len) ∧ w'.cell? ⟨w.heap.size, 0, none⟩ = some (.int .i64 s.proto) ∧ w'.cell? ⟨w.heap.size, 1, none⟩ = some (.slice s.ca s.cores.length s.cc) ∧ w'.cell? ⟨w.heap.size, 2, none⟩ = some (.slice s.ha s.homes.length s.hc) ∧ w'.cell? ⟨w.heap.size, 3, none⟩ = some (.slice s.ta s.tasks.length s.tc)) (exact ⟨pb, s0, s1, s2, s3⟩)
      (first
        | (go_at_call 78; refine (rinside_any s of _ H' Ho.out).mono ?_; rintro e u ⟨rfl, hb3⟩; have pb := Keeps.of_below hb3 _ _ pb; have s0 := Keeps.of_below hb3 _ _ s0; have s1 := Keeps.of_below hb3 _ _ s1; have s2 := Keeps.of_below hb3 _ _ s2; have s3 := Keeps.of_below hb3 _ _ s3; have H' := H'.keep (Keeps.of_below hb3); have hb := hb.trans (hb3.mono hb.size); rw [HB.out]))
    clear hwr
    go_wp2_with fail
    go_ret2
    exact ⟨ret_ib Hv.out.symm Hk.out.symm, hb⟩
  · have k : fairK s of part = false := by simpa using k
    have Hk := hidp k
    have Hv := hidp (ins_no k)
    have HP : Hid (lockP s of part = ⟨0, 0, 0⟩) := hidp (by unfold lockP; rw [k]; rfl)
    clear k
    go_enter Tryz.func56, Tryz.ntmps56
    go_wp2_with fail
    refine (rlock_any _ _ _ _ H).mono ?_
    rintro e w2 ⟨rfl, hb2⟩
    replace hb := hb.trans (hb2.mono hb.size)
    clear hb2
    rw [HP.out, Hk.out]
    go_wp2_with fail
    go_ret2
    exact ⟨ret_ib Hv.out.symm Hk.out.symm, hb.alloc hb.size _⟩
end Go.Proofs.YtindcpgmfdkpcaaGreat
