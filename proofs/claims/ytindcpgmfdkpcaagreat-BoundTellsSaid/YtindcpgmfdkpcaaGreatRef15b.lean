/- swingbridgeref11: Outside, Token. -/
import Derived.Test.YtindcpgmfdkpcaaGreatRef15a
namespace Go.Proofs.YtindcpgmfdkpcaaGreat
open Go.ChangeShapes Go.WideShapes Go.ChangeAt Go.RowKit
set_option linter.unusedVariables false
set_option linter.unusedSimpArgs false

set_option maxHeartbeats 4000000 in
set_option maxRecDepth 100000 in
theorem rOutside_any (s : SetR) (of : Int) (w : World) (hs : SetOk w s) : Calls Tryz.prog 57 #[.agg #[.int .i64 s.proto, .slice s.ca s.cores.length s.cc, .slice s.ha s.homes.length s.hc, .slice s.ta s.tasks.length s.tc], .int .i64 of] w fun e w' => e = .returned (.int .i64 (outV s of)) ∧ Below w.heap.size w w' := by
  have hb := (Below.refl w.heap.size w).alloc (Nat.le_refl _) (.cells #[.int .i64 s.proto, .slice s.ca s.cores.length s.cc, .slice s.ha s.homes.length s.hc, .slice s.ta s.tasks.length s.tc] 25)
  have sc := SetCells.new w s 25
  have H := hs.keep (Keeps.of_below hb)
  have HS := hidp hs
  by_cases e : thereB s of = true
  · have Hth := hidp e
    obtain ⟨ho, r1, r2⟩ := thereB_true.1 e
    obtain ⟨n, rfl⟩ : ∃ n : Nat, of = n := ⟨of.toNat, by omega⟩
    have hn : n < s.tasks.length := by omega
    have hg := Good.of ho
    obtain ⟨t, HT⟩ : ∃ t, Hid (s.tasks.getD n default = t) := ⟨_, rfl⟩
    have hm : t ∈ s.tasks := HT.out ▸ getD_mem hn
    have TLa : Hid (∀ q ∈ s.tasks, TaskLen w q) := hidp (fun q hq => ⟨(hs.tasks.ok q hq).at_, (hg.parts q hq).lens, by have := (hg.parts q hq).len; omega⟩)
    have TL := hidp (TLa.out t hm)
    have Ho := hidp ho
    have HR := hidp hs.tasks.at_
    have HRc := hidp hs.cores.at_
    have hpl := hg.place t hm
    obtain ⟨cn, hcn⟩ : ∃ cn : Nat, t.cl = cn := ⟨t.cl.toNat, by omega⟩
    have hcl2 : cn < s.cores.length := by omega
    obtain ⟨nc, HNC⟩ : ∃ nc, Hid (s.cores.getD cn 0 = nc) := ⟨_, rfl⟩
    have hnc := hg.cores nc (by rw [← HNC.out]; simp [List.getD, hcl2])
    obtain ⟨k, HK⟩ : ∃ k, Hid (askersV s cn = k) := ⟨_, rfl⟩
    have hka : 0 ≤ askersV s cn ∧ askersV s cn ≤ 6 := by
      unfold askersV; rw [if_pos ho]
      have := askN_bd cn s.tasks
      have := hg.ntasks
      omega
    rw [HK.out] at hka
    obtain ⟨k0, k1⟩ := hka
    obtain ⟨nc0, nc1⟩ := hnc
    obtain ⟨m, HM⟩ : ∃ m, Hid (maxL t.parts = m) := ⟨_, rfl⟩
    have hm0 := maxL_nn t.parts
    rw [HM.out] at hm0
    have HRd : Hid (rndV s cn = (max 0 (k - nc) + nc - 1) / nc) := hidp (by
      have e1 : coreAt s cn = nc := by unfold coreAt; simpa using HNC.out
      unfold rndV; rw [HK.out, e1])
    have hRb := rndV_bd ho (cl := cn) (by omega)
    rw [HRd.out] at hRb
    obtain ⟨Sv, HSv⟩ : ∃ Sv : Nat → Int, Hid (∀ k, slowL s cn 0 (s.tasks.take k) = Sv k) := ⟨fun k => slowL s cn 0 (s.tasks.take k), hidp (fun _ => rfl)⟩
    obtain ⟨Bt, HBt⟩ : ∃ Bt : Nat → Int, Hid (∀ k : Nat, besV s k = Bt k) := ⟨fun k => besV s k, hidp (fun _ => rfl)⟩
    have HBb : Hid (∀ k, 0 ≤ Bt k ∧ Bt k ≤ 360) := hidp (fun k => by rw [← HBt.out]; exact besV_bd ho k)
    have HS0 : Hid (Sv 0 = 0) := hidp (by rw [← HSv.out, List.take_zero]; rfl)
    have HSb : Hid (∀ k, 0 ≤ Sv k ∧ Sv k ≤ 420) := hidp (fun k => by rw [← HSv.out]; exact slowL_bd ho cn 0 (fun t ht => (hg.parts t (List.mem_of_mem_take ht)).lens))
    have HSs : Hid (∀ k, k < s.tasks.length → Sv (k + 1) = max (Sv k) (if (s.tasks.getD k default).cl = cn ∧ maxL (s.tasks.getD k default).parts ≠ 0 then maxL (s.tasks.getD k default).parts + Bt k else 0)) := hidp (fun k hk => by rw [← HSv.out, ← HSv.out, ← HBt.out]; exact slowL_snoc ho cn (fun t ht => (hg.parts t ht).lens) k hk)
    have HV : Hid (outV s n = if m ≠ 0 then (max 0 (k - nc) + nc - 1) / nc * Sv s.tasks.length else 0) := hidp (by
      unfold outV; simp only [Int.toNat_natCast]; rw [HT.out, HM.out, hcn, HRd.out, ← HSv.out, List.take_length]
      by_cases e0 : m ≠ 0
      · rw [if_pos ⟨e, e0⟩, if_pos e0]
      · rw [if_neg (fun h => e0 h.2), if_neg e0])
    have Hlens : Hid (∀ q ∈ s.tasks, 0 ≤ maxL q.parts ∧ maxL q.parts ≤ 60) := hidp (fun q hq => ⟨maxL_nn _, maxL_bd (hg.parts q hq).lens⟩)
    have l3 : s.tasks.length ≤ 6 := hg.ntasks.2
    clear hm hg ho e hs r1 HSv hpl
    obtain ⟨q, hq⟩ : ∃ q, (max 0 (k - nc) + nc - 1) / nc = q := ⟨_, rfl⟩
    rw [hq] at HV hRb HRd
    obtain ⟨qb0, qb1⟩ := hRb
    have Hq := hidp hq
    have Hcn := hidp hcn
    clear hq hcn
    obtain ⟨proto, ca, cc, cores, ha, hc, homes, ta, tc, tasks⟩ := s
    dsimp only at hn l3 r2 hb sc H hcl2 HR HRc HSs HV HNC HT TLa Hlens ⊢
    obtain ⟨g, off, hA, hcl⟩ := HR.out.resolve_left (by intro e; rw [e] at hn; simp at hn)
    subst hA
    have Hcl := hidp hcl
    have Htc := hidp (HT.out ▸ hcl n hn)
    obtain ⟨gc, oc, hCA, hcc⟩ := HRc.out.resolve_left (by intro e; rw [e] at hcl2; simp at hcl2)
    subst hCA
    have Hcc := hidp (HNC.out ▸ hcc cn hcl2)
    clear hcl hcc
    have dn : decide (tasks.length ≤ n) = false := by simp; omega
    go_enter Tryz.func57, Tryz.ntmps57
    go_wp2_with fail
    refine (rthere_any _ _ _ H).mono ?_
    rintro e w2 ⟨rfl, hb2⟩
    replace hb := hb.trans (hb2.mono hb.size)
    replace sc := sc.keep (Keeps.of_below hb2)
    replace H := H.keep (Keeps.of_below hb2)
    clear hb2
    try clear sc_0 sc_1 sc_2 sc_3
    have scx := sc
    obtain ⟨sc_0, sc_1, sc_2, sc_3⟩ := scx
    try dsimp only at sc_0 sc_1 sc_2 sc_3
    rw [Hth.out]
    obtain ⟨d0, d1, d2, d3, d4, d5⟩ := Htc.out.keep (Keeps.of_below hb)
    go_wp2_with fail
    refine (rlongest_any t _ (TL.out.keep (Keeps.of_below hb))).mono ?_
    rintro e w3 ⟨rfl, hb2⟩
    replace hb := hb.trans (hb2.mono hb.size)
    replace sc := sc.keep (Keeps.of_below hb2)
    clear hb2
    try clear sc_0 sc_1 sc_2 sc_3
    have scx := sc
    obtain ⟨sc_0, sc_1, sc_2, sc_3⟩ := scx
    try dsimp only at sc_0 sc_1 sc_2 sc_3
    rw [HM.out]
    clear d0 d1 d2 d3 d4 d5 H
    obtain ⟨d0, d1, d2, d3, d4, d5⟩ := Htc.out.keep (Keeps.of_below hb)
    rw [Hcn.out] at d4
    by_cases e2 : m = 0
    · have e3 : (m == 0) = true := by simpa using e2
      have Hv : Hid (outV _ n = 0) := hidp (by rw [HV.out, if_neg (fun h => h e2)])
      clear e2
      go_wp2
      go_ret
      exact ⟨ret_int Hv.out.symm, hb⟩
    · have e3 : (m == 0) = false := by simpa using e2
      have Hv : Hid (outV _ n = q * Sv tasks.length) := hidp (by rw [HV.out, if_pos e2])
      clear e2
      go_wp2
      clear d0 d1 d2 d3 d4 d5
      go_loopg [6, 7] tasks.length (fun gg a i wr => ∃ (j : Nat) (x : Int), j + gg = tasks.length ∧ i = .int .i64 j ∧ a = .int .i64 x ∧ Hid (Sv j = x) ∧ SetCells wr w.heap.size ⟨proto, some ⟨gc, oc, none⟩, cc, cores, ha, hc, homes, some ⟨g, off, none⟩, tc, tasks⟩ ∧ Below w.heap.size w wr)
      case atStart => exact ⟨0, 0, by omega, rfl, rfl, hidp HS0.out, sc, hb⟩
      case round =>
        clear sc hb sc_0 sc_1 sc_2 sc_3
        obtain ⟨j, x, hj, rfl, rfl, Hx, sc, hb⟩ := hrel
        obtain ⟨sc_0, sc_1, sc_2, sc_3⟩ := id sc
        dsimp only at sc_0 sc_1 sc_2 sc_3
        have hx := HSb.out j
        rw [Hx.out] at hx
        obtain ⟨x0, x1⟩ := hx
        by_cases hlt : j < tasks.length
        · obtain ⟨u, HU⟩ : ∃ u, Hid (tasks.getD j default = u) := ⟨_, rfl⟩
          have hum : u ∈ tasks := HU.out ▸ getD_mem hlt
          have TU := hidp (TLa.out u hum)
          obtain ⟨mu, HMU⟩ : ∃ mu, Hid (maxL u.parts = mu) := ⟨_, rfl⟩
          have hmu := Hlens.out u hum
          rw [HMU.out] at hmu
          obtain ⟨mu0, mu1⟩ := hmu
          obtain ⟨y, Hy⟩ : ∃ y, Hid (Bt j = y) := ⟨_, rfl⟩
          have hy := HBb.out j
          rw [Hy.out] at hy
          obtain ⟨y0, y1⟩ := hy
          have Huc := hidp (HU.out ▸ Hcl.out j hlt)
          have Hs : Hid (Sv (j + 1) = max x (if u.cl = cn ∧ mu ≠ 0 then mu + y else 0)) := hidp (by rw [HSs.out j hlt, HU.out, HMU.out, Hx.out, Hy.out])
          clear hum
          obtain ⟨d0, d1, d2, d3, d4, d5⟩ := Huc.out.keep (Keeps.of_below hb)
          go_wp2_with fail
          refine (rlongest_any u _ (TU.out.keep (Keeps.of_below hb))).mono ?_
          rintro e w4 ⟨rfl, hb2⟩
          replace hb := hb.trans (hb2.mono hb.size)
          replace sc := sc.keep (Keeps.of_below hb2)
          clear hb2
          try clear sc_0 sc_1 sc_2 sc_3
          have scx := sc
          obtain ⟨sc_0, sc_1, sc_2, sc_3⟩ := scx
          try dsimp only at sc_0 sc_1 sc_2 sc_3
          rw [HMU.out]
          clear d0 d1 d2 d3 d4 d5
          obtain ⟨_, _, _, _, d4, _⟩ := Huc.out.keep (Keeps.of_below hb)
          by_cases e : u.cl = cn
          · have e1 : (u.cl == (cn : Int)) = true := by simpa using e
            by_cases e2 : 0 < mu
            · have Hz : Hid (Sv (j + 1) = max x (mu + y)) := hidp (by rw [Hs.out, if_pos ⟨e, by omega⟩])
              clear e
              go_wp2_with fail
              refine (rinside_any _ j _ (HS.out.keep (Keeps.of_below hb)) Ho.out).mono ?_
              rintro e w5 ⟨rfl, hb2⟩
              replace hb := hb.trans (hb2.mono hb.size)
              replace sc := sc.keep (Keeps.of_below hb2)
              clear hb2
              rw [HBt.out, Hy.out]
              clear sc_0 sc_1 sc_2 sc_3 d4
              go_wp2_with fail
              go_roundg (gk - 1)
              case measure => omega
              case rel => exact ⟨j + 1, max x (mu + y), by omega, by go_num, rfl, Hz, sc, hb⟩
            · have Hz : Hid (Sv (j + 1) = x) := hidp (by rw [Hs.out, if_neg (fun h => h.2 (by omega))]; omega)
              clear e
              go_wp2
              go_roundg (gk - 1)
              case measure => omega
              case rel => exact ⟨j + 1, x, by omega, by go_num, rfl, Hz, sc, hb⟩
          · have e1 : (u.cl == (cn : Int)) = false := by simpa using e
            have Hz : Hid (Sv (j + 1) = x) := hidp (by rw [Hs.out, if_neg (fun h => e h.1)]; omega)
            clear e
            go_wp2
            go_roundg (gk - 1)
            case measure => omega
            case rel => exact ⟨j + 1, x, by omega, by go_num, rfl, Hz, sc, hb⟩
        · obtain rfl : j = tasks.length := by omega
          obtain ⟨p, hp⟩ : ∃ p, q * x = p := ⟨_, rfl⟩
          have hp0 : 0 ≤ q * x := Int.mul_nonneg qb0 x0
          have hp1 : q * x ≤ 6 * 420 := Int.mul_le_mul qb1 x1 x0 (by omega)
          have Hvp : Hid (outV _ n = p) := hidp (by rw [Hv.out, Hx.out, hp])
          have hwr : IntKind.i64.wrap (q * x) = p := by rw [IntWalk.i64_in _ (by omega), hp]
          have hws : IntKind.i64.wrap (k - nc) = k - nc := IntWalk.i64_in _ (by omega)
          have Hup : Hid (∀ u, Calls Tryz.prog 79 #[.int .i64 (max 0 (k - nc)), .int .i64 nc] u fun e w' => e = .returned (.int .i64 q) ∧ u = w') := hidp (fun u => by rw [← Hq.out]; exact rup_any _ _ u (by omega) (by omega) nc0 nc1)
          have cb := Keeps.of_below hb _ _ Hcc.out
          clear hp hp0 hp1
          go_wp2_with fail
          have s0 := Keeps.drew _ _ _ sc_0
          have s1 := Keeps.drew _ _ _ sc_1
          have s2 := Keeps.drew _ _ _ sc_2
          have s3 := Keeps.drew _ _ _ sc_3
          have s4 := Keeps.drew _ _ _ cb
          have H' := HS.out.keep (Keeps.of_below hb.drew)
          have hb := hb.drew
          clear sc sc_0 sc_1 sc_2 sc_3 cb
          go_region_held3 (fun w' => w'.cell? ⟨w.heap.size, 0, none⟩ = some (.int .i64 proto) ∧ w'.cell? ⟨w.heap.size, 1, none⟩ = some (.slice (some ⟨gc, oc, none⟩) cores.length cc) ∧ w'.cell? ⟨w.heap.size, 2, none⟩ = some (.slice ha homes.length hc) ∧ w'.cell? ⟨w.heap.size, 3, none⟩ = some (.slice (some ⟨g, off, none⟩) tasks.length tc) ∧ w'.cell? ⟨gc, oc + cn, none⟩ = some (.int .i64 nc)) (exact ⟨s0, s1, s2, s3, s4⟩)
            (first
              | (go_at_call 80; refine (raskers_any _ cn _ H' Ho.out).mono ?_; rintro e u ⟨rfl, hb3⟩; have s0 := Keeps.of_below hb3 _ _ s0; have s1 := Keeps.of_below hb3 _ _ s1; have s2 := Keeps.of_below hb3 _ _ s2; have s3 := Keeps.of_below hb3 _ _ s3; have s4 := Keeps.of_below hb3 _ _ s4; have H' := H'.keep (Keeps.of_below hb3); have hb := hb.trans (hb3.mono hb.size); rw [HK.out])
              | (go_at_call 79; refine (Hup.out _).mono ?_; rintro e u ⟨rfl, rfl⟩))
          clear hwr hws
          go_wp2_with fail
          go_ret
          exact ⟨ret_int Hvp.out.symm, hb⟩
  · have Hth : Hid (thereB s of = false) := hidp (by simpa using e)
    have Hv : Hid (outV s of = 0) := hidp (by unfold outV; rw [if_neg (fun h => e h.1)])
    clear e
    go_enter Tryz.func57, Tryz.ntmps57
    go_wp2_with fail
    refine (rthere_any _ _ _ H).mono ?_
    rintro e w2 ⟨rfl, hb2⟩
    replace hb := hb.trans (hb2.mono hb.size)
    replace sc := sc.keep (Keeps.of_below hb2)
    clear hb2
    try clear sc_0 sc_1 sc_2 sc_3
    have scx := sc
    obtain ⟨sc_0, sc_1, sc_2, sc_3⟩ := scx
    try dsimp only at sc_0 sc_1 sc_2 sc_3
    rw [Hth.out]
    go_wp2
    go_ret
    exact ⟨ret_int Hv.out.symm, hb⟩

set_option maxHeartbeats 1000000 in
theorem rtoken_any (s : SetR) (of part : Int) (w : World) (hs : SetOk w s) : Calls Tryz.prog 28 #[.agg #[.int .i64 s.proto, .slice s.ca s.cores.length s.cc, .slice s.ha s.homes.length s.hc, .slice s.ta s.tasks.length s.tc], .int .i64 of, .int .i64 part] w fun e w' => e = .returned (.tuple #[.int .i64 (tokV s of part), .bool (fairK s of part)]) ∧ Below w.heap.size w w' := by
  have hb := (Below.refl w.heap.size w).alloc (Nat.le_refl _) (.cells #[.int .i64 s.proto, .slice s.ca s.cores.length s.cc, .slice s.ha s.homes.length s.hc, .slice s.ta s.tasks.length s.tc] 25)
  have sc := SetCells.new w s 25
  have H := hs.keep (Keeps.of_below hb)
  obtain ⟨I, HI⟩ : ∃ I, Hid (insV s of part = I) := ⟨_, rfl⟩
  obtain ⟨O, HO⟩ : ∃ O, Hid (outV s of = O) := ⟨_, rfl⟩
  have h1 := insV_bd s of part
  have h2 := outV_bd s of
  rw [HI.out] at h1
  rw [HO.out] at h2
  obtain ⟨i0, i1⟩ := h1
  obtain ⟨o0, o1⟩ := h2
  clear hs
  by_cases k : fairK s of part = true
  · have Hk := hidp k
    have Hv : Hid (tokV s of part = I + O) := hidp (by unfold tokV; rw [if_pos k, HI.out, HO.out])
    clear k
    go_enter Tryz.func28, Tryz.ntmps28
    go_wp2_with fail
    refine (rInside_any _ _ _ _ H).mono ?_
    rintro e w2 ⟨rfl, hb2⟩
    replace hb := hb.trans (hb2.mono hb.size)
    replace sc := sc.keep (Keeps.of_below hb2)
    replace H := H.keep (Keeps.of_below hb2)
    clear hb2
    try clear sc_0 sc_1 sc_2 sc_3
    have scx := sc
    obtain ⟨sc_0, sc_1, sc_2, sc_3⟩ := scx
    try dsimp only at sc_0 sc_1 sc_2 sc_3
    rw [HI.out, Hk.out]
    go_wp2_with fail
    refine (rOutside_any _ _ _ H).mono ?_
    rintro e w3 ⟨rfl, hb2⟩
    replace hb := hb.trans (hb2.mono hb.size)
    clear hb2
    rw [HO.out]
    go_wp2
    go_ret2
    exact ⟨ret_ib Hv.out.symm Hk.out.symm, hb⟩
  · have k : fairK s of part = false := by simpa using k
    have Hk := hidp k
    have Hv : Hid (tokV s of part = 0) := hidp (by unfold tokV; rw [k]; rfl)
    clear k
    go_enter Tryz.func28, Tryz.ntmps28
    go_wp2_with fail
    refine (rInside_any _ _ _ _ H).mono ?_
    rintro e w2 ⟨rfl, hb2⟩
    replace hb := hb.trans (hb2.mono hb.size)
    replace sc := sc.keep (Keeps.of_below hb2)
    replace H := H.keep (Keeps.of_below hb2)
    clear hb2
    try clear sc_0 sc_1 sc_2 sc_3
    have scx := sc
    obtain ⟨sc_0, sc_1, sc_2, sc_3⟩ := scx
    try dsimp only at sc_0 sc_1 sc_2 sc_3
    rw [HI.out, Hk.out]
    go_wp2
    go_ret2
    exact ⟨ret_ib Hv.out.symm Hk.out.symm, hb⟩
end Go.Proofs.YtindcpgmfdkpcaaGreat
