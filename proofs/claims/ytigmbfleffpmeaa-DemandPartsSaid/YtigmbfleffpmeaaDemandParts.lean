/- DemandParts: what a task asks at all clusters together is what it locks; runs, sleeps, locks are all its parts. No condition. -/
import Derived.Test.YtigmbfleffpmeaaKnown11
import Derived.Test.YtigmbfleffpmeaaDemandNums
set_option maxHeartbeats 20000000
set_option maxRecDepth 100000
namespace Go.Proofs.Ytigmbfleffpmeaa.demandParts
open Go.ChangeShapes Go.WideShapes Go.ChangeAt Go.RowKit
open Go.ChangeMaps (open_string shut_string)
set_option linter.unusedVariables false

/-- THE WALK: the Go text returns true, and writes nothing that was there. -/
theorem walk (s0 : SetR) (w : World) (w0 : SetOk w s0) :
    Calls Try.prog 7 #[.agg #[.int .i64 s0.proto, .slice s0.ca s0.cores.length s0.cc, .slice s0.ha s0.homes.length s0.hc, .slice s0.ta s0.tasks.length s0.tc]] w fun e w' => e = .returned (.bool true) ∧ Below w.heap.size w w' := by
  have hb := (Below.refl w.heap.size w).alloc (Nat.le_refl _) (.cells #[.int .i64 s0.proto, .slice s0.ca s0.cores.length s0.cc, .slice s0.ha s0.homes.length s0.hc, .slice s0.ta s0.tasks.length s0.tc] 25)
  have sc := SetCells.new w s0 25
  have hs := w0.keep (Keeps.of_below hb)
  clear w0
  have l1 : s0.cores.length ≤ maxLen := Nat.le_trans hs.cores.sl.2.1 hs.cores.sl.2.2
  have l3 : s0.tasks.length ≤ maxLen := Nat.le_trans hs.tasks.sl.2.1 hs.tasks.sl.2.2
  unfold maxLen at l1 l3
  by_cases hok : okS s0 = true
  · have hg := Good.of hok
    have v0 : (coresV s0 == 0) = false := by
      unfold coresV; rw [if_pos hok]
      have := tot_bd3 hg.cores
      have := hg.ncores
      simp; omega
    have Hok := hidp hok
    have HG := hidp hg
    obtain ⟨g, off, hA, _⟩ := hs.tasks.at_.resolve_left (by intro e; have := hg.ntasks; rw [e] at this; simp at this)
    clear hok hg
    obtain ⟨proto, ca, cc, cores, ha, hc, homes, ta, tc, tasks⟩ := s0
    dsimp only at hA v0 l1 l3 hb ⊢
    subst hA
    have n1 := HG.out.ncores.2
    have n2 := HG.out.ntasks.2
    dsimp only at n1 n2
    go_enter Try.func7, Try.ntmps7
    go_wp2_with fail
    refine (known11_any _).mono ?_
    rintro e u1 ⟨rfl, hb2⟩
    replace hb := hb.trans (hb2.mono hb.size)
    replace sc := sc.keep (Keeps.of_below hb2)
    replace hs := hs.keep (Keeps.of_below hb2)
    clear hb2
    have sc2 := sc
    obtain ⟨c0, c1, c2, c3⟩ := sc2
    dsimp only at c0 c1 c2 c3
    go_wp2_with fail
    refine (few11_any ⟨proto, ca, cc, cores, ha, hc, homes, some ⟨g, off, none⟩, tc, tasks⟩ _ hs).mono ?_
    rintro e u2 ⟨⟨b, rfl⟩, hb2⟩
    clear c0 c1 c2 c3
    replace hb := hb.trans (hb2.mono hb.size)
    replace sc := sc.keep (Keeps.of_below hb2)
    replace hs := hs.keep (Keeps.of_below hb2)
    clear hb2
    have sc2 := sc
    obtain ⟨c0, c1, c2, c3⟩ := sc2
    dsimp only at c0 c1 c2 c3
    cases b
    · go_wp2_with fail
      go_ret
      exact ⟨rfl, hb⟩
    · go_wp2_with fail
      refine (cores_any ⟨proto, ca, cc, cores, ha, hc, homes, some ⟨g, off, none⟩, tc, tasks⟩ _ hs).mono ?_
      rintro e u3 ⟨rfl, hb2⟩
      clear c0 c1 c2 c3
      replace hb := hb.trans (hb2.mono hb.size)
      replace sc := sc.keep (Keeps.of_below hb2)
      replace hs := hs.keep (Keeps.of_below hb2)
      clear hb2
      have sc2 := sc
      obtain ⟨c0, c1, c2, c3⟩ := sc2
      dsimp only at c0 c1 c2 c3
      go_wp2_with fail
      go_loopg [3, 4] cores.length (fun gg a i wr => ∃ (k : Nat) (x : Int), k + gg = cores.length ∧ i = .int .i64 k ∧ a = .int .i64 x ∧ Hid (askUp k tasks = x) ∧ SetCells wr w.heap.size ⟨proto, ca, cc, cores, ha, hc, homes, some ⟨g, off, none⟩, tc, tasks⟩ ∧ SetOk wr ⟨proto, ca, cc, cores, ha, hc, homes, some ⟨g, off, none⟩, tc, tasks⟩ ∧ Below w.heap.size w wr)
      case atStart => exact ⟨0, 0, by omega, rfl, rfl, hidp (askUp_zero fun t ht => (HG.out.place t ht).1), sc, hs, hb⟩
      case round =>
        obtain ⟨k, x, hk, rfl, rfl, Hx, sc, hs, hb⟩ := hrel
        clear c0 c1 c2 c3
        have sc2 := sc
        obtain ⟨c0, c1, c2, c3⟩ := sc2
        dsimp only at c0 c1 c2 c3
        have xb := askUp_bd k tasks
        rw [Hx.out] at xb
        obtain ⟨x0, x1⟩ := xb
        have x2 : x ≤ 6 := by omega
        clear x1
        by_cases hlt : k < cores.length
        · obtain ⟨y, HY⟩ : ∃ y, Hid (askersV ⟨proto, ca, cc, cores, ha, hc, homes, some ⟨g, off, none⟩, tc, tasks⟩ k = y) := ⟨_, rfl⟩
          have hy : y = askN k tasks := by rw [← HY.out]; unfold askersV; rw [if_pos Hok.out]
          have yb := askN_bd k tasks
          rw [← hy] at yb
          obtain ⟨y0, y1⟩ := yb
          have y2 : y ≤ 6 := by omega
          clear y1
          have Hz : Hid (askUp ((k + 1 : Nat) : Int) tasks = x + y) := hidp (by rw [show ((k + 1 : Nat) : Int) = (k : Int) + 1 by omega, askUp_succ, Hx.out, hy])
          clear hy
          go_wp2_with fail
          refine (askers_any ⟨proto, ca, cc, cores, ha, hc, homes, some ⟨g, off, none⟩, tc, tasks⟩ k _ hs).mono ?_
          rintro e u4 ⟨rfl, hb2⟩
          rw [HY.out]
          clear c0 c1 c2 c3
          replace hb := hb.trans (hb2.mono hb.size)
          replace sc := sc.keep (Keeps.of_below hb2)
          replace hs := hs.keep (Keeps.of_below hb2)
          go_wp2_with fail
          go_roundg (gk - 1)
          case measure => omega
          case rel => exact ⟨k + 1, x + y, by omega, by go_num, rfl, Hz, sc, hs, hb⟩
        · obtain rfl : k = cores.length := by omega
          have Hx2 : Hid (x = lockN tasks) := hidp (by rw [← Hx.out]; exact askUp_all fun t ht => by have := (HG.out.place t ht).2; dsimp only at this; omega)
          go_wp2_with fail
          obtain ⟨wo, rfl⟩ : ∃ wo : World, wo = wr := ⟨_, rfl⟩
          go_loopg [3, 5] tasks.length (fun gg a i wr => ∃ (k : Nat) (z : Int), k + gg = tasks.length ∧ i = .int .i64 k ∧ a = .int .i64 z ∧ Hid (z + lockN (tasks.take k) = lockN tasks) ∧ SetCells wr w.heap.size ⟨proto, ca, cc, cores, ha, hc, homes, some ⟨g, off, none⟩, tc, tasks⟩ ∧ SetOk wr ⟨proto, ca, cc, cores, ha, hc, homes, some ⟨g, off, none⟩, tc, tasks⟩ ∧ Below w.heap.size w wr)
          case atStart => exact ⟨0, x, by omega, rfl, rfl, hidp (by simp [lockN, Hx2.out]), sc, hs, hb⟩
          case round =>
            obtain ⟨k, z, hk, rfl, rfl, Hz, sc, hs, hb⟩ := hrel
            clear c0 c1 c2 c3
            have sc2 := sc
            obtain ⟨c0, c1, c2, c3⟩ := sc2
            dsimp only at c0 c1 c2 c3
            by_cases hlt : k < tasks.length
            · obtain ⟨t, HT⟩ : ∃ t, Hid (tasks.getD k default = t) := ⟨_, rfl⟩
              have hm : t ∈ tasks := HT.out ▸ getD_mem hlt
              obtain ⟨g', off', hA', hcl⟩ := hs.tasks.at_.resolve_left (by intro e; dsimp only at e; rw [e] at hlt; simp at hlt)
              obtain ⟨rfl, rfl⟩ : g = g' ∧ off = off' := by injection hA' with hA'; injection hA' with h1 h2; exact ⟨h1, h2⟩
              have tcl := HT.out ▸ hcl k hlt
              have Pg := hidp (HG.out.parts t hm)
              have Ph := hidp (HG.out.homeIn hm)
              have Tok := hs.tasks.ok t hm
              have TL : TaskLen wr t := ⟨Tok.at_, Pg.out.lens, by have := Pg.out.len; omega⟩
              have np := Pg.out.len
              have sv : ∀ c, srv ⟨proto, ca, cc, cores, ha, hc, homes, some ⟨g, off, none⟩, tc, tasks⟩ k c = t.parts.filter (srvB homes c) := fun c => by rw [srv_in Hok.out hlt]; dsimp only; rw [HT.out]
              have SV := hidp sv
              clear hcl hA' hm Tok sv
              obtain ⟨nm, per, dl, prio, cl, pa, pc, parts⟩ := t
              obtain ⟨gp, op, hP, _⟩ := TL.at_.resolve_left (by intro e; dsimp only at e np; rw [e] at np; simp at np)
              dsimp only at hP tcl np Pg Ph SV
              subst hP
              obtain ⟨wo, rfl⟩ : ∃ wo : World, wo = wr := ⟨_, rfl⟩
              obtain ⟨d0, d1, d2, d3, d4, d5⟩ := tcl
              dsimp only at d0 d1 d2 d3 d4 d5
              obtain ⟨r, HR⟩ : ∃ r, Hid (sumK 1 parts = r) := ⟨_, rfl⟩
              obtain ⟨q, HQ⟩ : ∃ q, Hid (sumK 2 parts = q) := ⟨_, rfl⟩
              obtain ⟨a, HA⟩ : ∃ a, Hid (sumK 3 parts = a) := ⟨_, rfl⟩
              obtain ⟨m, HM⟩ : ∃ m, Hid (maxL parts = m) := ⟨_, rfl⟩
              have br := sumK_bd 1 Pg.out.lens
              have bq := sumK_bd 2 Pg.out.lens
              have ba := sumK_bd 3 Pg.out.lens
              rw [HR.out] at br
              rw [HQ.out] at bq
              rw [HA.out] at ba
              obtain ⟨r0, r1⟩ := br
              obtain ⟨q0, q1⟩ := bq
              obtain ⟨a0, a1⟩ := ba
              have r2 : r ≤ 360 := by omega
              have q2 : q ≤ 360 := by omega
              have a2 : a ≤ 360 := by omega
              clear r1 q1 a1
              have Hall : Hid (allK parts = r + q + a) := hidp (by rw [allK_is Pg.out.good, HR.out, HQ.out, HA.out])
              have hz1 : Hid (z + lockN (tasks.take (k + 1)) = lockN tasks + if a ≠ 0 then 1 else 0) := hidp (by rw [lockN_snoc _ _ hlt, HT.out]; dsimp only; rw [HA.out]; have := Hz.out; omega)
              have zb : 0 ≤ z ∧ z ≤ 6 := by
                have h1 := lockN_bd (tasks.take k)
                have h2 := lockN_bd tasks
                have h3 := Hz.out
                have h4 := lockN_append (tasks.take k) (tasks.drop k)
                rw [List.take_append_drop] at h4
                have h5 := lockN_bd (tasks.drop k)
                omega
              obtain ⟨zb0, zb1⟩ := zb
              have so := sc
              obtain ⟨o0, o1, o2, o3⟩ := so
              dsimp only at o0 o1 o2 o3
              have tb := TaskBox.new wo ⟨nm, per, dl, prio, cl, some ⟨gp, op, none⟩, pc, parts⟩ 37
              replace sc := sc.keep (Keeps.alloc wo (.cells #[.string nm, .int .i64 per, .int .i64 dl, .int .i64 prio, .int .i64 cl, .slice (some ⟨gp, op, none⟩) parts.length pc] 37))
              replace hs := hs.keep (Keeps.alloc wo (.cells #[.string nm, .int .i64 per, .int .i64 dl, .int .i64 prio, .int .i64 cl, .slice (some ⟨gp, op, none⟩) parts.length pc] 37))
              replace TL := TL.keep (Keeps.alloc wo (.cells #[.string nm, .int .i64 per, .int .i64 dl, .int .i64 prio, .int .i64 cl, .slice (some ⟨gp, op, none⟩) parts.length pc] 37))
              replace hb := hb.alloc hb.size (.cells #[.string nm, .int .i64 per, .int .i64 dl, .int .i64 prio, .int .i64 cl, .slice (some ⟨gp, op, none⟩) parts.length pc] 37)
              clear c0 c1 c2 c3
              have sc2 := sc
              obtain ⟨c0, c1, c2, c3⟩ := sc2
              have tb2 := tb
              obtain ⟨b0, b1, b2, b3, b4, b5⟩ := tb2
              dsimp only at c0 c1 c2 c3 b0 b1 b2 b3 b4 b5
              go_wp2_with fail
              go_loopg [7, 10] parts.length (fun gg n i wr => ∃ (j : Nat) (x : Int), j + gg = parts.length ∧ i = .int .i64 j ∧ n = .int .i64 x ∧ Hid (allK (parts.take j) = x) ∧ SetCells wr w.heap.size ⟨proto, ca, cc, cores, ha, hc, homes, some ⟨g, off, none⟩, tc, tasks⟩ ∧ TaskBox wr wo.heap.size ⟨nm, per, dl, prio, cl, some ⟨gp, op, none⟩, pc, parts⟩ ∧ SetOk wr ⟨proto, ca, cc, cores, ha, hc, homes, some ⟨g, off, none⟩, tc, tasks⟩ ∧ TaskLen wr ⟨nm, per, dl, prio, cl, some ⟨gp, op, none⟩, pc, parts⟩ ∧ Below w.heap.size w wr)
              case atStart => exact ⟨0, 0, by omega, rfl, rfl, hidp (by simp [allK]), sc, tb, hs, TL, hb⟩
              case round =>
                obtain ⟨j, x, hj, rfl, rfl, Hx, sc, tb, hs, TL, hb⟩ := hrel
                clear c0 c1 c2 c3 b0 b1 b2 b3 b4 b5 d0 d1 d2 d3 d4 d5 o0 o1 o2 o3
                have sc2 := sc
                obtain ⟨c0, c1, c2, c3⟩ := sc2
                have tb2 := tb
                obtain ⟨b0, b1, b2, b3, b4, b5⟩ := tb2
                dsimp only at c0 c1 c2 c3 b0 b1 b2 b3 b4 b5
                have xb := allK_bd (Pg.out.lens.take j)
                rw [Hx.out, List.length_take] at xb
                obtain ⟨x0, x1⟩ := xb
                have x2 : x ≤ 360 := by omega
                clear x1
                by_cases hjl : j < parts.length
                · obtain ⟨g2, o2, hA2, hpl⟩ := TL.at_.resolve_left (by intro e; dsimp only at e; rw [e] at hjl; simp at hjl)
                  obtain ⟨rfl, rfl⟩ : gp = g2 ∧ op = o2 := by injection hA2 with hA2; injection hA2 with h1 h2; exact ⟨h1, h2⟩
                  obtain ⟨p, HP⟩ : ∃ p, Hid (parts.getD j default = p) := ⟨_, rfl⟩
                  have pcl := (HP.out ▸ hpl j hjl).2.1
                  have hp := Pg.out.lens p (HP.out ▸ getD_mem hjl)
                  obtain ⟨hp1, hp2⟩ := hp
                  have Hy : Hid (allK (parts.take (j + 1)) = x + p.len) := hidp (by rw [allK_snoc _ _ hjl, Hx.out, HP.out])
                  clear hpl hA2
                  go_wp2
                  go_roundg (gk - 1)
                  case measure => omega
                  case rel => exact ⟨j + 1, x + p.len, by omega, by go_num, rfl, Hy, sc, tb, hs, TL, hb⟩
                · obtain rfl : j = parts.length := by omega
                  obtain rfl : x = r + q + a := by rw [← Hx.out, List.take_length, Hall.out]
                  go_wp2
                  obtain ⟨wq, rfl⟩ : ∃ wq : World, wq = wr := ⟨_, rfl⟩
                  go_loopg [8, 9, 11] cores.length (fun gg s v i wr => ∃ (c : Nat) (x y : Int), c + gg = cores.length ∧ i = .int .i64 c ∧ s = .int .i64 x ∧ v = .int .i64 y ∧ Hid (sumK 3 (parts.filter (upB homes c)) = x) ∧ Hid (maxL (parts.filter (upB homes c)) = y) ∧ SetCells wr w.heap.size ⟨proto, ca, cc, cores, ha, hc, homes, some ⟨g, off, none⟩, tc, tasks⟩ ∧ TaskBox wr wo.heap.size ⟨nm, per, dl, prio, cl, some ⟨gp, op, none⟩, pc, parts⟩ ∧ SetOk wr ⟨proto, ca, cc, cores, ha, hc, homes, some ⟨g, off, none⟩, tc, tasks⟩ ∧ TaskLen wr ⟨nm, per, dl, prio, cl, some ⟨gp, op, none⟩, pc, parts⟩ ∧ Below w.heap.size w wr)
                  case atStart => exact ⟨0, 0, 0, by omega, rfl, rfl, rfl, hidp (by rw [show ((0 : Nat) : Int) = 0 by rfl, up_none Ph.out]; rfl), hidp (by rw [show ((0 : Nat) : Int) = 0 by rfl, up_none Ph.out]; rfl), sc, tb, hs, TL, hb⟩
                  case round =>
                    obtain ⟨c, x, y, hcc, rfl, rfl, rfl, Hx2, Hy2, sc, tb, hs, TL, hb⟩ := hrel
                    clear c0 c1 c2 c3 b0 b1 b2 b3 b4 b5
                    have sc2 := sc
                    obtain ⟨c0, c1, c2, c3⟩ := sc2
                    have tb2 := tb
                    obtain ⟨b0, b1, b2, b3, b4, b5⟩ := tb2
                    dsimp only at c0 c1 c2 c3 b0 b1 b2 b3 b4 b5
                    by_cases hcl : c < cores.length
                    · obtain ⟨x', HX'⟩ : ∃ x', Hid (atV ⟨proto, ca, cc, cores, ha, hc, homes, some ⟨g, off, none⟩, tc, tasks⟩ k c = x') := ⟨_, rfl⟩
                      obtain ⟨y', HY'⟩ : ∃ y', Hid (mostV ⟨proto, ca, cc, cores, ha, hc, homes, some ⟨g, off, none⟩, tc, tasks⟩ k c = y') := ⟨_, rfl⟩
                      have hx3 : sumK 3 (parts.filter (srvB homes c)) = x' := by rw [← HX'.out]; unfold atV; rw [SV.out]
                      have hy3 : maxL (parts.filter (srvB homes c)) = y' := by rw [← HY'.out]; unfold mostV; rw [SV.out]
                      have fl : ∀ f : PartM → Bool, LenOk (parts.filter f) := fun f p hp => Pg.out.lens p (List.mem_filter.1 hp).1
                      have e1 := sumK_bd 3 (fl (upB homes c))
                      have e2 := sumK_bd 3 (fl (srvB homes c))
                      have e3 := List.length_filter_le (upB homes c) parts
                      have e4 := List.length_filter_le (srvB homes c) parts
                      rw [Hx2.out] at e1
                      rw [hx3] at e2
                      have xx0 : 0 ≤ x := e1.1
                      have xx1 : x ≤ 360 := by omega
                      have xx2 : 0 ≤ x' := e2.1
                      have xx3 : x' ≤ 360 := by omega
                      have Hx4 : Hid (sumK 3 (parts.filter (upB homes ((c + 1 : Nat) : Int))) = x + x') := hidp (by rw [show ((c + 1 : Nat) : Int) = (c : Int) + 1 by omega, sum_up, Hx2.out, hx3])
                      have Hy4 : Hid (maxL (parts.filter (upB homes ((c + 1 : Nat) : Int))) = if y < y' then y' else y) := hidp (by rw [show ((c + 1 : Nat) : Int) = (c : Int) + 1 by omega, max_up, Hy2.out, hy3]; split <;> omega)
                      clear fl e1 e2 e3 e4 hx3 hy3
                      have hwr : IntKind.i64.wrap (x + x') = x + x' := IntWalk.i64_in _ (by omega)
                      obtain ⟨y2, hy2⟩ : ∃ y2, (if y < y' then y' else y) = y2 := ⟨_, rfl⟩
                      rw [hy2] at Hy4
                      have sc := sc.keep (Keeps.drew wr)
                      have tb := tb.keep (Keeps.drew wr)
                      have hs := hs.keep (Keeps.drew wr)
                      have TL := TL.keep (Keeps.drew wr)
                      have hb := hb.drew
                      go_wp2_with fail
                      go_region_held3 (fun w' => w'.cell? ⟨w.heap.size, 0, none⟩ = some (.int .i64 proto) ∧ w'.cell? ⟨w.heap.size, 1, none⟩ = some (.slice ca cores.length cc) ∧ w'.cell? ⟨w.heap.size, 2, none⟩ = some (.slice ha homes.length hc) ∧ w'.cell? ⟨w.heap.size, 3, none⟩ = some (.slice (some ⟨g, off, none⟩) tasks.length tc)) (exact sc)
                        (first
                          | (go_at_call 26; refine (at_any ⟨proto, ca, cc, cores, ha, hc, homes, some ⟨g, off, none⟩, tc, tasks⟩ k c _ hs).mono ?_; rintro e u ⟨rfl, hb2⟩; rw [HX'.out]; have hb := hb.trans (hb2.mono hb.size); have sc := sc.keep (Keeps.of_below hb2); have tb := tb.keep (Keeps.of_below hb2); have TL := TL.keep (Keeps.of_below hb2); have hs := hs.keep (Keeps.of_below hb2))
                          | (go_at_call 27; refine (most_any ⟨proto, ca, cc, cores, ha, hc, homes, some ⟨g, off, none⟩, tc, tasks⟩ k c _ hs).mono ?_; rintro e u ⟨rfl, hb2⟩; rw [HY'.out]; have hb := hb.trans (hb2.mono hb.size); have sc := sc.keep (Keeps.of_below hb2); have tb := tb.keep (Keeps.of_below hb2); have TL := TL.keep (Keeps.of_below hb2); have hs := hs.keep (Keeps.of_below hb2)))
                      clear c0 c1 c2 c3
                      have sc2 := sc
                      obtain ⟨c0, c1, c2, c3⟩ := sc2
                      dsimp only at c0 c1 c2 c3
                      clear hwr
                      go_wp2_with fail
                      go_roundg (gk - 1)
                      case measure => omega
                      case rel => exact ⟨c + 1, x + x', y2, by omega, by go_num, rfl, rfl, Hx4, Hy4, sc, tb, hs, TL, hb⟩
                    · obtain rfl : c = cores.length := by omega
                      obtain rfl : x = a := by rw [← Hx2.out, ← HA.out]; exact (up_all Ph.out).1
                      obtain rfl : y = m := by rw [← Hy2.out, ← HM.out]; exact (up_all Ph.out).2
                      have em1 := maxL_le_sum Pg.out.lens
                      have em2 := fun h => sum_le_maxL Pg.out.lens h
                      have em3 := maxL_nn parts
                      rw [HM.out, HA.out] at em1
                      rw [HM.out, HA.out] at em2
                      rw [HM.out] at em3
                      have hcase : (0 < y ∧ x ≠ 0) ∨ (y ≤ 0 ∧ x = 0) := by
                        by_cases e : y = 0
                        · exact .inr ⟨by omega, em2 e⟩
                        · exact .inl ⟨by omega, by omega⟩
                      have hw1 : IntKind.i64.wrap (r + q) = r + q := IntWalk.i64_in _ (by omega)
                      have hw2 : IntKind.i64.wrap (r + q + x) = r + q + x := IntWalk.i64_in _ (by omega)
                      have Hw1 := hidp hw1
                      have Hw2 := hidp hw2
                      clear em1 em2 em3 hw1 hw2
                      rcases hcase with ⟨hp1, hp2⟩ | ⟨hp1, hp2⟩
                      · have Hp2 := hidp hp2
                        clear hp2
                        go_wp2_with fail
                        refine (longest_any ⟨nm, per, dl, prio, cl, some ⟨gp, op, none⟩, pc, parts⟩ _ TL).mono ?_
                        rintro e u5 ⟨rfl, hb2⟩
                        rw [HM.out]
                        clear c0 c1 c2 c3 b0 b1 b2 b3 b4 b5
                        replace hb := hb.trans (hb2.mono hb.size)
                        replace sc := sc.keep (Keeps.of_below hb2)
                        replace tb := tb.keep (Keeps.of_below hb2)
                        replace TL := TL.keep (Keeps.of_below hb2)
                        replace hs := hs.keep (Keeps.of_below hb2)
                        clear hb2
                        have sc2 := sc
                        obtain ⟨c0, c1, c2, c3⟩ := sc2
                        have tb2 := tb
                        obtain ⟨b0, b1, b2, b3, b4, b5⟩ := tb2
                        dsimp only at c0 c1 c2 c3 b0 b1 b2 b3 b4 b5
                        go_wp2_with fail
                        have sc := sc.keep (Keeps.drew u5)
                        have tb := tb.keep (Keeps.drew u5)
                        have hs := hs.keep (Keeps.drew u5)
                        have TL := TL.keep (Keeps.drew u5)
                        have hb := hb.drew
                        have hw1 := Hw1.out
                        have hw2 := Hw2.out
                        go_region_held3 (fun w' => w'.cell? ⟨wo.heap.size, 0, none⟩ = some (.string nm) ∧ w'.cell? ⟨wo.heap.size, 1, none⟩ = some (.int .i64 per) ∧ w'.cell? ⟨wo.heap.size, 2, none⟩ = some (.int .i64 dl) ∧ w'.cell? ⟨wo.heap.size, 3, none⟩ = some (.int .i64 prio) ∧ w'.cell? ⟨wo.heap.size, 4, none⟩ = some (.int .i64 cl) ∧ w'.cell? ⟨wo.heap.size, 5, none⟩ = some (.slice (some ⟨gp, op, none⟩) parts.length pc)) (exact tb)
                          (first
                            | (go_at_call 29; refine (locks_any ⟨nm, per, dl, prio, cl, some ⟨gp, op, none⟩, pc, parts⟩ _ TL).mono ?_; rintro e u ⟨rfl, hb2⟩; rw [HA.out]; have hb := hb.trans (hb2.mono hb.size); have sc := sc.keep (Keeps.of_below hb2); have tb := tb.keep (Keeps.of_below hb2); have TL := TL.keep (Keeps.of_below hb2); have hs := hs.keep (Keeps.of_below hb2))
                            | (go_at_call 28; refine (longest_any ⟨nm, per, dl, prio, cl, some ⟨gp, op, none⟩, pc, parts⟩ _ TL).mono ?_; rintro e u ⟨rfl, hb2⟩; rw [HM.out]; have hb := hb.trans (hb2.mono hb.size); have sc := sc.keep (Keeps.of_below hb2); have tb := tb.keep (Keeps.of_below hb2); have TL := TL.keep (Keeps.of_below hb2); have hs := hs.keep (Keeps.of_below hb2))
                            | (go_at_call 30; refine (runs_any ⟨nm, per, dl, prio, cl, some ⟨gp, op, none⟩, pc, parts⟩ _ TL).mono ?_; rintro e u ⟨rfl, hb2⟩; rw [HR.out]; have hb := hb.trans (hb2.mono hb.size); have sc := sc.keep (Keeps.of_below hb2); have tb := tb.keep (Keeps.of_below hb2); have TL := TL.keep (Keeps.of_below hb2); have hs := hs.keep (Keeps.of_below hb2))
                            | (go_at_call 31; refine (sleeps_any ⟨nm, per, dl, prio, cl, some ⟨gp, op, none⟩, pc, parts⟩ _ TL).mono ?_; rintro e u ⟨rfl, hb2⟩; rw [HQ.out]; have hb := hb.trans (hb2.mono hb.size); have sc := sc.keep (Keeps.of_below hb2); have tb := tb.keep (Keeps.of_below hb2); have TL := TL.keep (Keeps.of_below hb2); have hs := hs.keep (Keeps.of_below hb2)))
                        clear hw1 hw2
                        go_wp2_with fail
                        go_roundg (tasks.length - k - 1)
                        case measure => omega
                        case rel => exact ⟨k + 1, z - 1, by omega, by go_num, rfl, hidp (by have := hz1.out; rw [if_pos Hp2.out] at this; omega), sc, hs, hb⟩
                      · have Hp2 := hidp hp2
                        clear hp2
                        go_wp2_with fail
                        refine (longest_any ⟨nm, per, dl, prio, cl, some ⟨gp, op, none⟩, pc, parts⟩ _ TL).mono ?_
                        rintro e u5 ⟨rfl, hb2⟩
                        rw [HM.out]
                        clear c0 c1 c2 c3 b0 b1 b2 b3 b4 b5
                        replace hb := hb.trans (hb2.mono hb.size)
                        replace sc := sc.keep (Keeps.of_below hb2)
                        replace tb := tb.keep (Keeps.of_below hb2)
                        replace TL := TL.keep (Keeps.of_below hb2)
                        replace hs := hs.keep (Keeps.of_below hb2)
                        clear hb2
                        have sc2 := sc
                        obtain ⟨c0, c1, c2, c3⟩ := sc2
                        have tb2 := tb
                        obtain ⟨b0, b1, b2, b3, b4, b5⟩ := tb2
                        dsimp only at c0 c1 c2 c3 b0 b1 b2 b3 b4 b5
                        go_wp2_with fail
                        have sc := sc.keep (Keeps.drew u5)
                        have tb := tb.keep (Keeps.drew u5)
                        have hs := hs.keep (Keeps.drew u5)
                        have TL := TL.keep (Keeps.drew u5)
                        have hb := hb.drew
                        have hw1 := Hw1.out
                        have hw2 := Hw2.out
                        go_region_held3 (fun w' => w'.cell? ⟨wo.heap.size, 0, none⟩ = some (.string nm) ∧ w'.cell? ⟨wo.heap.size, 1, none⟩ = some (.int .i64 per) ∧ w'.cell? ⟨wo.heap.size, 2, none⟩ = some (.int .i64 dl) ∧ w'.cell? ⟨wo.heap.size, 3, none⟩ = some (.int .i64 prio) ∧ w'.cell? ⟨wo.heap.size, 4, none⟩ = some (.int .i64 cl) ∧ w'.cell? ⟨wo.heap.size, 5, none⟩ = some (.slice (some ⟨gp, op, none⟩) parts.length pc)) (exact tb)
                          (first
                            | (go_at_call 29; refine (locks_any ⟨nm, per, dl, prio, cl, some ⟨gp, op, none⟩, pc, parts⟩ _ TL).mono ?_; rintro e u ⟨rfl, hb2⟩; rw [HA.out]; have hb := hb.trans (hb2.mono hb.size); have sc := sc.keep (Keeps.of_below hb2); have tb := tb.keep (Keeps.of_below hb2); have TL := TL.keep (Keeps.of_below hb2); have hs := hs.keep (Keeps.of_below hb2))
                            | (go_at_call 28; refine (longest_any ⟨nm, per, dl, prio, cl, some ⟨gp, op, none⟩, pc, parts⟩ _ TL).mono ?_; rintro e u ⟨rfl, hb2⟩; rw [HM.out]; have hb := hb.trans (hb2.mono hb.size); have sc := sc.keep (Keeps.of_below hb2); have tb := tb.keep (Keeps.of_below hb2); have TL := TL.keep (Keeps.of_below hb2); have hs := hs.keep (Keeps.of_below hb2))
                            | (go_at_call 30; refine (runs_any ⟨nm, per, dl, prio, cl, some ⟨gp, op, none⟩, pc, parts⟩ _ TL).mono ?_; rintro e u ⟨rfl, hb2⟩; rw [HR.out]; have hb := hb.trans (hb2.mono hb.size); have sc := sc.keep (Keeps.of_below hb2); have tb := tb.keep (Keeps.of_below hb2); have TL := TL.keep (Keeps.of_below hb2); have hs := hs.keep (Keeps.of_below hb2))
                            | (go_at_call 31; refine (sleeps_any ⟨nm, per, dl, prio, cl, some ⟨gp, op, none⟩, pc, parts⟩ _ TL).mono ?_; rintro e u ⟨rfl, hb2⟩; rw [HQ.out]; have hb := hb.trans (hb2.mono hb.size); have sc := sc.keep (Keeps.of_below hb2); have tb := tb.keep (Keeps.of_below hb2); have TL := TL.keep (Keeps.of_below hb2); have hs := hs.keep (Keeps.of_below hb2)))
                        clear hw1 hw2
                        go_wp2_with fail
                        go_roundg (tasks.length - k - 1)
                        case measure => omega
                        case rel => exact ⟨k + 1, z, by omega, by go_num, rfl, hidp (by have := hz1.out; rw [Hp2.out, if_neg (by simp)] at this; omega), sc, hs, hb⟩
            · obtain rfl : k = tasks.length := by omega
              have h0 : z = 0 := by have := Hz.out; rw [List.take_length] at this; omega
              subst h0
              go_wp2_with fail
              go_ret
              exact ⟨rfl, hb⟩
  · have v0 : coresV s0 = 0 := by unfold coresV; rw [if_neg hok]
    go_enter Try.func7, Try.ntmps7
    go_wp2_with fail
    refine (known11_any _).mono ?_
    rintro e u1 ⟨rfl, hb2⟩
    replace hb := hb.trans (hb2.mono hb.size)
    replace sc := sc.keep (Keeps.of_below hb2)
    replace hs := hs.keep (Keeps.of_below hb2)
    clear hb2
    have sc2 := sc
    obtain ⟨c0, c1, c2, c3⟩ := sc2
    go_wp2_with fail
    refine (few11_any s0 _ hs).mono ?_
    rintro e u2 ⟨⟨b, rfl⟩, hb2⟩
    clear c0 c1 c2 c3
    replace hb := hb.trans (hb2.mono hb.size)
    replace sc := sc.keep (Keeps.of_below hb2)
    replace hs := hs.keep (Keeps.of_below hb2)
    clear hb2
    have sc2 := sc
    obtain ⟨c0, c1, c2, c3⟩ := sc2
    cases b
    · go_wp2_with fail
      go_ret
      exact ⟨rfl, hb⟩
    · go_wp2_with fail
      refine (cores_any s0 _ hs).mono ?_
      rintro e u3 ⟨rfl, hb2⟩
      replace hb := hb.trans (hb2.mono hb.size)
      go_wp2_with fail
      go_ret
      exact ⟨rfl, hb⟩

theorem own : ownKnob Try.prog.godebug = none := by kernel_rfl
theorem laidOut : laidOutB Try.prog = true := by kernel_rfl

/-! THE ROW's STEP -/
set_option maxRecDepth 100000 in
theorem lifted (os : Os) (started : os.Started) (H : Type) (enc : TypeId × Value → H) :
    ReturnsInHanded {} Try.checked os 7 .any (Rows.demandPartsSpec.pre6 enc Try.prog Try.f7 Rows.demandPartsRow.domain false) (Rows.demandPartsSpec.post enc Try.prog Try.f7 false true false false) := by
  refine returnsInHanded_of_change (C := Try.checked) own started (by kernel_rfl) Try.func7
    (ChangeSpec.witness6 (enc := enc) (C := Try.checked) false ⟨#[], #[.agg #[.int .i64 0, .slice none 0 0, .slice none 0 0, .slice none 0 0]], []⟩ 8 (by kernel_rfl) (by kernel_rfl) (by kernel_rfl) (by kernel_rfl)) ?_
  intro W base args ds gs before hval0 hW hcnd _
  have hval : ∀ (j : Nat) t v, Try.f7.params[j]? = some t → args[j]? = some v → Value.okWide Try.prog W .any base t v := hval0
  have hW' := hW
  obtain ⟨p, q, hA0, hV, rfl, hfz, hnd⟩ := hW
  have hA : DataW.TrodAll enc Try.prog W 0 (fun _ => true) true Try.f7.params.toList args.toList ds p := hA0
  rw [Try.params7] at hA hval
  obtain ⟨v0, vs0, d0, ds0, p0, q0, hargs, rfl, rfl, h0, r0⟩ := trodAll_cons hA
  obtain ⟨rfl, rfl, rfl⟩ := trodAll_nil r0
  obtain rfl : args = #[v0] := by cases args; simp_all
  obtain ⟨rfl, rfl⟩ := trodVars_none hV
  have k0 := h0
  have lt0 : ∀ x ∈ p0, x.block < W.heap.size := by obtain ⟨m, hm⟩ := k0; exact DataW.trod_lt m _ _ _ hm
  obtain ⟨s0, w0, rfl⟩ := setTypes.arg_set (hval 0 25 v0 rfl rfl) h0
  clear hA0 hval0
  refine (walk s0 W w0).mono fun e W' ⟨he, bel⟩ => ?_
  subst he
  exact ⟨_, rfl, _, _, _, [], _, [], hW', trodAll_mk1 (shut_bool Try.underlying4 _), (trodAll_cons_mk (Below.trod laidOut (by kernel_rfl) (of_decide_eq_true (by kernel_rfl)) k0 bel lt0) trodAll_mk0), rfl, bel.frame _, fun h => by cases h⟩

theorem over : Rows.demandPartsRow.holds Try.pinned (OpenSpec.ofChange Rows.demandPartsSpec) :=
  OpenClaim.holds_of_wide 7 Try.f7 rfl rfl rfl rfl rfl rfl rfl ⟨rfl, rfl, rfl, rfl, rfl⟩ rfl rfl rfl rfl rfl (by kernel_rfl) Try.func7 (by kernel_rfl)
    (of_decide_eq_true (by kernel_rfl)) (by unfold Func.isWrapper; first | (rw [if_pos (by decide +kernel)]; kernel_rfl) | (rw [if_neg (by decide +kernel)]; exact ⟨rfl, rfl⟩))
    (fun os started H enc _ => lifted os started H enc)

/-- THE STATEMENT -/
theorem proved : Rows.DemandPartsSaid := over
#print axioms proved
end Go.Proofs.Ytigmbfleffpmeaa.demandParts

