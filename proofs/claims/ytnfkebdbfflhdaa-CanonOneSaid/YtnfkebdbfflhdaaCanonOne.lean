/- CanonOne: however its tasks stand a set has one form, if no two have one priority; that form is its own. No condition. -/
import Derived.Test.YtnfkebdbfflhdaaKnown10
import Derived.Test.YtnfkebdbfflhdaaFews10
import Derived.Test.YtnfkebdbfflhdaaSame7
import Derived.Test.YtnfkebdbfflhdaaRef7d
import Derived.Test.YtnfkebdbfflhdaaCanonMath
import Derived.Test.YtnfkebdbfflhdaaOk3
set_option linter.unusedSimpArgs false
namespace Go.Proofs.Ytnfkebdbfflhdaa
open Go.ChangeShapes Go.WideShapes Go.ChangeAt Go.RowKit
theorem turL_low {b : Int} {s : SetR} : ∀ z ∈ turL (startN b s.tasks.length) s.tasks.length s.tasks.length, 0 ≤ z ∧ z < (s.tasks.length : Int) := fun z hz => by
  have h0 : 0 < s.tasks.length := by
    rcases Nat.eq_zero_or_pos s.tasks.length with e | e
    · rw [e] at hz; simp [turL] at hz
    · exact e
  exact turL_in h0 hz
end Go.Proofs.Ytnfkebdbfflhdaa
set_option maxHeartbeats 8000000
set_option maxRecDepth 100000
namespace Go.Proofs.Ytnfkebdbfflhdaa.canonOne
open Go.ChangeShapes Go.WideShapes Go.ChangeAt Go.RowKit
open Go.ChangeMaps (open_string shut_string)
set_option linter.unusedVariables false

/-- THE WALK: the Go text returns true, and writes nothing that was there. -/
theorem walk (s0 : SetR) (a1 : Int) (w : World) (w0 : SetOk w s0) (w1 : (Lit.int .u8 a1).wf = true) :
    Calls Try.prog 4 #[.agg #[.int .i64 s0.proto, .slice s0.ca s0.cores.length s0.cc, .slice s0.ha s0.homes.length s0.hc, .slice s0.ta s0.tasks.length s0.tc], .int .u8 a1] w fun e w' => e = .returned (.bool true) ∧ Below w.heap.size w w' := by
  have hb := (Below.refl w.heap.size w).alloc (Nat.le_refl _) (.cells #[.int .i64 s0.proto, .slice s0.ca s0.cores.length s0.cc, .slice s0.ha s0.homes.length s0.hc, .slice s0.ta s0.tasks.length s0.tc] 25)
  have sb : SetBox (w.alloc (.cells #[.int .i64 s0.proto, .slice s0.ca s0.cores.length s0.cc, .slice s0.ha s0.homes.length s0.hc, .slice s0.ta s0.tasks.length s0.tc] 25)) w.heap.size s0 := Z4 (Bk.new w 25 #[.int .i64 s0.proto, .slice s0.ca s0.cores.length s0.cc, .slice s0.ha s0.homes.length s0.hc, .slice s0.ta s0.tasks.length s0.tc])
  have hs := w0.keep (Keeps.of_below hb)
  obtain ⟨wh, hn⟩ : ∃ n : Nat, a1 = n := nat_u8 w1
  have wh255 : wh ≤ 255 := u8_le w1 hn
  subst hn
  have hI : Hid (I64 (wh : Int)) := hidp (by unfold I64; omega)
  have hJ : Hid (I64 (-(wh : Int))) := hidp (by unfold I64; omega)
  have hwwh : IntKind.i64.wrap (wh : Int) = (wh : Int) := IntWalk.i64_in _ (by omega)
  have hwneg : IntKind.i64.wrap (-(wh : Int)) = -(wh : Int) := IntWalk.i64_in _ (by omega)
  clear w0 w1
  go_enter Try.func4, Try.ntmps4
  go_wp2_with fail
  refine (known10_any _).mono ?_
  rintro e u1 ⟨rfl, hb2⟩
  replace hb := hb.trans (hb2.mono hb.size)
  replace sb := sb.keep (Keeps.of_below hb2)
  replace hs := hs.keep (Keeps.of_below hb2)
  clear hb2
  obtain ⟨c0, c1, c2, c3⟩ := id sb
  go_wp2_with fail
  refine (fews10_any s0 _ hs).mono ?_
  rintro e u2 ⟨⟨b, rfl, hfew⟩, hb2⟩
  replace hb := hb.trans (hb2.mono hb.size)
  replace sb := sb.keep (Keeps.of_below hb2)
  replace hs := hs.keep (Keeps.of_below hb2)
  clear hb2 c0 c1 c2 c3
  cases b
  · go_wp2_with fail
    go_ret
    exact ⟨rfl, hb⟩
  have HF := hidp (hfew rfl).1
  have HL : Hid (s0.tasks.length ≤ 800) := hidp (Nat.le_trans (hfew rfl).2 (by omega))
  have hlen9 : s0.tasks.length ≤ 9 := (hfew rfl).2
  clear hfew
  obtain ⟨c0, c1, c2, c3⟩ := id sb
  obtain ⟨q, HQ⟩ : ∃ q, Hid (okS s0 = q) := ⟨_, rfl⟩
  have CK := rok_any s0 u2 hs
  rw [HQ.out] at CK
  go_wp2_with fail
  refine CK.mono ?_
  rintro e u3 ⟨rfl, hb2⟩
  replace hb := hb.trans (hb2.mono hb.size)
  replace sb := sb.keep (Keeps.of_below hb2)
  replace hs := hs.keep (Keeps.of_below hb2)
  clear hb2 c0 c1 c2 c3 CK
  cases q
  · go_wp2_with fail
    go_ret
    exact ⟨rfl, hb⟩
  have HU := hidp (unlike_ok HQ.out)
  obtain ⟨c0, c1, c2, c3⟩ := id sb
  go_wp2_with fail
  refine (canon_any s0 _ hs HF.out HL.out).mono ?_
  rintro e u4 ⟨x, rfl, ax, -, kx, hb2⟩
  replace hb := hb.trans (hb2.mono hb.size)
  replace sb := sb.keep (Keeps.of_below hb2)
  replace hs := hs.keep (Keeps.of_below hb2)
  have HAX := hidp ax
  clear hb2 c0 c1 c2 c3 ax
  have xb : SetBox (u4.alloc (.cells #[.int .i64 x.proto, .slice x.ca x.cores.length x.cc, .slice x.ha x.homes.length x.hc, .slice x.ta x.tasks.length x.tc] 25)) u4.heap.size x := Z4 (Bk.new u4 25 #[.int .i64 x.proto, .slice x.ca x.cores.length x.cc, .slice x.ha x.homes.length x.hc, .slice x.ta x.tasks.length x.tc])
  replace sb := sb.keep (Keeps.alloc u4 (.cells #[.int .i64 x.proto, .slice x.ca x.cores.length x.cc, .slice x.ha x.homes.length x.hc, .slice x.ta x.tasks.length x.tc] 25))
  replace hs := hs.keep (Keeps.alloc u4 (.cells #[.int .i64 x.proto, .slice x.ca x.cores.length x.cc, .slice x.ha x.homes.length x.hc, .slice x.ta x.tasks.length x.tc] 25))
  replace kx := kx.keep (Keeps.alloc u4 (.cells #[.int .i64 x.proto, .slice x.ca x.cores.length x.cc, .slice x.ha x.homes.length x.hc, .slice x.ta x.tasks.length x.tc] 25))
  replace hb := hb.alloc hb.size (.cells #[.int .i64 x.proto, .slice x.ca x.cores.length x.cc, .slice x.ha x.homes.length x.hc, .slice x.ta x.tasks.length x.tc] 25)
  obtain ⟨c0, c1, c2, c3⟩ := id sb
  go_wp2_with fail
  have CM := move_any s0 (wh : Int) _ hs HF.out HL.out hI.out
  refine CM.mono ?_
  clear CM
  rintro e u5 ⟨m, rfl, am, -, km, hb2⟩
  replace hb := hb.trans (hb2.mono hb.size)
  replace sb := sb.keep (Keeps.of_below hb2)
  replace xb := xb.keep (Keeps.of_below hb2)
  replace hs := hs.keep (Keeps.of_below hb2)
  replace kx := kx.keep (Keeps.of_below hb2)
  have HAM := hidp am
  clear hb2 c0 c1 c2 c3 am
  have mb : SetBox (u5.alloc (.cells #[.int .i64 m.proto, .slice m.ca m.cores.length m.cc, .slice m.ha m.homes.length m.hc, .slice m.ta m.tasks.length m.tc] 25)) u5.heap.size m := Z4 (Bk.new u5 25 #[.int .i64 m.proto, .slice m.ca m.cores.length m.cc, .slice m.ha m.homes.length m.hc, .slice m.ta m.tasks.length m.tc])
  replace sb := sb.keep (Keeps.alloc u5 (.cells #[.int .i64 m.proto, .slice m.ca m.cores.length m.cc, .slice m.ha m.homes.length m.hc, .slice m.ta m.tasks.length m.tc] 25))
  replace xb := xb.keep (Keeps.alloc u5 (.cells #[.int .i64 m.proto, .slice m.ca m.cores.length m.cc, .slice m.ha m.homes.length m.hc, .slice m.ta m.tasks.length m.tc] 25))
  replace hs := hs.keep (Keeps.alloc u5 (.cells #[.int .i64 m.proto, .slice m.ca m.cores.length m.cc, .slice m.ha m.homes.length m.hc, .slice m.ta m.tasks.length m.tc] 25))
  replace kx := kx.keep (Keeps.alloc u5 (.cells #[.int .i64 m.proto, .slice m.ca m.cores.length m.cc, .slice m.ha m.homes.length m.hc, .slice m.ta m.tasks.length m.tc] 25))
  replace km := km.keep (Keeps.alloc u5 (.cells #[.int .i64 m.proto, .slice m.ca m.cores.length m.cc, .slice m.ha m.homes.length m.hc, .slice m.ta m.tasks.length m.tc] 25))
  replace hb := hb.alloc hb.size (.cells #[.int .i64 m.proto, .slice m.ca m.cores.length m.cc, .slice m.ha m.homes.length m.hc, .slice m.ta m.tasks.length m.tc] 25)
  have hxl : x.tasks.length = s0.tasks.length := by rw [HAX.out.len, ordL_len]
  have HXL := hidp hxl
  have hml : m.tasks.length = s0.tasks.length := by rw [HAM.out.len, turL_len]
  have HML := hidp hml
  have hx9 : x.tasks.length ≤ 9 := by omega
  have HSr := hidp (canon_srt HAX.out HU.out)
  clear hxl hml
  go_wp2_with fail
  obtain ⟨v, hv⟩ : ∃ v, u5.alloc (.cells #[.int .i64 m.proto, .slice m.ca m.cores.length m.cc, .slice m.ha m.homes.length m.hc, .slice m.ta m.tasks.length m.tc] 25) = v := ⟨_, rfl⟩
  rw [hv] at mb sb xb hs kx km hb ⊢
  clear hv
  obtain ⟨g5, hg5⟩ : ∃ g, u4.heap.size = g := ⟨_, rfl⟩
  obtain ⟨g6, hg6⟩ : ∃ g, u5.heap.size = g := ⟨_, rfl⟩
  rw [hg5] at xb ⊢
  rw [hg6] at mb ⊢
  clear hg5 hg6
  have SB := hidp sb
  have XB := hidp xb
  have MB := hidp mb
  have HS := hidp hs
  have KX := hidp kx
  have KM := hidp km
  have HB := hidp hb
  clear sb xb mb hs kx km hb
  go_loopg [7] x.tasks.length (fun g i wr => ∃ k : Nat, k + g = x.tasks.length ∧ i = .int .i64 (k + 1 : Nat) ∧ Below v.heap.size v wr)
  case atStart => exact ⟨0, by omega, rfl, Below.refl _ _⟩
  case round =>
    obtain ⟨k, hk, rfl, hbv⟩ := hrel
    have xr := XB.out.keep (Keeps.of_below hbv)
    obtain ⟨x0, x1, x2, x3⟩ := id xr
    by_cases hlt : k + 1 < x.tasks.length
    · obtain ⟨bx, ox, ex, hc⟩ := KX.out.tasks.at_.resolve_left (by intro e; rw [e] at hlt; simp at hlt)
      have p1 := ((hc k (by omega)).keep (Keeps.of_below hbv)).2.2.2.1
      have p2 := ((hc (k + 1) hlt).keep (Keeps.of_below hbv)).2.2.2.1
      rw [ex] at x3
      have hpr : (x.tasks.getD k default).prio < (x.tasks.getD (k + 1) default).prio := by
        have h := List.pairwise_iff_getElem.1 HSr.out k (k + 1) (by simp; omega) (by simp; omega) (by omega)
        simp [core] at h
        simpa [List.getD, hlt, show k < x.tasks.length by omega] using h
      obtain ⟨q1, hq1⟩ : ∃ q, (x.tasks.getD k default).prio = q := ⟨_, rfl⟩
      obtain ⟨q2, hq2⟩ : ∃ q, (x.tasks.getD (k + 1) default).prio = q := ⟨_, rfl⟩
      obtain ⟨k1, hk1⟩ : ∃ k1, k + 1 = k1 := ⟨_, rfl⟩
      rw [hq1] at p1 hpr
      rw [hq2] at p2 hpr
      rw [hk1] at p2 hlt ⊢
      have hw1 : IntKind.i64.wrap ((k1 : Int) - 1) = (k : Int) := by rw [IntWalk.i64_in _ (by omega)]; omega
      have i0 : (0 : Int) ≤ (k : Int) := by omega
      have i1 : (k : Int) < (x.tasks.length : Int) := by omega
      have i2 : (k1 : Int) < (x.tasks.length : Int) := by omega
      have hd : decide (q2 ≤ q1) = false := by simpa using hpr
      have HK1 := hidp hk1
      clear hc hq1 hq2 hk1 ex xr
      go_wp2
      go_quiet (fail)
      go_wp2
      go_roundg (gk - 1)
      case measure => omega
      case rel => exact ⟨k + 1, by omega, by rw [HK1.out]; go_num, below_drewN hbv nq⟩
    · obtain ⟨k1, hk1⟩ : ∃ k1, k + 1 = k1 := ⟨_, rfl⟩
      rw [hk1] at hlt ⊢
      clear hk1 xr x0 x1 x2
      go_wp2_with fail
      clear x3
      replace hbv : Below v.heap.size v wr.drew := below_drewN hbv 1
      obtain ⟨ud, hud⟩ : ∃ u, wr.drew = u := ⟨_, rfl⟩
      have hall : (ud.cell? ⟨w.heap.size, 0, none⟩ = some (.int .i64 s0.proto) ∧ ud.cell? ⟨w.heap.size, 1, none⟩ = some (.slice s0.ca s0.cores.length s0.cc) ∧ ud.cell? ⟨w.heap.size, 2, none⟩ = some (.slice s0.ha s0.homes.length s0.hc) ∧ ud.cell? ⟨w.heap.size, 3, none⟩ = some (.slice s0.ta s0.tasks.length s0.tc)) ∧ (ud.cell? ⟨g5, 0, none⟩ = some (.int .i64 x.proto) ∧ ud.cell? ⟨g5, 1, none⟩ = some (.slice x.ca x.cores.length x.cc) ∧ ud.cell? ⟨g5, 2, none⟩ = some (.slice x.ha x.homes.length x.hc) ∧ ud.cell? ⟨g5, 3, none⟩ = some (.slice x.ta x.tasks.length x.tc)) ∧ (ud.cell? ⟨g6, 0, none⟩ = some (.int .i64 m.proto) ∧ ud.cell? ⟨g6, 1, none⟩ = some (.slice m.ca m.cores.length m.cc) ∧ ud.cell? ⟨g6, 2, none⟩ = some (.slice m.ha m.homes.length m.hc) ∧ ud.cell? ⟨g6, 3, none⟩ = some (.slice m.ta m.tasks.length m.tc)) := ⟨SB.out.keep (hud ▸ Keeps.of_below hbv), XB.out.keep (hud ▸ Keeps.of_below hbv), MB.out.keep (hud ▸ Keeps.of_below hbv)⟩
      have hxn : ((x.tasks.length : Int) == (s0.tasks.length : Int)) = true := by rw [HXL.out]; simp
      have hxm : x.tasks.length = s0.tasks.length := HXL.out
      have HXM := hidp hxm
      clear hxm
      rw [hud] at hbv
      refine wp_region_held_drew (S := fun w' => (w'.cell? ⟨w.heap.size, 0, none⟩ = some (.int .i64 s0.proto) ∧ w'.cell? ⟨w.heap.size, 1, none⟩ = some (.slice s0.ca s0.cores.length s0.cc) ∧ w'.cell? ⟨w.heap.size, 2, none⟩ = some (.slice s0.ha s0.homes.length s0.hc) ∧ w'.cell? ⟨w.heap.size, 3, none⟩ = some (.slice s0.ta s0.tasks.length s0.tc)) ∧ (w'.cell? ⟨g5, 0, none⟩ = some (.int .i64 x.proto) ∧ w'.cell? ⟨g5, 1, none⟩ = some (.slice x.ca x.cores.length x.cc) ∧ w'.cell? ⟨g5, 2, none⟩ = some (.slice x.ha x.homes.length x.hc) ∧ w'.cell? ⟨g5, 3, none⟩ = some (.slice x.ta x.tasks.length x.tc)) ∧ (w'.cell? ⟨g6, 0, none⟩ = some (.int .i64 m.proto) ∧ w'.cell? ⟨g6, 1, none⟩ = some (.slice m.ca m.cores.length m.cc) ∧ w'.cell? ⟨g6, 2, none⟩ = some (.slice m.ha m.homes.length m.hc) ∧ w'.cell? ⟨g6, 3, none⟩ = some (.slice m.ta m.tasks.length m.tc))) (by kernel_rfl) ?_ (fun hHeld => ?_)
      · rw [hud]; exact hall
      rw [hud] at hHeld ⊢
      clear hud hall
      refine wpAnyH_take (i := 0) (v := ?_) rfl (by kernel_rfl) (by kernel_rfl) (by kernel_rfl) (fun _ _ _ h => h) (Or.inl ⟨by rfl, ?_⟩) (by assumption) ?_
      rotate_left 1
      · ((intro w hSw; (try dsimp only at hSw); go_simp); (try with_reducible rfl))
      simp only [Act.put, List.setIfInBounds_toArray, List.set_cons_zero, List.set_cons_succ, List.getElem_toArray, List.getElem_cons_zero, List.getElem_cons_succ]
      refine wpAnyH_take (i := 2) (v := ?_) rfl (by kernel_rfl) (by kernel_rfl) (by kernel_rfl) (fun _ _ _ h => h) (Or.inl ⟨by rfl, ?_⟩) (by assumption) ?_
      rotate_left 1
      · ((intro w hSw; (try dsimp only at hSw); go_simp); (try with_reducible rfl))
      simp only [Act.put, List.setIfInBounds_toArray, List.set_cons_zero, List.set_cons_succ, List.getElem_toArray, List.getElem_cons_zero, List.getElem_cons_succ]
      refine wpAnyH_ready (rs := [1]) (by kernel_rfl) (by simp) ?_
      refine AllReadyH.cons rfl (fun K hK => ?_) AllReadyH.nil
      go_simp
      refine (canon_any m _ (KM.out.keep (Keeps.of_below hbv)) (HAM.out.few HF.out turL_low (turL_len _ _ _)) (by have := HML.out; have := HL.out; omega)).mono ?_
      rintro e u6 ⟨y, rfl, ay, -, ky, hb2⟩
      replace hbv := hbv.trans (hb2.mono hbv.size)
      have CC := rsame_any y x u6 ky (KX.out.keep (Keeps.of_below hbv))
      rw [canon_one HAM.out.proto HAM.out.cores HAM.out.homes (arr_perm HAM.out start_perm) HU.out HAX.out ay] at CC
      clear hb2 hHeld ky ay
      go_wp2_with fail
      refine hK.out _ _ ?_ (fun hHeld => ?_)
      · exact ⟨SB.out.keep (Keeps.of_below hbv), XB.out.keep (Keeps.of_below hbv), MB.out.keep (Keeps.of_below hbv)⟩
      clear hK K
      try simp only [Act.put, List.setIfInBounds_toArray, List.set_cons_zero, List.set_cons_succ, List.getElem_toArray, List.getElem_cons_zero, List.getElem_cons_succ]
      refine wpAnyH_ready (rs := [3]) (by kernel_rfl) (by simp) ?_
      refine AllReadyH.cons rfl (fun K hK => ?_) AllReadyH.nil
      go_simp
      refine CC.mono ?_
      rintro e u7 ⟨rfl, hb2⟩
      replace hbv := hbv.trans (hb2.mono hbv.size)
      clear hb2 hHeld CC
      go_wp2_with fail
      refine hK.out _ _ ?_ (fun hHeld => ?_)
      · exact ⟨SB.out.keep (Keeps.of_below hbv), XB.out.keep (Keeps.of_below hbv), MB.out.keep (Keeps.of_below hbv)⟩
      clear hK K
      try simp only [Act.put, List.setIfInBounds_toArray, List.set_cons_zero, List.set_cons_succ, List.getElem_toArray, List.getElem_cons_zero, List.getElem_cons_succ]
      refine wpAnyH_take (i := 4) (v := ?_) rfl (by kernel_rfl) (by kernel_rfl) (by kernel_rfl) (fun _ _ _ h => h) (Or.inl ⟨by rfl, ?_⟩) (by assumption) ?_
      rotate_left 1
      · ((intro w hSw; (try dsimp only at hSw); go_simp); (try with_reducible rfl))
      simp only [Act.put, List.setIfInBounds_toArray, List.set_cons_zero, List.set_cons_succ, List.getElem_toArray, List.getElem_cons_zero, List.getElem_cons_succ]
      refine wpAnyH_take (i := 5) (v := ?_) rfl (by kernel_rfl) (by kernel_rfl) (by kernel_rfl) (fun _ _ _ h => h) (Or.inl ⟨by rfl, ?_⟩) (by assumption) ?_
      rotate_left 1
      · ((intro w hSw; (try dsimp only at hSw); go_simp); (try with_reducible rfl))
      simp only [Act.put, List.setIfInBounds_toArray, List.set_cons_zero, List.set_cons_succ, List.getElem_toArray, List.getElem_cons_zero, List.getElem_cons_succ]
      refine wpAnyH_take (i := 7) (v := ?_) rfl (by kernel_rfl) (by kernel_rfl) (by kernel_rfl) (fun _ _ _ h => h) (Or.inl ⟨by rfl, ?_⟩) (by assumption) ?_
      rotate_left 1
      · ((intro w hSw; (try dsimp only at hSw); go_simp); (try with_reducible rfl))
      simp only [Act.put, List.setIfInBounds_toArray, List.set_cons_zero, List.set_cons_succ, List.getElem_toArray, List.getElem_cons_zero, List.getElem_cons_succ]
      refine wpAnyH_ready (rs := [6]) (by kernel_rfl) (by simp) ?_
      refine AllReadyH.cons rfl (fun K hK => ?_) AllReadyH.nil
      go_simp
      refine (canon_any x _ (KX.out.keep (Keeps.of_below hbv)) (HAX.out.few HF.out (fun z hz => ordL_in hz) (ordL_len _)) (by have := HXL.out; have := HL.out; omega)).mono ?_
      rintro e u8 ⟨y, rfl, ay, -, ky, hb2⟩
      replace hbv := hbv.trans (hb2.mono hbv.size)
      have CC := rsame_any y x u8 ky (KX.out.keep (Keeps.of_below hbv))
      rw [canon_one HAX.out.proto HAX.out.cores HAX.out.homes (arr_perm HAX.out (ordL_perm _)) HU.out HAX.out ay] at CC
      clear hb2 hHeld ky ay
      go_wp2_with fail
      refine hK.out _ _ ?_ (fun hHeld => ?_)
      · exact ⟨SB.out.keep (Keeps.of_below hbv), XB.out.keep (Keeps.of_below hbv), MB.out.keep (Keeps.of_below hbv)⟩
      clear hK K
      try simp only [Act.put, List.setIfInBounds_toArray, List.set_cons_zero, List.set_cons_succ, List.getElem_toArray, List.getElem_cons_zero, List.getElem_cons_succ]
      refine wpAnyH_ready (rs := [8]) (by kernel_rfl) (by simp) ?_
      refine AllReadyH.cons rfl (fun K hK => ?_) AllReadyH.nil
      go_simp
      refine CC.mono ?_
      rintro e u9 ⟨rfl, hb2⟩
      replace hbv := hbv.trans (hb2.mono hbv.size)
      clear hb2 hHeld CC
      go_wp2_with fail
      refine hK.out _ _ ?_ (fun hHeld => ?_)
      · exact ⟨SB.out.keep (Keeps.of_below hbv), XB.out.keep (Keeps.of_below hbv), MB.out.keep (Keeps.of_below hbv)⟩
      clear hK K
      try simp only [Act.put, List.setIfInBounds_toArray, List.set_cons_zero, List.set_cons_succ, List.getElem_toArray, List.getElem_cons_zero, List.getElem_cons_succ]
      refine wpAnyH_take (i := 9) (v := ?_) rfl (by kernel_rfl) (by kernel_rfl) (by kernel_rfl) (fun _ _ _ h => h) (Or.inl ⟨by rfl, ?_⟩) (by assumption) ?_
      rotate_left 1
      · ((intro w hSw; (try dsimp only at hSw); go_simp); (try with_reducible rfl))
      simp only [Act.put, List.setIfInBounds_toArray, List.set_cons_zero, List.set_cons_succ, List.getElem_toArray, List.getElem_cons_zero, List.getElem_cons_succ]
      refine wpAnyH_take (i := 10) (v := ?_) rfl (by kernel_rfl) (by kernel_rfl) (by kernel_rfl) (fun _ _ _ h => h) (Or.inl ⟨by rfl, ?_⟩) (by assumption) ?_
      rotate_left 1
      · ((intro w hSw; (try dsimp only at hSw); go_simp); (try with_reducible rfl))
      simp only [Act.put, List.setIfInBounds_toArray, List.set_cons_zero, List.set_cons_succ, List.getElem_toArray, List.getElem_cons_zero, List.getElem_cons_succ]
      refine wpAnyH_take (i := 11) (v := ?_) rfl (by kernel_rfl) (by kernel_rfl) (by kernel_rfl) (fun _ _ _ h => h) (Or.inl ⟨by rfl, ?_⟩) (by assumption) ?_
      rotate_left 1
      · ((intro w hSw; (try dsimp only at hSw); go_simp); (try with_reducible rfl))
      simp only [Act.put, List.setIfInBounds_toArray, List.set_cons_zero, List.set_cons_succ, List.getElem_toArray, List.getElem_cons_zero, List.getElem_cons_succ]
      refine wpAnyH_take (i := 12) (v := ?_) rfl (by kernel_rfl) (by kernel_rfl) (by kernel_rfl) (fun _ _ _ h => h) (Or.inl ⟨by rfl, ?_⟩) (by assumption) ?_
      rotate_left 1
      · ((intro w hSw; (try dsimp only at hSw); go_simp); (try with_reducible rfl))
      simp only [Act.put, List.setIfInBounds_toArray, List.set_cons_zero, List.set_cons_succ, List.getElem_toArray, List.getElem_cons_zero, List.getElem_cons_succ]
      refine wpAnyH_take (i := 13) (v := ?_) rfl (by kernel_rfl) (by kernel_rfl) (by kernel_rfl) (fun _ _ _ h => h) (Or.inl ⟨by rfl, ?_⟩) (by assumption) ?_
      rotate_left 1
      · ((intro w hSw; (try dsimp only at hSw); go_simp); (try with_reducible rfl))
      simp only [Act.put, List.setIfInBounds_toArray, List.set_cons_zero, List.set_cons_succ, List.getElem_toArray, List.getElem_cons_zero, List.getElem_cons_succ]
      refine wpAnyH_take (i := 14) (v := ?_) rfl (by kernel_rfl) (by kernel_rfl) (by kernel_rfl) (fun _ _ _ h => h) (Or.inl ⟨by rfl, ?_⟩) (by assumption) ?_
      rotate_left 1
      · ((intro w hSw; (try dsimp only at hSw); go_simp); (try with_reducible rfl))
      simp only [Act.put, List.setIfInBounds_toArray, List.set_cons_zero, List.set_cons_succ, List.getElem_toArray, List.getElem_cons_zero, List.getElem_cons_succ]
      refine wpAnyH_take (i := 15) (v := ?_) rfl (by kernel_rfl) (by kernel_rfl) (by kernel_rfl) (fun _ _ _ h => h) (Or.inl ⟨by rfl, ?_⟩) (by assumption) ?_
      rotate_left 1
      · ((intro w hSw; (try dsimp only at hSw); go_simp); (try with_reducible rfl))
      simp only [Act.put, List.setIfInBounds_toArray, List.set_cons_zero, List.set_cons_succ, List.getElem_toArray, List.getElem_cons_zero, List.getElem_cons_succ]
      refine wpAnyH_take (i := 16) (v := ?_) rfl (by kernel_rfl) (by kernel_rfl) (by kernel_rfl) (fun _ _ _ h => h) (Or.inl ⟨by rfl, ?_⟩) (by assumption) ?_
      rotate_left 1
      · ((intro w hSw; (try dsimp only at hSw); go_simp); (try with_reducible rfl))
      simp only [Act.put, List.setIfInBounds_toArray, List.set_cons_zero, List.set_cons_succ, List.getElem_toArray, List.getElem_cons_zero, List.getElem_cons_succ]
      refine wpAnyH_take (i := 17) (v := ?_) rfl (by kernel_rfl) (by kernel_rfl) (by kernel_rfl) (fun _ _ _ h => h) (Or.inl ⟨by rfl, ?_⟩) (by assumption) ?_
      rotate_left 1
      · ((intro w hSw; (try dsimp only at hSw); go_simp); (try with_reducible rfl))
      simp only [Act.put, List.setIfInBounds_toArray, List.set_cons_zero, List.set_cons_succ, List.getElem_toArray, List.getElem_cons_zero, List.getElem_cons_succ]
      refine wpAnyH_take (i := 18) (v := ?_) rfl (by kernel_rfl) (by kernel_rfl) (by kernel_rfl) (fun _ _ _ h => h) (Or.inl ⟨by rfl, ?_⟩) (by assumption) ?_
      rotate_left 1
      · ((intro w hSw; (try dsimp only at hSw); go_simp); (try with_reducible rfl))
      simp only [Act.put, List.setIfInBounds_toArray, List.set_cons_zero, List.set_cons_succ, List.getElem_toArray, List.getElem_cons_zero, List.getElem_cons_succ]
      refine wpAnyH_take (i := 19) (v := ?_) rfl (by kernel_rfl) (by kernel_rfl) (by kernel_rfl) (fun _ _ _ h => h) (Or.inl ⟨by rfl, ?_⟩) (by assumption) ?_
      rotate_left 1
      · ((intro w hSw; (try dsimp only at hSw); go_simp); (try with_reducible rfl))
      simp only [Act.put, List.setIfInBounds_toArray, List.set_cons_zero, List.set_cons_succ, List.getElem_toArray, List.getElem_cons_zero, List.getElem_cons_succ]
      refine wpAnyH_take (i := 20) (v := ?_) rfl (by kernel_rfl) (by kernel_rfl) (by kernel_rfl) (fun _ _ _ h => h) (Or.inl ⟨by rfl, ?_⟩) (by assumption) ?_
      rotate_left 1
      · ((intro w hSw; (try dsimp only at hSw); go_simp); (try with_reducible rfl))
      simp only [Act.put, List.setIfInBounds_toArray, List.set_cons_zero, List.set_cons_succ, List.getElem_toArray, List.getElem_cons_zero, List.getElem_cons_succ]
      refine wpAnyH_take (i := 21) (v := ?_) rfl (by kernel_rfl) (by kernel_rfl) (by kernel_rfl) (fun _ _ _ h => h) (Or.inl ⟨by rfl, ?_⟩) (by assumption) ?_
      rotate_left 1
      · ((intro w hSw; (try dsimp only at hSw); go_simp); (try with_reducible rfl))
      simp only [Act.put, List.setIfInBounds_toArray, List.set_cons_zero, List.set_cons_succ, List.getElem_toArray, List.getElem_cons_zero, List.getElem_cons_succ]
      refine wpAnyH_take (i := 22) (v := ?_) rfl (by kernel_rfl) (by kernel_rfl) (by kernel_rfl) (fun _ _ _ h => h) (Or.inl ⟨by rfl, ?_⟩) (by assumption) ?_
      rotate_left 1
      · ((intro w hSw; (try dsimp only at hSw); go_simp); (try with_reducible rfl))
      simp only [Act.put, List.setIfInBounds_toArray, List.set_cons_zero, List.set_cons_succ, List.getElem_toArray, List.getElem_cons_zero, List.getElem_cons_succ]
      refine wpAnyH_take (i := 24) (v := ?_) rfl (by kernel_rfl) (by kernel_rfl) (by kernel_rfl) (fun _ _ _ h => h) (Or.inl ⟨by rfl, ?_⟩) (by assumption) ?_
      rotate_left 1
      · ((intro w hSw; (try dsimp only at hSw); go_simp); (try with_reducible rfl))
      simp only [Act.put, List.setIfInBounds_toArray, List.set_cons_zero, List.set_cons_succ, List.getElem_toArray, List.getElem_cons_zero, List.getElem_cons_succ]
      refine wpAnyH_take (i := 25) (v := ?_) rfl (by kernel_rfl) (by kernel_rfl) (by kernel_rfl) (fun _ _ _ h => h) (Or.inl ⟨by rfl, ?_⟩) (by assumption) ?_
      rotate_left 1
      · ((intro w hSw; (try dsimp only at hSw); go_simp); (try with_reducible rfl))
      simp only [Act.put, List.setIfInBounds_toArray, List.set_cons_zero, List.set_cons_succ, List.getElem_toArray, List.getElem_cons_zero, List.getElem_cons_succ]
      refine wpAnyH_take (i := 26) (v := ?_) rfl (by kernel_rfl) (by kernel_rfl) (by kernel_rfl) (fun _ _ _ h => h) (Or.inl ⟨by rfl, ?_⟩) (by assumption) ?_
      rotate_left 1
      · ((intro w hSw; (try dsimp only at hSw); go_simp); (try with_reducible rfl))
      simp only [Act.put, List.setIfInBounds_toArray, List.set_cons_zero, List.set_cons_succ, List.getElem_toArray, List.getElem_cons_zero, List.getElem_cons_succ]
      refine wpAnyH_take (i := 28) (v := ?_) rfl (by kernel_rfl) (by kernel_rfl) (by kernel_rfl) (fun _ _ _ h => h) (Or.inl ⟨by rfl, ?_⟩) (by assumption) ?_
      rotate_left 1
      · ((intro w hSw; (try dsimp only at hSw); go_simp); (try with_reducible rfl))
      simp only [Act.put, List.setIfInBounds_toArray, List.set_cons_zero, List.set_cons_succ, List.getElem_toArray, List.getElem_cons_zero, List.getElem_cons_succ]
      refine wpAnyH_ready (rs := [23]) (by kernel_rfl) (by simp) ?_
      refine AllReadyH.cons rfl (fun K hK => ?_) AllReadyH.nil
      go_simp
      refine (move_any s0 (wh : Int) _ (HS.out.keep (Keeps.of_below hbv)) HF.out HL.out hI.out).mono ?_
      rintro e u10 ⟨y, rfl, ay, -, ky, hb2⟩
      replace hbv := hbv.trans (hb2.mono hbv.size)
      clear hb2 hHeld
      go_wp2_with fail
      refine hK.out _ _ ?_ (fun hHeld => ?_)
      · exact ⟨SB.out.keep (Keeps.of_below hbv), XB.out.keep (Keeps.of_below hbv), MB.out.keep (Keeps.of_below hbv)⟩
      clear hK K
      try simp only [Act.put, List.setIfInBounds_toArray, List.set_cons_zero, List.set_cons_succ, List.getElem_toArray, List.getElem_cons_zero, List.getElem_cons_succ]
      refine wpAnyH_ready (rs := [27]) (by kernel_rfl) (by simp) ?_
      refine AllReadyH.cons rfl (fun K hK => ?_) AllReadyH.nil
      go_simp
      refine (move_any y (-(wh : Int)) _ ky (ay.few HF.out turL_low (turL_len _ _ _)) (by have := ay.len; rw [turL_len] at this; have := HL.out; omega) hJ.out).mono ?_
      rintro e u11 ⟨z, rfl, az, -, kz, hb2⟩
      replace hbv := hbv.trans (hb2.mono hbv.size)
      have CC := rsame_any z s0 u11 kz (HS.out.keep (Keeps.of_below hbv))
      rw [move_back ay az] at CC
      clear hb2 hHeld ky ay kz az
      go_wp2_with fail
      refine hK.out _ _ ?_ (fun hHeld => ?_)
      · exact ⟨SB.out.keep (Keeps.of_below hbv), XB.out.keep (Keeps.of_below hbv), MB.out.keep (Keeps.of_below hbv)⟩
      clear hK K
      try simp only [Act.put, List.setIfInBounds_toArray, List.set_cons_zero, List.set_cons_succ, List.getElem_toArray, List.getElem_cons_zero, List.getElem_cons_succ]
      refine wpAnyH_ready (rs := [29]) (by kernel_rfl) (by simp) ?_
      refine AllReadyH.cons rfl (fun K hK => ?_) AllReadyH.nil
      go_simp
      refine CC.mono ?_
      rintro e u12 ⟨rfl, hb2⟩
      replace hbv := hbv.trans (hb2.mono hbv.size)
      clear hb2 hHeld CC
      go_wp2_with fail
      refine hK.out _ _ ?_ (fun hHeld => ?_)
      · exact ⟨SB.out.keep (Keeps.of_below hbv), XB.out.keep (Keeps.of_below hbv), MB.out.keep (Keeps.of_below hbv)⟩
      clear hK K
      try simp only [Act.put, List.setIfInBounds_toArray, List.set_cons_zero, List.set_cons_succ, List.getElem_toArray, List.getElem_cons_zero, List.getElem_cons_succ]
      refine wpAnyH_take (i := 30) (v := ?_) rfl (by kernel_rfl) (by kernel_rfl) (by kernel_rfl) (fun _ _ _ h => h) (Or.inl ⟨by rfl, ?_⟩) (by assumption) ?_
      rotate_left 1
      · ((intro w hSw; (try dsimp only at hSw); go_simp); (try with_reducible rfl))
      simp only [Act.put, List.setIfInBounds_toArray, List.set_cons_zero, List.set_cons_succ, List.getElem_toArray, List.getElem_cons_zero, List.getElem_cons_succ]
      refine wpAnyH_take (i := 31) (v := ?_) rfl (by kernel_rfl) (by kernel_rfl) (by kernel_rfl) (fun _ _ _ h => h) (Or.inl ⟨by rfl, ?_⟩) (by assumption) ?_
      rotate_left 1
      · ((intro w hSw; (try dsimp only at hSw); go_simp); (try with_reducible rfl))
      simp only [Act.put, List.setIfInBounds_toArray, List.set_cons_zero, List.set_cons_succ, List.getElem_toArray, List.getElem_cons_zero, List.getElem_cons_succ]
      refine wpAnyH_done (by kernel_rfl) ?_ _
      clear hHeld
      go_wp2_with fail
      go_ret
      exact ⟨rfl, HB.out.trans (hbv.mono HB.out.size)⟩

theorem own : ownKnob Try.prog.godebug = none := by kernel_rfl
theorem laidOut : laidOutB Try.prog = true := by kernel_rfl

/-! THE ROW's STEP -/
set_option maxRecDepth 100000 in
theorem lifted (os : Os) (started : os.Started) (H : Type) (enc : TypeId × Value → H) :
    ReturnsInHanded {} Try.checked os 4 .any (Rows.canonOneSpec.pre6 enc Try.prog Try.f4 Rows.canonOneRow.domain false) (Rows.canonOneSpec.post enc Try.prog Try.f4 false true false false) := by
  refine returnsInHanded_of_change (C := Try.checked) own started (by kernel_rfl) Try.func4
    (ChangeSpec.witness6 (enc := enc) (C := Try.checked) false ⟨#[], #[.agg #[.int .i64 0, .slice none 0 0, .slice none 0 0, .slice none 0 0], .int .u8 0], []⟩ 8 (by kernel_rfl) (by kernel_rfl) (by kernel_rfl) (by kernel_rfl)) ?_
  intro W base args ds gs before hval0 hW hcnd _
  have hval : ∀ (j : Nat) t v, Try.f4.params[j]? = some t → args[j]? = some v → Value.okWide Try.prog W .any base t v := hval0
  have hW' := hW
  obtain ⟨p, q, hA0, hV, rfl, hfz, hnd⟩ := hW
  have hA : DataW.TrodAll enc Try.prog W 0 (fun _ => true) true Try.f4.params.toList args.toList ds p := hA0
  rw [Try.params4] at hA hval
  obtain ⟨v0, vs0, d0, ds0, p0, q0, hargs, rfl, rfl, h0, r0⟩ := trodAll_cons hA
  obtain ⟨v1, vs1, d1, ds1, p1, q1, rfl, rfl, rfl, h1, r1⟩ := trodAll_cons r0
  obtain ⟨rfl, rfl, rfl⟩ := trodAll_nil r1
  obtain rfl : args = #[v0, v1] := by cases args; simp_all
  obtain ⟨rfl, rfl⟩ := trodVars_none hV
  have k0 := h0
  have lt0 : ∀ x ∈ p0, x.block < W.heap.size := by obtain ⟨m, hm⟩ := k0; exact DataW.trod_lt m _ _ _ hm
  obtain ⟨s0, w0, rfl⟩ := setTypes.arg_set (hval 0 25 v0 rfl rfl) h0
  obtain ⟨a1, rfl, rfl, rfl, w1⟩ := open_int Try.underlying5 (hval 1 5 v1 rfl rfl) h1
  clear hA0 hval0
  refine (walk s0 a1 W w0 w1).mono fun e W' ⟨he, bel⟩ => ?_
  subst he
  exact ⟨_, rfl, _, _, _, [], _, [], hW', trodAll_mk1 (shut_bool Try.underlying4 _), (trodAll_cons_mk (Below.trod laidOut (by kernel_rfl) (of_decide_eq_true (by kernel_rfl)) k0 bel lt0) (trodAll_cons_mk (shut_int Try.underlying5 w1) trodAll_mk0)), rfl, bel.frame _, fun h => by cases h⟩

theorem over : Rows.canonOneRow.holds Try.pinned (OpenSpec.ofChange Rows.canonOneSpec) :=
  OpenClaim.holds_of_wide 4 Try.f4 rfl rfl rfl rfl rfl rfl rfl ⟨rfl, rfl, rfl, rfl, rfl⟩ rfl rfl rfl rfl rfl (by kernel_rfl) Try.func4 (by kernel_rfl)
    (of_decide_eq_true (by kernel_rfl)) (by unfold Func.isWrapper; first | (rw [if_pos (by decide +kernel)]; kernel_rfl) | (rw [if_neg (by decide +kernel)]; exact ⟨rfl, rfl⟩))
    (fun os started H enc _ => lifted os started H enc)

/-- THE STATEMENT -/
theorem proved : Rows.CanonOneSaid := over
#print axioms proved
end Go.Proofs.Ytnfkebdbfflhdaa.canonOne

