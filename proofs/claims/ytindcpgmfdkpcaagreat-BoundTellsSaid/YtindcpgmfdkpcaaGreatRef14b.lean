/- swingbridgeref11: At. -/
import Derived.Test.YtindcpgmfdkpcaaGreatRef14a
namespace Go.Proofs.YtindcpgmfdkpcaaGreat
open Go.ChangeShapes Go.WideShapes Go.ChangeAt Go.RowKit
set_option linter.unusedVariables false
set_option linter.unusedSimpArgs false

theorem srv_out {s : SetR} {of cl : Int} (h : thereB s of = false) : srv s of cl = [] := by
  unfold srv
  rw [if_neg]
  intro h2
  have := thereB_true.2 h2
  rw [h] at this; cases this
set_option maxHeartbeats 4000000 in
set_option maxRecDepth 100000 in
theorem rat_any (s : SetR) (of cl : Int) (w : World) (hs : SetOk w s) : Calls Tryz.prog 68 #[.agg #[.int .i64 s.proto, .slice s.ca s.cores.length s.cc, .slice s.ha s.homes.length s.hc, .slice s.ta s.tasks.length s.tc], .int .i64 of, .int .i64 cl] w fun e w' => e = .returned (.tuple #[.int .i64 (atV s of cl), .int .i64 (mostV s of cl)]) ∧ Below w.heap.size w w' := by
  have hb := (Below.refl w.heap.size w).alloc (Nat.le_refl _) (.cells #[.int .i64 s.proto, .slice s.ca s.cores.length s.cc, .slice s.ha s.homes.length s.hc, .slice s.ta s.tasks.length s.tc] 25)
  have sc := SetCells.new w s 25
  have H := hs.keep (Keeps.of_below hb)
  by_cases e : thereB s of = true
  · obtain ⟨ho, r1, r2⟩ := thereB_true.1 e
    obtain ⟨n, rfl⟩ : ∃ n : Nat, of = n := ⟨of.toNat, by omega⟩
    have hn : n < s.tasks.length := by omega
    have hg := Good.of ho
    have Hth := hidp e
    obtain ⟨t, HT⟩ : ∃ t, Hid (s.tasks.getD n default = t) := ⟨_, rfl⟩
    have hm : t ∈ s.tasks := HT.out ▸ getD_mem hn
    have Tok := hidp (hs.tasks.ok t hm)
    have Tg := hidp (hg.parts t hm)
    have Hsrv : Hid (srv s n cl = t.parts.filter (srvB s.homes cl)) := hidp (by unfold srv; rw [if_pos ⟨ho, r1, r2⟩]; simp only [Int.toNat_natCast]; rw [HT.out])
    have HhA := hidp hs.homes.at_
    have Hhl := hidp hg.nhomes
    obtain ⟨g, off, hA, hcl⟩ := hs.tasks.at_.resolve_left (by intro e; rw [e] at hn; simp at hn)
    have HC := hidp (HT.out ▸ hcl n hn)
    have lp := Tg.out.len
    obtain ⟨gp, op, hP, hpl⟩ := Tok.out.at_.resolve_left (by intro e; rw [e] at lp; simp at lp)
    have Hpl := hidp hpl
    obtain ⟨hom, Hhom⟩ : ∃ hom, Hid (s.homes = hom) := ⟨_, rfl⟩
    have Ha : Hid (atV s n cl = sumK 3 (t.parts.filter (srvB hom cl))) := hidp (by unfold atV; rw [Hsrv.out, Hhom.out])
    have Hmx : Hid (mostV s n cl = maxL (t.parts.filter (srvB hom cl))) := hidp (by unfold mostV; rw [Hsrv.out, Hhom.out])
    rw [Hhom.out] at HhA Hhl
    clear hcl hpl hm hg hs ho e r1
    obtain ⟨nm, per, dl, prio, tcls, pa, pc, parts⟩ := t
    obtain ⟨proto, ca, cc, cores, ha, hc, homes, ta, tc, tasks⟩ := s
    dsimp only at hA hP HC Hpl lp hn r2 hb sc H HhA Hhl Ha Hmx Tg ⊢
    subst hA
    subst hP
    have Hhl2 : Hid (homes.length = hom.length) := hidp (by rw [← Hhom.out])
    go_enter Tryz.func68, Tryz.ntmps68
    go_wp2_with fail
    refine (rthere_any _ _ _ H).mono ?_
    rintro e w2 ⟨rfl, hb2⟩
    replace hb := hb.trans (hb2.mono hb.size)
    replace sc := sc.keep (Keeps.of_below hb2)
    clear hb2
    try clear sc_0 sc_1 sc_2 sc_3
    have scx := sc
    obtain ⟨sc_0, sc_1, sc_2, sc_3⟩ := scx
    try dsimp only at sc_0 sc_1 sc_2 sc_3
    rw [Hth.out]
    have tcl := HC.out.keep (Keeps.of_below hb)
    obtain ⟨d0, d1, d2, d3, d4, d5⟩ := tcl
    dsimp only at d0 d1 d2 d3 d4 d5
    have hb1 := hb.alloc hb.size (.cells #[.string nm, .int .i64 per, .int .i64 dl, .int .i64 prio, .int .i64 tcls, .slice (some ⟨gp, op, none⟩) parts.length pc] 39)
    have tb := TaskBox.new w2 ⟨nm, per, dl, prio, tcls, some ⟨gp, op, none⟩, pc, parts⟩ 39
    have sc1 := sc.keep (Keeps.alloc w2 (.cells #[.string nm, .int .i64 per, .int .i64 dl, .int .i64 prio, .int .i64 tcls, .slice (some ⟨gp, op, none⟩) parts.length pc] 39))
    have Htb := hidp tb
    have Hsc := hidp sc1
    go_wp2
    go_loopg [8, 9, 11] parts.length (fun gg s8 s9 i wr => ∃ (k : Nat) (x y : Int), k + gg = parts.length ∧ i = .int .i64 k ∧ s8 = .int .i64 x ∧ s9 = .int .i64 y ∧ Hid (sumK 3 ((parts.take k).filter (srvB hom cl)) = x) ∧ Hid (maxL ((parts.take k).filter (srvB hom cl)) = y) ∧ Qt (w2.alloc (.cells #[.string nm, .int .i64 per, .int .i64 dl, .int .i64 prio, .int .i64 tcls, .slice (some ⟨gp, op, none⟩) parts.length pc] 39)) wr)
    case atStart => exact ⟨0, 0, 0, by omega, rfl, rfl, rfl, hidp (by simp [sumK]), hidp (by simp [maxL]), Qt.refl _⟩
    case round =>
      obtain ⟨k, x, y, hk, rfl, rfl, rfl, Hx, Hy, hq⟩ := hrel
      clear sc_0 sc_1 sc_2 sc_3 d0 d1 d2 d3 d4 d5 tb sc1
      have lf : LenOk ((parts.take k).filter (srvB hom cl)) := fun p hp => Tg.out.lens p (List.mem_of_mem_take (List.mem_filter.1 hp).1)
      have x0 := (sumK_bd 3 lf)
      have x1 : ((parts.take k).filter (srvB hom cl)).length ≤ 6 := Nat.le_trans (List.length_filter_le _ _) (by simp; omega)
      have y0 := maxL_nn ((parts.take k).filter (srvB hom cl))
      rw [Hx.out] at x0
      rw [Hy.out] at y0
      obtain ⟨x2, x3⟩ := x0
      have x4 : x ≤ 360 := by omega
      clear lf x1 x3
      obtain ⟨_, _, _, _, _, b5⟩ := Htb.out.keep (Keeps.of_qt hq)
      dsimp only at b5
      by_cases hlt : k < parts.length
      · obtain ⟨p, HN⟩ : ∃ p, Hid (parts.getD k default = p) := ⟨_, rfl⟩
        have pcl := (HN.out ▸ Hpl.out k hlt).keep (Keeps.of_below (hq.below hb1))
        have pg := Tg.out.good p (HN.out ▸ getD_mem hlt)
        have Hs : Hid ((parts.take (k + 1)).filter (srvB hom cl) = (parts.take k).filter (srvB hom cl) ++ (if srvB hom cl p then [p] else [])) := hidp (by
          rw [take_snocD _ _ hlt, List.filter_append, HN.out]
          congr 1
          by_cases e : srvB hom cl p = true
          · simp [e]
          · simp [e])
        obtain ⟨kd, ln, rs⟩ := p
        obtain ⟨p0, p1, p2⟩ := pcl
        dsimp only at p0 p1 p2
        obtain ⟨_, _, q2, _⟩ := Hsc.out.keep (Keeps.of_qt hq)
        dsimp only at q2
        by_cases e : kd = 3
        · subst e
          obtain ⟨pg0, pg1, pg2, pg3⟩ := pg
          dsimp only at pg1 pg2 pg3
          have g3 := pg3 rfl
          obtain ⟨r, hr0⟩ : ∃ r : Nat, rs = r := ⟨rs.toNat, by have := g3.1; omega⟩
          subst hr0
          have hrl : r < homes.length := by have := g3.2; omega
          have hrl' : r < hom.length := by rw [← Hhl2.out]; exact hrl
          obtain ⟨gh, oh, hHA, hhc⟩ := HhA.out.resolve_left (by intro e; rw [e] at hrl'; simp at hrl')
          subst hHA
          obtain ⟨h, HH⟩ : ∃ h, Hid (hom.getD r 0 = h) := ⟨_, rfl⟩
          have ch := Keeps.of_below (hq.below hb1) _ _ (HH.out ▸ hhc r hrl')
          clear hhc g3 pg0 pg3
          by_cases e : h = cl
          · subst e
            have Hy2 : Hid (srvB hom h ⟨3, ln, r⟩ = true) := hidp (by simp [srvB]; exact HH.out)
            have Hz : Hid ((parts.take (k + 1)).filter (srvB hom h) = (parts.take k).filter (srvB hom h) ++ [⟨3, ln, r⟩]) := hidp (by rw [Hs.out, Hy2.out]; simp)
            obtain ⟨m, hm⟩ : ∃ m, max y ln = m := ⟨_, rfl⟩
            have Hm : Hid (m = max y ln) := hidp hm.symm
            have hg1 : ((h : Int) == h) = true := by simp
            go_wp2
            go_quiet (fail)
            go_wp2
            go_quiet (fail)
            go_wp2
            go_roundg (gk - 1)
            case measure => omega
            case rel => exact ⟨k + 1, x + ln, m, by omega, by go_num, rfl, rfl, hidp (by rw [Hz.out, sumK_append, Hx.out]; simp [sumK]), hidp (by rw [Hz.out, maxL_append, Hy.out, Hm.out]; simp [maxL]; omega), by first | exact hq.add _ | exact (hq.add _).add _⟩
          · have hg1 : ((h : Int) == cl) = false := by simpa using e
            have Hy2 : Hid (srvB hom cl ⟨3, ln, r⟩ = false) := hidp (by simp [srvB]; intro h2; exact e (HH.out ▸ h2))
            have Hz : Hid ((parts.take (k + 1)).filter (srvB hom cl) = (parts.take k).filter (srvB hom cl)) := hidp (by rw [Hs.out, Hy2.out]; simp)
            clear e
            go_wp2
            go_quiet (fail)
            go_wp2
            go_roundg (gk - 1)
            case measure => omega
            case rel => exact ⟨k + 1, x, y, by omega, by go_num, rfl, rfl, hidp (by rw [Hz.out, Hx.out]), hidp (by rw [Hz.out, Hy.out]), hq.add _⟩
        · have e' : (kd == 3) = false := by simpa using e
          have Hz : Hid ((parts.take (k + 1)).filter (srvB hom cl) = (parts.take k).filter (srvB hom cl)) := hidp (by
            rw [Hs.out, show srvB hom cl ⟨kd, ln, rs⟩ = false by simp [srvB, e]]; simp)
          clear e
          go_wp2
          go_quiet (fail)
          go_wp2
          go_roundg (gk - 1)
          case measure => omega
          case rel => exact ⟨k + 1, x, y, by omega, by go_num, rfl, rfl, hidp (by rw [Hz.out, Hx.out]), hidp (by rw [Hz.out, Hy.out]), hq.add _⟩
      · obtain rfl : k = parts.length := by omega
        have Hx2 : Hid (x = sumK 3 (parts.filter (srvB hom cl))) := hidp (by have := Hx.out; rw [List.take_length] at this; exact this.symm)
        have Hy2 : Hid (y = maxL (parts.filter (srvB hom cl))) := hidp (by have := Hy.out; rw [List.take_length] at this; exact this.symm)
        go_wp2
        go_ret2
        exact ⟨by rw [Ha.out, Hmx.out, ← Hx2.out, ← Hy2.out]; rfl, hq.below hb1⟩
  · have e : thereB s of = false := by simpa using e
    have Ha : Hid (atV s of cl = 0) := hidp (by unfold atV; rw [srv_out e]; rfl)
    have Hm : Hid (mostV s of cl = 0) := hidp (by unfold mostV; rw [srv_out e]; rfl)
    have Hth := hidp e
    clear e
    go_enter Tryz.func68, Tryz.ntmps68
    go_wp2_with fail
    refine (rthere_any _ _ _ H).mono ?_
    rintro e w2 ⟨rfl, hb2⟩
    replace hb := hb.trans (hb2.mono hb.size)
    replace sc := sc.keep (Keeps.of_below hb2)
    clear hb2
    rw [Hth.out]
    go_wp2
    go_ret2
    exact ⟨by rw [Ha.out, Hm.out]; rfl, hb⟩
end Go.Proofs.YtindcpgmfdkpcaaGreat
