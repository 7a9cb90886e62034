/- bound: Own, Others, Next. -/
import Derived.Test.YtlbaohefappfoaaGreatBound1
import Derived.Deep.RegionHeld3
namespace Go.Proofs.YtlbaohefappfoaaGreat
open Go.ChangeShapes Go.WideShapes Go.ChangeAt Go.RowKit
set_option linter.unusedVariables false
set_option linter.unusedSimpArgs false

set_option maxHeartbeats 2000000 in
set_option maxRecDepth 100000 in
theorem own_any (s : SetR) (bs : List Int) (ba : Option Addr) (bc : Nat) (of : Int) (w : World) (hs : SetOk w s) (hB : IntsOk w ba bc bs) : Calls Tryz.prog 39 #[.agg #[.int .i64 s.proto, .slice s.ca s.cores.length s.cc, .slice s.ha s.homes.length s.hc, .slice s.ta s.tasks.length s.tc], .slice ba bs.length bc, .int .i64 of] w fun e w' => e = .returned (.tuple #[.int .i64 (ownV s bs of), .bool (waitsK s bs of)]) ∧ Below w.heap.size w w' := by
  have hb := (Below.refl w.heap.size w).alloc (Nat.le_refl _) (.cells #[.int .i64 s.proto, .slice s.ca s.cores.length s.cc, .slice s.ha s.homes.length s.hc, .slice s.ta s.tasks.length s.tc] 25)
  have sc := SetCells.new w s 25
  have H := hs.keep (Keeps.of_below hb)
  have HB := hB.keep (Keeps.of_below hb)
  have l3 : s.tasks.length ≤ maxLen := Nat.le_trans hs.tasks.sl.2.1 hs.tasks.sl.2.2
  unfold maxLen at l3
  obtain ⟨T, HT0⟩ : ∃ T, Hid (tot (waitsL s bs of) = T) := ⟨_, hidp rfl⟩
  have hT := waitsT_bd s bs of
  rw [HT0.out] at hT
  obtain ⟨T0, T1⟩ := hT
  by_cases k : waitsK s bs of = true
  · have Hk := hidp k
    have hth := waitsK_there k
    obtain ⟨ho, r1, r2⟩ := thereB_true.1 hth
    obtain ⟨A, HA⟩ : ∃ A, Hid (sumK 1 (taskAt s of).parts = A) := ⟨_, hidp rfl⟩
    obtain ⟨B, HBb⟩ : ∃ B, Hid (sumK 2 (taskAt s of).parts = B) := ⟨_, hidp rfl⟩
    have hA := sum12_bd hth 1
    have hBb := sum12_bd hth 2
    rw [HA.out] at hA
    rw [HBb.out] at hBb
    obtain ⟨A0, A1⟩ := hA
    obtain ⟨B0, B1⟩ := hBb
    have Hv : Hid (ownV s bs of = A + B + T) := hidp (by unfold ownV; rw [if_pos k, HA.out, HBb.out, HT0.out])
    obtain ⟨n, rfl⟩ : ∃ n : Nat, of = n := ⟨of.toNat, by omega⟩
    have hn : n < s.tasks.length := by omega
    have hg := Good.of ho
    obtain ⟨t, HT⟩ : ∃ t, Hid (s.tasks.getD n default = t) := ⟨_, rfl⟩
    have hm : t ∈ s.tasks := HT.out ▸ getD_mem hn
    have TL : Hid (TaskLen w t) := hidp ⟨(hs.tasks.ok t hm).at_, (hg.parts t hm).lens, by have := (hg.parts t hm).len; omega⟩
    have e0 : taskAt s n = t := by unfold taskAt; simp only [Int.toNat_natCast]; exact HT.out
    rw [e0] at HA HBb
    obtain ⟨g, off, hA, hcl⟩ := hs.tasks.at_.resolve_left (by intro e; rw [e] at hn; simp at hn)
    have Htc := hidp (HT.out ▸ hcl n hn)
    have w1 : IntKind.i64.wrap (A + B) = A + B := IntWalk.i64_in _ (by omega)
    have w2 : IntKind.i64.wrap (A + B + T) = A + B + T := IntWalk.i64_in _ (by omega)
    clear hcl hm hg ho hs hB k hth e0 r1
    have dn : decide (s.tasks.length ≤ n) = false := by simp; omega
    obtain ⟨proto, ca, cc, cores, ha, hc, homes, ta, tc, tasks⟩ := s
    dsimp only at hA hn l3 r2 hb sc H dn ⊢
    subst hA
    go_enter Tryz.func39, Tryz.ntmps39
    go_wp2_with fail
    refine (wsum_any _ bs ba bc n _ H HB).mono ?_
    rintro e w3 ⟨rfl, hb2⟩
    replace hb := hb.trans (hb2.mono hb.size)
    replace sc := sc.keep (Keeps.of_below hb2)
    clear hb2
    try clear sc_0 sc_1 sc_2 sc_3
    have scx := sc
    obtain ⟨sc_0, sc_1, sc_2, sc_3⟩ := scx
    try dsimp only at sc_0 sc_1 sc_2 sc_3
    rw [HT0.out, Hk.out]
    obtain ⟨d0, d1, d2, d3, d4, d5⟩ := Htc.out.keep (Keeps.of_below hb)
    go_wp2_with fail
    have tb := (TaskBox.new w3 t 44).keep (Keeps.drew _)
    replace hb := (hb.alloc hb.size (.cells #[.string t.name, .int .i64 t.per, .int .i64 t.dl, .int .i64 t.prio, .int .i64 t.cl, .slice t.pa t.parts.length t.pc] 44)).drew
    clear d0 d1 d2 d3 d4 d5 sc_0 sc_1 sc_2 sc_3 sc H
    go_region_held3 (fun w' => w'.cell? ⟨w3.heap.size, 0, none⟩ = some (.string t.name) ∧ w'.cell? ⟨w3.heap.size, 1, none⟩ = some (.int .i64 t.per) ∧ w'.cell? ⟨w3.heap.size, 2, none⟩ = some (.int .i64 t.dl) ∧ w'.cell? ⟨w3.heap.size, 3, none⟩ = some (.int .i64 t.prio) ∧ w'.cell? ⟨w3.heap.size, 4, none⟩ = some (.int .i64 t.cl) ∧ w'.cell? ⟨w3.heap.size, 5, none⟩ = some (.slice t.pa t.parts.length t.pc)) (exact tb)
      (first
        | (go_at_call 56; refine (runs_any t _ (TL.out.keep (Keeps.of_below hb))).mono ?_; rintro e u ⟨rfl, hb3⟩; have tb := tb.keep (Keeps.of_below hb3); have hb := hb.trans (hb3.mono hb.size); rw [HA.out])
        | (go_at_call 57; refine (sleeps_any t _ (TL.out.keep (Keeps.of_below hb))).mono ?_; rintro e u ⟨rfl, hb3⟩; have tb := tb.keep (Keeps.of_below hb3); have hb := hb.trans (hb3.mono hb.size); rw [HBb.out]))
    clear w1 w2
    go_wp2_with fail
    go_ret2
    exact ⟨ret_ib Hv.out.symm Hk.out.symm, hb⟩
  · have k : waitsK s bs of = false := by simpa using k
    have Hk := hidp k
    have Hv : Hid (ownV s bs of = 0) := hidp (by unfold ownV; rw [k]; rfl)
    clear k hs hB
    go_enter Tryz.func39, Tryz.ntmps39
    go_wp2_with fail
    refine (wsum_any _ bs ba bc of _ H HB).mono ?_
    rintro e w3 ⟨rfl, hb2⟩
    replace hb := hb.trans (hb2.mono hb.size)
    replace sc := sc.keep (Keeps.of_below hb2)
    clear hb2
    rw [HT0.out, Hk.out]
    go_wp2
    go_ret2
    exact ⟨ret_ib Hv.out.symm Hk.out.symm, hb⟩

theorem workB_any (w0 b p e : Int) (w : World) (i0 : I64 w0) (i1 : I64 b) (i2 : I64 p) (i3 : I64 e) :
    Calls Tryz.prog 59 #[.int .i64 w0, .int .i64 b, .int .i64 p, .int .i64 e] w fun r w' => r = .returned (.int .i64 (workV w0 b p e)) ∧ Below w.heap.size w w' :=
  (work_any w0 b p e w i0 i1 i2 i3).mono fun r w' h => ⟨h.1, h.2.b⟩

set_option maxHeartbeats 4000000 in
set_option maxRecDepth 100000 in
theorem others17_any (s : SetR) (bs : List Int) (ba : Option Addr) (bc : Nat) (of wd : Int) (w : World) (hs : SetOk w s) (hB : IntsOk w ba bc bs) (hwd : I64 wd) : Calls Tryz.prog 40 #[.agg #[.int .i64 s.proto, .slice s.ca s.cores.length s.cc, .slice s.ha s.homes.length s.hc, .slice s.ta s.tasks.length s.tc], .slice ba bs.length bc, .int .i64 of, .int .i64 wd] w fun e w' => e = .returned (.int .i64 (othersV s bs of wd)) ∧ Below w.heap.size w w' := by
  have hb := (Below.refl w.heap.size w).alloc (Nat.le_refl _) (.cells #[.int .i64 s.proto, .slice s.ca s.cores.length s.cc, .slice s.ha s.homes.length s.hc, .slice s.ta s.tasks.length s.tc] 25)
  have sc := SetCells.new w s 25
  have H := hs.keep (Keeps.of_below hb)
  have l3 : s.tasks.length ≤ maxLen := Nat.le_trans hs.tasks.sl.2.1 hs.tasks.sl.2.2
  have l4 : bs.length ≤ maxLen := Nat.le_trans hB.sl.2.1 hB.sl.2.2
  unfold maxLen at l3 l4
  have Hwd := hidp hwd
  clear hwd
  by_cases e : thereB s of = true
  · have Hth := hidp e
    by_cases e2 : bs.length = s.tasks.length
    · have HL := hidp e2
      have d1 : ((bs.length : Int) != (s.tasks.length : Int)) = false := by simp [e2]
      obtain ⟨ho, r1, r2⟩ := thereB_true.1 e
      obtain ⟨c0, c1, c2, c3⟩ := cores_at e
      obtain ⟨n, rfl⟩ : ∃ n : Nat, of = n := ⟨of.toNat, by omega⟩
      have hn : n < s.tasks.length := by omega
      have hg := Good.of ho
      have n6 := hg.ntasks.2
      have Ho := hidp ho
      obtain ⟨cn, hcn⟩ : ∃ cn : Nat, (taskAt s n).cl = cn := ⟨(taskAt s n).cl.toNat, by omega⟩
      have hcl2 : cn < s.cores.length := by omega
      obtain ⟨nc, HNC⟩ : ∃ nc, Hid (s.cores.getD cn 0 = nc) := ⟨_, rfl⟩
      have e5 : s.cores.getD (taskAt s n).cl.toNat 0 = nc := by rw [hcn]; simpa using HNC.out
      rw [e5] at c2 c3
      obtain ⟨W, HW⟩ : ∃ W : Nat → Int, Hid (∀ k, othW s bs n wd 0 (s.tasks.take k) = W k) := ⟨fun k => othW s bs n wd 0 (s.tasks.take k), hidp (fun _ => rfl)⟩
      obtain ⟨E, HE⟩ : ∃ E : Nat → Int, Hid (∀ k : Nat, eachV s k n = E k) := ⟨fun k => eachV s k n, hidp (fun _ => rfl)⟩
      have HEb : Hid (∀ k, 0 ≤ E k ∧ E k ≤ 720) := hidp (fun k => by rw [← HE.out]; exact eachV_bd ho k n)
      have HW0 : Hid (W 0 = 0) := hidp (by rw [← HW.out]; simp [othW])
      have HWb : Hid (∀ k, 0 ≤ W k ∧ W k ≤ 6000000) := hidp (fun k => by
        rw [← HW.out]
        have h1 := othW_bd s bs n wd 0 (s.tasks.take k)
        have h2 : (s.tasks.take k).length ≤ 6 := by rw [List.length_take]; omega
        omega)
      have HWs : Hid (∀ k, k < s.tasks.length → W (k + 1) = W k + (if (k : Int) = n then 0 else workV wd (bs.getD k 0) (s.tasks.getD k default).per (E k))) := hidp (fun k hk => by rw [← HW.out, ← HW.out, ← HE.out]; exact othW_snoc s bs n wd s.tasks k hk)
      have HVy : Hid (nnB bs = true → othersV s bs n wd = W s.tasks.length / nc) := hidp (fun h => by
        unfold othersV; rw [if_pos ⟨othersB_true.2 ⟨e, e2⟩, h⟩, e5, ← HW.out, List.take_length])
      have HVn : Hid (nnB bs = false → othersV s bs n wd = 0) := hidp (fun h => by unfold othersV; rw [h, if_neg (fun g => by cases g.2)])
      have HR := hidp hs.tasks.at_
      have HRc := hidp hs.cores.at_
      have HBR := hidp hB.at_
      have HBw := hidp hB.wf
      have Hper := hidp (fun t ht => (hs.tasks.ok t ht).per)
      have HS1 : Hid (∀ u, Below w.heap.size w u → SetOk u s) := hidp (fun u h => hs.keep (Keeps.of_below h))
      have Hcn := hidp hcn
      have Hat : Hid ((s.tasks.getD n default).cl = cn) := hidp (by have := hcn; unfold taskAt at this; simpa using this)
      clear hg ho hs hB e e2 r1 HW c0 c1 e5 hcn
      obtain ⟨proto, ca, cc, cores, ha, hc, homes, ta, tc, tasks⟩ := s
      dsimp only at hn l3 r2 hb sc H d1 n6 hcl2 HR HRc HWs HL Hper HNC Hat HS1 Ho ⊢
      obtain ⟨g, off, hA, hcl⟩ := HR.out.resolve_left (by intro e; rw [e] at hn; simp at hn)
      subst hA
      have Hcl := hidp hcl
      obtain ⟨gc, oc, hCA, hcc⟩ := HRc.out.resolve_left (by intro e; rw [e] at hcl2; simp at hcl2)
      subst hCA
      have Hcc := hidp (HNC.out ▸ hcc cn hcl2)
      obtain ⟨gb, ob, hBA, hbl⟩ := HBR.out.resolve_left (by intro e; have := HL.out; rw [e] at this; simp at this; omega)
      subst hBA
      have Hbl := hidp hbl
      clear hcl hcc hbl
      have dn : decide (tasks.length ≤ n) = false := by simp; omega
      have dc : decide (cores.length ≤ cn) = false := by simp; omega
      have z0 : (nc == 0) = false := by simp; omega
      have z1 : (nc == -1) = false := by simp; omega
      go_enter Tryz.func40, Tryz.ntmps40
      go_wp2
      go_step3
      go_wp2_with fail
      refine (there17_any _ _ _ H).mono ?_
      rintro e w2 ⟨rfl, hb2⟩
      replace hb := hb.trans (hb2.mono hb.size)
      replace sc := sc.keep (Keeps.of_below hb2)
      clear hb2
      try clear sc_0 sc_1 sc_2 sc_3
      have scx := sc
      obtain ⟨sc_0, sc_1, sc_2, sc_3⟩ := scx
      try dsimp only at sc_0 sc_1 sc_2 sc_3
      rw [Hth.out]
      go_wp2
      go_step3
      go_wp2
      clear sc_0 sc_1 sc_2 sc_3
      go_loopg [9, 27] tasks.length (fun gg a i wr => ∃ (k : Nat) (x : Int), k + gg = tasks.length ∧ i = .int .i64 k ∧ a = .int .i64 x ∧ Hid (W k = x) ∧ Hid (∀ j, j < k → 0 ≤ bs.getD j 0) ∧ SetCells wr w.heap.size ⟨proto, some ⟨gc, oc, none⟩, cc, cores, ha, hc, homes, some ⟨g, off, none⟩, tc, tasks⟩ ∧ Below w.heap.size w wr)
      case atStart => exact ⟨0, 0, by omega, rfl, rfl, HW0, hidp (fun j hj => by omega), sc, hb⟩
      case round =>
        clear sc hb
        obtain ⟨k, x, hk, rfl, rfl, Hx, Hnn, sc, hw⟩ := hrel
        have hx := HWb.out k
        rw [Hx.out] at hx
        obtain ⟨x0, x1⟩ := hx
        by_cases hlt : k < tasks.length
        · obtain ⟨t, HT⟩ : ∃ t, Hid (tasks.getD k default = t) := ⟨_, rfl⟩
          have hkb : k < bs.length := by rw [HL.out]; exact hlt
          obtain ⟨b, Hb⟩ : ∃ b, Hid (bs.getD k 0 = b) := ⟨_, rfl⟩
          have hb64 := HBw.out b (by rw [← Hb.out]; exact getD_mem (α := Int) hkb)
          have hp64 := Hper.out t (HT.out ▸ getD_mem hlt)
          obtain ⟨d0, d1', d2, d3, d4, d5⟩ := (HT.out ▸ Hcl.out k hlt).keep (Keeps.of_below hw)
          have hw1 := hw.alloc hw.size (.cells #[.string t.name, .int .i64 t.per, .int .i64 t.dl, .int .i64 t.prio, .int .i64 t.cl, .slice t.pa t.parts.length t.pc] 44)
          have hbc := Keeps.of_below hw1 _ _ (Hb.out ▸ Hbl.out k hkb)
          have sc1 := sc.keep (Keeps.alloc wr (.cells #[.string t.name, .int .i64 t.per, .int .i64 t.dl, .int .i64 t.prio, .int .i64 t.cl, .slice t.pa t.parts.length t.pc] 44))
          have hkI : (k : Int) < (bs.length : Int) := by omega
          have Hb64 := hidp hb64
          have Hp64 := hidp hp64
          clear hb64 hp64
          by_cases e : b < 0
          · have Hz := hidp (HVn.out (nn_not hkb (by rw [Hb.out]; exact e)))
            go_wp2_with fail
            try rw [Exit.noGoto_ret]
            go_ret
            exact ⟨ret_int Hz.out.symm, hw1⟩
          · have hb0 : 0 ≤ b := by omega
            have Hnn' : Hid (∀ j, j < k + 1 → 0 ≤ bs.getD j 0) := hidp (fun j hj => by
              by_cases ej : j = k
              · subst ej; rw [Hb.out]; exact hb0
              · exact Hnn.out j (by omega))
            by_cases e3 : (k : Int) = n
            · have e4 : ((k : Int) == (n : Int)) = true := by simpa using e3
              have Hz : Hid (W (k + 1) = x) := hidp (by rw [HWs.out k hlt, if_pos e3, Hx.out]; omega)
              clear e3
              go_wp2_with fail
              go_roundg (gk - 1)
              case measure => omega
              case rel => exact ⟨k + 1, x, by omega, by go_num, rfl, Hz, Hnn', sc1, hw1⟩
            · have e4 : ((k : Int) == (n : Int)) = false := by simpa using e3
              obtain ⟨v, Hv⟩ : ∃ v, Hid (workV wd b t.per (E k) = v) := ⟨_, hidp rfl⟩
              have Hz : Hid (W (k + 1) = x + v) := hidp (by rw [HWs.out k hlt, if_neg e3, Hx.out, Hb.out, HT.out, Hv.out])
              have hv := workV_bd wd b t.per (E k)
              rw [Hv.out] at hv
              obtain ⟨v0, v1⟩ := hv
              have hEk := HEb.out k
              have HE64 : Hid (I64 (E k)) := hidp (by unfold I64; omega)
              have hwr : IntKind.i64.wrap (x + v) = x + v := IntWalk.i64_in _ (by omega)
              have hsv := Keeps.drew _ _ _ hbc
              have pb : (wr.alloc (.cells #[.string t.name, .int .i64 t.per, .int .i64 t.dl, .int .i64 t.prio, .int .i64 t.cl, .slice t.pa t.parts.length t.pc] 44)).drew.cell? ⟨wr.heap.size, 1, none⟩ = some (.int .i64 t.per) := by simp
              obtain ⟨s0, s1, s2, s3⟩ := sc1.keep (Keeps.drew _)
              have hb := hw1.drew
              clear e3 hEk
              go_wp2_with fail
              clear d0 d1' d2 d3 d4 d5 sc sc1 hw1 hbc
              go_region_held3 (fun w' => w'.cell? ⟨gb, ob + k, none⟩ = some (.int .i64 b) ∧ w'.cell? ⟨wr.heap.size, 1, none⟩ = some (.int .i64 t.per) ∧ w'.cell? ⟨w.heap.size, 0, none⟩ = some (.int .i64 proto) ∧ w'.cell? ⟨w.heap.size, 1, none⟩ = some (.slice (some ⟨gc, oc, none⟩) cores.length cc) ∧ w'.cell? ⟨w.heap.size, 2, none⟩ = some (.slice ha homes.length hc) ∧ w'.cell? ⟨w.heap.size, 3, none⟩ = some (.slice (some ⟨g, off, none⟩) tasks.length tc)) (exact ⟨hsv, pb, s0, s1, s2, s3⟩)
                (first
                  | (go_at_call 60; refine (each_any _ k n _ (HS1.out _ hb) Ho.out hlt hn).mono ?_; rintro e u ⟨rfl, hb3⟩; have hsv := Keeps.of_below hb3 _ _ hsv; have pb := Keeps.of_below hb3 _ _ pb; have s0 := Keeps.of_below hb3 _ _ s0; have s1 := Keeps.of_below hb3 _ _ s1; have s2 := Keeps.of_below hb3 _ _ s2; have s3 := Keeps.of_below hb3 _ _ s3; have hb := hb.trans (hb3.mono hb.size); rw [HE.out])
                  | (go_at_call 59; refine (workB_any wd b t.per (E k) _ Hwd.out Hb64.out Hp64.out HE64.out).mono ?_; rintro e u ⟨rfl, hb3⟩; have hsv := Keeps.of_below hb3 _ _ hsv; have pb := Keeps.of_below hb3 _ _ pb; have s0 := Keeps.of_below hb3 _ _ s0; have s1 := Keeps.of_below hb3 _ _ s1; have s2 := Keeps.of_below hb3 _ _ s2; have s3 := Keeps.of_below hb3 _ _ s3; have hb := hb.trans (hb3.mono hb.size); rw [Hv.out]))
              clear hwr
              go_wp2_with fail
              go_roundg (gk - 1)
              case measure => omega
              case rel => exact ⟨k + 1, x + v, by omega, by go_num, rfl, Hz, Hnn', ⟨s0, s1, s2, s3⟩, hb⟩
        · obtain rfl : k = tasks.length := by omega
          have hnn : nnB bs = true := nn_yes (fun j hj => Hnn.out j (by rw [← HL.out]; exact hj))
          have Hz := hidp (HVy.out hnn)
          obtain ⟨q, hq⟩ : ∃ q, x.tdiv nc = q := ⟨_, rfl⟩
          have Hq : Hid (q = x / nc) := hidp (by rw [← hq, Int.tdiv_eq_ediv_of_nonneg x0])
          have q0 : 0 ≤ q := by rw [Hq.out]; exact Int.ediv_nonneg x0 (by omega)
          have q1 : q ≤ 6000000 := by rw [Hq.out]; exact Int.le_trans (Int.ediv_le_self _ x0) x1
          obtain ⟨s0, s1, s2, s3⟩ := id sc
          dsimp only at s0 s1 s2 s3
          have k4 := Keeps.of_below hw _ _ Hcc.out
          have k5 := Keeps.of_below hw _ _ (Hcl.out n hn).2.2.2.2.1
          rw [Hat.out] at k5
          have cI : (cn : Int) < (cores.length : Int) := by omega
          have nI : (n : Int) < (tasks.length : Int) := by omega
          clear hnn
          go_wp2_with fail
          go_quiet (fail)
          go_wp2
          try rw [Exit.noGoto_ret]
          go_ret
          exact ⟨ret_int (by rw [Hz.out, Hq.out, Hx.out]), below_drewN hw _⟩
    · have Hv : Hid (othersV s bs of wd = 0) := hidp (by unfold othersV; rw [if_neg (fun h => e2 (othersB_true.1 h.1).2)])
      have d1 : ((bs.length : Int) != (s.tasks.length : Int)) = true := by simp; omega
      clear e e2
      go_enter Tryz.func40, Tryz.ntmps40
      go_wp2
      go_step3
      go_wp2_with fail
      refine (there17_any _ _ _ H).mono ?_
      rintro e w2 ⟨rfl, hb2⟩
      replace hb := hb.trans (hb2.mono hb.size)
      replace sc := sc.keep (Keeps.of_below hb2)
      clear hb2
      try clear sc_0 sc_1 sc_2 sc_3
      have scx := sc
      obtain ⟨sc_0, sc_1, sc_2, sc_3⟩ := scx
      try dsimp only at sc_0 sc_1 sc_2 sc_3
      rw [Hth.out]
      go_wp2
      try rw [Exit.noGoto_ret]
      go_ret
      exact ⟨ret_int Hv.out.symm, hb⟩
  · have Hv : Hid (othersV s bs of wd = 0) := hidp (by unfold othersV; rw [if_neg (fun h => e (othersB_true.1 h.1).1)])
    have Hth : Hid (thereB s of = false) := hidp (by simpa using e)
    clear e
    go_enter Tryz.func40, Tryz.ntmps40
    go_wp2
    go_step3
    go_wp2_with fail
    refine (there17_any _ _ _ H).mono ?_
    rintro e w2 ⟨rfl, hb2⟩
    replace hb := hb.trans (hb2.mono hb.size)
    replace sc := sc.keep (Keeps.of_below hb2)
    clear hb2
    try clear sc_0 sc_1 sc_2 sc_3
    have scx := sc
    obtain ⟨sc_0, sc_1, sc_2, sc_3⟩ := scx
    try dsimp only at sc_0 sc_1 sc_2 sc_3
    rw [Hth.out]
    go_wp2
    try rw [Exit.noGoto_ret]
    go_ret
    exact ⟨ret_int Hv.out.symm, hb⟩

set_option maxHeartbeats 2000000 in
set_option maxRecDepth 100000 in
theorem next_any (s : SetR) (bs : List Int) (ba : Option Addr) (bc : Nat) (of : Int) (w : World) (hs : SetOk w s) (hB : IntsOk w ba bc bs) : Calls Tryz.prog 21 #[.agg #[.int .i64 s.proto, .slice s.ca s.cores.length s.cc, .slice s.ha s.homes.length s.hc, .slice s.ta s.tasks.length s.tc], .slice ba bs.length bc, .int .i64 of] w fun e w' => e = .returned (.tuple #[.int .i64 (nextV s bs of), .bool (nextK s bs of)]) ∧ Below w.heap.size w w' := by
  have hb := (Below.refl w.heap.size w).alloc (Nat.le_refl _) (.cells #[.int .i64 s.proto, .slice s.ca s.cores.length s.cc, .slice s.ha s.homes.length s.hc, .slice s.ta s.tasks.length s.tc] 25)
  have sc := SetCells.new w s 25
  have H := hs.keep (Keeps.of_below hb)
  have HB := hB.keep (Keeps.of_below hb)
  have l3 : s.tasks.length ≤ maxLen := Nat.le_trans hs.tasks.sl.2.1 hs.tasks.sl.2.2
  have l4 : bs.length ≤ maxLen := Nat.le_trans hB.sl.2.1 hB.sl.2.2
  unfold maxLen at l3 l4
  obtain ⟨O, HO⟩ : ∃ V, Hid (ownV s bs of = V) := ⟨_, hidp rfl⟩
  have hO := ownV_bd s bs of
  rw [HO.out] at hO
  obtain ⟨O0, O1⟩ := hO
  by_cases k : waitsK s bs of = true
  · have Hk := hidp k
    by_cases e2 : bs.length = s.tasks.length
    · have d1 : ((bs.length : Int) != (s.tasks.length : Int)) = false := by simp [e2]
      obtain ⟨ho, r1, r2⟩ := thereB_true.1 (waitsK_there k)
      obtain ⟨n, rfl⟩ : ∃ n : Nat, of = n := ⟨of.toNat, by omega⟩
      have hnb : n < bs.length := by omega
      obtain ⟨b, Hb⟩ : ∃ b, Hid (bs.getD n 0 = b) := ⟨_, rfl⟩
      have hb64 := hB.wf b (by rw [← Hb.out]; exact getD_mem (α := Int) hnb)
      obtain ⟨P, HP⟩ : ∃ V, Hid (othersV s bs n b = V) := ⟨_, hidp rfl⟩
      have hP := othersV_bd s bs n b
      rw [HP.out] at hP
      obtain ⟨P0, P1⟩ := hP
      have HK : Hid (nextK s bs n = true) := hidp (nextK_true.2 ⟨k, e2⟩)
      have HV : Hid (nextV s bs n = O + P) := hidp (by unfold nextV; rw [if_pos HK.out, HO.out]; simp only [Int.toNat_natCast]; rw [Hb.out, HP.out])
      have hwr : IntKind.i64.wrap (O + P) = O + P := IntWalk.i64_in _ (by omega)
      obtain ⟨gb, ob, hBA, hbl⟩ := hB.at_.resolve_left (by intro e; rw [e] at hnb; simp at hnb)
      have Hbc := hidp (Hb.out ▸ hbl n hnb)
      have nI : (n : Int) < (bs.length : Int) := by omega
      clear hbl hs hB k e2 ho r1 r2
      subst hBA
      go_enter Tryz.func21, Tryz.ntmps21
      go_wp2_with fail
      refine (own_any s bs _ bc n _ H HB).mono ?_
      rintro e w2 ⟨rfl, hb2⟩
      replace hb := hb.trans (hb2.mono hb.size)
      replace sc := sc.keep (Keeps.of_below hb2)
      replace H := H.keep (Keeps.of_below hb2)
      replace HB := HB.keep (Keeps.of_below hb2)
      clear hb2
      try clear sc_0 sc_1 sc_2 sc_3
      have scx := sc
      obtain ⟨sc_0, sc_1, sc_2, sc_3⟩ := scx
      try dsimp only at sc_0 sc_1 sc_2 sc_3
      rw [HO.out, Hk.out]
      go_wp2_with fail
      have pb := Keeps.of_below hb _ _ Hbc.out
      have H' := H.keep (Keeps.drew _)
      have HB' := HB.keep (Keeps.drew _)
      have hsv := Keeps.drew _ _ _ pb
      obtain ⟨s0, s1, s2, s3⟩ := sc.keep (Keeps.drew _)
      replace hb := hb.drew
      clear sc_0 sc_1 sc_2 sc_3 sc H HB pb
      go_region_held3 (fun w' => w'.cell? ⟨gb, ob + n, none⟩ = some (.int .i64 b) ∧ w'.cell? ⟨w.heap.size, 0, none⟩ = some (.int .i64 s.proto) ∧ w'.cell? ⟨w.heap.size, 1, none⟩ = some (.slice s.ca s.cores.length s.cc) ∧ w'.cell? ⟨w.heap.size, 2, none⟩ = some (.slice s.ha s.homes.length s.hc) ∧ w'.cell? ⟨w.heap.size, 3, none⟩ = some (.slice s.ta s.tasks.length s.tc)) (exact ⟨hsv, s0, s1, s2, s3⟩)
        (first
          | (go_at_call 40; refine (others17_any s bs _ bc n b _ H' HB' hb64).mono ?_; rintro e u ⟨rfl, hb3⟩; have hsv := Keeps.of_below hb3 _ _ hsv; have s0 := Keeps.of_below hb3 _ _ s0; have s1 := Keeps.of_below hb3 _ _ s1; have s2 := Keeps.of_below hb3 _ _ s2; have s3 := Keeps.of_below hb3 _ _ s3; have H' := H'.keep (Keeps.of_below hb3); have HB' := HB'.keep (Keeps.of_below hb3); have hb := hb.trans (hb3.mono hb.size); rw [HP.out]))
      clear hwr
      go_wp2_with fail
      go_ret2
      exact ⟨ret_ib HV.out.symm HK.out.symm, hb⟩
    · have d1 : ((bs.length : Int) != (s.tasks.length : Int)) = true := by simp; omega
      have hk : nextK s bs of = false := by rw [Bool.eq_false_iff]; intro h; exact e2 (nextK_true.1 h).2
      have HK := hidp hk
      have HV : Hid (nextV s bs of = 0) := hidp (by unfold nextV; rw [hk]; rfl)
      clear k e2 hk
      go_enter Tryz.func21, Tryz.ntmps21
      go_wp2_with fail
      refine (own_any s bs ba bc of _ H HB).mono ?_
      rintro e w2 ⟨rfl, hb2⟩
      replace hb := hb.trans (hb2.mono hb.size)
      replace sc := sc.keep (Keeps.of_below hb2)
      clear hb2
      try clear sc_0 sc_1 sc_2 sc_3
      have scx := sc
      obtain ⟨sc_0, sc_1, sc_2, sc_3⟩ := scx
      try dsimp only at sc_0 sc_1 sc_2 sc_3
      rw [HO.out, Hk.out]
      go_wp2
      go_ret2
      exact ⟨ret_ib HV.out.symm HK.out.symm, hb⟩
  · have k : waitsK s bs of = false := by simpa using k
    have Hk := hidp k
    have hk : nextK s bs of = false := by unfold nextK; rw [k]; rfl
    have HK := hidp hk
    have HV : Hid (nextV s bs of = 0) := hidp (by unfold nextV; rw [hk]; rfl)
    clear k hk
    go_enter Tryz.func21, Tryz.ntmps21
    go_wp2_with fail
    refine (own_any s bs ba bc of _ H HB).mono ?_
    rintro e w2 ⟨rfl, hb2⟩
    replace hb := hb.trans (hb2.mono hb.size)
    replace sc := sc.keep (Keeps.of_below hb2)
    clear hb2
    try clear sc_0 sc_1 sc_2 sc_3
    have scx := sc
    obtain ⟨sc_0, sc_1, sc_2, sc_3⟩ := scx
    try dsimp only at sc_0 sc_1 sc_2 sc_3
    rw [HO.out, Hk.out]
    go_wp2
    go_ret2
    exact ⟨ret_ib HV.out.symm HK.out.symm, hb⟩
end Go.Proofs.YtlbaohefappfoaaGreat
