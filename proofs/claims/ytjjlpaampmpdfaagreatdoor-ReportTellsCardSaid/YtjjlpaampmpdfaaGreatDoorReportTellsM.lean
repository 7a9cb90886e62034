/- ReportTells: of every set the lines that are told of it, or what is wrong, are the document's. No condition. -/
import Derived.Test.YtjjlpaampmpdfaaGreatDoorRefCanonM
import Derived.Test.YtjjlpaampmpdfaaGreatDoorKnown19M
import Derived.Test.YtjjlpaampmpdfaaGreatDoorRef16NM
import Derived.Test.YtjjlpaampmpdfaaGreatDoorReg
import Derived.Deep.RegionHeld3
namespace Go.Proofs.YtjjlpaampmpdfaaGreatDoor
open Go.ChangeShapes Go.WideShapes Go.ChangeAt Go.RowKit
set_option linter.unusedVariables false
set_option linter.unusedSimpArgs false

set_option maxHeartbeats 8000000 in
set_option maxRecDepth 100000 in
theorem ranalyze_any (s : SetR) (w : World) (hs : SetOk w s) : Calls Tryz.prog 20 #[.agg #[.int .i64 s.proto, .slice s.ca s.cores.length s.cc, .slice s.ha s.homes.length s.hc, .slice s.ta s.tasks.length s.tc]] w (AnPost w s) := by
  have hb := ((Below.refl w.heap.size w).alloc (Nat.le_refl _) (.cells #[.int .i64 s.proto, .slice s.ca s.cores.length s.cc, .slice s.ha s.homes.length s.hc, .slice s.ta s.tasks.length s.tc] 25)).alloc (by simp) (.cells #[.bool false, .slice none 0 0, .slice none 0 0] 49)
  have sc := (SetCells.new w s 25).keep (Keeps.alloc _ (.cells #[.bool false, .slice none 0 0, .slice none 0 0] 49))
  have bk := Bk.at_ (w := w.alloc (.cells #[.int .i64 s.proto, .slice s.ca s.cores.length s.cc, .slice s.ha s.homes.length s.hc, .slice s.ta s.tasks.length s.tc] 25)) (g := w.heap.size + 1) (t := 49) (cs := #[.bool false, .slice none 0 0, .slice none 0 0]) (by simp) rfl
  have hz0 : w.heap.size + 2 ≤ ((w.alloc (.cells #[.int .i64 s.proto, .slice s.ca s.cores.length s.cc, .slice s.ha s.homes.length s.hc, .slice s.ta s.tasks.length s.tc] 25)).alloc (.cells #[.bool false, .slice none 0 0, .slice none 0 0] 49)).heap.size := by simp
  have H := hs.keep (Keeps.of_below hb)
  have l3 : s.tasks.length ≤ maxLen := Nat.le_trans hs.tasks.sl.2.1 hs.tasks.sl.2.2
  unfold maxLen at l3
  obtain ⟨at0, Hat⟩ : ∃ x, Hid (chkAt s = x) := ⟨_, hidp rfl⟩
  obtain ⟨ce, Hce⟩ : ∃ x, Hid (chkE s = x) := ⟨_, hidp rfl⟩
  have HC := rcheck_any s _ H
  rw [Hat.out, Hce.out] at HC
  by_cases e : chkE s = 0
  · have ho := (okS_chk s).2 e
    have Ho := hidp ho
    have e1 : (ce != 0) = false := by rw [← Hce.out]; simpa using e
    have hg := Good.of ho
    have n6 := hg.ntasks.2
    obtain ⟨L, HL⟩ : ∃ l, Hid ((settle s).1 = l) := ⟨_, hidp rfl⟩
    obtain ⟨se, Hse⟩ : ∃ l, Hid ((settle s).2 = l) := ⟨_, hidp rfl⟩
    have HanE : Hid (anE s = se) := hidp (by unfold anE; rw [if_pos e, Hse.out])
    have HP : Hid (setL s 200 (soonL s) = (L, se)) := hidp (by rw [← HL.out, ← Hse.out]; rfl)
    have HS1 := hidp (fun u (h : Below w.heap.size w u) => hs.keep (Keeps.of_below h))
    have HR := hidp hs.tasks.at_
    have Hok := hidp hs.tasks.ok
    have HG := hidp hg.parts
    have HF := hidp (soonL_ok ho)
    obtain ⟨f, Hf⟩ : ∃ f : Nat → Int, Hid (∀ k, allK (s.tasks.getD k default).parts = f k) := ⟨fun k => allK (s.tasks.getD k default).parts, hidp (fun _ => rfl)⟩
    have Hso : Hid (soonL s = (List.range s.tasks.length).map f) := hidp (by
      unfold soonL
      apply List.ext_getElem
      · simp
      · intro i h1 h2
        have hi : i < s.tasks.length := by simpa using h1
        have := Hf.out i
        simp [List.getD, hi] at this
        simpa using this)
    have HrL : Hid (∀ bs, bs.length = s.tasks.length → (turnB s bs = (roundB s bs && decide (nextRow s bs ≠ bs)))) := hidp (fun bs hl => by
      unfold turnB
      by_cases h : nextRow s bs = bs
      · rw [(rest_iff hl).2 h, decide_eq_false (fun x => x h)]; rfl
      · have : upTo (eqB s bs) s.tasks.length = false := by rw [Bool.eq_false_iff]; exact fun x => h ((rest_iff hl).1 x)
        rw [this, decide_eq_true h]; rfl)
    obtain ⟨i0, hi0, hy0, hy1, hy2⟩ := info_parts infoZ
    obtain ⟨i1, hj0, hx0, hx1, hx2⟩ := info_parts infoI
    obtain ⟨S, HSS⟩ : ∃ S : SetR, Hid (S = s) := ⟨s, hidp rfl⟩
    rw [Hso.out] at HF
    have HRND := hidp (fun (bs : List Int) (ba : Option Addr) (bc : Nat) (u : World) (h : Below w.heap.size w u) (hB : IntsOk u ba bc bs) (hl : bs.length = s.tasks.length) => rround_any s bs ba bc u (HS1.out u h) hB n6 hl)
    have HWT := hidp (fun (bs : List Int) (ba : Option Addr) (bc : Nat) (of : Int) (u : World) (h : Below w.heap.size w u) (hB : IntsOk u ba bc bs) => rwaitsN_any s bs ba bc of u (HS1.out u h) hB)
    have HAB : Hid (se = 0 → anB s = L ∧ anW s = (List.range s.tasks.length).map (fun i : Nat => waitsL s L i)) := hidp (fun h0 => ⟨by unfold anB; rw [HanE.out, if_pos h0, HL.out], by unfold anW; rw [HanE.out, if_pos h0, HL.out]⟩)
    have HNO : Hid (se ≠ 0 → anB s = [] ∧ anW s = [] ∧ decide (anE s = 0) = false) := hidp (fun h0 => ⟨by unfold anB; rw [HanE.out, if_neg h0], by unfold anW; rw [HanE.out, if_neg h0], by rw [HanE.out]; simpa using h0⟩)
    clear hs ho e hg
    go_enter Tryz.func20, Tryz.ntmps20
    go_wp2_with fail
    refine HC.mono ?_
    rintro e w2 ⟨rfl, hb2⟩
    replace hb := hb.trans (hb2.mono hb.size)
    replace sc := sc.keep (Keeps.of_below hb2)
    replace bk := bk.below hb2
    replace hz0 := Nat.le_trans hz0 hb2.size
    clear hb2 HC H
    obtain ⟨sc_0, sc_1, sc_2, sc_3⟩ := id sc
    go_wp2_with fail
    clear sc_0 sc_1 sc_2 sc_3 e1
    go_loopg [6, 7] s.tasks.length (fun gg a i wr => ∃ (k c : Nat) (A : Option Addr), k + gg = s.tasks.length ∧ i = .int .i64 k ∧ a = .slice A k c ∧ OwnN (w.heap.size + 2) wr A k c ((List.range k).map f) ∧ SetCells wr w.heap.size s ∧ Bk wr (w.heap.size + 1) 49 #[.bool false, .slice none 0 0, .slice none 0 0] ∧ Below w.heap.size w wr ∧ w.heap.size + 2 ≤ wr.heap.size)
    case atStart => exact ⟨0, 0, none, by omega, rfl, rfl, OwnN.none _ _, sc, bk, hb, hz0⟩
    case round =>
      clear hb sc bk hz0
      obtain ⟨k, c, A, hk, rfl, rfl, ho, sc, bk, hw, hz⟩ := hrel
      obtain ⟨sc_0, sc_1, sc_2, sc_3⟩ := id sc
      by_cases hlt : k < s.tasks.length
      · obtain ⟨t, HT⟩ : ∃ t, Hid (s.tasks.getD k default = t) := ⟨_, rfl⟩
        have hm : t ∈ s.tasks := HT.out ▸ getD_mem hlt
        obtain ⟨g, off, hA, hcl⟩ := HR.out.resolve_left (by intro e; rw [e] at hlt; simp at hlt)
        rw [hA] at sc_3
        obtain ⟨d0, d1, d2, d3, d4, d5⟩ := (HT.out ▸ hcl k hlt).keep (Keeps.of_below hw)
        have HA := hidp hA
        have tb := TaskBox.new wr t 41
        have TL : Hid (∀ u, Below w.heap.size w u → TaskLen u t) := hidp (fun u h => ⟨((HS1.out u h).tasks.ok t hm).at_, (HG.out t hm).lens, by have := (HG.out t hm).len; omega⟩)
        have Hfk : Hid (sumK 1 t.parts + sumK 2 t.parts + sumK 3 t.parts = f k) := hidp (by rw [← Hf.out, HT.out, allK_is (HG.out t hm).good])
        obtain ⟨x1, Hx1⟩ : ∃ x, Hid (sumK 1 t.parts = x) := ⟨_, rfl⟩
        obtain ⟨x2, Hx2⟩ : ∃ x, Hid (sumK 2 t.parts = x) := ⟨_, rfl⟩
        obtain ⟨x3, Hx3⟩ : ∃ x, Hid (sumK 3 t.parts = x) := ⟨_, rfl⟩
        have b1 := sumK_bd 1 (HG.out t hm).lens
        have b2 := sumK_bd 2 (HG.out t hm).lens
        have b3 := sumK_bd 3 (HG.out t hm).lens
        have bl := (HG.out t hm).len
        rw [Hx1.out] at b1
        rw [Hx2.out] at b2
        rw [Hx3.out] at b3
        have q1 : IntKind.i64.wrap (x1 + x2) = x1 + x2 := IntWalk.i64_in _ (by omega)
        have q2 : IntKind.i64.wrap (x1 + x2 + x3) = x1 + x2 + x3 := IntWalk.i64_in _ (by omega)
        obtain ⟨y, hy⟩ : ∃ y, x1 + x2 + x3 = y := ⟨_, rfl⟩
        have Hfy : Hid (f k = y) := hidp (by rw [← Hfk.out, Hx1.out, Hx2.out, Hx3.out, hy])
        have hw2 := (hw.alloc hw.size (.cells #[.string t.name, .int .i64 t.per, .int .i64 t.dl, .int .i64 t.prio, .int .i64 t.cl, .slice t.pa t.parts.length t.pc] 41)).drew
        have ho2 := ho.turned (((Turned.refl [] wr).alloc (.cells #[.string t.name, .int .i64 t.per, .int .i64 t.dl, .int .i64 t.prio, .int .i64 t.cl, .slice t.pa t.parts.length t.pc] 41)).drew) (by simp)
        have hz2 : w.heap.size + 2 ≤ (wr.alloc (.cells #[.string t.name, .int .i64 t.per, .int .i64 t.dl, .int .i64 t.prio, .int .i64 t.cl, .slice t.pa t.parts.length t.pc] 41)).drew.heap.size := Nat.le_trans hz (by simp)
        have sc2 := (sc.keep (Keeps.alloc wr (.cells #[.string t.name, .int .i64 t.per, .int .i64 t.dl, .int .i64 t.prio, .int .i64 t.cl, .slice t.pa t.parts.length t.pc] 41))).keep (Keeps.drew _)
        have bk2 := (bk.alloc (.cells #[.string t.name, .int .i64 t.per, .int .i64 t.dl, .int .i64 t.prio, .int .i64 t.cl, .slice t.pa t.parts.length t.pc] 41)).turned (Turned.refl [] _).drew (by simp)
        have hS := tb.keep (Keeps.drew _)
        have Hy := hidp hy
        have kI : (k : Int) < (s.tasks.length : Int) := by omega
        have hBs : w.heap.size + 2 ≤ wr.heap.size := hz
        have hfp := own_fp ho.own
        clear hcl hm ho hw hz sc bk b1 b2 b3 bl hy tb hA
        go_wp2_with fail
        clear d0 d1 d2 d3 d4 d5 sc_0 sc_1 sc_2 sc_3
        obtain ⟨B, hB⟩ : ∃ B, wr.heap.size = B := ⟨_, rfl⟩
        rw [hB] at hS hBs hfp ⊢
        have Hfp0 := hidp hfp
        clear hfp
        refine wp_region_held_drew (S := fun w' => w'.cell? ⟨B, 0, none⟩ = some (.string t.name) ∧ w'.cell? ⟨B, 1, none⟩ = some (.int .i64 t.per) ∧ w'.cell? ⟨B, 2, none⟩ = some (.int .i64 t.dl) ∧ w'.cell? ⟨B, 3, none⟩ = some (.int .i64 t.prio) ∧ w'.cell? ⟨B, 4, none⟩ = some (.int .i64 t.cl) ∧ w'.cell? ⟨B, 5, none⟩ = some (.slice t.pa t.parts.length t.pc)) (by kernel_rfl) ?_ (fun hHeld => ?_)
        · exact hS
        generalize (wr.alloc (.cells #[.string t.name, .int .i64 t.per, .int .i64 t.dl, .int .i64 t.prio, .int .i64 t.cl, .slice t.pa t.parts.length t.pc] 41)).drew = u1 at *
        clear hB
        refine wpAnyH_take (i := 0) (v := ?_) rfl (by kernel_rfl) (by kernel_rfl) (by kernel_rfl) (fun _ _ _ h => h) (Or.inl ⟨by rfl, ?_⟩) (by assumption) ?_
        rotate_left 1
        · ((intro w hSw; (try dsimp only at hSw); go_simp); (try with_reducible rfl))
        simp only [Act.put, List.setIfInBounds_toArray, List.set_cons_zero, List.set_cons_succ, List.getElem_toArray, List.getElem_cons_zero, List.getElem_cons_succ]
        refine wpAnyH_take (i := 1) (v := ?_) rfl (by kernel_rfl) (by kernel_rfl) (by kernel_rfl) (fun _ _ _ h => h) (Or.inl ⟨by rfl, ?_⟩) (by assumption) ?_
        rotate_left 1
        · ((intro w hSw; (try dsimp only at hSw); go_simp); (try with_reducible rfl))
        simp only [Act.put, List.setIfInBounds_toArray, List.set_cons_zero, List.set_cons_succ, List.getElem_toArray, List.getElem_cons_zero, List.getElem_cons_succ]
        refine wpAnyH_take (i := 3) (v := ?_) rfl (by kernel_rfl) (by kernel_rfl) (by kernel_rfl) (fun _ _ _ h => h) (Or.inl ⟨by rfl, ?_⟩) (by assumption) ?_
        rotate_left 1
        · ((intro w hSw; (try dsimp only at hSw); go_simp); (try with_reducible rfl))
        simp only [Act.put, List.setIfInBounds_toArray, List.set_cons_zero, List.set_cons_succ, List.getElem_toArray, List.getElem_cons_zero, List.getElem_cons_succ]
        refine wpAnyH_take (i := 6) (v := ?_) rfl (by kernel_rfl) (by kernel_rfl) (by kernel_rfl) (fun _ _ _ h => h) (Or.inl ⟨by rfl, ?_⟩) (by assumption) ?_
        rotate_left 1
        · ((intro w hSw; (try dsimp only at hSw); go_simp); (try with_reducible rfl))
        simp only [Act.put, List.setIfInBounds_toArray, List.set_cons_zero, List.set_cons_succ, List.getElem_toArray, List.getElem_cons_zero, List.getElem_cons_succ]
        refine wpAnyH_ready (rs := [2]) (by kernel_rfl) (by simp) ?_
        refine AllReadyH.cons rfl (fun K hK => ?_) AllReadyH.nil
        go_simp
        refine (rall_any t 1 u1 (TL.out _ hw2)).mono ?_
        rintro e u2 ⟨rfl, hb3⟩
        rw [Hx1.out]
        have k3 := Keeps.of_below hb3
        replace hS := And.intro (k3 _ _ hS.1) (And.intro (k3 _ _ hS.2.1) (And.intro (k3 _ _ hS.2.2.1) (And.intro (k3 _ _ hS.2.2.2.1) (And.intro (k3 _ _ hS.2.2.2.2.1) (k3 _ _ hS.2.2.2.2.2)))))
        replace sc2 := sc2.keep k3
        replace bk2 := bk2.below hb3
        replace ho2 := ho2.turned (Turned.of_below hb3 []) (by simp)
        replace hw2 := hw2.trans (hb3.mono hw2.size)
        replace hz2 := Nat.le_trans hz2 hb3.size
        clear hHeld hb3 k3
        go_wp2_with fail
        refine hK.out _ _ ?_ (fun hHeld => ?_)
        · exact hS
        clear hK K
        try simp only [Act.put, List.setIfInBounds_toArray, List.set_cons_zero, List.set_cons_succ, List.getElem_toArray, List.getElem_cons_zero, List.getElem_cons_succ]
        refine wpAnyH_ready (rs := [4]) (by kernel_rfl) (by simp) ?_
        refine AllReadyH.cons rfl (fun K hK => ?_) AllReadyH.nil
        go_simp
        refine (rall_any t 2 u2 (TL.out _ hw2)).mono ?_
        rintro e u3 ⟨rfl, hb3⟩
        rw [Hx2.out]
        have k3 := Keeps.of_below hb3
        replace hS := And.intro (k3 _ _ hS.1) (And.intro (k3 _ _ hS.2.1) (And.intro (k3 _ _ hS.2.2.1) (And.intro (k3 _ _ hS.2.2.2.1) (And.intro (k3 _ _ hS.2.2.2.2.1) (k3 _ _ hS.2.2.2.2.2)))))
        replace sc2 := sc2.keep k3
        replace bk2 := bk2.below hb3
        replace ho2 := ho2.turned (Turned.of_below hb3 []) (by simp)
        replace hw2 := hw2.trans (hb3.mono hw2.size)
        replace hz2 := Nat.le_trans hz2 hb3.size
        clear hHeld hb3 k3
        go_wp2_with fail
        refine hK.out _ _ ?_ (fun hHeld => ?_)
        · exact hS
        clear hK K
        try simp only [Act.put, List.setIfInBounds_toArray, List.set_cons_zero, List.set_cons_succ, List.getElem_toArray, List.getElem_cons_zero, List.getElem_cons_succ]
        refine wpAnyH_take (i := 5) (v := ?_) rfl (by kernel_rfl) (by kernel_rfl) (by kernel_rfl) (fun _ _ _ h => h) (Or.inl ⟨by rfl, ?_⟩) (by assumption) ?_
        rotate_left 1
        · ((intro w hSw; (try dsimp only at hSw); go_simp); (try with_reducible rfl))
        simp only [Act.put, List.setIfInBounds_toArray, List.set_cons_zero, List.set_cons_succ, List.getElem_toArray, List.getElem_cons_zero, List.getElem_cons_succ]
        refine wpAnyH_ready (rs := [7]) (by kernel_rfl) (by simp) ?_
        refine AllReadyH.cons rfl (fun K hK => ?_) AllReadyH.nil
        go_simp
        refine (rall_any t 3 u3 (TL.out _ hw2)).mono ?_
        rintro e u4 ⟨rfl, hb3⟩
        rw [Hx3.out]
        have k3 := Keeps.of_below hb3
        replace hS := And.intro (k3 _ _ hS.1) (And.intro (k3 _ _ hS.2.1) (And.intro (k3 _ _ hS.2.2.1) (And.intro (k3 _ _ hS.2.2.2.1) (And.intro (k3 _ _ hS.2.2.2.2.1) (k3 _ _ hS.2.2.2.2.2)))))
        replace sc2 := sc2.keep k3
        replace bk2 := bk2.below hb3
        replace ho2 := ho2.turned (Turned.of_below hb3 []) (by simp)
        replace hw2 := hw2.trans (hb3.mono hw2.size)
        replace hz2 := Nat.le_trans hz2 hb3.size
        clear hHeld hb3 k3
        go_wp2_with fail
        refine hK.out _ _ ?_ (fun hHeld => ?_)
        · exact hS
        clear hK K
        try simp only [Act.put, List.setIfInBounds_toArray, List.set_cons_zero, List.set_cons_succ, List.getElem_toArray, List.getElem_cons_zero, List.getElem_cons_succ]
        refine wpAnyH_take (i := 8) (v := ?_) rfl (by kernel_rfl) (by kernel_rfl) (by kernel_rfl) (fun _ _ _ h => h) (Or.inl ⟨by rfl, ?_⟩) (by assumption) ?_
        rotate_left 1
        · ((intro w hSw; (try dsimp only at hSw); go_simp); (try with_reducible rfl))
        simp only [Act.put, List.setIfInBounds_toArray, List.set_cons_zero, List.set_cons_succ, List.getElem_toArray, List.getElem_cons_zero, List.getElem_cons_succ]
        refine wpAnyH_ready (rs := [9]) (by kernel_rfl) (by simp) ?_
        refine AllReadyH.cons rfl (fun K hK => ?_) AllReadyH.nil
        go_simp
        have k4 := Keeps.alloc u4 (.cells #[.int .i64 (x1 + x2 + x3)] 3)
        have hS4 := And.intro (k4 _ _ hS.1) (And.intro (k4 _ _ hS.2.1) (And.intro (k4 _ _ hS.2.2.1) (And.intro (k4 _ _ hS.2.2.2.1) (And.intro (k4 _ _ hS.2.2.2.2.1) (k4 _ _ hS.2.2.2.2.2)))))
        have S2 := hidp (Lies.newCells' u4 [.int .i64 (x1 + x2 + x3)] 3)
        have sc4 := sc2.keep k4
        have bk4 := bk2.alloc (.cells #[.int .i64 (x1 + x2 + x3)] 3)
        have ho4 := ho2.turned ((Turned.refl [] u4).alloc (.cells #[.int .i64 (x1 + x2 + x3)] 3)) (by simp)
        have hw4 := hw2.alloc hw2.size (.cells #[.int .i64 (x1 + x2 + x3)] 3)
        have Z2 : Hid (w.heap.size + 2 ≤ (u4.alloc (.cells #[.int .i64 (x1 + x2 + x3)] 3)).heap.size) := hidp (Nat.le_trans hz2 (by simp))
        clear hHeld k4 sc2 bk2 ho2 hw2 hz2
        go_wp2_with fail
        refine hK.out _ _ ?_ (fun hHeld => ?_)
        · exact hS4
        clear hK K
        try simp only [Act.put, List.setIfInBounds_toArray, List.set_cons_zero, List.set_cons_succ, List.getElem_toArray, List.getElem_cons_zero, List.getElem_cons_succ]
        have O2 := hidp (ints_one (x1 + x2 + x3))
        have N2 : Hid (k + 1 ≤ maxLen) := hidp (by unfold maxLen; omega)
        have T2 : Hid ((k + 1) * 8 ≤ 140737488355328) := hidp (by omega)
        have Q2 : Hid ((some (⟨u4.heap.size, 0, none⟩ : Addr)) = none → 1 = 0 ∧ 1 = 0) := hidp (fun e => by cases e)
        refine wpAnyH_ready (rs := [10]) (by kernel_rfl) (by simp) ?_
        refine AllReadyH.cons rfl (fun K hK => ?_) AllReadyH.nil
        refine step_app2 (u4.alloc (.cells #[.int .i64 (x1 + x2 + x3)] 3)) rfl (.tmp 38) (.tmp 47) 22 rfl (w.heap.size + 2) 3 i0 _ 1 8 Tryz.underlying22 hi0 hy0 hy1 hy2 rfl (by decide) A k c _ rfl ho4.own _ _ 1 1 [.int .i64 (x1 + x2 + x3)] rfl Q2.out rfl S2.out O2.out N2.out T2.out Z2.out ?_
        intro A' c' w5 happ
        have hFB : B ∉ fp A := fun hf => by have := (Hfp0.out _ hf).2; omega
        have hS5 := And.intro (happ.turned.cell hS4.1 hFB) (And.intro (happ.turned.cell hS4.2.1 hFB) (And.intro (happ.turned.cell hS4.2.2.1 hFB) (And.intro (happ.turned.cell hS4.2.2.2.1 hFB) (And.intro (happ.turned.cell hS4.2.2.2.2.1 hFB) (happ.turned.cell hS4.2.2.2.2.2 hFB)))))
        have sc5 := sc4.turned happ.turned (fun hf => by have := (Hfp0.out _ hf).1; omega)
        have bk5 := bk4.turned happ.turned (fun hf => by have := (Hfp0.out _ hf).1; omega)
        have hw5 := hw4.trans (happ.turned.below hw4.size (fun j hj => by have := (Hfp0.out _ hj).1; omega))
        have hz5 := Nat.le_trans Z2.out happ.turned.size
        have ho5 := ho4.app (ps := [x1 + x2 + x3]) happ rfl
        clear hHeld hFB hS4 hS sc4 bk4 ho4 hw4 happ
        refine hK.out _ _ ?_ (fun hHeld => ?_)
        · exact hS5
        clear hK K
        try simp only [Act.put, List.setIfInBounds_toArray, List.set_cons_zero, List.set_cons_succ, List.getElem_toArray, List.getElem_cons_zero, List.getElem_cons_succ]
        refine wpAnyH_take (i := 11) (v := ?_) rfl (by kernel_rfl) (by kernel_rfl) (by kernel_rfl) (fun _ _ _ h => h) (Or.inl ⟨by rfl, ?_⟩) (by assumption) ?_
        rotate_left 1
        · ((intro w hSw; (try dsimp only at hSw); go_simp); (try with_reducible rfl))
        simp only [Act.put, List.setIfInBounds_toArray, List.set_cons_zero, List.set_cons_succ, List.getElem_toArray, List.getElem_cons_zero, List.getElem_cons_succ]
        refine wpAnyH_done (by kernel_rfl) ?_ _
        clear hHeld hS5 q1 q2
        go_wp2_with fail
        go_roundg (gk - 1)
        case measure => omega
        case rel => exact ⟨k + 1, c', A', by omega, by go_num, rfl, by rw [range_snoc, Hfy.out, ← Hy.out]; exact ho5, sc5, bk5, hw5, hz5⟩
      · have hkn : k = s.tasks.length := by omega
        subst hkn
        have hrow := ho.ok (fun x hx => by have := HF.out x hx; unfold I64; omega)
        obtain ⟨cur0, Hc0⟩ : ∃ l, Hid (soonL s = l) := ⟨_, hidp rfl⟩
        have Hl0 : Hid (cur0.length = s.tasks.length) := hidp (by rw [← Hc0.out, soonL_len])
        have Hst : Hid (setL s 200 cur0 = (L, se)) := hidp (by rw [← Hc0.out]; exact HP.out)
        rw [← Hso.out, Hc0.out] at hrow
        have hcI : (s.tasks.length : Int) ≤ 6 := by omega
        clear ho hk
        go_wp2_with fail
        clear sc_0 sc_1 sc_2 sc_3
        go_loopg [6, 9] 200 (fun gg a i w5 => ∃ (k c : Nat) (A : Option Addr) (cur : List Int), k + gg = 200 ∧ i = .int .i64 k ∧ a = .slice A s.tasks.length c ∧ Hid (cur.length = s.tasks.length) ∧ Hid (setL s gg cur = (L, se)) ∧ IntsOk w5 A c cur ∧ SetCells w5 w.heap.size s ∧ Bk w5 (w.heap.size + 1) 49 #[.bool false, .slice none 0 0, .slice none 0 0] ∧ Below w.heap.size w w5 ∧ w.heap.size + 1 < w5.heap.size)
        case atStart => exact ⟨0, c, A, cur0, by omega, rfl, rfl, Hl0, Hst, hrow, sc, bk, hw, by omega⟩
        case round =>
          clear hw sc bk hz hrow hlt
          obtain ⟨k, c, A, cur, hk, rfl, rfl, Hlen, Hs, hr, sc, bk, hb, hz0⟩ := hrel
          obtain ⟨sc_0, sc_1, sc_2, sc_3⟩ := id sc
          by_cases hlt : k < 200
          · obtain ⟨g, hg⟩ : ∃ g, gk = g + 1 := ⟨gk - 1, by omega⟩
            subst hg
            have HR := HRND.out cur A c _ hb hr Hlen.out
            rw [HrL.out cur Hlen.out] at HR
            by_cases e : roundB s cur = true
            · have el : roundL s cur = nextRow s cur := by unfold roundL; rw [if_pos e]
              have ee : errR s cur = 0 := by unfold errR; rw [if_pos e]
              rw [el, ee, e, Bool.true_and, Hlen.out] at HR
              have Hs2 : Hid ((if nextRow s cur = cur then (cur, 0) else setL s g (nextRow s cur)) = (L, se)) := hidp (by rw [← Hs.out, setL_succ, if_pos e])
              have Hnl := hidp (nextRow_len s cur)
              obtain ⟨nx, Hnx⟩ : ∃ l, Hid (nextRow s cur = l) := ⟨_, hidp rfl⟩
              rw [Hnx.out] at HR Hs2 Hnl
              clear e el ee
              by_cases e2 : nx = cur
              · rw [decide_eq_false (fun x => x e2)] at HR
                have hz : (cur, (0 : Int)) = (L, se) := by have := Hs2.out; rw [if_pos e2] at this; exact this
                have hLc : cur = L := congrArg Prod.fst hz
                have hse : se = 0 := (congrArg Prod.snd hz).symm
                subst hLc
                have HLL := hidp Hlen.out
                have HB := hidp (HAB.out hse).1
                have HW := hidp (HAB.out hse).2
                have Hes := hidp hse
                obtain ⟨wl, Hwl⟩ : ∃ f : Nat → List Int, Hid (∀ k : Nat, waitsL s cur k = f k) := ⟨fun k => waitsL s cur k, hidp (fun _ => rfl)⟩
                obtain ⟨wk, Hwk⟩ : ∃ f : Nat → Bool, Hid (∀ k : Nat, waitsK s cur k = f k) := ⟨fun k => waitsK s cur k, hidp (fun _ => rfl)⟩
                clear e2 hz hse
                go_wp2_with fail
                refine HR.mono ?_
                rintro e w4 ⟨C, d, rfl, hC, hb2⟩
                replace hb := hb.trans (hb2.mono hb.size)
                replace sc := sc.keep (Keeps.of_below hb2)
                replace bk := bk.below hb2
                replace hz0 := Nat.lt_of_lt_of_le hz0 hb2.size
                have hA := hr.keep (Keeps.of_below hb2)
                clear hb2 HR hr hC sc_0 sc_1 sc_2 sc_3
                have hB0 := (Below.refl w4.heap.size w4).alloc (Nat.le_refl _) (.cells #[.bool true, .slice A s.tasks.length c, .slice none 0 0] 49)
                have bv := Bk.new w4 49 #[.bool true, .slice A s.tasks.length c, .slice none 0 0]
                have hz1 : w4.heap.size + 1 ≤ (w4.alloc (.cells #[.bool true, .slice A s.tasks.length c, .slice none 0 0] 49)).heap.size := by simp
                have HA := hidp hA
                have HSC := hidp sc
                have HBK := hidp bk
                have HB4 := hidp hb
                have sc1 := sc.keep (Keeps.alloc w4 (.cells #[.bool true, .slice A s.tasks.length c, .slice none 0 0] 49))
                obtain ⟨sc_0, sc_1, sc_2, sc_3⟩ := id sc1
                have hz2 := hz0
                clear hA sc bk hb sc1 hz0
                go_wp2_with fail
                clear sc_0 sc_1 sc_2 sc_3
                go_loopg [14] s.tasks.length (fun gg i wr => ∃ (k d : Nat) (W : Option Addr) (rs : List RowR), k + gg = s.tasks.length ∧ i = .int .i64 k ∧ Hid (rs.map RowR.zs = (List.range k).map wl) ∧ OwnV (w4.heap.size + 1) wr W k d rs ∧ (∀ r ∈ rs, IntsOk wr r.a r.c r.zs) ∧ (∀ r ∈ rs, r.zs = [] ∨ ∀ x ∈ fp r.a, w4.heap.size + 1 ≤ x ∧ x < wr.heap.size ∧ x ∉ fp W) ∧ Bk wr w4.heap.size 49 #[.bool true, .slice A s.tasks.length c, .slice W k d] ∧ Below w4.heap.size w4 wr ∧ w4.heap.size + 1 ≤ wr.heap.size)
                case atStart => exact ⟨0, 0, none, [], by omega, rfl, hidp rfl, OwnV.none _ _, by simp, by simp, bv, hB0, hz1⟩
                case round =>
                  clear bv hB0 hz1
                  obtain ⟨k, d, W, rs, hk, rfl, Hm, oW, hro, hap, bv, hB, hz⟩ := hrel
                  have hw : Below w.heap.size w wr := HB4.out.trans (hB.mono HB4.out.size)
                  by_cases hlt : k < s.tasks.length
                  · have sc := HSC.out.keep (Keeps.of_below hB)
                    obtain ⟨sc_0, sc_1, sc_2, sc_3⟩ := id sc
                    obtain ⟨y0, y1, y2⟩ := Y3 bv
                    have HX := HWT.out cur A c k _ hw (HA.out.keep (Keeps.of_below hB))
                    rw [HLL.out] at HX
                    rw [Hwl.out, Hwk.out] at HX
                    obtain ⟨zs, Hzs⟩ : ∃ l, Hid (wl k = l) := ⟨_, hidp rfl⟩
                    obtain ⟨zk, Hzk⟩ : ∃ l, Hid (wk k = l) := ⟨_, hidp rfl⟩
                    rw [Hzs.out, Hzk.out] at HX
                    have Hrs : Hid (rs.length = k) := hidp oW.len.symm
                    go_wp2_with fail
                    refine HX.mono ?_
                    rintro e w5 ⟨a', c', rfl, hR, hb3, hfr⟩
                    have hF : ∀ x ∈ fp a', x ∉ fp W := fun x hx hx2 => by have := hfr x hx; have := (own_fp oW.own x hx2).2; omega
                    have hlt5 : ∀ x ∈ fp a', zs ≠ [] → x < w5.heap.size := fun x hx hz => by
                      rcases hR.at_ with e | ⟨b, off, e, hc⟩
                      · exact absurd e hz
                      · subst e; simp [fp] at hx; subst hx; exact cell_lt (hc 0 (List.length_pos_iff.2 hz))
                    have HR5 := hidp hR
                    have HF5 := hidp hF
                    have HL5 := hidp hlt5
                    have Hfr := hidp hfr
                    have hs5 := hb3.size
                    have oW6 := (oW.turned (Turned.of_below hb3 []) (by simp)).turned ((Turned.refl [] w5).alloc (.cells #[.slice a' zs.length c'] 22)) (by simp)
                    have S2 := hidp (Lies.newCells' w5 [.slice a' zs.length c'] 22)
                    have Z2 : Hid (w4.heap.size + 1 ≤ (w5.alloc (.cells #[.slice a' zs.length c'] 22)).heap.size) := hidp (Nat.le_trans hz (Nat.le_trans hs5 (by simp)))
                    have O2 := hidp (rows_one ⟨a', c', zs⟩)
                    have N2 : Hid (k + 1 ≤ maxLen) := hidp (by unfold maxLen; omega)
                    have T2 : Hid ((k + 1) * 24 ≤ 140737488355328) := hidp (by omega)
                    have Hfp := hidp (own_fp oW.own)
                    have bv5 := bv.below hb3
                    have bv6 := bv5.alloc (.cells #[.slice a' zs.length c'] 22)
                    have hB6 := (hB.trans (hb3.mono hB.size)).alloc (hB.trans (hb3.mono hB.size)).size (.cells #[.slice a' zs.length c'] 22)
                    have Hb3 := hidp hb3
                    clear y0 y1 y2 sc_0 sc_1 sc_2 sc_3 sc HX hR hF hlt5 hfr hb3 oW bv hB
                    obtain ⟨y0, y1, y2⟩ := Y3 bv5
                    go_wp2_with (at_builtin; refine wpList_app2 _ rfl (.tmp 82) (.tmp 84) 47 rfl (w4.heap.size + 1) 22 i1 _ 1 24 Tryz.underlying47 hj0 hx0 hx1 hx2 rfl (by decide) W k d _ rfl oW6.own _ _ 1 1 [.slice a' zs.length c'] rfl (by simp) rfl S2.out O2.out N2.out T2.out Z2.out ?_; intro W' d' w7 happ; have D7 := bv6.turned happ.turned (fun hf => by have := (Hfp.out _ hf).1; omega); obtain ⟨x0, x1, x2⟩ := Y3 D7; obtain ⟨f0, f1, f2⟩ := YF3 D7)
                    go_roundg (gk - 1)
                    case measure => omega
                    case rel =>
                      have TS := (Turned.refl [w4.heap.size] w7).setCell (p := ⟨w4.heap.size, 2, none⟩) (.inl (by simp)) (.slice W' (k + 1) d')
                      have hs7 := happ.turned.size
                      have hs6 : w5.heap.size + 1 = (w5.alloc (.cells #[.slice a' zs.length c'] 22)).heap.size := by simp
                      refine ⟨k + 1, d', W', rs ++ [⟨a', c', zs⟩], by omega, by go_num, hidp (by rw [List.map_append, Hm.out, List.range_succ, List.map_append]; simp [Hzs.out]), (oW6.app (ps := [⟨a', c', zs⟩]) happ rfl).turned TS (fun j hj => by
                        rcases happ.fps j hj with h | h
                        · have := (Hfp.out j h).1; simp; omega
                        · simp; omega), fun r hr => ?_, fun r hr => ?_, D7.put 2 (.slice W' (k + 1) d'), (hB6.trans (happ.turned.below hB6.size (fun j hj => by have := (Hfp.out j hj).1; omega))).trans (TS.below (Nat.le_trans hB6.size hs7) (by simp)), Nat.le_trans (Nat.le_trans Z2.out hs7) TS.size⟩
                      · rcases List.mem_append.1 hr with hm | hm
                        · refine (IntsOk.turned2 (((hro r hm).keep (Keeps.of_below Hb3.out)).keep (Keeps.alloc _ _)) happ.turned ?_).turned2 TS ?_
                          · rcases hap r hm with e | e
                            · exact .inl e
                            · exact .inr (fun j hj => (e j hj).2.2)
                          · rcases hap r hm with e | e
                            · exact .inl e
                            · exact .inr (fun j hj => by have := (e j hj).1; simp; omega)
                        · simp only [List.mem_cons, List.not_mem_nil, or_false] at hm
                          subst hm
                          refine (IntsOk.turned2 (HR5.out.keep (Keeps.alloc _ _)) happ.turned (.inr HF5.out)).turned2 TS (.inr (fun j hj => by have := Hfr.out j hj; simp; omega))
                      · rcases List.mem_append.1 hr with hm | hm
                        · rcases hap r hm with e | e
                          · exact .inl e
                          · refine .inr (fun x hx => ⟨(e x hx).1, ?_, fun hf => ?_⟩)
                            · have := (e x hx).2.1; have := TS.size; omega
                            · rcases happ.fps x hf with h | h
                              · exact (e x hx).2.2 h
                              · have := (e x hx).2.1; omega
                        · simp only [List.mem_cons, List.not_mem_nil, or_false] at hm
                          subst hm
                          by_cases ez : zs = []
                          · exact .inl ez
                          · refine .inr (fun x hx => ⟨by have := Hfr.out x hx; omega, ?_, fun hf => ?_⟩)
                            · have := HL5.out x hx ez; have := TS.size; omega
                            · rcases happ.fps x hf with h | h
                              · exact HF5.out x hx h
                              · have := HL5.out x hx ez; omega
                  · have hkn : k = s.tasks.length := by omega
                    have bkr := HBK.out.below hB
                    obtain ⟨y0, y1, y2⟩ := Y3 bv
                    obtain ⟨z0, z1, z2⟩ := Y3 bkr
                    obtain ⟨f0, f1, f2⟩ := YF3 bkr
                    have hkI : (k : Int) = (s.tasks.length : Int) := by omega
                    have hAr := HA.out.keep (Keeps.of_below hB)
                    have Hrl := hidp (oW.len)
                    have Hkn := hidp hkn
                    clear hkn hkI
                    go_wp2_with fail
                    have PB := v3_bk bkr (v0 := .bool true) (v1 := .slice A s.tasks.length c) (v2 := .slice W k d)
                    have PT := v3_turned wr (w.heap.size + 1) (.bool true) (.slice A s.tasks.length c) (.slice W k d)
                    obtain ⟨x0, x1, x2⟩ := Y3 PB
                    have hbe := hw.trans (PT.below hw.size (by simp))
                    refine bodyPost_ret (v := .tuple #[.agg #[.bool true, .slice A s.tasks.length c, .slice W k d], .int .i64 0]) (by simp [results, Tryz.results20, go_sem, x0, x1, x2]) rfl ⟨⟨⟨true, A, c, cur, W, d, rs⟩, ?_, ⟨hAr.other bkr (fun z h => by cases h) (fun z h => by cases h) (fun z h => by cases h) PT, ?_, ?_, fun r hr => (hro r hr).other bkr (fun z h => by cases h) (fun z h => by cases h) (fun z h => by cases h) PT⟩, ?_, HB.out.symm, ?_⟩, hbe⟩
                    · rw [HanE.out, Hes.out, ← Hrl.out, HLL.out]
                    · show SlOk W rs.length d
                      rw [← Hrl.out]; exact ⟨oW.nil, oW.cap⟩
                    · exact (oW.turned PT (fun j hj => by have := (own_fp oW.own j hj).1; simp; omega)).at_
                    · rw [HanE.out, Hes.out]; rfl
                    · rw [HW.out, Hm.out, Hkn.out]
                      exact (List.map_congr_left (fun i _ => Hwl.out i)).symm
              · rw [decide_eq_true e2] at HR
                have Hz : Hid (setL s g nx = (L, se)) := hidp (by have := Hs2.out; rw [if_neg e2] at this; exact this)
                clear e2
                go_wp2_with fail
                refine HR.mono ?_
                rintro e w4 ⟨C, d, rfl, hC, hb2⟩
                replace hb := hb.trans (hb2.mono hb.size)
                replace sc := sc.keep (Keeps.of_below hb2)
                replace bk := bk.below hb2
                replace hz0 := Nat.lt_of_lt_of_le hz0 hb2.size
                clear hb2 HR hr sc_0 sc_1 sc_2 sc_3
                rw [Hnl.out]
                go_wp2_with fail
                go_roundg g
                case measure => omega
                case rel => exact ⟨k + 1, d, C, nx, by omega, by go_num, rfl, Hnl, Hz, hC, sc, bk, hb, hz0⟩
            · have e' : roundB s cur = false := by simpa using e
              have el : roundL s cur = [] := by unfold roundL; rw [e']; rfl
              have ee : errR s cur = 19 := by unfold errR; rw [e']; rfl
              rw [el, ee, e', Bool.false_and, Hlen.out] at HR
              have hz : (([] : List Int), (19 : Int)) = (L, se) := by rw [← Hs.out, setL_succ, if_neg e]
              have hse : se = 19 := (congrArg Prod.snd hz).symm
              have hno := HNO.out (by omega)
              have HB := hidp hno.1
              have HW := hidp hno.2.1
              have Hok2 := hidp hno.2.2
              have Hes := hidp hse
              clear e e' el ee hz hse hno
              go_wp2_with fail
              refine HR.mono ?_
              rintro e w4 ⟨C, d, rfl, hC, hb2⟩
              replace hb := hb.trans (hb2.mono hb.size)
              replace bk := bk.below hb2
              obtain ⟨z0, z1, z2⟩ := Y3 bk
              obtain ⟨f0, f1, f2⟩ := YF3 bk
              clear hb2 HR hr hC sc_0 sc_1 sc_2 sc_3
              go_wp2_with fail
              have PB := v3_bk bk (v0 := .bool false) (v1 := .slice none 0 0) (v2 := .slice none 0 0)
              have PT := v3_turned w4 (w.heap.size + 1) (.bool false) (.slice none 0 0) (.slice none 0 0)
              obtain ⟨x0, x1, x2⟩ := Y3 PB
              have hbe := hb.trans (PT.below hb.size (by simp))
              exact bodyPost_ret (v := .tuple #[.agg #[.bool false, .slice none 0 0, .slice none 0 0], .int .i64 19]) (by simp [results, Tryz.results20, go_sem, x0, x1, x2]) rfl ⟨⟨⟨false, none, 0, [], none, 0, []⟩, by rw [HanE.out, Hes.out]; rfl, VerdOk.none _, Hok2.out.symm, HB.out.symm, HW.out.symm⟩, hbe⟩
          · have hg0 : gk = 0 := by omega
            subst hg0
            have hz : (cur, (20 : Int)) = (L, se) := by rw [← Hs.out]; rfl
            have hse : se = 20 := (congrArg Prod.snd hz).symm
            have hno := HNO.out (by omega)
            have HB := hidp hno.1
            have HW := hidp hno.2.1
            have Hok2 := hidp hno.2.2
            have Hes := hidp hse
            obtain ⟨z0, z1, z2⟩ := Y3 bk
            obtain ⟨f0, f1, f2⟩ := YF3 bk
            clear hz hse hno
            go_wp2_with fail
            have PB := v3_bk bk (v0 := .bool false) (v1 := .slice none 0 0) (v2 := .slice none 0 0)
            have PT := v3_turned wr (w.heap.size + 1) (.bool false) (.slice none 0 0) (.slice none 0 0)
            obtain ⟨x0, x1, x2⟩ := Y3 PB
            have hbe := hb.trans (PT.below hb.size (by simp))
            exact bodyPost_ret (v := .tuple #[.agg #[.bool false, .slice none 0 0, .slice none 0 0], .int .i64 20]) (by simp [results, Tryz.results20, go_sem, x0, x1, x2]) rfl ⟨⟨⟨false, none, 0, [], none, 0, []⟩, by rw [HanE.out, Hes.out]; rfl, VerdOk.none _, Hok2.out.symm, HB.out.symm, HW.out.symm⟩, hbe⟩
  · have e1 : (ce != 0) = true := by rw [← Hce.out]; simpa using e
    have HanE : Hid (anE s = ce) := hidp (by unfold anE; rw [if_neg e, Hce.out])
    have hne : ¬ anE s = 0 := by rw [HanE.out, ← Hce.out]; exact e
    have HB : Hid (anB s = []) := hidp (by unfold anB; rw [if_neg hne])
    have HW : Hid (anW s = []) := hidp (by unfold anW; rw [if_neg hne])
    have Hok : Hid (decide (anE s = 0) = false) := hidp (by simpa using hne)
    clear e hne
    go_enter Tryz.func20, Tryz.ntmps20
    go_wp2_with fail
    refine HC.mono ?_
    rintro e w2 ⟨rfl, hb2⟩
    replace hb := hb.trans (hb2.mono hb.size)
    replace bk := bk.below hb2
    obtain ⟨z0, z1, z2⟩ := Y3 bk
    obtain ⟨f0, f1, f2⟩ := YF3 bk
    clear hb2 HC
    go_wp2_with fail
    have PB := v3_bk bk (v0 := .bool false) (v1 := .slice none 0 0) (v2 := .slice none 0 0)
    have PT := v3_turned w2 (w.heap.size + 1) (.bool false) (.slice none 0 0) (.slice none 0 0)
    obtain ⟨x0, x1, x2⟩ := Y3 PB
    have hbe := hb.trans (PT.below hb.size (by simp))
    exact bodyPost_ret (v := .tuple #[.agg #[.bool false, .slice none 0 0, .slice none 0 0], .int .i64 ce]) (by simp [results, Tryz.results20, go_sem, x0, x1, x2]) rfl ⟨⟨⟨false, none, 0, [], none, 0, []⟩, by rw [HanE.out]; rfl, VerdOk.none _, Hok.out.symm, HB.out.symm, HW.out.symm⟩, hbe⟩
end Go.Proofs.YtjjlpaampmpdfaaGreatDoor

namespace Go.Proofs.YtjjlpaampmpdfaaGreatDoor
open Go.ChangeShapes Go.WideShapes Go.ChangeAt Go.RowKit
set_option linter.unusedVariables false
set_option linter.unusedSimpArgs false
theorem chkE_cases (s : SetR) : chkE s = 0 ∨ chkE s = 10 ∨ chkE s = 11 ∨ chkE s = 14 ∨ chkE s = 15 ∨ chkE s = 16 ∨ chkE s = 17 := by
  have ht : ∀ k, taskE s k = 0 ∨ taskE s k = 10 ∨ taskE s k = 16 ∨ taskE s k = 17 ∨ taskE s k = 15 := fun k => by
    unfold taskE
    split
    · simp
    · split
      · simp
      · split
        · simp
        · split <;> simp
  have hf : frameV s = 0 ∨ frameV s = 10 ∨ frameV s = 16 ∨ frameV s = 11 ∨ frameV s = 14 := by
    unfold frameV
    split
    · simp
    · split
      · simp
      · split
        · simp
        · split
          · simp
          · split
            · simp
            · split
              · simp
              · split <;> simp
  unfold chkE
  split
  · rcases hf with h | h | h | h | h <;> simp [h]
  · split
    · simp
    · rcases ht (badAt s).toNat with h | h | h | h | h <;> simp [h]
theorem words_more {s : SetR} {bs : List Int} {ws : List (List Int)} {i k : Nat} {x : Bts} (h : wordsR s bs ws i (k + 1) = wordsR s bs ws i k ++ [x]) : joinT 32 (wordsR s bs ws i (k + 1)) = joinT 32 (wordsR s bs ws i k) ++ 32 :: x := by
  rw [h]
  unfold wordsR
  rw [List.cons_append, joinT_snoc]
theorem rt_calls (n : Int) (hn : I64 n) : ∃ r : ByteArray, Hid (bl r = textL n) ∧ r.size ≤ 7 ∧ Hid (∀ v, Calls Tryz.prog 14 #[.int .i64 n] v fun e w' => e = .returned (.string r) ∧ Below v.heap.size v w') :=
  ⟨textV n, hidp rfl, by rw [← bl_len]; exact textL_len n, hidp (fun v => rtext_any n v hn)⟩
set_option maxHeartbeats 16000000 in
set_option maxRecDepth 100000 in
theorem rreport_any (s : SetR) (w : World) (hs : SetOk w s) : Calls Tryz.prog 10 #[.agg #[.int .i64 s.proto, .slice s.ca s.cores.length s.cc, .slice s.ha s.homes.length s.hc, .slice s.ta s.tasks.length s.tc]] w (LinesPost w s) := by
  obtain ⟨ce, Hce⟩ : ∃ v, Hid (chkE s = v) := ⟨_, hidp rfl⟩
  obtain ⟨ca0, Hca⟩ : ∃ v, Hid (chkAt s = v) := ⟨_, hidp rfl⟩
  have hb0 := (Below.refl w.heap.size w).alloc (Nat.le_refl _) (.cells #[.int .i64 s.proto, .slice s.ca s.cores.length s.cc, .slice s.ha s.homes.length s.hc, .slice s.ta s.tasks.length s.tc] 25)
  have CC := rcheck_any s _ (hs.keep (Keeps.of_below hb0))
  rw [Hce.out, Hca.out] at CC
  have HCC := hidp CC
  have HB0 := hidp hb0
  have SC := hidp (SetCells.new w s 25)
  have HS := hidp hs
  obtain ⟨x0, x1, x2, x3⟩ := SC.out
  clear hb0 hs CC
  by_cases c0 : ce = 0
  case neg =>
    have f0 : (ce != 0) = true := by simpa using c0
    have hE : anE s = ce := by unfold anE; rw [Hce.out, if_neg c0]
    have hcs := chkE_cases s
    rw [Hce.out] at hcs
    have HL1 : Hid (repV s = []) := hidp (by unfold repV; rw [hE, if_neg c0, if_neg (by omega), if_neg (by omega)])
    have HL2 : Hid (repE s = ce) := hidp (by unfold repE; rw [hE, if_neg (by omega)])
    clear hE hcs c0
    go_enter Tryz.func10, Tryz.ntmps10
    go_wp2_with fail
    refine HCC.out.mono ?_
    rintro e u ⟨rfl, hbu⟩
    have HBu := hidp (HB0.out.trans (hbu.mono HB0.out.size))
    clear hbu HCC x0 x1 x2 x3
    go_wp2_with fail
    go_ret2
    exact lines_ret HL1.out HL2.out rfl (StrL.none _ _) HBu.out
  have f0 : (ce != 0) = false := by simpa using c0
  have ho : okS s = true := by unfold okS; rw [Hce.out, c0]; rfl
  obtain ⟨E, HE⟩ : ∃ E, Hid (anE s = E) := ⟨_, hidp rfl⟩
  have HEC : Hid (E = 0 ∨ E = 19 ∨ E = 20) := hidp (by
    rw [← HE.out]; unfold anE; rw [if_pos (by rw [Hce.out]; exact c0)]
    exact setL_err _ _ _)
  have HRV : Hid (repV s = if E = 0 then repL s else if E = 19 then [wLate] else if E = 20 then [wUnk] else []) := hidp (by unfold repV; rw [HE.out])
  have HRE : Hid (repE s = 0) := hidp (by unfold repE; rw [HE.out, if_pos HEC.out])
  have HO := hidp ho
  clear c0 ho
  go_enter Tryz.func10, Tryz.ntmps10
  go_wp2_with fail
  refine HCC.out.mono ?_
  rintro e u0 ⟨rfl, hbu0⟩
  have HBu0 := hidp (HB0.out.trans (hbu0.mono HB0.out.size))
  have SC0 := hidp (SC.out.keep (Keeps.of_below hbu0))
  have CA := hidp (ranalyze_any s u0 (HS.out.keep (Keeps.of_below HBu0.out)))
  clear hbu0 HCC x0 x1 x2 x3
  obtain ⟨x0, x1, x2, x3⟩ := SC0.out
  go_wp2_with fail
  refine CA.out.mono ?_
  rintro e u ⟨⟨v, rfl, hv, hok, hvb, hvr⟩, hbu⟩
  rw [HE.out]
  have HBu := hidp (HBu0.out.trans (hbu.mono HBu0.out.size))
  have hba : Below u.heap.size u (u.alloc (.cells #[.bool v.ok, .slice v.ba v.bounds.length v.bc, .slice v.wa v.rows.length v.wc] 49)) := (Below.refl _ u).alloc (Nat.le_refl _) _
  have HB1 := hidp (HBu.out.trans (hba.mono HBu.out.size))
  have SC1 := hidp ((SC0.out.keep (Keeps.of_below hbu)).keep (Keeps.of_below hba))
  have HBV := hidp (Bk.new u 49 #[.bool v.ok, .slice v.ba v.bounds.length v.bc, .slice v.wa v.rows.length v.wc])
  have HV := hidp (hv.keep (Keeps.of_below hba))
  have HVB := hidp hvb
  have HVR := hidp hvr
  clear hv hok hvb hvr hbu hba x0 x1 x2 x3 CA SC0 SC
  by_cases e1 : E = 19
  · have HL1 : Hid (repV s = [wLate]) := hidp (by rw [HRV.out, if_neg (by omega), if_pos e1])
    have H9 := hidp ((strL_lit (u.alloc (.cells #[.bool v.ok, .slice v.ba v.bounds.length v.bc, .slice v.wa v.rows.length v.wc] 49)) [⟨#[108, 97, 116, 101]⟩] (by intro x hx; rw [List.mem_singleton.1 hx]; decide) (by simp)).low (B' := w.heap.size) HB1.out.size)
    have H8 := hidp (HB1.out.alloc HB1.out.size (.cells #[.string ⟨#[108, 97, 116, 101]⟩] 9))
    subst e1
    go_wp2_with fail
    go_ret2
    have h9 := H9.out
    rw [show (u.alloc (.cells #[.bool v.ok, .slice v.ba v.bounds.length v.bc, .slice v.wa v.rows.length v.wc] 49)).heap.size = u.heap.size + 1 by simp] at h9
    exact lines_ret HL1.out HRE.out rfl h9 H8.out
  have f1 : (E == 19) = false := by rw [beq_eq_false_iff_ne]; exact e1
  by_cases e2 : E = 20
  · have HL1 : Hid (repV s = [wUnk]) := hidp (by rw [HRV.out, if_neg (by omega), if_neg e1, if_pos e2])
    have H9 := hidp ((strL_lit (u.alloc (.cells #[.bool v.ok, .slice v.ba v.bounds.length v.bc, .slice v.wa v.rows.length v.wc] 49)) [⟨#[117, 110, 107, 110, 111, 119, 110]⟩] (by intro x hx; rw [List.mem_singleton.1 hx]; decide) (by simp)).low (B' := w.heap.size) HB1.out.size)
    have H8 := hidp (HB1.out.alloc HB1.out.size (.cells #[.string ⟨#[117, 110, 107, 110, 111, 119, 110]⟩] 9))
    subst e2
    clear e1
    go_wp2_with fail
    go_ret2
    have h9 := H9.out
    rw [show (u.alloc (.cells #[.bool v.ok, .slice v.ba v.bounds.length v.bc, .slice v.wa v.rows.length v.wc] 49)).heap.size = u.heap.size + 1 by simp] at h9
    exact lines_ret HL1.out HRE.out rfl h9 H8.out
  have e0 : E = 0 := by have := HEC.out; omega
  have hE0 : anE s = 0 := by rw [HE.out]; exact e0
  have HF := hidp (vfit_of hE0 HVB.out HVR.out HV.out.bounds.wf)
  have HL1 : Hid (repV s = wAdm :: (ordL s.tasks).map (fun i => lineR s v.bounds (v.rows.map RowR.zs) i.toNat)) := hidp (by rw [HRV.out, if_pos e0]; unfold repL; rw [HVB.out, HVR.out])
  subst e0
  clear e1 e2 hE0 f1
  have HGL : Hid (s.tasks.length ≤ 6) := hidp (Good.of HO.out).ntasks.2
  have HNM : Hid (∀ t ∈ s.tasks, t.name.size ≤ 100) := hidp (fun t h => by
    have := (Good.of HO.out).form t h
    unfold formB at this
    rw [Bool.and_eq_true] at this
    have h1 := this.1
    unfold nameB at h1
    rw [Bool.and_eq_true] at h1
    have := (of_decide_eq_true h1.1).2
    omega)
  have HPN : Hid (∀ t ∈ s.tasks, t.parts.length ≤ 6) := hidp (fun t h => by
    have h1 := (okS_iff s).1 HO.out
    obtain ⟨k, hk, rfl⟩ := mem_getD h
    have h2 := (taskE_ok (h1.2 k hk)).2.2.2
    unfold partsB at h2
    rw [Bool.and_eq_true] at h2
    have := inB_true.1 h2.1
    omega)
  obtain ⟨proto, ca, cc, cores, ha, hc, homes, ta, tc, tasks⟩ := s
  obtain ⟨ok, ba, bc, bounds, wa, wc, rows⟩ := v
  dsimp only at HGL HNM HPN HL1 HBV ⊢
  obtain ⟨N, hN⟩ : ∃ N, tasks.length = N := ⟨_, rfl⟩
  have HN := hidp hN
  have hb1 : bounds.length = N := HF.out.nb.trans hN
  have hr1 : rows.length = N := HF.out.nr.trans hN
  have HNB := hidp hb1
  have HNR := hidp hr1
  have hLL : ((ordL tasks).map (fun i => lineR ⟨proto, ca, cc, cores, ha, hc, homes, ta, tc, tasks⟩ bounds (rows.map RowR.zs) i.toNat)).length = N := by rw [List.length_map, ordL_len, hN]
  have HLL := hidp hLL
  obtain ⟨x0, x1, x2, x3⟩ := SC1.out
  dsimp only at x0 x1 x2 x3
  have h6 := HGL.out
  rw [hN] at x3 h6
  have HBV2 : Hid (Bk (u.alloc (.cells #[.bool ok, .slice ba N bc, .slice wa N wc] 49)) u.heap.size 49 #[.bool ok, .slice ba N bc, .slice wa N wc]) := hidp (Bk.new _ _ _)
  have HLTV : Hid (u.heap.size < (u.alloc (.cells #[.bool ok, .slice ba N bc, .slice wa N wc] 49)).heap.size) := hidp (by simp)
  clear HBV
  rw [hb1, hr1] at HB1 HV x3 ⊢
  dsimp only at HB1 HV
  have HX3 := hidp x3
  have HS1 := hidp (HS.out.keep (Keeps.of_below HB1.out))
  have CR := rorder_any ⟨proto, ca, cc, cores, ha, hc, homes, ta, tc, tasks⟩ ((u.alloc (.cells #[.bool ok, .slice ba N bc, .slice wa N wc] 49)).alloc (.cells #[.string ⟨#[97, 100, 109, 105, 116, 116, 101, 100]⟩] 9)) (HS1.out.keep (Keeps.alloc _ _)) (by dsimp only; rw [hN]; omega)
  dsimp only at CR
  rw [hN] at CR
  have HCR := hidp CR
  have HSL := hidp (strL_lit (u.alloc (.cells #[.bool ok, .slice ba N bc, .slice wa N wc] 49)) [⟨#[97, 100, 109, 105, 116, 116, 101, 100]⟩] (by intro x hx; rw [List.mem_singleton.1 hx]; decide) (by simp))
  obtain ⟨x0, x1, x2, -⟩ := SC1.out
  dsimp only at x0 x1 x2
  rw [hb1, hr1] at x0 x1 x2
  clear CR hLL hb1 hr1 hN SC1
  go_upto_region 9 with fail
  generalize u.alloc (.cells #[.bool ok, .slice ba N bc, .slice wa N wc] 49) = u1 at *
  generalize u.heap.size = gv at *
  have HB3 := hidp (HB1.out.alloc HB1.out.size (.cells #[.string ⟨#[97, 100, 109, 105, 116, 116, 101, 100]⟩] 9))
  have y0 := (Keeps.alloc u1 (.cells #[.string ⟨#[97, 100, 109, 105, 116, 116, 101, 100]⟩] 9)) _ _ x0
  have y1 := (Keeps.alloc u1 (.cells #[.string ⟨#[97, 100, 109, 105, 116, 116, 101, 100]⟩] 9)) _ _ x1
  have y2 := (Keeps.alloc u1 (.cells #[.string ⟨#[97, 100, 109, 105, 116, 116, 101, 100]⟩] 9)) _ _ x2
  have y3 := (Keeps.alloc u1 (.cells #[.string ⟨#[97, 100, 109, 105, 116, 116, 101, 100]⟩] 9)) _ _ x3
  go_wp2_with fail
  refine HCR.out.mono ?_
  rintro e w1 ⟨D, d, rfl, hod, hbd⟩
  have HOD := hidp hod
  have HB9 := hidp (HB3.out.trans (hbd.mono HB3.out.size))
  have HX1 := hidp ((Keeps.of_below hbd) _ _ y3)
  have HKW := hidp (Keeps.trans (Keeps.alloc u1 (.cells #[.string ⟨#[97, 100, 109, 105, 116, 116, 101, 100]⟩] 9)) (Keeps.of_below hbd))
  have HBV1 := hidp ((HBV2.out.alloc (.cells #[.string ⟨#[97, 100, 109, 105, 116, 116, 101, 100]⟩] 9)).below hbd)
  have HG0 : Hid (w.heap.size < u1.heap.size) := hidp (cell_lt HX3.out)
  have HW1 : Hid (u1.heap.size < w1.heap.size) := hidp (by have := hbd.size; simp at this; omega)
  have HL0 : Hid (StrL w.heap.size w1 (some ⟨u1.heap.size, 0, none⟩) 1 1 [wAdm]) := hidp ((HSL.out.turned (Turned.of_below hbd []) (by simp)).low (B' := w.heap.size) (Nat.le_of_lt HG0.out))
  have ht0 := Turned.refl [u1.heap.size] w1
  have HDF : Hid (∀ q ∈ fp D, q ≠ u1.heap.size ∧ q < w1.heap.size) := hidp (fun q hq => by have := own_fp hod.own q hq; simp at this; omega)
  clear hod hbd x0 x1 x2 x3 y0 y1 y2 y3 HCR HSL HB3
  go_wp2_with fail
  go_loopg [8, 10] N (fun g ln i wr => ∃ (k c : Nat) (A : Option Addr), k + g = N ∧ i = .int .i64 k ∧ ln = .slice A (k + 1) c ∧ Hid (StrL w.heap.size wr A (k + 1) c (wAdm :: ((ordL tasks).take k).map (fun i => lineR ⟨proto, ca, cc, cores, ha, hc, homes, ta, tc, tasks⟩ bounds (rows.map RowR.zs) i.toNat))) ∧ Hid (Turned [u1.heap.size] w1 wr) ∧ Hid (∀ q ∈ fp A, q = u1.heap.size ∨ w1.heap.size ≤ q))
  case atStart => exact ⟨0, 1, some ⟨u1.heap.size, 0, none⟩, by omega, rfl, rfl, hidp (by simpa using HL0.out), hidp ht0, hidp (by simp [fp])⟩
  case round =>
    clear HL0 ht0
    obtain ⟨k, c, A, hk, rfl, rfl, HLN, HTU, HAF⟩ := hrel
    obtain ⟨wo, rfl⟩ : ∃ x, x = wr := ⟨_, rfl⟩
    have wk : IntKind.i64.wrap ((k : Int) + 1) = (k : Int) + 1 := IntWalk.i64_in _ (by omega)
    have HBo := hidp (HB9.out.trans (HTU.out.below HB9.out.size (by simp; have := HG0.out; omega)))
    by_cases hlt : k < N
    · -- a task
      have hkl : k < (ordL tasks).length := by rw [ordL_len, HN.out]; exact hlt
      obtain ⟨q, Hq⟩ : ∃ q : Nat, Hid ((ordL tasks).getD k 0 = (q : Int)) := by
        have hm : (ordL tasks).getD k 0 ∈ ordL tasks := by simp [List.getD, hkl]
        have := ordL_in hm
        exact ⟨((ordL tasks).getD k 0).toNat, by show _ = _; omega⟩
      have hq : q < N := by
        have hm : (ordL tasks).getD k 0 ∈ ordL tasks := by simp [List.getD, hkl]
        have h1 := ordL_in hm
        rw [Hq.out, HN.out] at h1; omega
      have hql : q < tasks.length := by rw [HN.out]; exact hq
      have HTk : Hid (((ordL tasks).take (k + 1)).map (fun i => lineR ⟨proto, ca, cc, cores, ha, hc, homes, ta, tc, tasks⟩ bounds (rows.map RowR.zs) i.toNat) = ((ordL tasks).take k).map (fun i => lineR ⟨proto, ca, cc, cores, ha, hc, homes, ta, tc, tasks⟩ bounds (rows.map RowR.zs) i.toNat) ++ [lineR ⟨proto, ca, cc, cores, ha, hc, homes, ta, tc, tasks⟩ bounds (rows.map RowR.zs) q]) := hidp (by
        rw [List.take_succ_eq_append_getElem hkl, List.map_append]
        have h1 := Hq.out
        simp only [List.getD, List.getElem?_eq_getElem hkl, Option.getD_some] at h1
        rw [List.map_cons, List.map_nil, h1, Int.toNat_natCast])
      obtain ⟨gd, rfl, hcd⟩ := HOD.out.at0 (by rw [ordL_len, HN.out]; omega)
      have dk : wo.cell? ⟨gd, k, none⟩ = some (.int .i64 (q : Int)) := by
        have h1 := HTU.out.cell (hcd k hkl) (by have := HDF.out gd (by simp [fp]); simp; omega)
        rwa [Hq.out] at h1
      obtain ⟨⟨nm, per, dl, prio, cl, pa, pc, ps⟩, Ht⟩ : ∃ t, Hid (tasks.getD q default = t) := ⟨_, hidp rfl⟩
      have HTm : Hid ((⟨nm, per, dl, prio, cl, pa, pc, ps⟩ : TaskR) ∈ tasks) := hidp (by rw [← Ht.out]; simp [List.getD, hql])
      have HTO := hidp (HS.out.tasks.ok _ HTm.out)
      obtain ⟨P, hP⟩ : ∃ P, ps.length = P := ⟨_, rfl⟩
      have HP := hidp hP
      have hP6 : P ≤ 6 := by have := HPN.out _ HTm.out; dsimp only at this; omega
      have hnm : nm.size ≤ 100 := HNM.out _ HTm.out
      have K0 := Keeps.of_below HBo.out
      obtain ⟨gt, ot, rfl, hct⟩ := HS.out.tasks.at_.resolve_left (by intro e; dsimp only at e; rw [e] at hql; simp at hql)
      have hct2 := (hct q hql).keep K0
      dsimp only at hct2
      rw [Ht.out] at hct2
      obtain ⟨c0, c1, c2, c3, c4, c5⟩ := hct2
      dsimp only at c0 c1 c2 c3 c4 c5
      rw [hP] at c5
      obtain ⟨gb, ob, rfl, cb⟩ := Row.at_ HV.out.bounds.at_ (i := q) (by dsimp only; rw [HNB.out]; exact hq)
      obtain ⟨bd, Hbd⟩ : ∃ z, Hid (bounds.getD q 0 = z) := ⟨_, hidp rfl⟩
      dsimp only at cb
      rw [Hbd.out] at cb
      have HBI : Hid (I64 bd) := hidp (by rw [← Hbd.out]; exact getD_i64 HF.out.bi q)
      obtain ⟨gw, ow, rfl, cwr⟩ := RowsAt.at_ HV.out.at_ (i := q) (by dsimp only; rw [HNR.out]; exact hq)
      obtain ⟨⟨ra, rc, rz⟩, Hrw⟩ : ∃ r, Hid (rows.getD q default = r) := ⟨_, hidp rfl⟩
      dsimp only at cwr
      rw [Hrw.out] at cwr
      have HRM : Hid ((⟨ra, rc, rz⟩ : RowR) ∈ rows) := hidp (by
        have hr : q < rows.length := by rw [HNR.out]; exact hq
        rw [← Hrw.out]; simp [List.getD, hr])
      have HRO := hidp (HV.out.rows _ HRM.out)
      have HRG : Hid ((rows.map RowR.zs).getD q [] = rz) := hidp (by
        have hr : q < rows.length := by rw [HNR.out]; exact hq
        have h1 := Hrw.out
        simp only [List.getD, List.getElem?_eq_getElem hr, Option.getD_some, List.getElem?_map, Option.map_some] at h1 ⊢
        rw [h1])
      have HRL : Hid (rz.length = P) := hidp (by
        have h1 := HF.out.nw q hql
        dsimp only at h1
        rw [HRG.out, Ht.out] at h1
        exact h1.trans hP)
      have hgu := HG0.out
      have hgv := HLTV.out
      have s0 := HTU.out.cell (p := ⟨w.heap.size, 3, none⟩) HX1.out (by simp; omega)
      have s1 := HTU.out.cell (p := ⟨gv, 1, none⟩) (HBV1.out.cell 1) (by simp <;> omega)
      have s2 := HTU.out.cell (p := ⟨gv, 2, none⟩) (HBV1.out.cell 2) (by simp <;> omega)
      have HK1 : Hid (Keeps u1 w1) := HKW
      have hblk : ∀ p v, u1.cell? p = some v → wo.cell? p = some v := fun p v hpv => HTU.out.cell (HK1.out p v hpv) (by have := cell_lt hpv; simp; omega)
      have cbo := hblk _ _ cb
      have cwo := hblk _ _ cwr
      have HRWo := hidp (HRO.out.at_.mono hblk)
      clear cb cwr hcd hct K0 hP hblk hgu hgv
      have s3 := s2
      have hs : wo.drew.cell? ⟨w.heap.size, 3, none⟩ = some (.slice (some ⟨gt, ot, none⟩) N tc) ∧ wo.drew.cell? ⟨gd, k, none⟩ = some (.int .i64 (q : Int)) ∧ wo.drew.cell? ⟨gt, ot + q * 6, none⟩ = some (.string nm) ∧ wo.drew.cell? ⟨gt, ot + q * 6 + 1, none⟩ = some (.int .i64 per) ∧ wo.drew.cell? ⟨gt, ot + q * 6 + 2, none⟩ = some (.int .i64 dl) ∧ wo.drew.cell? ⟨gt, ot + q * 6 + 3, none⟩ = some (.int .i64 prio) ∧ wo.drew.cell? ⟨gt, ot + q * 6 + 4, none⟩ = some (.int .i64 cl) ∧ wo.drew.cell? ⟨gt, ot + q * 6 + 5, none⟩ = some (.slice pa P pc) := ⟨s0, dk, c0, c1, c2, c3, c4, c5⟩
      have hza : Below wo.drew.heap.size wo.drew (wo.drew.alloc (.cells #[.string ⟨#[]⟩, .int .i64 0, .int .i64 0, .int .i64 0, .int .i64 0, .slice none 0 0] 41)) := (Below.refl _ _).alloc (Nat.le_refl _) _
      have kz := Keeps.of_below hza
      have hs1 := (And.intro (kz _ _ hs.1) (And.intro (kz _ _ hs.2.1) (And.intro (kz _ _ hs.2.2.1) (And.intro (kz _ _ hs.2.2.2.1) (And.intro (kz _ _ hs.2.2.2.2.1) (And.intro (kz _ _ hs.2.2.2.2.2.1) (And.intro (kz _ _ hs.2.2.2.2.2.2.1) (kz _ _ hs.2.2.2.2.2.2.2))))))))
      have hta : Below wo.drew.heap.size wo.drew (wo.drew.alloc (.cells #[.string nm, .int .i64 per, .int .i64 dl, .int .i64 prio, .int .i64 cl, .slice pa P pc] 41)) := (Below.refl _ _).alloc (Nat.le_refl _) _
      have kt := Keeps.of_below hta
      have hs2 := (And.intro (kt _ _ hs.1) (And.intro (kt _ _ hs.2.1) (And.intro (kt _ _ hs.2.2.1) (And.intro (kt _ _ hs.2.2.2.1) (And.intro (kt _ _ hs.2.2.2.2.1) (And.intro (kt _ _ hs.2.2.2.2.2.1) (And.intro (kt _ _ hs.2.2.2.2.2.2.1) (kt _ _ hs.2.2.2.2.2.2.2))))))))
      have HTA := hidp (below_drewN hta 1)
      have BT := Bk.new wo.drew 41 #[.string nm, .int .i64 per, .int .i64 dl, .int .i64 prio, .int .i64 cl, .slice pa P pc]
      have HBT := hidp BT
      have q0 : (0 : Int) ≤ (q : Int) := by omega
      have q1 : (q : Int) < (N : Int) := by omega
      have kI0 : (0 : Int) ≤ (k : Int) := by omega
      have kI1 : (k : Int) < (N : Int) := by omega
      obtain ⟨xb, Hxb, sxb, CXB⟩ := rt_calls bd HBI.out
      obtain ⟨xd, Hxd, sxd, CXD⟩ := rt_calls dl HTO.out.dl
      have t0 := BT.cell 0
      have t2 := BT.cell 2
      have t5 := BT.cell 5
      clear hza hta kz BT s0 c0 c1 c2 c3 c4 c5 hql hkl
      go_wp2_with fail
      refine wp_region_held_drew (S := fun u => u.cell? ⟨w.heap.size, 3, none⟩ = some (.slice (some ⟨gt, ot, none⟩) N tc) ∧ u.cell? ⟨gd, k, none⟩ = some (.int .i64 (q : Int)) ∧ u.cell? ⟨gt, ot + q * 6, none⟩ = some (.string nm) ∧ u.cell? ⟨gt, ot + q * 6 + 1, none⟩ = some (.int .i64 per) ∧ u.cell? ⟨gt, ot + q * 6 + 2, none⟩ = some (.int .i64 dl) ∧ u.cell? ⟨gt, ot + q * 6 + 3, none⟩ = some (.int .i64 prio) ∧ u.cell? ⟨gt, ot + q * 6 + 4, none⟩ = some (.int .i64 cl) ∧ u.cell? ⟨gt, ot + q * 6 + 5, none⟩ = some (.slice pa P pc)) (by kernel_rfl) ?_ (fun hHeld => ?_)
      · exact hs
      refine wpAnyH_take (i := 0) (v := ?_) rfl (by kernel_rfl) (by kernel_rfl) (by kernel_rfl) (fun _ _ _ h => h) (Or.inl ⟨by rfl, ?_⟩) (by assumption) ?_
      rotate_left 1
      · ((intro w hSw; (try dsimp only at hSw); go_simp); (try with_reducible rfl))
      simp only [Act.put, List.setIfInBounds_toArray, List.set_cons_zero, List.set_cons_succ, List.getElem_toArray, List.getElem_cons_zero, List.getElem_cons_succ]
      refine wpAnyH_take (i := 1) (v := ?_) rfl (by kernel_rfl) (by kernel_rfl) (by kernel_rfl) (fun _ _ _ h => h) (Or.inl ⟨by rfl, ?_⟩) (by assumption) ?_
      rotate_left 1
      · ((intro w hSw; (try dsimp only at hSw); go_simp); (try with_reducible rfl))
      simp only [Act.put, List.setIfInBounds_toArray, List.set_cons_zero, List.set_cons_succ, List.getElem_toArray, List.getElem_cons_zero, List.getElem_cons_succ]
      refine wpAnyH_take (i := 2) (v := ?_) rfl (by kernel_rfl) (by kernel_rfl) (by kernel_rfl) (fun _ _ _ h => h) (Or.inl ⟨by rfl, ?_⟩) (by assumption) ?_
      rotate_left 1
      · ((intro w hSw; (try dsimp only at hSw); go_simp); (try with_reducible rfl))
      simp only [Act.put, List.setIfInBounds_toArray, List.set_cons_zero, List.set_cons_succ, List.getElem_toArray, List.getElem_cons_zero, List.getElem_cons_succ]
      refine wpAnyH_take (i := 3) (v := ?_) rfl (by kernel_rfl) (by kernel_rfl) (by kernel_rfl) (fun _ _ _ h => h) (Or.inl ⟨by rfl, ?_⟩) (by assumption) ?_
      rotate_left 1
      · ((intro w hSw; (try dsimp only at hSw); go_simp); (try with_reducible rfl))
      simp only [Act.put, List.setIfInBounds_toArray, List.set_cons_zero, List.set_cons_succ, List.getElem_toArray, List.getElem_cons_zero, List.getElem_cons_succ]
      refine wpAnyH_take (i := 4) (v := ?_) rfl (by kernel_rfl) (by kernel_rfl) (by kernel_rfl) (fun _ _ _ h => h) (Or.inl ⟨by rfl, ?_⟩) (by assumption) ?_
      rotate_left 1
      · ((intro w hSw; (try dsimp only at hSw); go_simp); (try with_reducible rfl))
      simp only [Act.put, List.setIfInBounds_toArray, List.set_cons_zero, List.set_cons_succ, List.getElem_toArray, List.getElem_cons_zero, List.getElem_cons_succ]
      refine wpAnyH_take (i := 5) (v := ?_) rfl (by kernel_rfl) (by kernel_rfl) (by kernel_rfl) (fun _ _ _ h => h) (Or.inl ⟨by rfl, ?_⟩) (by assumption) ?_
      rotate_left 1
      · ((intro w hSw; (try dsimp only at hSw); go_simp); (try with_reducible rfl))
      simp only [Act.put, List.setIfInBounds_toArray, List.set_cons_zero, List.set_cons_succ, List.getElem_toArray, List.getElem_cons_zero, List.getElem_cons_succ]
      refine wpAnyH_take (i := 6) (v := ?_) rfl (by kernel_rfl) (by kernel_rfl) (by kernel_rfl) (fun _ _ _ h => h) (Or.inl ⟨by rfl, ?_⟩) (by assumption) ?_
      rotate_left 1
      · ((intro w hSw; (try dsimp only at hSw); go_simp); (try with_reducible rfl))
      simp only [Act.put, List.setIfInBounds_toArray, List.set_cons_zero, List.set_cons_succ, List.getElem_toArray, List.getElem_cons_zero, List.getElem_cons_succ]
      refine wpAnyH_take (i := 7) (v := ?_) rfl (by kernel_rfl) (by kernel_rfl) (by kernel_rfl) (fun _ _ _ h => h) (Or.inl ⟨by rfl, ?_⟩) (by assumption) ?_
      rotate_left 1
      · ((intro w hSw; (try dsimp only at hSw); go_simp); (try with_reducible rfl))
      simp only [Act.put, List.setIfInBounds_toArray, List.set_cons_zero, List.set_cons_succ, List.getElem_toArray, List.getElem_cons_zero, List.getElem_cons_succ]
      refine wpAnyH_ready (rs := [8]) (by kernel_rfl) (by simp) ?_
      refine AllReadyH.cons rfl (fun K hK => ?_) AllReadyH.nil
      go_simp
      refine hK.out _ _ ?_ (fun hHeld => ?_)
      · exact hs1
      clear hK K
      try simp only [Act.put, List.setIfInBounds_toArray, List.set_cons_zero, List.set_cons_succ, List.getElem_toArray, List.getElem_cons_zero, List.getElem_cons_succ]
      refine wpAnyH_ready (rs := [9]) (by kernel_rfl) (by simp) ?_
      refine AllReadyH.cons rfl (fun K hK => ?_) AllReadyH.nil
      go_simp
      refine hK.out _ _ ?_ (fun hHeld => ?_)
      · exact hs2
      clear hK K
      try simp only [Act.put, List.setIfInBounds_toArray, List.set_cons_zero, List.set_cons_succ, List.getElem_toArray, List.getElem_cons_zero, List.getElem_cons_succ]
      refine wpAnyH_done (by kernel_rfl) ?_ _
      clear hs hs1 hs2 hHeld
      have r0 := kt _ _ s1
      have r1 := kt _ _ dk
      have r2 := kt _ _ cbo
      have HR3 := hidp (kt _ _ s2)
      have HR4 := hidp (kt _ _ cwo)
      have HRW1 := hidp (HRWo.out.mono kt)
      have HPA := hidp ((HTO.out.at_.keep (Keeps.of_below HBo.out)).keep kt)
      have HTP := hidp HTO.out.wf
      have HDk := hidp r1
      have HT5 := hidp t5
      have HZI := hidp HRO.out.wf
      have HT0 : Hid (Below wo.drew.heap.size wo.drew (wo.drew.alloc (.cells #[.string nm, .int .i64 per, .int .i64 dl, .int .i64 prio, .int .i64 cl, .slice pa P pc] 41))) := hidp ((Below.refl _ _).alloc (Nat.le_refl _) _)
      clear s1 s2 s3 cbo cwo dk kt HTA
      rw [show wo.drew.alloc (.cells #[.string nm, .int .i64 per, .int .i64 dl, .int .i64 prio, .int .i64 cl, .slice pa P pc] 41) = (wo.alloc (.cells #[.string nm, .int .i64 per, .int .i64 dl, .int .i64 prio, .int .i64 cl, .slice pa P pc] 41)).drew from rfl] at t0 t2 r0 r1 r2 HR3 HR4 HRW1 HPA HDk HT5 HT0
      go_upto_region 15 with fail
      generalize (wo.alloc (.cells #[.string nm, .int .i64 per, .int .i64 dl, .int .i64 prio, .int .i64 cl, .slice pa P pc] 41)).drew = v1 at *
      have hs : v1.drew.cell? ⟨wo.heap.size, 0, none⟩ = some (.string nm) ∧ v1.drew.cell? ⟨wo.heap.size, 2, none⟩ = some (.int .i64 dl) ∧ v1.drew.cell? ⟨gv, 1, none⟩ = some (.slice (some ⟨gb, ob, none⟩) N bc) ∧ v1.drew.cell? ⟨gd, k, none⟩ = some (.int .i64 (q : Int)) ∧ v1.drew.cell? ⟨gb, ob + q, none⟩ = some (.int .i64 bd) := ⟨t0, t2, r0, r1, r2⟩
      have m1 : ¬ 9223372036854775807 < nm.size + 1 := by omega
      have m2 : ¬ 9223372036854775807 < nm.size + 1 + xb.size := by omega
      have m3 : ¬ 9223372036854775807 < nm.size + 1 + xb.size + 1 := by omega
      have m4 : ¬ 9223372036854775807 < nm.size + 1 + xb.size + 1 + xd.size := by omega
      have HX : Hid (bl (nm ++ ⟨#[32]⟩ ++ xb ++ ⟨#[32]⟩ ++ xd) = joinT 32 (wordsR ⟨proto, ca, cc, cores, ha, hc, homes, some ⟨gt, ot, none⟩, tc, tasks⟩ bounds (rows.map RowR.zs) q 0) ∧ (nm ++ ⟨#[32]⟩ ++ xb ++ ⟨#[32]⟩ ++ xd).size ≤ 130) := hidp ⟨by
        simp only [bl_append, Hxb.out, Hxd.out]
        unfold wordsR locksL
        dsimp only
        rw [Ht.out, Hbd.out]
        show bl nm ++ [32] ++ textL bd ++ [32] ++ textL dl = joinT 32 [bl nm, textL bd, textL dl]
        simp [joinT], by
        simp only [ByteArray.size_append]
        show nm.size + 1 + xb.size + 1 + xd.size ≤ 130
        omega⟩
      clear t0 t2 r0 r1 r2 t5
      refine wp_region_held_drew (S := fun u => u.cell? ⟨wo.heap.size, 0, none⟩ = some (.string nm) ∧ u.cell? ⟨wo.heap.size, 2, none⟩ = some (.int .i64 dl) ∧ u.cell? ⟨gv, 1, none⟩ = some (.slice (some ⟨gb, ob, none⟩) N bc) ∧ u.cell? ⟨gd, k, none⟩ = some (.int .i64 (q : Int)) ∧ u.cell? ⟨gb, ob + q, none⟩ = some (.int .i64 bd)) (by kernel_rfl) ?_ (fun hHeld => ?_)
      · exact hs
      refine wpAnyH_take (i := 0) (v := ?_) rfl (by kernel_rfl) (by kernel_rfl) (by kernel_rfl) (fun _ _ _ h => h) (Or.inl ⟨by rfl, ?_⟩) (by assumption) ?_
      rotate_left 1
      · ((intro w hSw; (try dsimp only at hSw); go_simp); (try with_reducible rfl))
      simp only [Act.put, List.setIfInBounds_toArray, List.set_cons_zero, List.set_cons_succ, List.getElem_toArray, List.getElem_cons_zero, List.getElem_cons_succ]
      refine wpAnyH_take (i := 1) (v := ?_) rfl (by kernel_rfl) (by kernel_rfl) (by kernel_rfl) (fun _ _ _ h => h) (Or.inl ⟨by rfl, ?_⟩) (by assumption) ?_
      rotate_left 1
      · ((intro w hSw; (try dsimp only at hSw); go_simp); (try with_reducible rfl))
      simp only [Act.put, List.setIfInBounds_toArray, List.set_cons_zero, List.set_cons_succ, List.getElem_toArray, List.getElem_cons_zero, List.getElem_cons_succ]
      refine wpAnyH_take (i := 2) (v := ?_) rfl (by kernel_rfl) (by kernel_rfl) (by kernel_rfl) (fun _ _ _ h => h) (Or.inl ⟨by rfl, ?_⟩) (by assumption) ?_
      rotate_left 1
      · ((intro w hSw; (try dsimp only at hSw); go_simp); (try with_reducible rfl))
      simp only [Act.put, List.setIfInBounds_toArray, List.set_cons_zero, List.set_cons_succ, List.getElem_toArray, List.getElem_cons_zero, List.getElem_cons_succ]
      refine wpAnyH_take (i := 3) (v := ?_) rfl (by kernel_rfl) (by kernel_rfl) (by kernel_rfl) (fun _ _ _ h => h) (Or.inl ⟨by rfl, ?_⟩) (by assumption) ?_
      rotate_left 1
      · ((intro w hSw; (try dsimp only at hSw); go_simp); (try with_reducible rfl))
      simp only [Act.put, List.setIfInBounds_toArray, List.set_cons_zero, List.set_cons_succ, List.getElem_toArray, List.getElem_cons_zero, List.getElem_cons_succ]
      refine wpAnyH_take (i := 4) (v := ?_) rfl (by kernel_rfl) (by kernel_rfl) (by kernel_rfl) (fun _ _ _ h => h) (Or.inl ⟨by rfl, ?_⟩) (by assumption) ?_
      rotate_left 1
      · ((intro w hSw; (try dsimp only at hSw); go_simp); (try with_reducible rfl))
      simp only [Act.put, List.setIfInBounds_toArray, List.set_cons_zero, List.set_cons_succ, List.getElem_toArray, List.getElem_cons_zero, List.getElem_cons_succ]
      refine wpAnyH_take (i := 5) (v := ?_) rfl (by kernel_rfl) (by kernel_rfl) (by kernel_rfl) (fun _ _ _ h => h) (Or.inl ⟨by rfl, ?_⟩) (by assumption) ?_
      rotate_left 1
      · ((intro w hSw; (try dsimp only at hSw); go_simp); (try with_reducible rfl))
      simp only [Act.put, List.setIfInBounds_toArray, List.set_cons_zero, List.set_cons_succ, List.getElem_toArray, List.getElem_cons_zero, List.getElem_cons_succ]
      refine wpAnyH_take (i := 6) (v := ?_) rfl (by kernel_rfl) (by kernel_rfl) (by kernel_rfl) (fun _ _ _ h => h) (Or.inl ⟨by rfl, ?_⟩) (by assumption) ?_
      rotate_left 1
      · ((intro w hSw; (try dsimp only at hSw); go_simp); (try with_reducible rfl))
      simp only [Act.put, List.setIfInBounds_toArray, List.set_cons_zero, List.set_cons_succ, List.getElem_toArray, List.getElem_cons_zero, List.getElem_cons_succ]
      refine wpAnyH_take (i := 7) (v := ?_) rfl (by kernel_rfl) (by kernel_rfl) (by kernel_rfl) (fun _ _ _ h => h) (Or.inl ⟨by rfl, ?_⟩) (by assumption) ?_
      rotate_left 1
      · ((intro w hSw; (try dsimp only at hSw); go_simp); (try with_reducible rfl))
      simp only [Act.put, List.setIfInBounds_toArray, List.set_cons_zero, List.set_cons_succ, List.getElem_toArray, List.getElem_cons_zero, List.getElem_cons_succ]
      refine wpAnyH_take (i := 8) (v := ?_) rfl (by kernel_rfl) (by kernel_rfl) (by kernel_rfl) (fun _ _ _ h => h) (Or.inl ⟨by rfl, ?_⟩) (by assumption) ?_
      rotate_left 1
      · ((intro w hSw; (try dsimp only at hSw); go_simp); (try with_reducible rfl))
      simp only [Act.put, List.setIfInBounds_toArray, List.set_cons_zero, List.set_cons_succ, List.getElem_toArray, List.getElem_cons_zero, List.getElem_cons_succ]
      refine wpAnyH_take (i := 9) (v := ?_) rfl (by kernel_rfl) (by kernel_rfl) (by kernel_rfl) (fun _ _ _ h => h) (Or.inl ⟨by rfl, ?_⟩) (by assumption) ?_
      rotate_left 1
      · ((intro w hSw; (try dsimp only at hSw); go_simp); (try with_reducible rfl))
      simp only [Act.put, List.setIfInBounds_toArray, List.set_cons_zero, List.set_cons_succ, List.getElem_toArray, List.getElem_cons_zero, List.getElem_cons_succ]
      refine wpAnyH_take (i := 10) (v := ?_) rfl (by kernel_rfl) (by kernel_rfl) (by kernel_rfl) (fun _ _ _ h => h) (Or.inl ⟨by rfl, ?_⟩) (by assumption) ?_
      rotate_left 1
      · ((intro w hSw; (try dsimp only at hSw); go_simp); (try with_reducible rfl))
      simp only [Act.put, List.setIfInBounds_toArray, List.set_cons_zero, List.set_cons_succ, List.getElem_toArray, List.getElem_cons_zero, List.getElem_cons_succ]
      refine wpAnyH_take (i := 14) (v := ?_) rfl (by kernel_rfl) (by kernel_rfl) (by kernel_rfl) (fun _ _ _ h => h) (Or.inl ⟨by rfl, ?_⟩) (by assumption) ?_
      rotate_left 1
      · ((intro w hSw; (try dsimp only at hSw); go_simp); (try with_reducible rfl))
      simp only [Act.put, List.setIfInBounds_toArray, List.set_cons_zero, List.set_cons_succ, List.getElem_toArray, List.getElem_cons_zero, List.getElem_cons_succ]
      refine wpAnyH_take (i := 15) (v := ?_) rfl (by kernel_rfl) (by kernel_rfl) (by kernel_rfl) (fun _ _ _ h => h) (Or.inl ⟨by rfl, ?_⟩) (by assumption) ?_
      rotate_left 1
      · ((intro w hSw; (try dsimp only at hSw); go_simp); (try with_reducible rfl))
      simp only [Act.put, List.setIfInBounds_toArray, List.set_cons_zero, List.set_cons_succ, List.getElem_toArray, List.getElem_cons_zero, List.getElem_cons_succ]
      refine wpAnyH_ready (rs := [11]) (by kernel_rfl) (by simp) ?_
      refine AllReadyH.cons rfl (fun K hK => ?_) AllReadyH.nil
      go_simp
      refine (CXB.out _).mono ?_
      rintro e v2 ⟨rfl, hb7⟩
      have k7 := Keeps.of_below hb7
      have hs7 := (And.intro (k7 _ _ hs.1) (And.intro (k7 _ _ hs.2.1) (And.intro (k7 _ _ hs.2.2.1) (And.intro (k7 _ _ hs.2.2.2.1) (k7 _ _ hs.2.2.2.2)))))
      have HB7 := hidp ((Below.refl v1.heap.size v1).drew.trans (hb7.mono (Nat.le_refl _)))
      clear hb7 k7
      refine hK.out _ _ ?_ (fun hHeld => ?_)
      · exact hs7
      clear hK K
      try simp only [Act.put, List.setIfInBounds_toArray, List.set_cons_zero, List.set_cons_succ, List.getElem_toArray, List.getElem_cons_zero, List.getElem_cons_succ]
      refine wpAnyH_take (i := 12) (v := ?_) rfl (by kernel_rfl) (by kernel_rfl) (by kernel_rfl) (fun _ _ _ h => h) (Or.inl ⟨by rfl, ?_⟩) (by assumption) ?_
      rotate_left 1
      · ((intro w hSw; (try dsimp only at hSw); go_simp); (try with_reducible rfl))
      simp only [Act.put, List.setIfInBounds_toArray, List.set_cons_zero, List.set_cons_succ, List.getElem_toArray, List.getElem_cons_zero, List.getElem_cons_succ]
      refine wpAnyH_take (i := 13) (v := ?_) rfl (by kernel_rfl) (by kernel_rfl) (by kernel_rfl) (fun _ _ _ h => h) (Or.inl ⟨by rfl, ?_⟩) (by assumption) ?_
      rotate_left 1
      · ((intro w hSw; (try dsimp only at hSw); go_simp); (try with_reducible rfl))
      simp only [Act.put, List.setIfInBounds_toArray, List.set_cons_zero, List.set_cons_succ, List.getElem_toArray, List.getElem_cons_zero, List.getElem_cons_succ]
      refine wpAnyH_ready (rs := [16]) (by kernel_rfl) (by simp) ?_
      refine AllReadyH.cons rfl (fun K hK => ?_) AllReadyH.nil
      go_simp
      refine (CXD.out _).mono ?_
      rintro e v3 ⟨rfl, hb8⟩
      have k8 := Keeps.of_below hb8
      have hs8 := (And.intro (k8 _ _ hs7.1) (And.intro (k8 _ _ hs7.2.1) (And.intro (k8 _ _ hs7.2.2.1) (And.intro (k8 _ _ hs7.2.2.2.1) (k8 _ _ hs7.2.2.2.2)))))
      have HB8 := hidp (HB7.out.trans (hb8.mono HB7.out.size))
      clear hb8 k8
      refine hK.out _ _ ?_ (fun hHeld => ?_)
      · exact hs8
      clear hK K
      try simp only [Act.put, List.setIfInBounds_toArray, List.set_cons_zero, List.set_cons_succ, List.getElem_toArray, List.getElem_cons_zero, List.getElem_cons_succ]
      refine wpAnyH_take (i := 17) (v := ?_) rfl (by kernel_rfl) (by kernel_rfl) (by kernel_rfl) (fun _ _ _ h => h) (Or.inl ⟨by rfl, ?_⟩) (by assumption) ?_
      rotate_left 1
      · ((intro w hSw; (try dsimp only at hSw); go_simp); (try with_reducible rfl))
      simp only [Act.put, List.setIfInBounds_toArray, List.set_cons_zero, List.set_cons_succ, List.getElem_toArray, List.getElem_cons_zero, List.getElem_cons_succ]
      refine wpAnyH_take (i := 18) (v := ?_) rfl (by kernel_rfl) (by kernel_rfl) (by kernel_rfl) (fun _ _ _ h => h) (Or.inl ⟨by rfl, ?_⟩) (by assumption) ?_
      rotate_left 1
      · ((intro w hSw; (try dsimp only at hSw); go_simp); (try with_reducible rfl))
      simp only [Act.put, List.setIfInBounds_toArray, List.set_cons_zero, List.set_cons_succ, List.getElem_toArray, List.getElem_cons_zero, List.getElem_cons_succ]
      refine wpAnyH_done (by kernel_rfl) ?_ _
      clear hs hs7 hs8 hHeld m1 m2 m3 m4
      generalize hL0 : nm ++ ⟨#[32]⟩ ++ xb ++ ⟨#[32]⟩ ++ xd = X at *
      have hX := HX.out.2
      have HBv := hidp (Below.refl v3.heap.size v3)
      have HKv := hidp (Keeps.of_below HB8.out)
      have HT5v := hidp (HKv.out _ _ HT5.out)
      clear hL0 CXB CXD
      go_wp2_with fail
      go_loopg [12, 13] P (fun g l i wi => ∃ (j : Nat) (L : ByteArray), j + g = P ∧ i = .int .i64 j ∧ l = .string L ∧ Hid (bl L = joinT 32 (wordsR ⟨proto, ca, cc, cores, ha, hc, homes, some ⟨gt, ot, none⟩, tc, tasks⟩ bounds (rows.map RowR.zs) q j)) ∧ L.size ≤ 130 + 10 * j ∧ Hid (Below v3.heap.size v3 wi))
      case atStart => exact ⟨0, X, by omega, rfl, rfl, hidp HX.out.1, by omega, HBv⟩
      case round =>
        clear hX HBv
        obtain ⟨j, L, hj, rfl, rfl, HLv, hLz, HBi⟩ := hrel
        have wj : IntKind.i64.wrap ((j : Int) + 1) = (j : Int) + 1 := IntWalk.i64_in _ (by omega)
        have KI := Keeps.of_below HBi.out
        have c5 : wr.cell? ⟨wo.heap.size, 5, none⟩ = some (.slice pa P pc) := KI _ _ HT5v.out
        by_cases hjn : j < P
        · have hjl : j < ps.length := by rw [HP.out]; exact hjn
          obtain ⟨gp, op, rfl, hcp⟩ := ((HPA.out.keep HKv.out).keep KI).resolve_left (by intro e; rw [e] at hjl; simp at hjl)
          obtain ⟨⟨kd, ln, rs⟩, Hp⟩ : ∃ p, Hid (ps.getD j default = p) := ⟨_, hidp rfl⟩
          obtain ⟨e0, e1, e2⟩ : PartCells wr gp (op + j * 3) ⟨kd, ln, rs⟩ := Hp.out ▸ hcp j hjl
          dsimp only at e0 e1 e2
          have b3 : (0 : Int) ≤ (j : Int) := by omega
          have b4 : (j : Int) < (P : Int) := by omega
          by_cases hk3 : kd = 3
          · subst hk3
            have HW : Hid (joinT 32 (wordsR ⟨proto, ca, cc, cores, ha, hc, homes, some ⟨gt, ot, none⟩, tc, tasks⟩ bounds (rows.map RowR.zs) q (j + 1)) = joinT 32 (wordsR ⟨proto, ca, cc, cores, ha, hc, homes, some ⟨gt, ot, none⟩, tc, tasks⟩ bounds (rows.map RowR.zs) q j) ++ 32 :: textL (rz.getD j 0)) := hidp (by
              refine words_more ?_
              unfold wordsR
              dsimp only
              rw [Ht.out, HRG.out]
              dsimp only
              rw [locksL_yes (by rw [Hp.out])]
              rfl)
            have hjz : j < rz.length := by rw [HRL.out]; exact hjn
            obtain ⟨gz, oz, rfl, cz⟩ := Row.at_ HRW1.out hjz
            obtain ⟨zv, Hzv⟩ : ∃ z, Hid (rz.getD j 0 = z) := ⟨_, hidp rfl⟩
            have HZV : Hid (I64 zv) := hidp (by rw [← Hzv.out]; exact getD_i64 HZI.out j)
            rw [Hzv.out] at cz
            have r1 := KI _ _ (HKv.out _ _ HR3.out)
            have r2 := KI _ _ (HKv.out _ _ HR4.out)
            have r3 := KI _ _ (HKv.out _ _ cz)
            have r4 := KI _ _ (HKv.out _ _ HDk.out)
            have r2b : wr.cell? ⟨gw, ow + q, none⟩ = some (.slice (some ⟨gz, oz, none⟩) P rc) := by rw [r2]; unfold RowR.val; dsimp only; rw [HRL.out]
            obtain ⟨xz, Hxz, sxz, CXZ⟩ := rt_calls zv HZV.out
            have hs : wr.drew.cell? ⟨gv, 2, none⟩ = some (.slice (some ⟨gw, ow, none⟩) N wc) ∧ wr.drew.cell? ⟨gd, k, none⟩ = some (.int .i64 (q : Int)) ∧ wr.drew.cell? ⟨gw, ow + q, none⟩ = some (.slice (some ⟨gz, oz, none⟩) P rc) ∧ wr.drew.cell? ⟨gz, oz + j, none⟩ = some (.int .i64 zv) := ⟨r1, r4, r2b, r3⟩
            have n1 : ¬ 9223372036854775807 < L.size + 1 := by omega
            have n2 : ¬ 9223372036854775807 < L.size + 1 + xz.size := by omega
            have HQ : Hid (bl (L ++ ⟨#[32]⟩ ++ xz) = joinT 32 (wordsR ⟨proto, ca, cc, cores, ha, hc, homes, some ⟨gt, ot, none⟩, tc, tasks⟩ bounds (rows.map RowR.zs) q (j + 1)) ∧ (L ++ ⟨#[32]⟩ ++ xz).size ≤ L.size + 10) := hidp ⟨by
              simp only [bl_append, Hxz.out, HLv.out, HW.out, Hzv.out]
              show _ ++ [32] ++ _ = _
              simp, by
              simp only [ByteArray.size_append]
              show L.size + 1 + xz.size ≤ _
              omega⟩
            have HBd := hidp (below_drewN HBi.out 1)
            clear hcp hjl r2 cz hjz r1 r3 r4 r2b
            go_wp2_with fail
            refine wp_region_held_drew (S := fun u => u.cell? ⟨gv, 2, none⟩ = some (.slice (some ⟨gw, ow, none⟩) N wc) ∧ u.cell? ⟨gd, k, none⟩ = some (.int .i64 (q : Int)) ∧ u.cell? ⟨gw, ow + q, none⟩ = some (.slice (some ⟨gz, oz, none⟩) P rc) ∧ u.cell? ⟨gz, oz + j, none⟩ = some (.int .i64 zv)) (by kernel_rfl) ?_ (fun hHeld => ?_)
            · exact hs
            refine wpAnyH_take (i := 0) (v := ?_) rfl (by kernel_rfl) (by kernel_rfl) (by kernel_rfl) (fun _ _ _ h => h) (Or.inl ⟨by rfl, ?_⟩) (by assumption) ?_
            rotate_left 1
            · ((intro w hSw; (try dsimp only at hSw); go_simp); (try with_reducible rfl))
            simp only [Act.put, List.setIfInBounds_toArray, List.set_cons_zero, List.set_cons_succ, List.getElem_toArray, List.getElem_cons_zero, List.getElem_cons_succ]
            refine wpAnyH_take (i := 1) (v := ?_) rfl (by kernel_rfl) (by kernel_rfl) (by kernel_rfl) (fun _ _ _ h => h) (Or.inl ⟨by rfl, ?_⟩) (by assumption) ?_
            rotate_left 1
            · ((intro w hSw; (try dsimp only at hSw); go_simp); (try with_reducible rfl))
            simp only [Act.put, List.setIfInBounds_toArray, List.set_cons_zero, List.set_cons_succ, List.getElem_toArray, List.getElem_cons_zero, List.getElem_cons_succ]
            refine wpAnyH_take (i := 2) (v := ?_) rfl (by kernel_rfl) (by kernel_rfl) (by kernel_rfl) (fun _ _ _ h => h) (Or.inl ⟨by rfl, ?_⟩) (by assumption) ?_
            rotate_left 1
            · ((intro w hSw; (try dsimp only at hSw); go_simp); (try with_reducible rfl))
            simp only [Act.put, List.setIfInBounds_toArray, List.set_cons_zero, List.set_cons_succ, List.getElem_toArray, List.getElem_cons_zero, List.getElem_cons_succ]
            refine wpAnyH_take (i := 3) (v := ?_) rfl (by kernel_rfl) (by kernel_rfl) (by kernel_rfl) (fun _ _ _ h => h) (Or.inl ⟨by rfl, ?_⟩) (by assumption) ?_
            rotate_left 1
            · ((intro w hSw; (try dsimp only at hSw); go_simp); (try with_reducible rfl))
            simp only [Act.put, List.setIfInBounds_toArray, List.set_cons_zero, List.set_cons_succ, List.getElem_toArray, List.getElem_cons_zero, List.getElem_cons_succ]
            refine wpAnyH_take (i := 4) (v := ?_) rfl (by kernel_rfl) (by kernel_rfl) (by kernel_rfl) (fun _ _ _ h => h) (Or.inl ⟨by rfl, ?_⟩) (by assumption) ?_
            rotate_left 1
            · ((intro w hSw; (try dsimp only at hSw); go_simp); (try with_reducible rfl))
            simp only [Act.put, List.setIfInBounds_toArray, List.set_cons_zero, List.set_cons_succ, List.getElem_toArray, List.getElem_cons_zero, List.getElem_cons_succ]
            refine wpAnyH_take (i := 5) (v := ?_) rfl (by kernel_rfl) (by kernel_rfl) (by kernel_rfl) (fun _ _ _ h => h) (Or.inl ⟨by rfl, ?_⟩) (by assumption) ?_
            rotate_left 1
            · ((intro w hSw; (try dsimp only at hSw); go_simp); (try with_reducible rfl))
            simp only [Act.put, List.setIfInBounds_toArray, List.set_cons_zero, List.set_cons_succ, List.getElem_toArray, List.getElem_cons_zero, List.getElem_cons_succ]
            refine wpAnyH_take (i := 6) (v := ?_) rfl (by kernel_rfl) (by kernel_rfl) (by kernel_rfl) (fun _ _ _ h => h) (Or.inl ⟨by rfl, ?_⟩) (by assumption) ?_
            rotate_left 1
            · ((intro w hSw; (try dsimp only at hSw); go_simp); (try with_reducible rfl))
            simp only [Act.put, List.setIfInBounds_toArray, List.set_cons_zero, List.set_cons_succ, List.getElem_toArray, List.getElem_cons_zero, List.getElem_cons_succ]
            refine wpAnyH_take (i := 7) (v := ?_) rfl (by kernel_rfl) (by kernel_rfl) (by kernel_rfl) (fun _ _ _ h => h) (Or.inl ⟨by rfl, ?_⟩) (by assumption) ?_
            rotate_left 1
            · ((intro w hSw; (try dsimp only at hSw); go_simp); (try with_reducible rfl))
            simp only [Act.put, List.setIfInBounds_toArray, List.set_cons_zero, List.set_cons_succ, List.getElem_toArray, List.getElem_cons_zero, List.getElem_cons_succ]
            refine wpAnyH_take (i := 8) (v := ?_) rfl (by kernel_rfl) (by kernel_rfl) (by kernel_rfl) (fun _ _ _ h => h) (Or.inl ⟨by rfl, ?_⟩) (by assumption) ?_
            rotate_left 1
            · ((intro w hSw; (try dsimp only at hSw); go_simp); (try with_reducible rfl))
            simp only [Act.put, List.setIfInBounds_toArray, List.set_cons_zero, List.set_cons_succ, List.getElem_toArray, List.getElem_cons_zero, List.getElem_cons_succ]
            refine wpAnyH_take (i := 9) (v := ?_) rfl (by kernel_rfl) (by kernel_rfl) (by kernel_rfl) (fun _ _ _ h => h) (Or.inl ⟨by rfl, ?_⟩) (by assumption) ?_
            rotate_left 1
            · ((intro w hSw; (try dsimp only at hSw); go_simp); (try with_reducible rfl))
            simp only [Act.put, List.setIfInBounds_toArray, List.set_cons_zero, List.set_cons_succ, List.getElem_toArray, List.getElem_cons_zero, List.getElem_cons_succ]
            refine wpAnyH_take (i := 10) (v := ?_) rfl (by kernel_rfl) (by kernel_rfl) (by kernel_rfl) (fun _ _ _ h => h) (Or.inl ⟨by rfl, ?_⟩) (by assumption) ?_
            rotate_left 1
            · ((intro w hSw; (try dsimp only at hSw); go_simp); (try with_reducible rfl))
            simp only [Act.put, List.setIfInBounds_toArray, List.set_cons_zero, List.set_cons_succ, List.getElem_toArray, List.getElem_cons_zero, List.getElem_cons_succ]
            refine wpAnyH_take (i := 11) (v := ?_) rfl (by kernel_rfl) (by kernel_rfl) (by kernel_rfl) (fun _ _ _ h => h) (Or.inl ⟨by rfl, ?_⟩) (by assumption) ?_
            rotate_left 1
            · ((intro w hSw; (try dsimp only at hSw); go_simp); (try with_reducible rfl))
            simp only [Act.put, List.setIfInBounds_toArray, List.set_cons_zero, List.set_cons_succ, List.getElem_toArray, List.getElem_cons_zero, List.getElem_cons_succ]
            refine wpAnyH_take (i := 12) (v := ?_) rfl (by kernel_rfl) (by kernel_rfl) (by kernel_rfl) (fun _ _ _ h => h) (Or.inl ⟨by rfl, ?_⟩) (by assumption) ?_
            rotate_left 1
            · ((intro w hSw; (try dsimp only at hSw); go_simp); (try with_reducible rfl))
            simp only [Act.put, List.setIfInBounds_toArray, List.set_cons_zero, List.set_cons_succ, List.getElem_toArray, List.getElem_cons_zero, List.getElem_cons_succ]
            refine wpAnyH_ready (rs := [13]) (by kernel_rfl) (by simp) ?_
            refine AllReadyH.cons rfl (fun K hK => ?_) AllReadyH.nil
            go_simp
            refine (CXZ.out _).mono ?_
            rintro e v4 ⟨rfl, hb9⟩
            have k9 := Keeps.of_below hb9
            have hs9 := (And.intro (k9 _ _ hs.1) (And.intro (k9 _ _ hs.2.1) (And.intro (k9 _ _ hs.2.2.1) (k9 _ _ hs.2.2.2))))
            have HBx := hidp (HBd.out.trans (hb9.mono HBd.out.size))
            clear hb9 k9
            refine hK.out _ _ ?_ (fun hHeld => ?_)
            · exact hs9
            clear hK K
            try simp only [Act.put, List.setIfInBounds_toArray, List.set_cons_zero, List.set_cons_succ, List.getElem_toArray, List.getElem_cons_zero, List.getElem_cons_succ]
            refine wpAnyH_take (i := 14) (v := ?_) rfl (by kernel_rfl) (by kernel_rfl) (by kernel_rfl) (fun _ _ _ h => h) (Or.inl ⟨by rfl, ?_⟩) (by assumption) ?_
            rotate_left 1
            · ((intro w hSw; (try dsimp only at hSw); go_simp); (try with_reducible rfl))
            simp only [Act.put, List.setIfInBounds_toArray, List.set_cons_zero, List.set_cons_succ, List.getElem_toArray, List.getElem_cons_zero, List.getElem_cons_succ]
            refine wpAnyH_take (i := 15) (v := ?_) rfl (by kernel_rfl) (by kernel_rfl) (by kernel_rfl) (fun _ _ _ h => h) (Or.inl ⟨by rfl, ?_⟩) (by assumption) ?_
            rotate_left 1
            · ((intro w hSw; (try dsimp only at hSw); go_simp); (try with_reducible rfl))
            simp only [Act.put, List.setIfInBounds_toArray, List.set_cons_zero, List.set_cons_succ, List.getElem_toArray, List.getElem_cons_zero, List.getElem_cons_succ]
            refine wpAnyH_done (by kernel_rfl) ?_ _
            clear hs hs9 hHeld n1 n2 e0 e1 e2
            go_wp2_with fail
            go_roundg (gk - 1)
            case measure => omega
            case rel => exact ⟨j + 1, L ++ ⟨#[32]⟩ ++ xz, by omega, by go_num, rfl, hidp HQ.out.1, by have := HQ.out.2; omega, HBx⟩
          · have fk : (kd == 3) = false := by rw [beq_eq_false_iff_ne]; exact hk3
            have HW : Hid (wordsR ⟨proto, ca, cc, cores, ha, hc, homes, some ⟨gt, ot, none⟩, tc, tasks⟩ bounds (rows.map RowR.zs) q (j + 1) = wordsR ⟨proto, ca, cc, cores, ha, hc, homes, some ⟨gt, ot, none⟩, tc, tasks⟩ bounds (rows.map RowR.zs) q j) := hidp (by
              unfold wordsR
              dsimp only
              rw [Ht.out, HRG.out]
              dsimp only
              rw [locksL_no (by rw [Hp.out]; exact hk3)])
            clear hcp hjl hk3
            go_wp2_with fail
            go_roundg (gk - 1)
            case measure => omega
            case rel => exact ⟨j + 1, L, by omega, by go_num, rfl, hidp (by rw [HW.out]; exact HLv.out), by omega, HBi⟩
        · obtain rfl : j = P := by omega
          have HLV : Hid (bl L = lineR ⟨proto, ca, cc, cores, ha, hc, homes, some ⟨gt, ot, none⟩, tc, tasks⟩ bounds (rows.map RowR.zs) q) := hidp (by
            rw [HLv.out]
            unfold lineR
            rw [Ht.out]
            dsimp only
            rw [HP.out])
          have tA := ((Turned.refl [] wo).drew.trans (Turned.of_below HT0.out []) (by simp)).trans (((Turned.of_below HB8.out []).trans (Turned.of_below HBi.out []) (by simp)).alloc (.cells #[.string L] 9)) (by simp)
          have HTB := hidp tA
          have HLx := hidp (HLN.out.turned tA (by simp))
          have HBw2 := hidp (HBo.out.trans (tA.below (B := w.heap.size) HBo.out.size (by simp)))
          obtain ⟨i0, hi0, hy0, hy1, hy2⟩ := info_parts infoStr
          obtain ⟨xs, hown, happL⟩ := HLx.out.own
          have HAP := hidp happL
          have S2' := hidp (new_liesW wr [.string L] 9)
          have O2 := hidp (str_one [L])
          have N2 : Hid (k + 1 + 1 ≤ maxLen) := hidp (by unfold maxLen; omega)
          have T2 : Hid ((k + 1 + 1) * 16 ≤ 140737488355328) := hidp (by omega)
          have Z2 := hidp HBw2.out.size
          clear happL tA
          go_wp2_with (at_builtin; refine wpList_app2 _ rfl (.tmp 97) (.tmp 99) 28 rfl w.heap.size 9 i0 _ 1 16 Tryz.underlying28 hi0 hy0 hy1 hy2 rfl (by decide) A (k + 1) c _ rfl hown _ _ 1 1 [.string L] rfl (by simp) rfl S2'.out O2.out N2.out T2.out Z2.out ?_; intro A9 c9 w6 happ)
          go_roundg (N - k - 1)
          case measure => omega
          case rel => exact ⟨k + 1, c9, A9, by omega, by go_num, rfl, hidp (by
            have h1 := HAP.out _ _ _ _ L (by omega) happ
            rw [HLV.out] at h1
            rw [HTk.out]
            exact h1), hidp ((HTU.out.trans HTB.out (by simp)).trans happ.turned (fun i hi => by
              rcases HAF.out i hi with e | e
              · left; simp [e]
              · right; exact e)), hidp (fun i hi => by
              rcases happ.fps i hi with e | e
              · exact HAF.out i e
              · right
                have h1 := HTU.out.size
                have h3 := HTB.out.size
                omega)⟩
    · obtain rfl : k = N := by omega
      go_wp2_with fail
      go_ret2
      have h5 := HLN.out
      rw [List.take_of_length_le (by rw [ordL_len, HN.out]; exact Nat.le_refl _)] at h5
      exact lines_ret HL1.out HRE.out (by rw [List.length_cons, HLL.out]) h5 HBo.out
end Go.Proofs.YtjjlpaampmpdfaaGreatDoor

namespace Go.Proofs.YtjjlpaampmpdfaaGreatDoor
open Go.ChangeShapes Go.WideShapes Go.ChangeAt Go.RowKit
set_option linter.unusedVariables false
def FewQ19 (w : World) (s : SetR) (e : Ending) (w' : World) : Prop := (∃ b : Bool, e = .returned (.bool b) ∧ (b = true → FewS s ∧ s.tasks.length ≤ 9)) ∧ Below w.heap.size w w'
set_option maxRecDepth 100000 in
theorem fews19_any (s : SetR) (w : World) (hs : SetOk w s) : Calls Tryz.prog 8 #[.agg #[.int .i64 s.proto, .slice s.ca s.cores.length s.cc, .slice s.ha s.homes.length s.hc, .slice s.ta s.tasks.length s.tc]] w (FewQ19 w s) := by
  have hb := (Below.refl w.heap.size w).alloc (Nat.le_refl _) (.cells #[.int .i64 s.proto, .slice s.ca s.cores.length s.cc, .slice s.ha s.homes.length s.hc, .slice s.ta s.tasks.length s.tc] 25)
  have CB := hidp (SetCells.new w s 25)
  have l1 : s.tasks.length ≤ maxLen := Nat.le_trans hs.tasks.sl.2.1 hs.tasks.sl.2.2
  have l2 : s.cores.length ≤ maxLen := Nat.le_trans hs.cores.sl.2.1 hs.cores.sl.2.2
  have l3 : s.homes.length ≤ maxLen := Nat.le_trans hs.homes.sl.2.1 hs.homes.sl.2.2
  unfold maxLen at l1 l2 l3
  have HR := hidp hs.tasks.at_
  have Hok := hidp hs.tasks.ok
  clear hs
  obtain ⟨proto, ca, cc, cores, ha, hc, homes, ta, tc, tasks⟩ := s
  dsimp only at HR Hok l1 l2 l3 hb ⊢
  have F : ∀ w', Below w.heap.size w w' → FewQ19 w ⟨proto, ca, cc, cores, ha, hc, homes, ta, tc, tasks⟩ (.returned (.bool false)) w' := fun w' h => ⟨⟨false, rfl, fun e => by cases e⟩, h⟩
  have HF := hidp F
  clear F
  have hc0 : (8 : Int) < (cores.length : Int) ∨ ¬ (8 : Int) < (cores.length : Int) ∧ (10 : Int) < (homes.length : Int) ∨ ¬ (8 : Int) < (cores.length : Int) ∧ ¬ (10 : Int) < (homes.length : Int) ∧ (9 : Int) < (tasks.length : Int) ∨ ¬ (8 : Int) < (cores.length : Int) ∧ ¬ (10 : Int) < (homes.length : Int) ∧ ¬ (9 : Int) < (tasks.length : Int) := by omega
  rcases hc0 with h | ⟨h, g⟩ | ⟨h, g, f⟩ | ⟨h, g, f⟩
  · go_enter Tryz.func8, Tryz.ntmps8
    go_wp2
    go_ret
    exact HF.out _ hb
  · go_enter Tryz.func8, Tryz.ntmps8
    go_wp2
    go_ret
    exact HF.out _ hb
  · go_enter Tryz.func8, Tryz.ntmps8
    go_wp2
    go_ret
    exact HF.out _ hb
  · go_enter Tryz.func8, Tryz.ntmps8
    go_wp2
    go_loopg [3] tasks.length (fun gg i wr => ∃ k : Nat, k + gg = tasks.length ∧ i = .int .i64 k ∧ SetCells wr w.heap.size ⟨proto, ca, cc, cores, ha, hc, homes, ta, tc, tasks⟩ ∧ Below w.heap.size w wr ∧ Hid (∀ j, j < k → (tasks.getD j default).parts.length ≤ 10))
    case atStart => exact ⟨0, by omega, rfl, CB.out, hb, hidp (by omega)⟩
    case round =>
      obtain ⟨k, hk, rfl, sc, hw, Hj⟩ := hrel
      have sc2 := sc
      obtain ⟨c0, c1, c2, c3⟩ := sc2
      dsimp only at c0 c1 c2 c3
      by_cases hlt : k < tasks.length
      · obtain ⟨g0, off, hA, hcl⟩ := HR.out.resolve_left (by intro e; rw [e] at hlt; simp at hlt)
        subst hA
        obtain ⟨t, HT⟩ : ∃ t, Hid (tasks.getD k default = t) := ⟨_, rfl⟩
        have tcl := (HT.out ▸ hcl k hlt).keep (Keeps.of_below hw)
        obtain ⟨d0, _, _, _, _, d5⟩ := tcl
        have hok := Hok.out t (HT.out ▸ getD_mem hlt)
        have n1 := hok.name
        have n2 : t.parts.length ≤ maxLen := Nat.le_trans hok.sl.2.1 hok.sl.2.2
        unfold maxLen at n1 n2
        clear hcl hok
        by_cases z1 : (20 : Int) < (t.name.size : Int)
        · go_wp2
          go_ret
          exact HF.out _ hw
        · by_cases z2 : (10 : Int) < (t.parts.length : Int)
          · go_wp2
            go_ret
            exact HF.out _ hw
          · have Hj2 : Hid (∀ j, j < k + 1 → (tasks.getD j default).parts.length ≤ 10) := hidp (by
              intro j hj
              by_cases e : j = k
              · subst e; rw [HT.out]; omega
              · exact Hj.out j (by omega))
            go_wp2
            go_roundg (gk - 1)
            case measure => omega
            case rel => exact ⟨k + 1, by omega, by go_num, sc, hw, Hj2⟩
      · have hk2 : k = tasks.length := by omega
        have HQ : Hid (FewS ⟨proto, ca, cc, cores, ha, hc, homes, ta, tc, tasks⟩ ∧ tasks.length ≤ 9) := hidp (by
          refine ⟨⟨by dsimp only; omega, by dsimp only; omega, by dsimp only; omega, fun t ht => ?_⟩, by omega⟩
          obtain ⟨j, hj, rfl⟩ := mem_getD ht
          dsimp only at hj
          have := Hj.out j (by omega)
          dsimp only
          omega)
        go_wp2
        go_ret
        exact ⟨⟨true, rfl, fun _ => HQ.out⟩, hw⟩

end Go.Proofs.YtjjlpaampmpdfaaGreatDoor

set_option maxHeartbeats 16000000
set_option maxRecDepth 100000
set_option linter.unusedSimpArgs false
namespace Go.Proofs.YtjjlpaampmpdfaaGreatDoor.reportTells
open Go.ChangeShapes Go.WideShapes Go.ChangeAt Go.RowKit
open Go.ChangeMaps (open_string shut_string)
set_option linter.unusedVariables false

/-- THE WALK: the Go text returns true, and writes nothing that was there. -/
theorem walk (s0 : SetR) (w : World) (w0 : SetOk w s0) (hTab : Go.Lib.TabIs Tryz.prog w "internal/strconv.uint64pow10" .u64 Go.Lib.pow10Tab) :
    Calls Tryz.prog 3 #[.agg #[.int .i64 s0.proto, .slice s0.ca s0.cores.length s0.cc, .slice s0.ha s0.homes.length s0.hc, .slice s0.ta s0.tasks.length s0.tc]] w fun e w' => e = .returned (.bool true) ∧ Below w.heap.size w w' := by
  have HT : Hid (∀ u, Below w.heap.size w u → Tab u) := hidp (fun u hu => Tab.over (show Tab w from hTab) hu)
  obtain ⟨proto, ca, cc, cores, ha, hc, homes, ta, tc, tasks⟩ := s0
  have hb := (Below.refl w.heap.size w).alloc (Nat.le_refl _) (.cells #[.int .i64 proto, .slice ca cores.length cc, .slice ha homes.length hc, .slice ta tasks.length tc] 25)
  have sb : SetCells (w.alloc (.cells #[.int .i64 proto, .slice ca cores.length cc, .slice ha homes.length hc, .slice ta tasks.length tc] 25)) w.heap.size ⟨proto, ca, cc, cores, ha, hc, homes, ta, tc, tasks⟩ := SetCells.new w ⟨proto, ca, cc, cores, ha, hc, homes, ta, tc, tasks⟩ _
  have hs := w0.keep (Keeps.of_below hb)
  clear w0 hTab
  go_enter Tryz.func3, Tryz.ntmps3
  go_wp2_with fail
  refine (known19_any _ (fun x hx => HT.out x (hb.trans (hx.mono hb.size)))).mono ?_
  rintro e u1 ⟨rfl, hb2⟩
  replace hb := hb.trans (hb2.mono hb.size)
  replace sb := sb.keep (Keeps.of_below hb2)
  replace hs := hs.keep (Keeps.of_below hb2)
  clear hb2
  obtain ⟨z0, z1, z2, z3⟩ := id sb
  dsimp only at z0 z1 z2 z3
  go_wp2_with fail
  refine (fews19_any ⟨proto, ca, cc, cores, ha, hc, homes, ta, tc, tasks⟩ _ hs).mono ?_
  rintro e u2 ⟨⟨b, rfl, hfew⟩, hb2⟩
  replace hb := hb.trans (hb2.mono hb.size)
  replace sb := sb.keep (Keeps.of_below hb2)
  replace hs := hs.keep (Keeps.of_below hb2)
  clear hb2 z0 z1 z2 z3
  cases b
  · clear hfew
    go_wp2_with fail
    go_ret
    exact ⟨rfl, hb⟩
  have HTL : Hid (tasks.length ≤ 9) := hidp (hfew rfl).2
  obtain ⟨z0, z1, z2, z3⟩ := id sb
  dsimp only at z0 z1 z2 z3
  have HB := hidp hb
  have HSB := hidp sb
  have HS := hidp hs
  have CL := hidp (rlines19_any ⟨proto, ca, cc, cores, ha, hc, homes, ta, tc, tasks⟩ u2 hs (fun x hx => HT.out x (hb.trans (hx.mono hb.size))))
  clear hb hs sb hfew
  go_wp2_with fail
  refine CL.out.mono ?_
  rintro e u3 ⟨A, c, rfl, hsl, hb3⟩
  have HSL := hidp hsl
  have HB3 := hidp (HB.out.trans (hb3.mono HB.out.size))
  have CR := hidp (rreport_any ⟨proto, ca, cc, cores, ha, hc, homes, ta, tc, tasks⟩ u3 (HS.out.keep (Keeps.of_below hb3)))
  obtain ⟨y0, y1, y2, y3⟩ := HSB.out.keep (Keeps.of_below hb3)
  dsimp only at y0 y1 y2 y3
  clear hsl hb3 z0 z1 z2 z3 CL
  go_wp2_with fail
  refine CR.out.mono ?_
  rintro e u4 ⟨A2, c2, rfl, hsl2, hb4⟩
  have HB4 := hidp (HB3.out.trans (hb4.mono HB3.out.size))
  have CS := hidp (same19_yes (HSL.out.turned (Turned.of_below hb4 []) (by simp)) hsl2 (by
    have := HTL.out
    unfold repV
    split
    · rw [repL_len]; dsimp only; omega
    · split
      · simp
      · split <;> simp))
  obtain ⟨E, hE⟩ : ∃ E, repE ⟨proto, ca, cc, cores, ha, hc, homes, ta, tc, tasks⟩ = E := ⟨_, rfl⟩
  obtain ⟨NL, hNL⟩ : ∃ n, (repV ⟨proto, ca, cc, cores, ha, hc, homes, ta, tc, tasks⟩).length = n := ⟨_, rfl⟩
  rw [hNL] at CS
  rw [hE, hNL]
  have e1 : (E == E) = true := by simp
  clear hsl2 hb4 CR y0 y1 y2 y3 hE hNL
  go_wp2_with fail
  refine CS.out.mono ?_
  rintro e u5 ⟨rfl, hq⟩
  have HB5 := hidp (hq.below HB4.out)
  clear hq CS
  go_wp2_with fail
  go_ret
  exact ⟨rfl, HB5.out⟩

theorem own : ownKnob Tryz.prog.godebug = none := by kernel_rfl
theorem laidOut : laidOutB Tryz.prog = true := by kernel_rfl
def cellsD : DataW Unit → List Value
  | .agg ds => ds.flatMap fun
    | .lit (.int k z) => [Value.int k z]
    | .agg es => es.flatMap fun
      | .lit (.int k z) => [Value.int k z]
      | _ => []
    | _ => []
  | _ => []
def layTab (d : DataW Unit) : Obj → Obj
  | .cells _ t frozen => .cells (cellsD d).toArray t frozen
  | o => o
/-- a world in which the listed tables lie: the witness -/
noncomputable def laidWorld (os : Os) : World := { World.holding Tryz.prog os ⟨#[], #[], []⟩ with heap := ((((World.holding Tryz.prog os ⟨#[], #[], []⟩).heap.modify 2 (layTab Rows.laid_math_bits_deBruijn32tab)).modify 3 (layTab Rows.laid_math_bits_deBruijn64tab)).modify 1 (layTab Rows.laid_internal_strconv_uint64pow10)) }
theorem laid_met (os : Os) (args : Array Value) : laidMetH Tryz.prog Rows.reportTellsRow.laid ((laidWorld os).forCall (fun _ _ => 0) ⟨#[], args, []⟩).memory :=
  laidMet_of_run' 8 (by kernel_rfl) (by kernel_rfl)
theorem witness_row (os : Os) {H : Type} (enc : TypeId × Value → H) :
    (OpenSpec.ofChange Rows.reportTellsSpec).preRow enc Tryz.prog Tryz.f3 Rows.reportTellsRow.domain false Rows.reportTellsRow.laid ((laidWorld os).forCall (fun _ _ => 0) ⟨#[], #[.agg #[.int .i64 0, .slice none 0 0, .slice none 0 0, .slice none 0 0]], []⟩).memory #[.agg #[.int .i64 0, .slice none 0 0, .slice none 0 0, .slice none 0 0]] := by
  have hw : (DataW.whole enc Tryz.prog ((laidWorld os).forCall (fun _ _ => 0) ⟨#[], #[.agg #[.int .i64 0, .slice none 0 0, .slice none 0 0, .slice none 0 0]], []⟩).memory Tryz.f3.params.toList (OpenSpec.ofChange Rows.reportTellsSpec).vars false (#[.agg #[.int .i64 0, .slice none 0 0, .slice none 0 0, .slice none 0 0]] : Array Value).toList 8).map (fun x => (x.1, x.2.1)) =
      some ([.agg [.lit (.int .i64 0), .nil, .nil, .nil]], []) := by kernel_rfl
  obtain ⟨⟨x1, x2, x3⟩, hx, hx1⟩ := Option.map_eq_some_iff.1 hw
  simp only [Prod.mk.injEq] at hx1
  obtain ⟨rfl, rfl⟩ := hx1
  exact OpenSpec.preRow_of_cond 8 hx (by kernel_rfl) (fun k hk => by cases hk) (by kernel_rfl) (laid_met os _)

set_option maxRecDepth 100000 in
theorem lifted (os : Os) (started : os.Started) (H : Type) (enc : TypeId × Value → H) (F0 : Stop.Interp) :
    ReturnsInHanded {} Tryz.checked os 3 .any ((OpenSpec.ofChange Rows.reportTellsSpec).preRow enc Tryz.prog Tryz.f3 Rows.reportTellsRow.domain false Rows.reportTellsRow.laid) (((OpenSpec.ofChange Rows.reportTellsSpec).at F0).post enc Tryz.prog Tryz.f3 false true false false) := by
  refine returnsInHanded_of_row (C := Tryz.checked) (s := OpenSpec.ofChange Rows.reportTellsSpec) own started (by kernel_rfl) Tryz.func3
    (witness_row_at (enc := enc) (C := Tryz.checked) false (laidWorld os) #[.agg #[.int .i64 0, .slice none 0 0, .slice none 0 0, .slice none 0 0]] rfl (by kernel_rfl) (by kernel_rfl) (by kernel_rfl) (witness_row os enc)) ?_
  intro W base args ds gs before hval0 hW _ _ _ hL hsh _
  have hTab : Go.Lib.TabIs Tryz.prog W "internal/strconv.uint64pow10" .u64 Go.Lib.pow10Tab := tabPow hL
  have hval : ∀ (j : Nat) t v, Tryz.f3.params[j]? = some t → args[j]? = some v → Value.okWide Tryz.prog W .any base t v := hval0
  have hW' := hW
  obtain ⟨p, q, hA0, hV, rfl, hfz, hnd⟩ := hW
  have hA : DataW.TrodAll enc Tryz.prog W 0 (fun _ => true) true Tryz.f3.params.toList args.toList ds p := hA0
  rw [Tryz.params3] at hA hval
  obtain ⟨v0, vs0, d0, ds0, p0, q0, hargs, rfl, rfl, h0, r0⟩ := trodAll_cons hA
  obtain ⟨rfl, rfl, rfl⟩ := trodAll_nil r0
  obtain rfl : args = #[v0] := by cases args; simp_all
  obtain ⟨rfl, rfl⟩ := trodVars_none hV
  have k0 := h0
  have lt0 : ∀ x ∈ p0, x.block < W.heap.size := by obtain ⟨m, hm⟩ := k0; exact DataW.trod_lt m _ _ _ hm
  obtain ⟨s0, w0, rfl⟩ := setTypes.arg_set (hval 0 25 v0 rfl rfl) h0
  clear hA0 hval0
  refine (walk s0  W w0 hTab).mono fun e W' ⟨he, bel⟩ => ?_
  subst he
  exact ⟨_, rfl, _, _, _, [], _, [], hW', trodAll_mk1 (shut_bool Tryz.underlying4 _), (trodAll_cons_mk (Below.trod laidOut (by kernel_rfl) (of_decide_eq_true (by kernel_rfl)) k0 bel lt0) trodAll_mk0), rfl, bel.frame _, fun h => by cases h⟩

theorem over : Rows.ReportTellsSaid :=
  OpenClaim.holds_of_cond 3 Tryz.f3 rfl rfl rfl rfl rfl rfl rfl ⟨rfl, rfl, rfl, rfl, rfl⟩ rfl rfl rfl rfl rfl (by kernel_rfl) Tryz.func3 (by kernel_rfl)
    (of_decide_eq_true (by kernel_rfl)) (by unfold Func.isWrapper; first | (rw [if_pos (by decide +kernel)]; kernel_rfl) | (rw [if_neg (by decide +kernel)]; exact ⟨rfl, rfl⟩))
    (fun os started H enc _ F0 => by rw [OpenClaim.pre_eq_preRow]; exact lifted os started H enc F0)

/-- THE STATEMENT: the tied card -/
theorem proved : Rows.ReportTellsCardSaid :=
  Claim7.holds_tied_plain_at .later [] [.data, .data, .data] true (true, "4ae43c0d88ae7c83191992ae37143b99eb28f5c9a732c1732e49016fc388c3c3") false
    over (fun _ h => by cases h) (by kernel_rfl) (fun _ h => by cases h) reportTells_row_tie rfl ⟨rfl, rfl⟩ (by kernel_rfl) rfl
    (fun f fn hf hfn => by
      obtain rfl : f = 3 := Option.some.inj ((show Tryz.prog.funcNamed Rows.reportTellsRow.func = some 3 by kernel_rfl).symm.trans hf) |>.symm
      obtain rfl : fn = Tryz.f3 := (Option.some.inj (Tryz.func3.symm.trans hfn)).symm
      refine ⟨by kernel_rfl, fun j t ht => ?_⟩
      rw [Tryz.params3] at ht
      exact standIns _ (by kernel_rfl) j t ht)
    (by kernel_rfl)
#print axioms proved
end Go.Proofs.YtjjlpaampmpdfaaGreatDoor.reportTells

