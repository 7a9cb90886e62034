/- swingbridgelaw10: known. -/
import Derived.Test.YtnfkebdbfflhdaaTwoSets
import Derived.Test.YtnfkebdbfflhdaaSameInts
import Derived.Deep.CutRange
namespace Go.Proofs.Ytnfkebdbfflhdaa
open Go.ChangeShapes Go.WideShapes Go.ChangeAt Go.RowKit
set_option linter.unusedVariables false
set_option linter.unusedSimpArgs false
def knownS (n : Nat) : SetR := ⟨0, none, 0, [], none, 0, [], some ⟨n, 0, none⟩, 2, [⟨⟨#[97]⟩, 0, 0, 5, 0, none, 0, []⟩, ⟨⟨#[98]⟩, 0, 0, 2, 0, none, 0, []⟩]⟩
theorem z64 : I64 0 := by decide
theorem two_max : 2 ≤ maxLen := by decide
def zeroS : SetR := ⟨0, none, 0, [], none, 0, [], none, 0, []⟩
theorem zero_ok (w : World) : SetOk w zeroS := ⟨z64, nil_ints w, nil_ints w, ⟨⟨fun _ => ⟨rfl, rfl⟩, Nat.le_refl _, Nat.zero_le _⟩, .inl rfl, by simp [zeroS]⟩⟩
theorem known_ok {w : World} {n : Nat} {t : TypeId} (h : Bk w n t (ttc (knownS n).tasks).toArray) : SetOk w (knownS n) := by
  have tok : ∀ (nm : ByteArray) (p : Int), nm.size ≤ maxLen → I64 p → TaskOk w ⟨nm, 0, 0, p, 0, none, 0, []⟩ := fun nm p h1 h2 => ⟨h1, z64, z64, h2, z64, ⟨fun _ => ⟨rfl, rfl⟩, Nat.le_refl _, Nat.zero_le _⟩, .inl rfl, by simp⟩
  refine ⟨z64, nil_ints w, nil_ints w, ⟨⟨(fun e => by cases e), Nat.le_refl _, two_max⟩, tasks_lit h, fun t ht => ?_⟩⟩
  simp [knownS] at ht
  rcases ht with rfl | rfl
  · exact tok _ _ (by decide) (by decide)
  · exact tok _ _ (by decide) (by decide)
theorem known_ord (n : Nat) : ordL (knownS n).tasks = [1, 0] := by
  have : its (knownS n).tasks = [(5, 0), (2, 1)] := by simp [its, itsN, knownS, List.range_succ]
  unfold ordL; rw [this]; simp [isort, ins]
theorem known_tur : turL (startN 1 2) 2 2 = [1, 0] := by simp [turL, startN, List.range_succ]
/-- a set with b, a: its row's first name is b -/
theorem arr_b {s x : SetR} {n : Nat} {w : World} (hs : s = knownS n) (h : Arr s x [1, 0]) (hk : SetOk w x) : x.tasks.length = 2 ∧ ∃ b off, x.ta = some ⟨b, off, none⟩ ∧ w.cell? ⟨b, off, none⟩ = some (.string ⟨#[98]⟩) := by
  subst hs
  have hl : x.tasks.length = 2 := h.len
  have ht := congrArg (fun l => (l.getD 0 default).name) h.tasks
  rw [mapD core (by omega)] at ht
  simp [core, knownS] at ht
  obtain ⟨b, off, e, hc⟩ := hk.tasks.at_.resolve_left (by intro e; rw [e] at hl; simp at hl)
  refine ⟨hl, b, off, e, ?_⟩
  have := (hc 0 (by omega)).1
  rw [Nat.zero_mul, Nat.add_zero] at this
  rw [this]
  simp only [List.getD_eq_getElem?_getD] at ht ⊢
  rw [ht]
set_option maxHeartbeats 16000000 in
set_option maxRecDepth 100000 in
theorem known10_any (w : World) : Calls Try.prog 7 #[] w fun e w' => e = .returned (.bool true) ∧ Below w.heap.size w w' := by
  have B0 := Bk.new w 37 (ttc (knownS w.heap.size).tasks).toArray
  have hb0 := (Below.refl w.heap.size w).alloc (Nat.le_refl _) (.cells (ttc (knownS w.heap.size).tasks).toArray 37)
  obtain ⟨v0, HV0, hb, hs, bs⟩ : ∃ v, Hid ((w.alloc (.cells #[.string ⟨#[97]⟩, .int .i64 0, .int .i64 0, .int .i64 5, .int .i64 0, .slice none 0 0, .string ⟨#[98]⟩, .int .i64 0, .int .i64 0, .int .i64 2, .int .i64 0, .slice none 0 0] 37)).alloc (.cells #[.int .i64 0, .slice none 0 0, .slice none 0 0, .slice (some ⟨w.heap.size, 0, none⟩) 2 2] 25) = v) ∧ Below w.heap.size w v ∧ SetOk v (knownS w.heap.size) ∧ Bk v (w.heap.size + 1) 25 #[.int .i64 0, .slice none 0 0, .slice none 0 0, .slice (some ⟨w.heap.size, 0, none⟩) 2 2] :=
    ⟨_, hidp rfl, hb0.alloc hb0.size _, known_ok (B0.alloc _), Bk.at_ (by simp) rfl⟩
  clear B0 hb0
  obtain ⟨x0, x1, x2, x3⟩ := Z4 bs
  have Hff : Hid (FewS (knownS w.heap.size)) := hidp ⟨by simp [knownS], by simp [knownS], by simp [knownS], by simp [knownS]⟩
  go_enter Try.func7, Try.ntmps7
  go_wp2_with fail
  rw [HV0.out]
  obtain ⟨s, HSe⟩ : ∃ s, Hid (s = knownS w.heap.size) := ⟨_, hidp rfl⟩
  rw [← HSe.out] at hs Hff
  have e1 : (.agg #[.int .i64 0, .slice none 0 0, .slice none 0 0, .slice (some ⟨w.heap.size, 0, none⟩) 2 2] : Value) = .agg #[.int .i64 s.proto, .slice s.ca s.cores.length s.cc, .slice s.ha s.homes.length s.hc, .slice s.ta s.tasks.length s.tc] := by rw [HSe.out]; rfl
  have hlen : s.tasks.length = 2 := by rw [HSe.out]; rfl
  have HL : Hid (s.tasks.length ≤ 800) := hidp (by omega)
  have Hlen := hidp hlen
  have CO := order_any s v0 hs HL.out
  rw [show ordL s.tasks = [1, 0] by rw [HSe.out]; exact known_ord _] at CO
  rw [e1]
  clear e1 hlen
  refine CO.mono ?_
  rintro e u0 ⟨A, c, he, o, hb2⟩
  rw [Hlen.out] at he
  subst he
  clear CO
  have hrow := o.row
  replace hb := hb.trans (hb2.mono hb.size)
  replace hs := hs.keep (Keeps.of_below hb2)
  have sb : SetBox u0 (w.heap.size + 1) s := by rw [HSe.out]; exact Z4 (bs.below hb2)
  obtain ⟨gA, oA, eA, hcA⟩ := hrow.resolve_left (by simp)
  have cA := hcA 0 (by simp)
  rw [Nat.add_zero] at cA
  subst eA
  clear hb2 o hrow hcA bs x0 x1 x2 x3
  go_upto_region 3 with fail
  obtain ⟨v, hv⟩ : ∃ v, u0 = v := ⟨_, rfl⟩
  rw [hv] at hb hs sb cA ⊢
  have ax0 : ordL s.tasks = [1, 0] := by rw [HSe.out]; exact known_ord _
  have at0 : turL (startN 1 s.tasks.length) s.tasks.length s.tasks.length = [1, 0] := by rw [Hlen.out]; exact known_tur
  have SB := hidp sb
  have HS := hidp hs
  have HF := Hff
  have HI : Hid (I64 1) := hidp (by decide)
  have AX0 := hidp ax0
  have AT0 := hidp at0
  clear ax0 at0
  go_cut [3, 4] from 11 to 14 (fun a b wx => ∃ g4 g5 x y B2, a = .pointer (some ⟨g4, 0, none⟩) ∧ b = .pointer (some ⟨g5, 0, none⟩) ∧ TwoSets v s (ordL s.tasks) (turL (startN 1 s.tasks.length) s.tasks.length s.tasks.length) g4 g5 x y B2 wx)
  case first =>
    obtain ⟨b0, b1, b2, b3⟩ := sb
    have hbv : Below v.heap.size v v.drew := (Below.refl _ _).drew
    refine wp_region_held_drew (S := fun w' => w'.cell? ⟨w.heap.size + 1, 0, none⟩ = some (.int .i64 s.proto) ∧ w'.cell? ⟨w.heap.size + 1, 1, none⟩ = some (.slice s.ca s.cores.length s.cc) ∧ w'.cell? ⟨w.heap.size + 1, 2, none⟩ = some (.slice s.ha s.homes.length s.hc) ∧ w'.cell? ⟨w.heap.size + 1, 3, none⟩ = some (.slice s.ta s.tasks.length s.tc)) (by kernel_rfl) ?_ (fun hHeld => ?_)
    · exact SB.out.keep (Keeps.of_below hbv)
    obtain ⟨vd, hvd⟩ : ∃ u, v.drew = u := ⟨_, rfl⟩
    rw [hvd] at hbv hHeld ⊢
    clear hvd
    refine wpAnyH_take (i := 0) (v := ?_) rfl (by kernel_rfl) (by kernel_rfl) (by kernel_rfl) (fun _ _ _ h => h) (Or.inl ⟨by rfl, ?_⟩) (by assumption) ?_
    rotate_left 1
    · ((intro w hSw; (try dsimp only at hSw); go_simp); (try with_reducible rfl))
    simp only [Act.put, List.setIfInBounds_toArray, List.set_cons_zero, List.set_cons_succ, List.getElem_toArray, List.getElem_cons_zero, List.getElem_cons_succ]
    refine wpAnyH_take (i := 2) (v := ?_) rfl (by kernel_rfl) (by kernel_rfl) (by kernel_rfl) (fun _ _ _ h => h) (Or.inl ⟨by rfl, ?_⟩) (by assumption) ?_
    rotate_left 1
    · ((intro w hSw; (try dsimp only at hSw); go_simp); (try with_reducible rfl))
    simp only [Act.put, List.setIfInBounds_toArray, List.set_cons_zero, List.set_cons_succ, List.getElem_toArray, List.getElem_cons_zero, List.getElem_cons_succ]
    refine wpAnyH_ready (rs := [1, 4, 5]) (by kernel_rfl) (by simp) ?_
    refine AllReadyH.cons rfl (fun K hK => ?_) (AllReadyH.cons rfl (fun K hK => ?_) (AllReadyH.cons rfl (fun K hK => ?_) AllReadyH.nil))
    · go_simp
      refine (canon_any s _ (HS.out.keep (Keeps.of_below hbv)) HF.out HL.out).mono ?_
      rintro e u1 ⟨x, rfl, ax, ox, kx, hb2⟩
      replace ox := ox.low hbv.size
      replace hbv := hbv.trans (hb2.mono hbv.size)
      clear hb2 hHeld
      go_wp2_with fail
      refine hK.out _ _ ?_ (fun hHeld => ?_)
      · exact SB.out.keep (Keeps.of_below hbv)
      clear hK K
      try simp only [Act.put, List.setIfInBounds_toArray, List.set_cons_zero, List.set_cons_succ, List.getElem_toArray, List.getElem_cons_zero, List.getElem_cons_succ]
      refine wpAnyH_ready (rs := [3, 4, 5]) (by kernel_rfl) (by simp) ?_
      refine AllReadyH.cons rfl (fun K hK => ?_) (AllReadyH.cons rfl (fun K hK => ?_) (AllReadyH.cons rfl (fun K hK => ?_) AllReadyH.nil))
      · go_simp
        refine (move_any s 1 _ (HS.out.keep (Keeps.of_below hbv)) HF.out HL.out HI.out).mono ?_
        rintro e u2 ⟨y, rfl, ay, oy, ky, hb2⟩
        have xB := ox.under
        have hB2 := hbv.size
        replace ox := ox.turned (Turned.of_below hb2 []) (by simp)
        replace kx := kx.keep (Keeps.of_below hb2)
        replace hbv := hbv.trans (hb2.mono hbv.size)
        clear hb2 hHeld
        go_wp2_with fail
        refine hK.out _ _ ?_ (fun hHeld => ?_)
        · exact SB.out.keep (Keeps.of_below hbv)
        clear hK K
        try simp only [Act.put, List.setIfInBounds_toArray, List.set_cons_zero, List.set_cons_succ, List.getElem_toArray, List.getElem_cons_zero, List.getElem_cons_succ]
        refine wpAnyH_ready (rs := [4, 5]) (by kernel_rfl) (by simp) ?_
        refine AllReadyH.cons rfl (fun K hK => ?_) (AllReadyH.cons rfl (fun K hK => ?_) AllReadyH.nil)
        · go_simp
          have fxP := ox.far (.inr (Nat.le_refl _))
          replace ox := ox.turned ((Turned.refl [] u2).alloc (.cells #[.int .i64 0, .slice none 0 0, .slice none 0 0, .slice none 0 0] 25)) (by simp)
          replace kx := kx.keep (Keeps.alloc _ (.cells #[.int .i64 0, .slice none 0 0, .slice none 0 0, .slice none 0 0] 25))
          have fyP := oy.far (.inr (Nat.le_refl _))
          replace oy := oy.turned ((Turned.refl [] u2).alloc (.cells #[.int .i64 0, .slice none 0 0, .slice none 0 0, .slice none 0 0] 25)) (by simp)
          replace ky := ky.keep (Keeps.alloc _ (.cells #[.int .i64 0, .slice none 0 0, .slice none 0 0, .slice none 0 0] 25))
          have bP := Bk.new u2 25 #[.int .i64 0, .slice none 0 0, .slice none 0 0, .slice none 0 0]
          have vP := hbv.size
          replace hbv := hbv.alloc hbv.size (.cells #[.int .i64 0, .slice none 0 0, .slice none 0 0, .slice none 0 0] 25)
          obtain ⟨u3, hu3⟩ : ∃ u, u2.alloc (.cells #[.int .i64 0, .slice none 0 0, .slice none 0 0, .slice none 0 0] 25) = u := ⟨_, rfl⟩
          rw [hu3] at bP hbv ox kx oy ky ⊢
          clear hu3 hHeld
          refine hK.out _ _ ?_ (fun hHeld => ?_)
          · exact SB.out.keep (Keeps.of_below hbv)
          clear hK K
          try simp only [Act.put, List.setIfInBounds_toArray, List.set_cons_zero, List.set_cons_succ, List.getElem_toArray, List.getElem_cons_zero, List.getElem_cons_succ]
          refine wpAnyH_ready (rs := [5]) (by kernel_rfl) (by simp) ?_
          refine AllReadyH.cons rfl (fun K hK => ?_) AllReadyH.nil
          · go_simp
            have fxQ := ox.far (.inr (Nat.le_refl _))
            replace ox := ox.turned ((Turned.refl [] u3).alloc (.cells #[.int .i64 0, .slice none 0 0, .slice none 0 0, .slice none 0 0] 25)) (by simp)
            replace kx := kx.keep (Keeps.alloc _ (.cells #[.int .i64 0, .slice none 0 0, .slice none 0 0, .slice none 0 0] 25))
            have fyQ := oy.far (.inr (Nat.le_refl _))
            replace oy := oy.turned ((Turned.refl [] u3).alloc (.cells #[.int .i64 0, .slice none 0 0, .slice none 0 0, .slice none 0 0] 25)) (by simp)
            replace ky := ky.keep (Keeps.alloc _ (.cells #[.int .i64 0, .slice none 0 0, .slice none 0 0, .slice none 0 0] 25))
            have ne : u2.heap.size ≠ u3.heap.size := Nat.ne_of_lt bP.lt
            replace bP := bP.alloc (.cells #[.int .i64 0, .slice none 0 0, .slice none 0 0, .slice none 0 0] 25)
            have bQ := Bk.new u3 25 #[.int .i64 0, .slice none 0 0, .slice none 0 0, .slice none 0 0]
            have vQ := hbv.size
            replace hbv := hbv.alloc hbv.size (.cells #[.int .i64 0, .slice none 0 0, .slice none 0 0, .slice none 0 0] 25)
            obtain ⟨u4, hu4⟩ : ∃ u, u3.alloc (.cells #[.int .i64 0, .slice none 0 0, .slice none 0 0, .slice none 0 0] 25) = u := ⟨_, rfl⟩
            rw [hu4] at bQ hbv bP ox kx oy ky ⊢
            clear hu4 hHeld
            refine hK.out _ _ ?_ (fun hHeld => ?_)
            · exact SB.out.keep (Keeps.of_below hbv)
            clear hK K
            try simp only [Act.put, List.setIfInBounds_toArray, List.set_cons_zero, List.set_cons_succ, List.getElem_toArray, List.getElem_cons_zero, List.getElem_cons_succ]
            have neX : u2.heap.size ≠ u3.heap.size := by first | exact ne | exact ne.symm
            clear ne
            obtain ⟨f0, f1, f2, f3⟩ := ZF4 bP
            obtain ⟨z0, z1, z2, z3⟩ := Z4 bP
            have PB := put4_bk bP (v0 := .int .i64 x.proto) (v1 := .slice x.ca x.cores.length x.cc) (v2 := .slice x.ha x.homes.length x.hc) (v3 := .slice x.ta x.tasks.length x.tc)
            have PT := put4_turned u4 (u2.heap.size) (.int .i64 x.proto) (.slice x.ca x.cores.length x.cc) (.slice x.ha x.homes.length x.hc) (.slice x.ta x.tasks.length x.tc)
            replace bQ := bQ.turned PT (by simpa using neX.symm)
            replace ox := ox.farF PT (by intro q hq; simp at hq; subst hq; exact fxP)
            replace kx := kx.farF PT (by intro q hq; simp at hq; subst hq; exact fxP)
            replace oy := oy.farF PT (by intro q hq; simp at hq; subst hq; exact fyP)
            replace ky := ky.farF PT (by intro q hq; simp at hq; subst hq; exact fyP)
            replace hbv := hbv.trans (PT.below hbv.size (by intro q hq; simp at hq; subst hq; exact vP))
            clear bP
            have bP := PB
            clear PB PT
            obtain ⟨ut6, hut⟩ : ∃ u, put4 u4 (u2.heap.size) (.int .i64 x.proto) (.slice x.ca x.cores.length x.cc) (.slice x.ha x.homes.length x.hc) (.slice x.ta x.tasks.length x.tc) = u := ⟨_, rfl⟩
            rw [hut] at bP bQ ox kx oy ky hbv
            unfold put4 at hut
            refine wpAnyH_ready (rs := [6]) (by kernel_rfl) (by simp) ?_
            refine AllReadyH.cons rfl (fun K hK => ?_) AllReadyH.nil
            go_simp
            try rw [hut]
            clear hut f0 f1 f2 f3 z0 z1 z2 z3 hHeld
            refine hK.out _ _ ?_ (fun hHeld => ?_)
            · exact SB.out.keep (Keeps.of_below hbv)
            clear hK K
            try simp only [Act.put, List.setIfInBounds_toArray, List.set_cons_zero, List.set_cons_succ, List.getElem_toArray, List.getElem_cons_zero, List.getElem_cons_succ]
            obtain ⟨f0, f1, f2, f3⟩ := ZF4 bQ
            obtain ⟨z0, z1, z2, z3⟩ := Z4 bQ
            have PB := put4_bk bQ (v0 := .int .i64 y.proto) (v1 := .slice y.ca y.cores.length y.cc) (v2 := .slice y.ha y.homes.length y.hc) (v3 := .slice y.ta y.tasks.length y.tc)
            have PT := put4_turned ut6 (u3.heap.size) (.int .i64 y.proto) (.slice y.ca y.cores.length y.cc) (.slice y.ha y.homes.length y.hc) (.slice y.ta y.tasks.length y.tc)
            replace bP := bP.turned PT (by simpa using neX)
            replace ox := ox.farF PT (by intro q hq; simp at hq; subst hq; exact fxQ)
            replace kx := kx.farF PT (by intro q hq; simp at hq; subst hq; exact fxQ)
            replace oy := oy.farF PT (by intro q hq; simp at hq; subst hq; exact fyQ)
            replace ky := ky.farF PT (by intro q hq; simp at hq; subst hq; exact fyQ)
            replace hbv := hbv.trans (PT.below hbv.size (by intro q hq; simp at hq; subst hq; exact vQ))
            clear bQ
            have bQ := PB
            clear PB PT
            obtain ⟨ut7, hut⟩ : ∃ u, put4 ut6 (u3.heap.size) (.int .i64 y.proto) (.slice y.ca y.cores.length y.cc) (.slice y.ha y.homes.length y.hc) (.slice y.ta y.tasks.length y.tc) = u := ⟨_, rfl⟩
            rw [hut] at bP bQ ox kx oy ky hbv
            unfold put4 at hut
            refine wpAnyH_ready (rs := [7]) (by kernel_rfl) (by simp) ?_
            refine AllReadyH.cons rfl (fun K hK => ?_) AllReadyH.nil
            go_simp
            try rw [hut]
            clear hut f0 f1 f2 f3 z0 z1 z2 z3 hHeld
            refine hK.out _ _ ?_ (fun hHeld => ?_)
            · exact SB.out.keep (Keeps.of_below hbv)
            clear hK K
            try simp only [Act.put, List.setIfInBounds_toArray, List.set_cons_zero, List.set_cons_succ, List.getElem_toArray, List.getElem_cons_zero, List.getElem_cons_succ]
            refine wpAnyH_done (by kernel_rfl) ?_ _
            clear hHeld
            go_wp2_with fail
            go_meet
            exact ⟨_, _, x, y, _, rfl, rfl, ax, ay, ox, kx, oy, ky, hB2, xB, bP, bQ, fxP, fxQ, fyP, fyQ, neX, vP, vQ, hbv⟩
        · go_simp
          have fxQ := ox.far (.inr (Nat.le_refl _))
          replace ox := ox.turned ((Turned.refl [] u2).alloc (.cells #[.int .i64 0, .slice none 0 0, .slice none 0 0, .slice none 0 0] 25)) (by simp)
          replace kx := kx.keep (Keeps.alloc _ (.cells #[.int .i64 0, .slice none 0 0, .slice none 0 0, .slice none 0 0] 25))
          have fyQ := oy.far (.inr (Nat.le_refl _))
          replace oy := oy.turned ((Turned.refl [] u2).alloc (.cells #[.int .i64 0, .slice none 0 0, .slice none 0 0, .slice none 0 0] 25)) (by simp)
          replace ky := ky.keep (Keeps.alloc _ (.cells #[.int .i64 0, .slice none 0 0, .slice none 0 0, .slice none 0 0] 25))
          have bQ := Bk.new u2 25 #[.int .i64 0, .slice none 0 0, .slice none 0 0, .slice none 0 0]
          have vQ := hbv.size
          replace hbv := hbv.alloc hbv.size (.cells #[.int .i64 0, .slice none 0 0, .slice none 0 0, .slice none 0 0] 25)
          obtain ⟨u5, hu5⟩ : ∃ u, u2.alloc (.cells #[.int .i64 0, .slice none 0 0, .slice none 0 0, .slice none 0 0] 25) = u := ⟨_, rfl⟩
          rw [hu5] at bQ hbv ox kx oy ky ⊢
          clear hu5 hHeld
          refine hK.out _ _ ?_ (fun hHeld => ?_)
          · exact SB.out.keep (Keeps.of_below hbv)
          clear hK K
          try simp only [Act.put, List.setIfInBounds_toArray, List.set_cons_zero, List.set_cons_succ, List.getElem_toArray, List.getElem_cons_zero, List.getElem_cons_succ]
          refine wpAnyH_ready (rs := [4]) (by kernel_rfl) (by simp) ?_
          refine AllReadyH.cons rfl (fun K hK => ?_) AllReadyH.nil
          · go_simp
            have fxP := ox.far (.inr (Nat.le_refl _))
            replace ox := ox.turned ((Turned.refl [] u5).alloc (.cells #[.int .i64 0, .slice none 0 0, .slice none 0 0, .slice none 0 0] 25)) (by simp)
            replace kx := kx.keep (Keeps.alloc _ (.cells #[.int .i64 0, .slice none 0 0, .slice none 0 0, .slice none 0 0] 25))
            have fyP := oy.far (.inr (Nat.le_refl _))
            replace oy := oy.turned ((Turned.refl [] u5).alloc (.cells #[.int .i64 0, .slice none 0 0, .slice none 0 0, .slice none 0 0] 25)) (by simp)
            replace ky := ky.keep (Keeps.alloc _ (.cells #[.int .i64 0, .slice none 0 0, .slice none 0 0, .slice none 0 0] 25))
            have ne : u2.heap.size ≠ u5.heap.size := Nat.ne_of_lt bQ.lt
            replace bQ := bQ.alloc (.cells #[.int .i64 0, .slice none 0 0, .slice none 0 0, .slice none 0 0] 25)
            have bP := Bk.new u5 25 #[.int .i64 0, .slice none 0 0, .slice none 0 0, .slice none 0 0]
            have vP := hbv.size
            replace hbv := hbv.alloc hbv.size (.cells #[.int .i64 0, .slice none 0 0, .slice none 0 0, .slice none 0 0] 25)
            obtain ⟨u6, hu6⟩ : ∃ u, u5.alloc (.cells #[.int .i64 0, .slice none 0 0, .slice none 0 0, .slice none 0 0] 25) = u := ⟨_, rfl⟩
            rw [hu6] at bP hbv bQ ox kx oy ky ⊢
            clear hu6 hHeld
            refine hK.out _ _ ?_ (fun hHeld => ?_)
            · exact SB.out.keep (Keeps.of_below hbv)
            clear hK K
            try simp only [Act.put, List.setIfInBounds_toArray, List.set_cons_zero, List.set_cons_succ, List.getElem_toArray, List.getElem_cons_zero, List.getElem_cons_succ]
            have neX : u5.heap.size ≠ u2.heap.size := by first | exact ne | exact ne.symm
            clear ne
            obtain ⟨f0, f1, f2, f3⟩ := ZF4 bP
            obtain ⟨z0, z1, z2, z3⟩ := Z4 bP
            have PB := put4_bk bP (v0 := .int .i64 x.proto) (v1 := .slice x.ca x.cores.length x.cc) (v2 := .slice x.ha x.homes.length x.hc) (v3 := .slice x.ta x.tasks.length x.tc)
            have PT := put4_turned u6 (u5.heap.size) (.int .i64 x.proto) (.slice x.ca x.cores.length x.cc) (.slice x.ha x.homes.length x.hc) (.slice x.ta x.tasks.length x.tc)
            replace bQ := bQ.turned PT (by simpa using neX.symm)
            replace ox := ox.farF PT (by intro q hq; simp at hq; subst hq; exact fxP)
            replace kx := kx.farF PT (by intro q hq; simp at hq; subst hq; exact fxP)
            replace oy := oy.farF PT (by intro q hq; simp at hq; subst hq; exact fyP)
            replace ky := ky.farF PT (by intro q hq; simp at hq; subst hq; exact fyP)
            replace hbv := hbv.trans (PT.below hbv.size (by intro q hq; simp at hq; subst hq; exact vP))
            clear bP
            have bP := PB
            clear PB PT
            obtain ⟨ut6, hut⟩ : ∃ u, put4 u6 (u5.heap.size) (.int .i64 x.proto) (.slice x.ca x.cores.length x.cc) (.slice x.ha x.homes.length x.hc) (.slice x.ta x.tasks.length x.tc) = u := ⟨_, rfl⟩
            rw [hut] at bP bQ ox kx oy ky hbv
            unfold put4 at hut
            refine wpAnyH_ready (rs := [6]) (by kernel_rfl) (by simp) ?_
            refine AllReadyH.cons rfl (fun K hK => ?_) AllReadyH.nil
            go_simp
            try rw [hut]
            clear hut f0 f1 f2 f3 z0 z1 z2 z3 hHeld
            refine hK.out _ _ ?_ (fun hHeld => ?_)
            · exact SB.out.keep (Keeps.of_below hbv)
            clear hK K
            try simp only [Act.put, List.setIfInBounds_toArray, List.set_cons_zero, List.set_cons_succ, List.getElem_toArray, List.getElem_cons_zero, List.getElem_cons_succ]
            obtain ⟨f0, f1, f2, f3⟩ := ZF4 bQ
            obtain ⟨z0, z1, z2, z3⟩ := Z4 bQ
            have PB := put4_bk bQ (v0 := .int .i64 y.proto) (v1 := .slice y.ca y.cores.length y.cc) (v2 := .slice y.ha y.homes.length y.hc) (v3 := .slice y.ta y.tasks.length y.tc)
            have PT := put4_turned ut6 (u2.heap.size) (.int .i64 y.proto) (.slice y.ca y.cores.length y.cc) (.slice y.ha y.homes.length y.hc) (.slice y.ta y.tasks.length y.tc)
            replace bP := bP.turned PT (by simpa using neX)
            replace ox := ox.farF PT (by intro q hq; simp at hq; subst hq; exact fxQ)
            replace kx := kx.farF PT (by intro q hq; simp at hq; subst hq; exact fxQ)
            replace oy := oy.farF PT (by intro q hq; simp at hq; subst hq; exact fyQ)
            replace ky := ky.farF PT (by intro q hq; simp at hq; subst hq; exact fyQ)
            replace hbv := hbv.trans (PT.below hbv.size (by intro q hq; simp at hq; subst hq; exact vQ))
            clear bQ
            have bQ := PB
            clear PB PT
            obtain ⟨ut7, hut⟩ : ∃ u, put4 ut6 (u2.heap.size) (.int .i64 y.proto) (.slice y.ca y.cores.length y.cc) (.slice y.ha y.homes.length y.hc) (.slice y.ta y.tasks.length y.tc) = u := ⟨_, rfl⟩
            rw [hut] at bP bQ ox kx oy ky hbv
            unfold put4 at hut
            refine wpAnyH_ready (rs := [7]) (by kernel_rfl) (by simp) ?_
            refine AllReadyH.cons rfl (fun K hK => ?_) AllReadyH.nil
            go_simp
            try rw [hut]
            clear hut f0 f1 f2 f3 z0 z1 z2 z3 hHeld
            refine hK.out _ _ ?_ (fun hHeld => ?_)
            · exact SB.out.keep (Keeps.of_below hbv)
            clear hK K
            try simp only [Act.put, List.setIfInBounds_toArray, List.set_cons_zero, List.set_cons_succ, List.getElem_toArray, List.getElem_cons_zero, List.getElem_cons_succ]
            refine wpAnyH_done (by kernel_rfl) ?_ _
            clear hHeld
            go_wp2_with fail
            go_meet
            exact ⟨_, _, x, y, _, rfl, rfl, ax, ay, ox, kx, oy, ky, hB2, xB, bP, bQ, fxP, fxQ, fyP, fyQ, neX, vP, vQ, hbv⟩
      · go_simp
        have fxP := ox.far (.inr (Nat.le_refl _))
        replace ox := ox.turned ((Turned.refl [] u1).alloc (.cells #[.int .i64 0, .slice none 0 0, .slice none 0 0, .slice none 0 0] 25)) (by simp)
        replace kx := kx.keep (Keeps.alloc _ (.cells #[.int .i64 0, .slice none 0 0, .slice none 0 0, .slice none 0 0] 25))
        have bP := Bk.new u1 25 #[.int .i64 0, .slice none 0 0, .slice none 0 0, .slice none 0 0]
        have vP := hbv.size
        replace hbv := hbv.alloc hbv.size (.cells #[.int .i64 0, .slice none 0 0, .slice none 0 0, .slice none 0 0] 25)
        obtain ⟨u7, hu7⟩ : ∃ u, u1.alloc (.cells #[.int .i64 0, .slice none 0 0, .slice none 0 0, .slice none 0 0] 25) = u := ⟨_, rfl⟩
        rw [hu7] at bP hbv ox kx ⊢
        clear hu7 hHeld
        refine hK.out _ _ ?_ (fun hHeld => ?_)
        · exact SB.out.keep (Keeps.of_below hbv)
        clear hK K
        try simp only [Act.put, List.setIfInBounds_toArray, List.set_cons_zero, List.set_cons_succ, List.getElem_toArray, List.getElem_cons_zero, List.getElem_cons_succ]
        refine wpAnyH_ready (rs := [3, 5]) (by kernel_rfl) (by simp) ?_
        refine AllReadyH.cons rfl (fun K hK => ?_) (AllReadyH.cons rfl (fun K hK => ?_) AllReadyH.nil)
        · go_simp
          refine (move_any s 1 _ (HS.out.keep (Keeps.of_below hbv)) HF.out HL.out HI.out).mono ?_
          rintro e u8 ⟨y, rfl, ay, oy, ky, hb2⟩
          have fyP := oy.far (.inl bP.lt)
          replace bP := bP.below hb2
          have xB := ox.under
          have hB2 := hbv.size
          replace ox := ox.turned (Turned.of_below hb2 []) (by simp)
          replace kx := kx.keep (Keeps.of_below hb2)
          replace hbv := hbv.trans (hb2.mono hbv.size)
          clear hb2 hHeld
          go_wp2_with fail
          refine hK.out _ _ ?_ (fun hHeld => ?_)
          · exact SB.out.keep (Keeps.of_below hbv)
          clear hK K
          try simp only [Act.put, List.setIfInBounds_toArray, List.set_cons_zero, List.set_cons_succ, List.getElem_toArray, List.getElem_cons_zero, List.getElem_cons_succ]
          refine wpAnyH_ready (rs := [5]) (by kernel_rfl) (by simp) ?_
          refine AllReadyH.cons rfl (fun K hK => ?_) AllReadyH.nil
          · go_simp
            have fxQ := ox.far (.inr (Nat.le_refl _))
            replace ox := ox.turned ((Turned.refl [] u8).alloc (.cells #[.int .i64 0, .slice none 0 0, .slice none 0 0, .slice none 0 0] 25)) (by simp)
            replace kx := kx.keep (Keeps.alloc _ (.cells #[.int .i64 0, .slice none 0 0, .slice none 0 0, .slice none 0 0] 25))
            have fyQ := oy.far (.inr (Nat.le_refl _))
            replace oy := oy.turned ((Turned.refl [] u8).alloc (.cells #[.int .i64 0, .slice none 0 0, .slice none 0 0, .slice none 0 0] 25)) (by simp)
            replace ky := ky.keep (Keeps.alloc _ (.cells #[.int .i64 0, .slice none 0 0, .slice none 0 0, .slice none 0 0] 25))
            have ne : u1.heap.size ≠ u8.heap.size := Nat.ne_of_lt bP.lt
            replace bP := bP.alloc (.cells #[.int .i64 0, .slice none 0 0, .slice none 0 0, .slice none 0 0] 25)
            have bQ := Bk.new u8 25 #[.int .i64 0, .slice none 0 0, .slice none 0 0, .slice none 0 0]
            have vQ := hbv.size
            replace hbv := hbv.alloc hbv.size (.cells #[.int .i64 0, .slice none 0 0, .slice none 0 0, .slice none 0 0] 25)
            obtain ⟨u9, hu9⟩ : ∃ u, u8.alloc (.cells #[.int .i64 0, .slice none 0 0, .slice none 0 0, .slice none 0 0] 25) = u := ⟨_, rfl⟩
            rw [hu9] at bQ hbv bP ox kx oy ky ⊢
            clear hu9 hHeld
            refine hK.out _ _ ?_ (fun hHeld => ?_)
            · exact SB.out.keep (Keeps.of_below hbv)
            clear hK K
            try simp only [Act.put, List.setIfInBounds_toArray, List.set_cons_zero, List.set_cons_succ, List.getElem_toArray, List.getElem_cons_zero, List.getElem_cons_succ]
            have neX : u1.heap.size ≠ u8.heap.size := by first | exact ne | exact ne.symm
            clear ne
            obtain ⟨f0, f1, f2, f3⟩ := ZF4 bP
            obtain ⟨z0, z1, z2, z3⟩ := Z4 bP
            have PB := put4_bk bP (v0 := .int .i64 x.proto) (v1 := .slice x.ca x.cores.length x.cc) (v2 := .slice x.ha x.homes.length x.hc) (v3 := .slice x.ta x.tasks.length x.tc)
            have PT := put4_turned u9 (u1.heap.size) (.int .i64 x.proto) (.slice x.ca x.cores.length x.cc) (.slice x.ha x.homes.length x.hc) (.slice x.ta x.tasks.length x.tc)
            replace bQ := bQ.turned PT (by simpa using neX.symm)
            replace ox := ox.farF PT (by intro q hq; simp at hq; subst hq; exact fxP)
            replace kx := kx.farF PT (by intro q hq; simp at hq; subst hq; exact fxP)
            replace oy := oy.farF PT (by intro q hq; simp at hq; subst hq; exact fyP)
            replace ky := ky.farF PT (by intro q hq; simp at hq; subst hq; exact fyP)
            replace hbv := hbv.trans (PT.below hbv.size (by intro q hq; simp at hq; subst hq; exact vP))
            clear bP
            have bP := PB
            clear PB PT
            obtain ⟨ut6, hut⟩ : ∃ u, put4 u9 (u1.heap.size) (.int .i64 x.proto) (.slice x.ca x.cores.length x.cc) (.slice x.ha x.homes.length x.hc) (.slice x.ta x.tasks.length x.tc) = u := ⟨_, rfl⟩
            rw [hut] at bP bQ ox kx oy ky hbv
            unfold put4 at hut
            refine wpAnyH_ready (rs := [6]) (by kernel_rfl) (by simp) ?_
            refine AllReadyH.cons rfl (fun K hK => ?_) AllReadyH.nil
            go_simp
            try rw [hut]
            clear hut f0 f1 f2 f3 z0 z1 z2 z3 hHeld
            refine hK.out _ _ ?_ (fun hHeld => ?_)
            · exact SB.out.keep (Keeps.of_below hbv)
            clear hK K
            try simp only [Act.put, List.setIfInBounds_toArray, List.set_cons_zero, List.set_cons_succ, List.getElem_toArray, List.getElem_cons_zero, List.getElem_cons_succ]
            obtain ⟨f0, f1, f2, f3⟩ := ZF4 bQ
            obtain ⟨z0, z1, z2, z3⟩ := Z4 bQ
            have PB := put4_bk bQ (v0 := .int .i64 y.proto) (v1 := .slice y.ca y.cores.length y.cc) (v2 := .slice y.ha y.homes.length y.hc) (v3 := .slice y.ta y.tasks.length y.tc)
            have PT := put4_turned ut6 (u8.heap.size) (.int .i64 y.proto) (.slice y.ca y.cores.length y.cc) (.slice y.ha y.homes.length y.hc) (.slice y.ta y.tasks.length y.tc)
            replace bP := bP.turned PT (by simpa using neX)
            replace ox := ox.farF PT (by intro q hq; simp at hq; subst hq; exact fxQ)
            replace kx := kx.farF PT (by intro q hq; simp at hq; subst hq; exact fxQ)
            replace oy := oy.farF PT (by intro q hq; simp at hq; subst hq; exact fyQ)
            replace ky := ky.farF PT (by intro q hq; simp at hq; subst hq; exact fyQ)
            replace hbv := hbv.trans (PT.below hbv.size (by intro q hq; simp at hq; subst hq; exact vQ))
            clear bQ
            have bQ := PB
            clear PB PT
            obtain ⟨ut7, hut⟩ : ∃ u, put4 ut6 (u8.heap.size) (.int .i64 y.proto) (.slice y.ca y.cores.length y.cc) (.slice y.ha y.homes.length y.hc) (.slice y.ta y.tasks.length y.tc) = u := ⟨_, rfl⟩
            rw [hut] at bP bQ ox kx oy ky hbv
            unfold put4 at hut
            refine wpAnyH_ready (rs := [7]) (by kernel_rfl) (by simp) ?_
            refine AllReadyH.cons rfl (fun K hK => ?_) AllReadyH.nil
            go_simp
            try rw [hut]
            clear hut f0 f1 f2 f3 z0 z1 z2 z3 hHeld
            refine hK.out _ _ ?_ (fun hHeld => ?_)
            · exact SB.out.keep (Keeps.of_below hbv)
            clear hK K
            try simp only [Act.put, List.setIfInBounds_toArray, List.set_cons_zero, List.set_cons_succ, List.getElem_toArray, List.getElem_cons_zero, List.getElem_cons_succ]
            refine wpAnyH_done (by kernel_rfl) ?_ _
            clear hHeld
            go_wp2_with fail
            go_meet
            exact ⟨_, _, x, y, _, rfl, rfl, ax, ay, ox, kx, oy, ky, hB2, xB, bP, bQ, fxP, fxQ, fyP, fyQ, neX, vP, vQ, hbv⟩
        · go_simp
          have fxQ := ox.far (.inr (Nat.le_refl _))
          replace ox := ox.turned ((Turned.refl [] u7).alloc (.cells #[.int .i64 0, .slice none 0 0, .slice none 0 0, .slice none 0 0] 25)) (by simp)
          replace kx := kx.keep (Keeps.alloc _ (.cells #[.int .i64 0, .slice none 0 0, .slice none 0 0, .slice none 0 0] 25))
          have ne : u1.heap.size ≠ u7.heap.size := Nat.ne_of_lt bP.lt
          replace bP := bP.alloc (.cells #[.int .i64 0, .slice none 0 0, .slice none 0 0, .slice none 0 0] 25)
          have bQ := Bk.new u7 25 #[.int .i64 0, .slice none 0 0, .slice none 0 0, .slice none 0 0]
          have vQ := hbv.size
          replace hbv := hbv.alloc hbv.size (.cells #[.int .i64 0, .slice none 0 0, .slice none 0 0, .slice none 0 0] 25)
          obtain ⟨u10, hu10⟩ : ∃ u, u7.alloc (.cells #[.int .i64 0, .slice none 0 0, .slice none 0 0, .slice none 0 0] 25) = u := ⟨_, rfl⟩
          rw [hu10] at bQ hbv bP ox kx ⊢
          clear hu10 hHeld
          refine hK.out _ _ ?_ (fun hHeld => ?_)
          · exact SB.out.keep (Keeps.of_below hbv)
          clear hK K
          try simp only [Act.put, List.setIfInBounds_toArray, List.set_cons_zero, List.set_cons_succ, List.getElem_toArray, List.getElem_cons_zero, List.getElem_cons_succ]
          refine wpAnyH_ready (rs := [3]) (by kernel_rfl) (by simp) ?_
          refine AllReadyH.cons rfl (fun K hK => ?_) AllReadyH.nil
          · go_simp
            refine (move_any s 1 _ (HS.out.keep (Keeps.of_below hbv)) HF.out HL.out HI.out).mono ?_
            rintro e u11 ⟨y, rfl, ay, oy, ky, hb2⟩
            have fyP := oy.far (.inl bP.lt)
            replace bP := bP.below hb2
            have fyQ := oy.far (.inl bQ.lt)
            replace bQ := bQ.below hb2
            have xB := ox.under
            have hB2 := hbv.size
            replace ox := ox.turned (Turned.of_below hb2 []) (by simp)
            replace kx := kx.keep (Keeps.of_below hb2)
            replace hbv := hbv.trans (hb2.mono hbv.size)
            clear hb2 hHeld
            go_wp2_with fail
            refine hK.out _ _ ?_ (fun hHeld => ?_)
            · exact SB.out.keep (Keeps.of_below hbv)
            clear hK K
            try simp only [Act.put, List.setIfInBounds_toArray, List.set_cons_zero, List.set_cons_succ, List.getElem_toArray, List.getElem_cons_zero, List.getElem_cons_succ]
            have neX : u1.heap.size ≠ u7.heap.size := by first | exact ne | exact ne.symm
            clear ne
            obtain ⟨f0, f1, f2, f3⟩ := ZF4 bP
            obtain ⟨z0, z1, z2, z3⟩ := Z4 bP
            have PB := put4_bk bP (v0 := .int .i64 x.proto) (v1 := .slice x.ca x.cores.length x.cc) (v2 := .slice x.ha x.homes.length x.hc) (v3 := .slice x.ta x.tasks.length x.tc)
            have PT := put4_turned u11 (u1.heap.size) (.int .i64 x.proto) (.slice x.ca x.cores.length x.cc) (.slice x.ha x.homes.length x.hc) (.slice x.ta x.tasks.length x.tc)
            replace bQ := bQ.turned PT (by simpa using neX.symm)
            replace ox := ox.farF PT (by intro q hq; simp at hq; subst hq; exact fxP)
            replace kx := kx.farF PT (by intro q hq; simp at hq; subst hq; exact fxP)
            replace oy := oy.farF PT (by intro q hq; simp at hq; subst hq; exact fyP)
            replace ky := ky.farF PT (by intro q hq; simp at hq; subst hq; exact fyP)
            replace hbv := hbv.trans (PT.below hbv.size (by intro q hq; simp at hq; subst hq; exact vP))
            clear bP
            have bP := PB
            clear PB PT
            obtain ⟨ut6, hut⟩ : ∃ u, put4 u11 (u1.heap.size) (.int .i64 x.proto) (.slice x.ca x.cores.length x.cc) (.slice x.ha x.homes.length x.hc) (.slice x.ta x.tasks.length x.tc) = u := ⟨_, rfl⟩
            rw [hut] at bP bQ ox kx oy ky hbv
            unfold put4 at hut
            refine wpAnyH_ready (rs := [6]) (by kernel_rfl) (by simp) ?_
            refine AllReadyH.cons rfl (fun K hK => ?_) AllReadyH.nil
            go_simp
            try rw [hut]
            clear hut f0 f1 f2 f3 z0 z1 z2 z3 hHeld
            refine hK.out _ _ ?_ (fun hHeld => ?_)
            · exact SB.out.keep (Keeps.of_below hbv)
            clear hK K
            try simp only [Act.put, List.setIfInBounds_toArray, List.set_cons_zero, List.set_cons_succ, List.getElem_toArray, List.getElem_cons_zero, List.getElem_cons_succ]
            obtain ⟨f0, f1, f2, f3⟩ := ZF4 bQ
            obtain ⟨z0, z1, z2, z3⟩ := Z4 bQ
            have PB := put4_bk bQ (v0 := .int .i64 y.proto) (v1 := .slice y.ca y.cores.length y.cc) (v2 := .slice y.ha y.homes.length y.hc) (v3 := .slice y.ta y.tasks.length y.tc)
            have PT := put4_turned ut6 (u7.heap.size) (.int .i64 y.proto) (.slice y.ca y.cores.length y.cc) (.slice y.ha y.homes.length y.hc) (.slice y.ta y.tasks.length y.tc)
            replace bP := bP.turned PT (by simpa using neX)
            replace ox := ox.farF PT (by intro q hq; simp at hq; subst hq; exact fxQ)
            replace kx := kx.farF PT (by intro q hq; simp at hq; subst hq; exact fxQ)
            replace oy := oy.farF PT (by intro q hq; simp at hq; subst hq; exact fyQ)
            replace ky := ky.farF PT (by intro q hq; simp at hq; subst hq; exact fyQ)
            replace hbv := hbv.trans (PT.below hbv.size (by intro q hq; simp at hq; subst hq; exact vQ))
            clear bQ
            have bQ := PB
            clear PB PT
            obtain ⟨ut7, hut⟩ : ∃ u, put4 ut6 (u7.heap.size) (.int .i64 y.proto) (.slice y.ca y.cores.length y.cc) (.slice y.ha y.homes.length y.hc) (.slice y.ta y.tasks.length y.tc) = u := ⟨_, rfl⟩
            rw [hut] at bP bQ ox kx oy ky hbv
            unfold put4 at hut
            refine wpAnyH_ready (rs := [7]) (by kernel_rfl) (by simp) ?_
            refine AllReadyH.cons rfl (fun K hK => ?_) AllReadyH.nil
            go_simp
            try rw [hut]
            clear hut f0 f1 f2 f3 z0 z1 z2 z3 hHeld
            refine hK.out _ _ ?_ (fun hHeld => ?_)
            · exact SB.out.keep (Keeps.of_below hbv)
            clear hK K
            try simp only [Act.put, List.setIfInBounds_toArray, List.set_cons_zero, List.set_cons_succ, List.getElem_toArray, List.getElem_cons_zero, List.getElem_cons_succ]
            refine wpAnyH_done (by kernel_rfl) ?_ _
            clear hHeld
            go_wp2_with fail
            go_meet
            exact ⟨_, _, x, y, _, rfl, rfl, ax, ay, ox, kx, oy, ky, hB2, xB, bP, bQ, fxP, fxQ, fyP, fyQ, neX, vP, vQ, hbv⟩
      · go_simp
        have fxQ := ox.far (.inr (Nat.le_refl _))
        replace ox := ox.turned ((Turned.refl [] u1).alloc (.cells #[.int .i64 0, .slice none 0 0, .slice none 0 0, .slice none 0 0] 25)) (by simp)
        replace kx := kx.keep (Keeps.alloc _ (.cells #[.int .i64 0, .slice none 0 0, .slice none 0 0, .slice none 0 0] 25))
        have bQ := Bk.new u1 25 #[.int .i64 0, .slice none 0 0, .slice none 0 0, .slice none 0 0]
        have vQ := hbv.size
        replace hbv := hbv.alloc hbv.size (.cells #[.int .i64 0, .slice none 0 0, .slice none 0 0, .slice none 0 0] 25)
        obtain ⟨u12, hu12⟩ : ∃ u, u1.alloc (.cells #[.int .i64 0, .slice none 0 0, .slice none 0 0, .slice none 0 0] 25) = u := ⟨_, rfl⟩
        rw [hu12] at bQ hbv ox kx ⊢
        clear hu12 hHeld
        refine hK.out _ _ ?_ (fun hHeld => ?_)
        · exact SB.out.keep (Keeps.of_below hbv)
        clear hK K
        try simp only [Act.put, List.setIfInBounds_toArray, List.set_cons_zero, List.set_cons_succ, List.getElem_toArray, List.getElem_cons_zero, List.getElem_cons_succ]
        refine wpAnyH_ready (rs := [3, 4]) (by kernel_rfl) (by simp) ?_
        refine AllReadyH.cons rfl (fun K hK => ?_) (AllReadyH.cons rfl (fun K hK => ?_) AllReadyH.nil)
        · go_simp
          refine (move_any s 1 _ (HS.out.keep (Keeps.of_below hbv)) HF.out HL.out HI.out).mono ?_
          rintro e u13 ⟨y, rfl, ay, oy, ky, hb2⟩
          have fyQ := oy.far (.inl bQ.lt)
          replace bQ := bQ.below hb2
          have xB := ox.under
          have hB2 := hbv.size
          replace ox := ox.turned (Turned.of_below hb2 []) (by simp)
          replace kx := kx.keep (Keeps.of_below hb2)
          replace hbv := hbv.trans (hb2.mono hbv.size)
          clear hb2 hHeld
          go_wp2_with fail
          refine hK.out _ _ ?_ (fun hHeld => ?_)
          · exact SB.out.keep (Keeps.of_below hbv)
          clear hK K
          try simp only [Act.put, List.setIfInBounds_toArray, List.set_cons_zero, List.set_cons_succ, List.getElem_toArray, List.getElem_cons_zero, List.getElem_cons_succ]
          refine wpAnyH_ready (rs := [4]) (by kernel_rfl) (by simp) ?_
          refine AllReadyH.cons rfl (fun K hK => ?_) AllReadyH.nil
          · go_simp
            have fxP := ox.far (.inr (Nat.le_refl _))
            replace ox := ox.turned ((Turned.refl [] u13).alloc (.cells #[.int .i64 0, .slice none 0 0, .slice none 0 0, .slice none 0 0] 25)) (by simp)
            replace kx := kx.keep (Keeps.alloc _ (.cells #[.int .i64 0, .slice none 0 0, .slice none 0 0, .slice none 0 0] 25))
            have fyP := oy.far (.inr (Nat.le_refl _))
            replace oy := oy.turned ((Turned.refl [] u13).alloc (.cells #[.int .i64 0, .slice none 0 0, .slice none 0 0, .slice none 0 0] 25)) (by simp)
            replace ky := ky.keep (Keeps.alloc _ (.cells #[.int .i64 0, .slice none 0 0, .slice none 0 0, .slice none 0 0] 25))
            have ne : u1.heap.size ≠ u13.heap.size := Nat.ne_of_lt bQ.lt
            replace bQ := bQ.alloc (.cells #[.int .i64 0, .slice none 0 0, .slice none 0 0, .slice none 0 0] 25)
            have bP := Bk.new u13 25 #[.int .i64 0, .slice none 0 0, .slice none 0 0, .slice none 0 0]
            have vP := hbv.size
            replace hbv := hbv.alloc hbv.size (.cells #[.int .i64 0, .slice none 0 0, .slice none 0 0, .slice none 0 0] 25)
            obtain ⟨u14, hu14⟩ : ∃ u, u13.alloc (.cells #[.int .i64 0, .slice none 0 0, .slice none 0 0, .slice none 0 0] 25) = u := ⟨_, rfl⟩
            rw [hu14] at bP hbv bQ ox kx oy ky ⊢
            clear hu14 hHeld
            refine hK.out _ _ ?_ (fun hHeld => ?_)
            · exact SB.out.keep (Keeps.of_below hbv)
            clear hK K
            try simp only [Act.put, List.setIfInBounds_toArray, List.set_cons_zero, List.set_cons_succ, List.getElem_toArray, List.getElem_cons_zero, List.getElem_cons_succ]
            have neX : u13.heap.size ≠ u1.heap.size := by first | exact ne | exact ne.symm
            clear ne
            obtain ⟨f0, f1, f2, f3⟩ := ZF4 bP
            obtain ⟨z0, z1, z2, z3⟩ := Z4 bP
            have PB := put4_bk bP (v0 := .int .i64 x.proto) (v1 := .slice x.ca x.cores.length x.cc) (v2 := .slice x.ha x.homes.length x.hc) (v3 := .slice x.ta x.tasks.length x.tc)
            have PT := put4_turned u14 (u13.heap.size) (.int .i64 x.proto) (.slice x.ca x.cores.length x.cc) (.slice x.ha x.homes.length x.hc) (.slice x.ta x.tasks.length x.tc)
            replace bQ := bQ.turned PT (by simpa using neX.symm)
            replace ox := ox.farF PT (by intro q hq; simp at hq; subst hq; exact fxP)
            replace kx := kx.farF PT (by intro q hq; simp at hq; subst hq; exact fxP)
            replace oy := oy.farF PT (by intro q hq; simp at hq; subst hq; exact fyP)
            replace ky := ky.farF PT (by intro q hq; simp at hq; subst hq; exact fyP)
            replace hbv := hbv.trans (PT.below hbv.size (by intro q hq; simp at hq; subst hq; exact vP))
            clear bP
            have bP := PB
            clear PB PT
            obtain ⟨ut6, hut⟩ : ∃ u, put4 u14 (u13.heap.size) (.int .i64 x.proto) (.slice x.ca x.cores.length x.cc) (.slice x.ha x.homes.length x.hc) (.slice x.ta x.tasks.length x.tc) = u := ⟨_, rfl⟩
            rw [hut] at bP bQ ox kx oy ky hbv
            unfold put4 at hut
            refine wpAnyH_ready (rs := [6]) (by kernel_rfl) (by simp) ?_
            refine AllReadyH.cons rfl (fun K hK => ?_) AllReadyH.nil
            go_simp
            try rw [hut]
            clear hut f0 f1 f2 f3 z0 z1 z2 z3 hHeld
            refine hK.out _ _ ?_ (fun hHeld => ?_)
            · exact SB.out.keep (Keeps.of_below hbv)
            clear hK K
            try simp only [Act.put, List.setIfInBounds_toArray, List.set_cons_zero, List.set_cons_succ, List.getElem_toArray, List.getElem_cons_zero, List.getElem_cons_succ]
            obtain ⟨f0, f1, f2, f3⟩ := ZF4 bQ
            obtain ⟨z0, z1, z2, z3⟩ := Z4 bQ
            have PB := put4_bk bQ (v0 := .int .i64 y.proto) (v1 := .slice y.ca y.cores.length y.cc) (v2 := .slice y.ha y.homes.length y.hc) (v3 := .slice y.ta y.tasks.length y.tc)
            have PT := put4_turned ut6 (u1.heap.size) (.int .i64 y.proto) (.slice y.ca y.cores.length y.cc) (.slice y.ha y.homes.length y.hc) (.slice y.ta y.tasks.length y.tc)
            replace bP := bP.turned PT (by simpa using neX)
            replace ox := ox.farF PT (by intro q hq; simp at hq; subst hq; exact fxQ)
            replace kx := kx.farF PT (by intro q hq; simp at hq; subst hq; exact fxQ)
            replace oy := oy.farF PT (by intro q hq; simp at hq; subst hq; exact fyQ)
            replace ky := ky.farF PT (by intro q hq; simp at hq; subst hq; exact fyQ)
            replace hbv := hbv.trans (PT.below hbv.size (by intro q hq; simp at hq; subst hq; exact vQ))
            clear bQ
            have bQ := PB
            clear PB PT
            obtain ⟨ut7, hut⟩ : ∃ u, put4 ut6 (u1.heap.size) (.int .i64 y.proto) (.slice y.ca y.cores.length y.cc) (.slice y.ha y.homes.length y.hc) (.slice y.ta y.tasks.length y.tc) = u := ⟨_, rfl⟩
            rw [hut] at bP bQ ox kx oy ky hbv
            unfold put4 at hut
            refine wpAnyH_ready (rs := [7]) (by kernel_rfl) (by simp) ?_
            refine AllReadyH.cons rfl (fun K hK => ?_) AllReadyH.nil
            go_simp
            try rw [hut]
            clear hut f0 f1 f2 f3 z0 z1 z2 z3 hHeld
            refine hK.out _ _ ?_ (fun hHeld => ?_)
            · exact SB.out.keep (Keeps.of_below hbv)
            clear hK K
            try simp only [Act.put, List.setIfInBounds_toArray, List.set_cons_zero, List.set_cons_succ, List.getElem_toArray, List.getElem_cons_zero, List.getElem_cons_succ]
            refine wpAnyH_done (by kernel_rfl) ?_ _
            clear hHeld
            go_wp2_with fail
            go_meet
            exact ⟨_, _, x, y, _, rfl, rfl, ax, ay, ox, kx, oy, ky, hB2, xB, bP, bQ, fxP, fxQ, fyP, fyQ, neX, vP, vQ, hbv⟩
        · go_simp
          have fxP := ox.far (.inr (Nat.le_refl _))
          replace ox := ox.turned ((Turned.refl [] u12).alloc (.cells #[.int .i64 0, .slice none 0 0, .slice none 0 0, .slice none 0 0] 25)) (by simp)
          replace kx := kx.keep (Keeps.alloc _ (.cells #[.int .i64 0, .slice none 0 0, .slice none 0 0, .slice none 0 0] 25))
          have ne : u1.heap.size ≠ u12.heap.size := Nat.ne_of_lt bQ.lt
          replace bQ := bQ.alloc (.cells #[.int .i64 0, .slice none 0 0, .slice none 0 0, .slice none 0 0] 25)
          have bP := Bk.new u12 25 #[.int .i64 0, .slice none 0 0, .slice none 0 0, .slice none 0 0]
          have vP := hbv.size
          replace hbv := hbv.alloc hbv.size (.cells #[.int .i64 0, .slice none 0 0, .slice none 0 0, .slice none 0 0] 25)
          obtain ⟨u15, hu15⟩ : ∃ u, u12.alloc (.cells #[.int .i64 0, .slice none 0 0, .slice none 0 0, .slice none 0 0] 25) = u := ⟨_, rfl⟩
          rw [hu15] at bP hbv bQ ox kx ⊢
          clear hu15 hHeld
          refine hK.out _ _ ?_ (fun hHeld => ?_)
          · exact SB.out.keep (Keeps.of_below hbv)
          clear hK K
          try simp only [Act.put, List.setIfInBounds_toArray, List.set_cons_zero, List.set_cons_succ, List.getElem_toArray, List.getElem_cons_zero, List.getElem_cons_succ]
          refine wpAnyH_ready (rs := [3]) (by kernel_rfl) (by simp) ?_
          refine AllReadyH.cons rfl (fun K hK => ?_) AllReadyH.nil
          · go_simp
            refine (move_any s 1 _ (HS.out.keep (Keeps.of_below hbv)) HF.out HL.out HI.out).mono ?_
            rintro e u16 ⟨y, rfl, ay, oy, ky, hb2⟩
            have fyP := oy.far (.inl bP.lt)
            replace bP := bP.below hb2
            have fyQ := oy.far (.inl bQ.lt)
            replace bQ := bQ.below hb2
            have xB := ox.under
            have hB2 := hbv.size
            replace ox := ox.turned (Turned.of_below hb2 []) (by simp)
            replace kx := kx.keep (Keeps.of_below hb2)
            replace hbv := hbv.trans (hb2.mono hbv.size)
            clear hb2 hHeld
            go_wp2_with fail
            refine hK.out _ _ ?_ (fun hHeld => ?_)
            · exact SB.out.keep (Keeps.of_below hbv)
            clear hK K
            try simp only [Act.put, List.setIfInBounds_toArray, List.set_cons_zero, List.set_cons_succ, List.getElem_toArray, List.getElem_cons_zero, List.getElem_cons_succ]
            have neX : u12.heap.size ≠ u1.heap.size := by first | exact ne | exact ne.symm
            clear ne
            obtain ⟨f0, f1, f2, f3⟩ := ZF4 bP
            obtain ⟨z0, z1, z2, z3⟩ := Z4 bP
            have PB := put4_bk bP (v0 := .int .i64 x.proto) (v1 := .slice x.ca x.cores.length x.cc) (v2 := .slice x.ha x.homes.length x.hc) (v3 := .slice x.ta x.tasks.length x.tc)
            have PT := put4_turned u16 (u12.heap.size) (.int .i64 x.proto) (.slice x.ca x.cores.length x.cc) (.slice x.ha x.homes.length x.hc) (.slice x.ta x.tasks.length x.tc)
            replace bQ := bQ.turned PT (by simpa using neX.symm)
            replace ox := ox.farF PT (by intro q hq; simp at hq; subst hq; exact fxP)
            replace kx := kx.farF PT (by intro q hq; simp at hq; subst hq; exact fxP)
            replace oy := oy.farF PT (by intro q hq; simp at hq; subst hq; exact fyP)
            replace ky := ky.farF PT (by intro q hq; simp at hq; subst hq; exact fyP)
            replace hbv := hbv.trans (PT.below hbv.size (by intro q hq; simp at hq; subst hq; exact vP))
            clear bP
            have bP := PB
            clear PB PT
            obtain ⟨ut6, hut⟩ : ∃ u, put4 u16 (u12.heap.size) (.int .i64 x.proto) (.slice x.ca x.cores.length x.cc) (.slice x.ha x.homes.length x.hc) (.slice x.ta x.tasks.length x.tc) = u := ⟨_, rfl⟩
            rw [hut] at bP bQ ox kx oy ky hbv
            unfold put4 at hut
            refine wpAnyH_ready (rs := [6]) (by kernel_rfl) (by simp) ?_
            refine AllReadyH.cons rfl (fun K hK => ?_) AllReadyH.nil
            go_simp
            try rw [hut]
            clear hut f0 f1 f2 f3 z0 z1 z2 z3 hHeld
            refine hK.out _ _ ?_ (fun hHeld => ?_)
            · exact SB.out.keep (Keeps.of_below hbv)
            clear hK K
            try simp only [Act.put, List.setIfInBounds_toArray, List.set_cons_zero, List.set_cons_succ, List.getElem_toArray, List.getElem_cons_zero, List.getElem_cons_succ]
            obtain ⟨f0, f1, f2, f3⟩ := ZF4 bQ
            obtain ⟨z0, z1, z2, z3⟩ := Z4 bQ
            have PB := put4_bk bQ (v0 := .int .i64 y.proto) (v1 := .slice y.ca y.cores.length y.cc) (v2 := .slice y.ha y.homes.length y.hc) (v3 := .slice y.ta y.tasks.length y.tc)
            have PT := put4_turned ut6 (u1.heap.size) (.int .i64 y.proto) (.slice y.ca y.cores.length y.cc) (.slice y.ha y.homes.length y.hc) (.slice y.ta y.tasks.length y.tc)
            replace bP := bP.turned PT (by simpa using neX)
            replace ox := ox.farF PT (by intro q hq; simp at hq; subst hq; exact fxQ)
            replace kx := kx.farF PT (by intro q hq; simp at hq; subst hq; exact fxQ)
            replace oy := oy.farF PT (by intro q hq; simp at hq; subst hq; exact fyQ)
            replace ky := ky.farF PT (by intro q hq; simp at hq; subst hq; exact fyQ)
            replace hbv := hbv.trans (PT.below hbv.size (by intro q hq; simp at hq; subst hq; exact vQ))
            clear bQ
            have bQ := PB
            clear PB PT
            obtain ⟨ut7, hut⟩ : ∃ u, put4 ut6 (u1.heap.size) (.int .i64 y.proto) (.slice y.ca y.cores.length y.cc) (.slice y.ha y.homes.length y.hc) (.slice y.ta y.tasks.length y.tc) = u := ⟨_, rfl⟩
            rw [hut] at bP bQ ox kx oy ky hbv
            unfold put4 at hut
            refine wpAnyH_ready (rs := [7]) (by kernel_rfl) (by simp) ?_
            refine AllReadyH.cons rfl (fun K hK => ?_) AllReadyH.nil
            go_simp
            try rw [hut]
            clear hut f0 f1 f2 f3 z0 z1 z2 z3 hHeld
            refine hK.out _ _ ?_ (fun hHeld => ?_)
            · exact SB.out.keep (Keeps.of_below hbv)
            clear hK K
            try simp only [Act.put, List.setIfInBounds_toArray, List.set_cons_zero, List.set_cons_succ, List.getElem_toArray, List.getElem_cons_zero, List.getElem_cons_succ]
            refine wpAnyH_done (by kernel_rfl) ?_ _
            clear hHeld
            go_wp2_with fail
            go_meet
            exact ⟨_, _, x, y, _, rfl, rfl, ax, ay, ox, kx, oy, ky, hB2, xB, bP, bQ, fxP, fxQ, fyP, fyQ, neX, vP, vQ, hbv⟩
    · go_simp
      have bP := Bk.new vd 25 #[.int .i64 0, .slice none 0 0, .slice none 0 0, .slice none 0 0]
      have vP := hbv.size
      replace hbv := hbv.alloc hbv.size (.cells #[.int .i64 0, .slice none 0 0, .slice none 0 0, .slice none 0 0] 25)
      obtain ⟨u17, hu17⟩ : ∃ u, vd.alloc (.cells #[.int .i64 0, .slice none 0 0, .slice none 0 0, .slice none 0 0] 25) = u := ⟨_, rfl⟩
      rw [hu17] at bP hbv ⊢
      clear hu17 hHeld
      refine hK.out _ _ ?_ (fun hHeld => ?_)
      · exact SB.out.keep (Keeps.of_below hbv)
      clear hK K
      try simp only [Act.put, List.setIfInBounds_toArray, List.set_cons_zero, List.set_cons_succ, List.getElem_toArray, List.getElem_cons_zero, List.getElem_cons_succ]
      refine wpAnyH_ready (rs := [1, 5]) (by kernel_rfl) (by simp) ?_
      refine AllReadyH.cons rfl (fun K hK => ?_) (AllReadyH.cons rfl (fun K hK => ?_) AllReadyH.nil)
      · go_simp
        refine (canon_any s _ (HS.out.keep (Keeps.of_below hbv)) HF.out HL.out).mono ?_
        rintro e u18 ⟨x, rfl, ax, ox, kx, hb2⟩
        have fxP := ox.far (.inl bP.lt)
        replace bP := bP.below hb2
        replace ox := ox.low hbv.size
        replace hbv := hbv.trans (hb2.mono hbv.size)
        clear hb2 hHeld
        go_wp2_with fail
        refine hK.out _ _ ?_ (fun hHeld => ?_)
        · exact SB.out.keep (Keeps.of_below hbv)
        clear hK K
        try simp only [Act.put, List.setIfInBounds_toArray, List.set_cons_zero, List.set_cons_succ, List.getElem_toArray, List.getElem_cons_zero, List.getElem_cons_succ]
        refine wpAnyH_ready (rs := [3, 5]) (by kernel_rfl) (by simp) ?_
        refine AllReadyH.cons rfl (fun K hK => ?_) (AllReadyH.cons rfl (fun K hK => ?_) AllReadyH.nil)
        · go_simp
          refine (move_any s 1 _ (HS.out.keep (Keeps.of_below hbv)) HF.out HL.out HI.out).mono ?_
          rintro e u19 ⟨y, rfl, ay, oy, ky, hb2⟩
          have fyP := oy.far (.inl bP.lt)
          replace bP := bP.below hb2
          have xB := ox.under
          have hB2 := hbv.size
          replace ox := ox.turned (Turned.of_below hb2 []) (by simp)
          replace kx := kx.keep (Keeps.of_below hb2)
          replace hbv := hbv.trans (hb2.mono hbv.size)
          clear hb2 hHeld
          go_wp2_with fail
          refine hK.out _ _ ?_ (fun hHeld => ?_)
          · exact SB.out.keep (Keeps.of_below hbv)
          clear hK K
          try simp only [Act.put, List.setIfInBounds_toArray, List.set_cons_zero, List.set_cons_succ, List.getElem_toArray, List.getElem_cons_zero, List.getElem_cons_succ]
          refine wpAnyH_ready (rs := [5]) (by kernel_rfl) (by simp) ?_
          refine AllReadyH.cons rfl (fun K hK => ?_) AllReadyH.nil
          · go_simp
            have fxQ := ox.far (.inr (Nat.le_refl _))
            replace ox := ox.turned ((Turned.refl [] u19).alloc (.cells #[.int .i64 0, .slice none 0 0, .slice none 0 0, .slice none 0 0] 25)) (by simp)
            replace kx := kx.keep (Keeps.alloc _ (.cells #[.int .i64 0, .slice none 0 0, .slice none 0 0, .slice none 0 0] 25))
            have fyQ := oy.far (.inr (Nat.le_refl _))
            replace oy := oy.turned ((Turned.refl [] u19).alloc (.cells #[.int .i64 0, .slice none 0 0, .slice none 0 0, .slice none 0 0] 25)) (by simp)
            replace ky := ky.keep (Keeps.alloc _ (.cells #[.int .i64 0, .slice none 0 0, .slice none 0 0, .slice none 0 0] 25))
            have ne : vd.heap.size ≠ u19.heap.size := Nat.ne_of_lt bP.lt
            replace bP := bP.alloc (.cells #[.int .i64 0, .slice none 0 0, .slice none 0 0, .slice none 0 0] 25)
            have bQ := Bk.new u19 25 #[.int .i64 0, .slice none 0 0, .slice none 0 0, .slice none 0 0]
            have vQ := hbv.size
            replace hbv := hbv.alloc hbv.size (.cells #[.int .i64 0, .slice none 0 0, .slice none 0 0, .slice none 0 0] 25)
            obtain ⟨u20, hu20⟩ : ∃ u, u19.alloc (.cells #[.int .i64 0, .slice none 0 0, .slice none 0 0, .slice none 0 0] 25) = u := ⟨_, rfl⟩
            rw [hu20] at bQ hbv bP ox kx oy ky ⊢
            clear hu20 hHeld
            refine hK.out _ _ ?_ (fun hHeld => ?_)
            · exact SB.out.keep (Keeps.of_below hbv)
            clear hK K
            try simp only [Act.put, List.setIfInBounds_toArray, List.set_cons_zero, List.set_cons_succ, List.getElem_toArray, List.getElem_cons_zero, List.getElem_cons_succ]
            have neX : vd.heap.size ≠ u19.heap.size := by first | exact ne | exact ne.symm
            clear ne
            obtain ⟨f0, f1, f2, f3⟩ := ZF4 bP
            obtain ⟨z0, z1, z2, z3⟩ := Z4 bP
            have PB := put4_bk bP (v0 := .int .i64 x.proto) (v1 := .slice x.ca x.cores.length x.cc) (v2 := .slice x.ha x.homes.length x.hc) (v3 := .slice x.ta x.tasks.length x.tc)
            have PT := put4_turned u20 (vd.heap.size) (.int .i64 x.proto) (.slice x.ca x.cores.length x.cc) (.slice x.ha x.homes.length x.hc) (.slice x.ta x.tasks.length x.tc)
            replace bQ := bQ.turned PT (by simpa using neX.symm)
            replace ox := ox.farF PT (by intro q hq; simp at hq; subst hq; exact fxP)
            replace kx := kx.farF PT (by intro q hq; simp at hq; subst hq; exact fxP)
            replace oy := oy.farF PT (by intro q hq; simp at hq; subst hq; exact fyP)
            replace ky := ky.farF PT (by intro q hq; simp at hq; subst hq; exact fyP)
            replace hbv := hbv.trans (PT.below hbv.size (by intro q hq; simp at hq; subst hq; exact vP))
            clear bP
            have bP := PB
            clear PB PT
            obtain ⟨ut6, hut⟩ : ∃ u, put4 u20 (vd.heap.size) (.int .i64 x.proto) (.slice x.ca x.cores.length x.cc) (.slice x.ha x.homes.length x.hc) (.slice x.ta x.tasks.length x.tc) = u := ⟨_, rfl⟩
            rw [hut] at bP bQ ox kx oy ky hbv
            unfold put4 at hut
            refine wpAnyH_ready (rs := [6]) (by kernel_rfl) (by simp) ?_
            refine AllReadyH.cons rfl (fun K hK => ?_) AllReadyH.nil
            go_simp
            try rw [hut]
            clear hut f0 f1 f2 f3 z0 z1 z2 z3 hHeld
            refine hK.out _ _ ?_ (fun hHeld => ?_)
            · exact SB.out.keep (Keeps.of_below hbv)
            clear hK K
            try simp only [Act.put, List.setIfInBounds_toArray, List.set_cons_zero, List.set_cons_succ, List.getElem_toArray, List.getElem_cons_zero, List.getElem_cons_succ]
            obtain ⟨f0, f1, f2, f3⟩ := ZF4 bQ
            obtain ⟨z0, z1, z2, z3⟩ := Z4 bQ
            have PB := put4_bk bQ (v0 := .int .i64 y.proto) (v1 := .slice y.ca y.cores.length y.cc) (v2 := .slice y.ha y.homes.length y.hc) (v3 := .slice y.ta y.tasks.length y.tc)
            have PT := put4_turned ut6 (u19.heap.size) (.int .i64 y.proto) (.slice y.ca y.cores.length y.cc) (.slice y.ha y.homes.length y.hc) (.slice y.ta y.tasks.length y.tc)
            replace bP := bP.turned PT (by simpa using neX)
            replace ox := ox.farF PT (by intro q hq; simp at hq; subst hq; exact fxQ)
            replace kx := kx.farF PT (by intro q hq; simp at hq; subst hq; exact fxQ)
            replace oy := oy.farF PT (by intro q hq; simp at hq; subst hq; exact fyQ)
            replace ky := ky.farF PT (by intro q hq; simp at hq; subst hq; exact fyQ)
            replace hbv := hbv.trans (PT.below hbv.size (by intro q hq; simp at hq; subst hq; exact vQ))
            clear bQ
            have bQ := PB
            clear PB PT
            obtain ⟨ut7, hut⟩ : ∃ u, put4 ut6 (u19.heap.size) (.int .i64 y.proto) (.slice y.ca y.cores.length y.cc) (.slice y.ha y.homes.length y.hc) (.slice y.ta y.tasks.length y.tc) = u := ⟨_, rfl⟩
            rw [hut] at bP bQ ox kx oy ky hbv
            unfold put4 at hut
            refine wpAnyH_ready (rs := [7]) (by kernel_rfl) (by simp) ?_
            refine AllReadyH.cons rfl (fun K hK => ?_) AllReadyH.nil
            go_simp
            try rw [hut]
            clear hut f0 f1 f2 f3 z0 z1 z2 z3 hHeld
            refine hK.out _ _ ?_ (fun hHeld => ?_)
            · exact SB.out.keep (Keeps.of_below hbv)
            clear hK K
            try simp only [Act.put, List.setIfInBounds_toArray, List.set_cons_zero, List.set_cons_succ, List.getElem_toArray, List.getElem_cons_zero, List.getElem_cons_succ]
            refine wpAnyH_done (by kernel_rfl) ?_ _
            clear hHeld
            go_wp2_with fail
            go_meet
            exact ⟨_, _, x, y, _, rfl, rfl, ax, ay, ox, kx, oy, ky, hB2, xB, bP, bQ, fxP, fxQ, fyP, fyQ, neX, vP, vQ, hbv⟩
        · go_simp
          have fxQ := ox.far (.inr (Nat.le_refl _))
          replace ox := ox.turned ((Turned.refl [] u18).alloc (.cells #[.int .i64 0, .slice none 0 0, .slice none 0 0, .slice none 0 0] 25)) (by simp)
          replace kx := kx.keep (Keeps.alloc _ (.cells #[.int .i64 0, .slice none 0 0, .slice none 0 0, .slice none 0 0] 25))
          have ne : vd.heap.size ≠ u18.heap.size := Nat.ne_of_lt bP.lt
          replace bP := bP.alloc (.cells #[.int .i64 0, .slice none 0 0, .slice none 0 0, .slice none 0 0] 25)
          have bQ := Bk.new u18 25 #[.int .i64 0, .slice none 0 0, .slice none 0 0, .slice none 0 0]
          have vQ := hbv.size
          replace hbv := hbv.alloc hbv.size (.cells #[.int .i64 0, .slice none 0 0, .slice none 0 0, .slice none 0 0] 25)
          obtain ⟨u21, hu21⟩ : ∃ u, u18.alloc (.cells #[.int .i64 0, .slice none 0 0, .slice none 0 0, .slice none 0 0] 25) = u := ⟨_, rfl⟩
          rw [hu21] at bQ hbv bP ox kx ⊢
          clear hu21 hHeld
          refine hK.out _ _ ?_ (fun hHeld => ?_)
          · exact SB.out.keep (Keeps.of_below hbv)
          clear hK K
          try simp only [Act.put, List.setIfInBounds_toArray, List.set_cons_zero, List.set_cons_succ, List.getElem_toArray, List.getElem_cons_zero, List.getElem_cons_succ]
          refine wpAnyH_ready (rs := [3]) (by kernel_rfl) (by simp) ?_
          refine AllReadyH.cons rfl (fun K hK => ?_) AllReadyH.nil
          · go_simp
            refine (move_any s 1 _ (HS.out.keep (Keeps.of_below hbv)) HF.out HL.out HI.out).mono ?_
            rintro e u22 ⟨y, rfl, ay, oy, ky, hb2⟩
            have fyP := oy.far (.inl bP.lt)
            replace bP := bP.below hb2
            have fyQ := oy.far (.inl bQ.lt)
            replace bQ := bQ.below hb2
            have xB := ox.under
            have hB2 := hbv.size
            replace ox := ox.turned (Turned.of_below hb2 []) (by simp)
            replace kx := kx.keep (Keeps.of_below hb2)
            replace hbv := hbv.trans (hb2.mono hbv.size)
            clear hb2 hHeld
            go_wp2_with fail
            refine hK.out _ _ ?_ (fun hHeld => ?_)
            · exact SB.out.keep (Keeps.of_below hbv)
            clear hK K
            try simp only [Act.put, List.setIfInBounds_toArray, List.set_cons_zero, List.set_cons_succ, List.getElem_toArray, List.getElem_cons_zero, List.getElem_cons_succ]
            have neX : vd.heap.size ≠ u18.heap.size := by first | exact ne | exact ne.symm
            clear ne
            obtain ⟨f0, f1, f2, f3⟩ := ZF4 bP
            obtain ⟨z0, z1, z2, z3⟩ := Z4 bP
            have PB := put4_bk bP (v0 := .int .i64 x.proto) (v1 := .slice x.ca x.cores.length x.cc) (v2 := .slice x.ha x.homes.length x.hc) (v3 := .slice x.ta x.tasks.length x.tc)
            have PT := put4_turned u22 (vd.heap.size) (.int .i64 x.proto) (.slice x.ca x.cores.length x.cc) (.slice x.ha x.homes.length x.hc) (.slice x.ta x.tasks.length x.tc)
            replace bQ := bQ.turned PT (by simpa using neX.symm)
            replace ox := ox.farF PT (by intro q hq; simp at hq; subst hq; exact fxP)
            replace kx := kx.farF PT (by intro q hq; simp at hq; subst hq; exact fxP)
            replace oy := oy.farF PT (by intro q hq; simp at hq; subst hq; exact fyP)
            replace ky := ky.farF PT (by intro q hq; simp at hq; subst hq; exact fyP)
            replace hbv := hbv.trans (PT.below hbv.size (by intro q hq; simp at hq; subst hq; exact vP))
            clear bP
            have bP := PB
            clear PB PT
            obtain ⟨ut6, hut⟩ : ∃ u, put4 u22 (vd.heap.size) (.int .i64 x.proto) (.slice x.ca x.cores.length x.cc) (.slice x.ha x.homes.length x.hc) (.slice x.ta x.tasks.length x.tc) = u := ⟨_, rfl⟩
            rw [hut] at bP bQ ox kx oy ky hbv
            unfold put4 at hut
            refine wpAnyH_ready (rs := [6]) (by kernel_rfl) (by simp) ?_
            refine AllReadyH.cons rfl (fun K hK => ?_) AllReadyH.nil
            go_simp
            try rw [hut]
            clear hut f0 f1 f2 f3 z0 z1 z2 z3 hHeld
            refine hK.out _ _ ?_ (fun hHeld => ?_)
            · exact SB.out.keep (Keeps.of_below hbv)
            clear hK K
            try simp only [Act.put, List.setIfInBounds_toArray, List.set_cons_zero, List.set_cons_succ, List.getElem_toArray, List.getElem_cons_zero, List.getElem_cons_succ]
            obtain ⟨f0, f1, f2, f3⟩ := ZF4 bQ
            obtain ⟨z0, z1, z2, z3⟩ := Z4 bQ
            have PB := put4_bk bQ (v0 := .int .i64 y.proto) (v1 := .slice y.ca y.cores.length y.cc) (v2 := .slice y.ha y.homes.length y.hc) (v3 := .slice y.ta y.tasks.length y.tc)
            have PT := put4_turned ut6 (u18.heap.size) (.int .i64 y.proto) (.slice y.ca y.cores.length y.cc) (.slice y.ha y.homes.length y.hc) (.slice y.ta y.tasks.length y.tc)
            replace bP := bP.turned PT (by simpa using neX)
            replace ox := ox.farF PT (by intro q hq; simp at hq; subst hq; exact fxQ)
            replace kx := kx.farF PT (by intro q hq; simp at hq; subst hq; exact fxQ)
            replace oy := oy.farF PT (by intro q hq; simp at hq; subst hq; exact fyQ)
            replace ky := ky.farF PT (by intro q hq; simp at hq; subst hq; exact fyQ)
            replace hbv := hbv.trans (PT.below hbv.size (by intro q hq; simp at hq; subst hq; exact vQ))
            clear bQ
            have bQ := PB
            clear PB PT
            obtain ⟨ut7, hut⟩ : ∃ u, put4 ut6 (u18.heap.size) (.int .i64 y.proto) (.slice y.ca y.cores.length y.cc) (.slice y.ha y.homes.length y.hc) (.slice y.ta y.tasks.length y.tc) = u := ⟨_, rfl⟩
            rw [hut] at bP bQ ox kx oy ky hbv
            unfold put4 at hut
            refine wpAnyH_ready (rs := [7]) (by kernel_rfl) (by simp) ?_
            refine AllReadyH.cons rfl (fun K hK => ?_) AllReadyH.nil
            go_simp
            try rw [hut]
            clear hut f0 f1 f2 f3 z0 z1 z2 z3 hHeld
            refine hK.out _ _ ?_ (fun hHeld => ?_)
            · exact SB.out.keep (Keeps.of_below hbv)
            clear hK K
            try simp only [Act.put, List.setIfInBounds_toArray, List.set_cons_zero, List.set_cons_succ, List.getElem_toArray, List.getElem_cons_zero, List.getElem_cons_succ]
            refine wpAnyH_done (by kernel_rfl) ?_ _
            clear hHeld
            go_wp2_with fail
            go_meet
            exact ⟨_, _, x, y, _, rfl, rfl, ax, ay, ox, kx, oy, ky, hB2, xB, bP, bQ, fxP, fxQ, fyP, fyQ, neX, vP, vQ, hbv⟩
      · go_simp
        have ne : vd.heap.size ≠ u17.heap.size := Nat.ne_of_lt bP.lt
        replace bP := bP.alloc (.cells #[.int .i64 0, .slice none 0 0, .slice none 0 0, .slice none 0 0] 25)
        have bQ := Bk.new u17 25 #[.int .i64 0, .slice none 0 0, .slice none 0 0, .slice none 0 0]
        have vQ := hbv.size
        replace hbv := hbv.alloc hbv.size (.cells #[.int .i64 0, .slice none 0 0, .slice none 0 0, .slice none 0 0] 25)
        obtain ⟨u23, hu23⟩ : ∃ u, u17.alloc (.cells #[.int .i64 0, .slice none 0 0, .slice none 0 0, .slice none 0 0] 25) = u := ⟨_, rfl⟩
        rw [hu23] at bQ hbv bP ⊢
        clear hu23 hHeld
        refine hK.out _ _ ?_ (fun hHeld => ?_)
        · exact SB.out.keep (Keeps.of_below hbv)
        clear hK K
        try simp only [Act.put, List.setIfInBounds_toArray, List.set_cons_zero, List.set_cons_succ, List.getElem_toArray, List.getElem_cons_zero, List.getElem_cons_succ]
        refine wpAnyH_ready (rs := [1]) (by kernel_rfl) (by simp) ?_
        refine AllReadyH.cons rfl (fun K hK => ?_) AllReadyH.nil
        · go_simp
          refine (canon_any s _ (HS.out.keep (Keeps.of_below hbv)) HF.out HL.out).mono ?_
          rintro e u24 ⟨x, rfl, ax, ox, kx, hb2⟩
          have fxP := ox.far (.inl bP.lt)
          replace bP := bP.below hb2
          have fxQ := ox.far (.inl bQ.lt)
          replace bQ := bQ.below hb2
          replace ox := ox.low hbv.size
          replace hbv := hbv.trans (hb2.mono hbv.size)
          clear hb2 hHeld
          go_wp2_with fail
          refine hK.out _ _ ?_ (fun hHeld => ?_)
          · exact SB.out.keep (Keeps.of_below hbv)
          clear hK K
          try simp only [Act.put, List.setIfInBounds_toArray, List.set_cons_zero, List.set_cons_succ, List.getElem_toArray, List.getElem_cons_zero, List.getElem_cons_succ]
          refine wpAnyH_ready (rs := [3]) (by kernel_rfl) (by simp) ?_
          refine AllReadyH.cons rfl (fun K hK => ?_) AllReadyH.nil
          · go_simp
            refine (move_any s 1 _ (HS.out.keep (Keeps.of_below hbv)) HF.out HL.out HI.out).mono ?_
            rintro e u25 ⟨y, rfl, ay, oy, ky, hb2⟩
            have fyP := oy.far (.inl bP.lt)
            replace bP := bP.below hb2
            have fyQ := oy.far (.inl bQ.lt)
            replace bQ := bQ.below hb2
            have xB := ox.under
            have hB2 := hbv.size
            replace ox := ox.turned (Turned.of_below hb2 []) (by simp)
            replace kx := kx.keep (Keeps.of_below hb2)
            replace hbv := hbv.trans (hb2.mono hbv.size)
            clear hb2 hHeld
            go_wp2_with fail
            refine hK.out _ _ ?_ (fun hHeld => ?_)
            · exact SB.out.keep (Keeps.of_below hbv)
            clear hK K
            try simp only [Act.put, List.setIfInBounds_toArray, List.set_cons_zero, List.set_cons_succ, List.getElem_toArray, List.getElem_cons_zero, List.getElem_cons_succ]
            have neX : vd.heap.size ≠ u17.heap.size := by first | exact ne | exact ne.symm
            clear ne
            obtain ⟨f0, f1, f2, f3⟩ := ZF4 bP
            obtain ⟨z0, z1, z2, z3⟩ := Z4 bP
            have PB := put4_bk bP (v0 := .int .i64 x.proto) (v1 := .slice x.ca x.cores.length x.cc) (v2 := .slice x.ha x.homes.length x.hc) (v3 := .slice x.ta x.tasks.length x.tc)
            have PT := put4_turned u25 (vd.heap.size) (.int .i64 x.proto) (.slice x.ca x.cores.length x.cc) (.slice x.ha x.homes.length x.hc) (.slice x.ta x.tasks.length x.tc)
            replace bQ := bQ.turned PT (by simpa using neX.symm)
            replace ox := ox.farF PT (by intro q hq; simp at hq; subst hq; exact fxP)
            replace kx := kx.farF PT (by intro q hq; simp at hq; subst hq; exact fxP)
            replace oy := oy.farF PT (by intro q hq; simp at hq; subst hq; exact fyP)
            replace ky := ky.farF PT (by intro q hq; simp at hq; subst hq; exact fyP)
            replace hbv := hbv.trans (PT.below hbv.size (by intro q hq; simp at hq; subst hq; exact vP))
            clear bP
            have bP := PB
            clear PB PT
            obtain ⟨ut6, hut⟩ : ∃ u, put4 u25 (vd.heap.size) (.int .i64 x.proto) (.slice x.ca x.cores.length x.cc) (.slice x.ha x.homes.length x.hc) (.slice x.ta x.tasks.length x.tc) = u := ⟨_, rfl⟩
            rw [hut] at bP bQ ox kx oy ky hbv
            unfold put4 at hut
            refine wpAnyH_ready (rs := [6]) (by kernel_rfl) (by simp) ?_
            refine AllReadyH.cons rfl (fun K hK => ?_) AllReadyH.nil
            go_simp
            try rw [hut]
            clear hut f0 f1 f2 f3 z0 z1 z2 z3 hHeld
            refine hK.out _ _ ?_ (fun hHeld => ?_)
            · exact SB.out.keep (Keeps.of_below hbv)
            clear hK K
            try simp only [Act.put, List.setIfInBounds_toArray, List.set_cons_zero, List.set_cons_succ, List.getElem_toArray, List.getElem_cons_zero, List.getElem_cons_succ]
            obtain ⟨f0, f1, f2, f3⟩ := ZF4 bQ
            obtain ⟨z0, z1, z2, z3⟩ := Z4 bQ
            have PB := put4_bk bQ (v0 := .int .i64 y.proto) (v1 := .slice y.ca y.cores.length y.cc) (v2 := .slice y.ha y.homes.length y.hc) (v3 := .slice y.ta y.tasks.length y.tc)
            have PT := put4_turned ut6 (u17.heap.size) (.int .i64 y.proto) (.slice y.ca y.cores.length y.cc) (.slice y.ha y.homes.length y.hc) (.slice y.ta y.tasks.length y.tc)
            replace bP := bP.turned PT (by simpa using neX)
            replace ox := ox.farF PT (by intro q hq; simp at hq; subst hq; exact fxQ)
            replace kx := kx.farF PT (by intro q hq; simp at hq; subst hq; exact fxQ)
            replace oy := oy.farF PT (by intro q hq; simp at hq; subst hq; exact fyQ)
            replace ky := ky.farF PT (by intro q hq; simp at hq; subst hq; exact fyQ)
            replace hbv := hbv.trans (PT.below hbv.size (by intro q hq; simp at hq; subst hq; exact vQ))
            clear bQ
            have bQ := PB
            clear PB PT
            obtain ⟨ut7, hut⟩ : ∃ u, put4 ut6 (u17.heap.size) (.int .i64 y.proto) (.slice y.ca y.cores.length y.cc) (.slice y.ha y.homes.length y.hc) (.slice y.ta y.tasks.length y.tc) = u := ⟨_, rfl⟩
            rw [hut] at bP bQ ox kx oy ky hbv
            unfold put4 at hut
            refine wpAnyH_ready (rs := [7]) (by kernel_rfl) (by simp) ?_
            refine AllReadyH.cons rfl (fun K hK => ?_) AllReadyH.nil
            go_simp
            try rw [hut]
            clear hut f0 f1 f2 f3 z0 z1 z2 z3 hHeld
            refine hK.out _ _ ?_ (fun hHeld => ?_)
            · exact SB.out.keep (Keeps.of_below hbv)
            clear hK K
            try simp only [Act.put, List.setIfInBounds_toArray, List.set_cons_zero, List.set_cons_succ, List.getElem_toArray, List.getElem_cons_zero, List.getElem_cons_succ]
            refine wpAnyH_done (by kernel_rfl) ?_ _
            clear hHeld
            go_wp2_with fail
            go_meet
            exact ⟨_, _, x, y, _, rfl, rfl, ax, ay, ox, kx, oy, ky, hB2, xB, bP, bQ, fxP, fxQ, fyP, fyQ, neX, vP, vQ, hbv⟩
    · go_simp
      have bQ := Bk.new vd 25 #[.int .i64 0, .slice none 0 0, .slice none 0 0, .slice none 0 0]
      have vQ := hbv.size
      replace hbv := hbv.alloc hbv.size (.cells #[.int .i64 0, .slice none 0 0, .slice none 0 0, .slice none 0 0] 25)
      obtain ⟨u26, hu26⟩ : ∃ u, vd.alloc (.cells #[.int .i64 0, .slice none 0 0, .slice none 0 0, .slice none 0 0] 25) = u := ⟨_, rfl⟩
      rw [hu26] at bQ hbv ⊢
      clear hu26 hHeld
      refine hK.out _ _ ?_ (fun hHeld => ?_)
      · exact SB.out.keep (Keeps.of_below hbv)
      clear hK K
      try simp only [Act.put, List.setIfInBounds_toArray, List.set_cons_zero, List.set_cons_succ, List.getElem_toArray, List.getElem_cons_zero, List.getElem_cons_succ]
      refine wpAnyH_ready (rs := [1, 4]) (by kernel_rfl) (by simp) ?_
      refine AllReadyH.cons rfl (fun K hK => ?_) (AllReadyH.cons rfl (fun K hK => ?_) AllReadyH.nil)
      · go_simp
        refine (canon_any s _ (HS.out.keep (Keeps.of_below hbv)) HF.out HL.out).mono ?_
        rintro e u27 ⟨x, rfl, ax, ox, kx, hb2⟩
        have fxQ := ox.far (.inl bQ.lt)
        replace bQ := bQ.below hb2
        replace ox := ox.low hbv.size
        replace hbv := hbv.trans (hb2.mono hbv.size)
        clear hb2 hHeld
        go_wp2_with fail
        refine hK.out _ _ ?_ (fun hHeld => ?_)
        · exact SB.out.keep (Keeps.of_below hbv)
        clear hK K
        try simp only [Act.put, List.setIfInBounds_toArray, List.set_cons_zero, List.set_cons_succ, List.getElem_toArray, List.getElem_cons_zero, List.getElem_cons_succ]
        refine wpAnyH_ready (rs := [3, 4]) (by kernel_rfl) (by simp) ?_
        refine AllReadyH.cons rfl (fun K hK => ?_) (AllReadyH.cons rfl (fun K hK => ?_) AllReadyH.nil)
        · go_simp
          refine (move_any s 1 _ (HS.out.keep (Keeps.of_below hbv)) HF.out HL.out HI.out).mono ?_
          rintro e u28 ⟨y, rfl, ay, oy, ky, hb2⟩
          have fyQ := oy.far (.inl bQ.lt)
          replace bQ := bQ.below hb2
          have xB := ox.under
          have hB2 := hbv.size
          replace ox := ox.turned (Turned.of_below hb2 []) (by simp)
          replace kx := kx.keep (Keeps.of_below hb2)
          replace hbv := hbv.trans (hb2.mono hbv.size)
          clear hb2 hHeld
          go_wp2_with fail
          refine hK.out _ _ ?_ (fun hHeld => ?_)
          · exact SB.out.keep (Keeps.of_below hbv)
          clear hK K
          try simp only [Act.put, List.setIfInBounds_toArray, List.set_cons_zero, List.set_cons_succ, List.getElem_toArray, List.getElem_cons_zero, List.getElem_cons_succ]
          refine wpAnyH_ready (rs := [4]) (by kernel_rfl) (by simp) ?_
          refine AllReadyH.cons rfl (fun K hK => ?_) AllReadyH.nil
          · go_simp
            have fxP := ox.far (.inr (Nat.le_refl _))
            replace ox := ox.turned ((Turned.refl [] u28).alloc (.cells #[.int .i64 0, .slice none 0 0, .slice none 0 0, .slice none 0 0] 25)) (by simp)
            replace kx := kx.keep (Keeps.alloc _ (.cells #[.int .i64 0, .slice none 0 0, .slice none 0 0, .slice none 0 0] 25))
            have fyP := oy.far (.inr (Nat.le_refl _))
            replace oy := oy.turned ((Turned.refl [] u28).alloc (.cells #[.int .i64 0, .slice none 0 0, .slice none 0 0, .slice none 0 0] 25)) (by simp)
            replace ky := ky.keep (Keeps.alloc _ (.cells #[.int .i64 0, .slice none 0 0, .slice none 0 0, .slice none 0 0] 25))
            have ne : vd.heap.size ≠ u28.heap.size := Nat.ne_of_lt bQ.lt
            replace bQ := bQ.alloc (.cells #[.int .i64 0, .slice none 0 0, .slice none 0 0, .slice none 0 0] 25)
            have bP := Bk.new u28 25 #[.int .i64 0, .slice none 0 0, .slice none 0 0, .slice none 0 0]
            have vP := hbv.size
            replace hbv := hbv.alloc hbv.size (.cells #[.int .i64 0, .slice none 0 0, .slice none 0 0, .slice none 0 0] 25)
            obtain ⟨u29, hu29⟩ : ∃ u, u28.alloc (.cells #[.int .i64 0, .slice none 0 0, .slice none 0 0, .slice none 0 0] 25) = u := ⟨_, rfl⟩
            rw [hu29] at bP hbv bQ ox kx oy ky ⊢
            clear hu29 hHeld
            refine hK.out _ _ ?_ (fun hHeld => ?_)
            · exact SB.out.keep (Keeps.of_below hbv)
            clear hK K
            try simp only [Act.put, List.setIfInBounds_toArray, List.set_cons_zero, List.set_cons_succ, List.getElem_toArray, List.getElem_cons_zero, List.getElem_cons_succ]
            have neX : u28.heap.size ≠ vd.heap.size := by first | exact ne | exact ne.symm
            clear ne
            obtain ⟨f0, f1, f2, f3⟩ := ZF4 bP
            obtain ⟨z0, z1, z2, z3⟩ := Z4 bP
            have PB := put4_bk bP (v0 := .int .i64 x.proto) (v1 := .slice x.ca x.cores.length x.cc) (v2 := .slice x.ha x.homes.length x.hc) (v3 := .slice x.ta x.tasks.length x.tc)
            have PT := put4_turned u29 (u28.heap.size) (.int .i64 x.proto) (.slice x.ca x.cores.length x.cc) (.slice x.ha x.homes.length x.hc) (.slice x.ta x.tasks.length x.tc)
            replace bQ := bQ.turned PT (by simpa using neX.symm)
            replace ox := ox.farF PT (by intro q hq; simp at hq; subst hq; exact fxP)
            replace kx := kx.farF PT (by intro q hq; simp at hq; subst hq; exact fxP)
            replace oy := oy.farF PT (by intro q hq; simp at hq; subst hq; exact fyP)
            replace ky := ky.farF PT (by intro q hq; simp at hq; subst hq; exact fyP)
            replace hbv := hbv.trans (PT.below hbv.size (by intro q hq; simp at hq; subst hq; exact vP))
            clear bP
            have bP := PB
            clear PB PT
            obtain ⟨ut6, hut⟩ : ∃ u, put4 u29 (u28.heap.size) (.int .i64 x.proto) (.slice x.ca x.cores.length x.cc) (.slice x.ha x.homes.length x.hc) (.slice x.ta x.tasks.length x.tc) = u := ⟨_, rfl⟩
            rw [hut] at bP bQ ox kx oy ky hbv
            unfold put4 at hut
            refine wpAnyH_ready (rs := [6]) (by kernel_rfl) (by simp) ?_
            refine AllReadyH.cons rfl (fun K hK => ?_) AllReadyH.nil
            go_simp
            try rw [hut]
            clear hut f0 f1 f2 f3 z0 z1 z2 z3 hHeld
            refine hK.out _ _ ?_ (fun hHeld => ?_)
            · exact SB.out.keep (Keeps.of_below hbv)
            clear hK K
            try simp only [Act.put, List.setIfInBounds_toArray, List.set_cons_zero, List.set_cons_succ, List.getElem_toArray, List.getElem_cons_zero, List.getElem_cons_succ]
            obtain ⟨f0, f1, f2, f3⟩ := ZF4 bQ
            obtain ⟨z0, z1, z2, z3⟩ := Z4 bQ
            have PB := put4_bk bQ (v0 := .int .i64 y.proto) (v1 := .slice y.ca y.cores.length y.cc) (v2 := .slice y.ha y.homes.length y.hc) (v3 := .slice y.ta y.tasks.length y.tc)
            have PT := put4_turned ut6 (vd.heap.size) (.int .i64 y.proto) (.slice y.ca y.cores.length y.cc) (.slice y.ha y.homes.length y.hc) (.slice y.ta y.tasks.length y.tc)
            replace bP := bP.turned PT (by simpa using neX)
            replace ox := ox.farF PT (by intro q hq; simp at hq; subst hq; exact fxQ)
            replace kx := kx.farF PT (by intro q hq; simp at hq; subst hq; exact fxQ)
            replace oy := oy.farF PT (by intro q hq; simp at hq; subst hq; exact fyQ)
            replace ky := ky.farF PT (by intro q hq; simp at hq; subst hq; exact fyQ)
            replace hbv := hbv.trans (PT.below hbv.size (by intro q hq; simp at hq; subst hq; exact vQ))
            clear bQ
            have bQ := PB
            clear PB PT
            obtain ⟨ut7, hut⟩ : ∃ u, put4 ut6 (vd.heap.size) (.int .i64 y.proto) (.slice y.ca y.cores.length y.cc) (.slice y.ha y.homes.length y.hc) (.slice y.ta y.tasks.length y.tc) = u := ⟨_, rfl⟩
            rw [hut] at bP bQ ox kx oy ky hbv
            unfold put4 at hut
            refine wpAnyH_ready (rs := [7]) (by kernel_rfl) (by simp) ?_
            refine AllReadyH.cons rfl (fun K hK => ?_) AllReadyH.nil
            go_simp
            try rw [hut]
            clear hut f0 f1 f2 f3 z0 z1 z2 z3 hHeld
            refine hK.out _ _ ?_ (fun hHeld => ?_)
            · exact SB.out.keep (Keeps.of_below hbv)
            clear hK K
            try simp only [Act.put, List.setIfInBounds_toArray, List.set_cons_zero, List.set_cons_succ, List.getElem_toArray, List.getElem_cons_zero, List.getElem_cons_succ]
            refine wpAnyH_done (by kernel_rfl) ?_ _
            clear hHeld
            go_wp2_with fail
            go_meet
            exact ⟨_, _, x, y, _, rfl, rfl, ax, ay, ox, kx, oy, ky, hB2, xB, bP, bQ, fxP, fxQ, fyP, fyQ, neX, vP, vQ, hbv⟩
        · go_simp
          have fxP := ox.far (.inr (Nat.le_refl _))
          replace ox := ox.turned ((Turned.refl [] u27).alloc (.cells #[.int .i64 0, .slice none 0 0, .slice none 0 0, .slice none 0 0] 25)) (by simp)
          replace kx := kx.keep (Keeps.alloc _ (.cells #[.int .i64 0, .slice none 0 0, .slice none 0 0, .slice none 0 0] 25))
          have ne : vd.heap.size ≠ u27.heap.size := Nat.ne_of_lt bQ.lt
          replace bQ := bQ.alloc (.cells #[.int .i64 0, .slice none 0 0, .slice none 0 0, .slice none 0 0] 25)
          have bP := Bk.new u27 25 #[.int .i64 0, .slice none 0 0, .slice none 0 0, .slice none 0 0]
          have vP := hbv.size
          replace hbv := hbv.alloc hbv.size (.cells #[.int .i64 0, .slice none 0 0, .slice none 0 0, .slice none 0 0] 25)
          obtain ⟨u30, hu30⟩ : ∃ u, u27.alloc (.cells #[.int .i64 0, .slice none 0 0, .slice none 0 0, .slice none 0 0] 25) = u := ⟨_, rfl⟩
          rw [hu30] at bP hbv bQ ox kx ⊢
          clear hu30 hHeld
          refine hK.out _ _ ?_ (fun hHeld => ?_)
          · exact SB.out.keep (Keeps.of_below hbv)
          clear hK K
          try simp only [Act.put, List.setIfInBounds_toArray, List.set_cons_zero, List.set_cons_succ, List.getElem_toArray, List.getElem_cons_zero, List.getElem_cons_succ]
          refine wpAnyH_ready (rs := [3]) (by kernel_rfl) (by simp) ?_
          refine AllReadyH.cons rfl (fun K hK => ?_) AllReadyH.nil
          · go_simp
            refine (move_any s 1 _ (HS.out.keep (Keeps.of_below hbv)) HF.out HL.out HI.out).mono ?_
            rintro e u31 ⟨y, rfl, ay, oy, ky, hb2⟩
            have fyP := oy.far (.inl bP.lt)
            replace bP := bP.below hb2
            have fyQ := oy.far (.inl bQ.lt)
            replace bQ := bQ.below hb2
            have xB := ox.under
            have hB2 := hbv.size
            replace ox := ox.turned (Turned.of_below hb2 []) (by simp)
            replace kx := kx.keep (Keeps.of_below hb2)
            replace hbv := hbv.trans (hb2.mono hbv.size)
            clear hb2 hHeld
            go_wp2_with fail
            refine hK.out _ _ ?_ (fun hHeld => ?_)
            · exact SB.out.keep (Keeps.of_below hbv)
            clear hK K
            try simp only [Act.put, List.setIfInBounds_toArray, List.set_cons_zero, List.set_cons_succ, List.getElem_toArray, List.getElem_cons_zero, List.getElem_cons_succ]
            have neX : u27.heap.size ≠ vd.heap.size := by first | exact ne | exact ne.symm
            clear ne
            obtain ⟨f0, f1, f2, f3⟩ := ZF4 bP
            obtain ⟨z0, z1, z2, z3⟩ := Z4 bP
            have PB := put4_bk bP (v0 := .int .i64 x.proto) (v1 := .slice x.ca x.cores.length x.cc) (v2 := .slice x.ha x.homes.length x.hc) (v3 := .slice x.ta x.tasks.length x.tc)
            have PT := put4_turned u31 (u27.heap.size) (.int .i64 x.proto) (.slice x.ca x.cores.length x.cc) (.slice x.ha x.homes.length x.hc) (.slice x.ta x.tasks.length x.tc)
            replace bQ := bQ.turned PT (by simpa using neX.symm)
            replace ox := ox.farF PT (by intro q hq; simp at hq; subst hq; exact fxP)
            replace kx := kx.farF PT (by intro q hq; simp at hq; subst hq; exact fxP)
            replace oy := oy.farF PT (by intro q hq; simp at hq; subst hq; exact fyP)
            replace ky := ky.farF PT (by intro q hq; simp at hq; subst hq; exact fyP)
            replace hbv := hbv.trans (PT.below hbv.size (by intro q hq; simp at hq; subst hq; exact vP))
            clear bP
            have bP := PB
            clear PB PT
            obtain ⟨ut6, hut⟩ : ∃ u, put4 u31 (u27.heap.size) (.int .i64 x.proto) (.slice x.ca x.cores.length x.cc) (.slice x.ha x.homes.length x.hc) (.slice x.ta x.tasks.length x.tc) = u := ⟨_, rfl⟩
            rw [hut] at bP bQ ox kx oy ky hbv
            unfold put4 at hut
            refine wpAnyH_ready (rs := [6]) (by kernel_rfl) (by simp) ?_
            refine AllReadyH.cons rfl (fun K hK => ?_) AllReadyH.nil
            go_simp
            try rw [hut]
            clear hut f0 f1 f2 f3 z0 z1 z2 z3 hHeld
            refine hK.out _ _ ?_ (fun hHeld => ?_)
            · exact SB.out.keep (Keeps.of_below hbv)
            clear hK K
            try simp only [Act.put, List.setIfInBounds_toArray, List.set_cons_zero, List.set_cons_succ, List.getElem_toArray, List.getElem_cons_zero, List.getElem_cons_succ]
            obtain ⟨f0, f1, f2, f3⟩ := ZF4 bQ
            obtain ⟨z0, z1, z2, z3⟩ := Z4 bQ
            have PB := put4_bk bQ (v0 := .int .i64 y.proto) (v1 := .slice y.ca y.cores.length y.cc) (v2 := .slice y.ha y.homes.length y.hc) (v3 := .slice y.ta y.tasks.length y.tc)
            have PT := put4_turned ut6 (vd.heap.size) (.int .i64 y.proto) (.slice y.ca y.cores.length y.cc) (.slice y.ha y.homes.length y.hc) (.slice y.ta y.tasks.length y.tc)
            replace bP := bP.turned PT (by simpa using neX)
            replace ox := ox.farF PT (by intro q hq; simp at hq; subst hq; exact fxQ)
            replace kx := kx.farF PT (by intro q hq; simp at hq; subst hq; exact fxQ)
            replace oy := oy.farF PT (by intro q hq; simp at hq; subst hq; exact fyQ)
            replace ky := ky.farF PT (by intro q hq; simp at hq; subst hq; exact fyQ)
            replace hbv := hbv.trans (PT.below hbv.size (by intro q hq; simp at hq; subst hq; exact vQ))
            clear bQ
            have bQ := PB
            clear PB PT
            obtain ⟨ut7, hut⟩ : ∃ u, put4 ut6 (vd.heap.size) (.int .i64 y.proto) (.slice y.ca y.cores.length y.cc) (.slice y.ha y.homes.length y.hc) (.slice y.ta y.tasks.length y.tc) = u := ⟨_, rfl⟩
            rw [hut] at bP bQ ox kx oy ky hbv
            unfold put4 at hut
            refine wpAnyH_ready (rs := [7]) (by kernel_rfl) (by simp) ?_
            refine AllReadyH.cons rfl (fun K hK => ?_) AllReadyH.nil
            go_simp
            try rw [hut]
            clear hut f0 f1 f2 f3 z0 z1 z2 z3 hHeld
            refine hK.out _ _ ?_ (fun hHeld => ?_)
            · exact SB.out.keep (Keeps.of_below hbv)
            clear hK K
            try simp only [Act.put, List.setIfInBounds_toArray, List.set_cons_zero, List.set_cons_succ, List.getElem_toArray, List.getElem_cons_zero, List.getElem_cons_succ]
            refine wpAnyH_done (by kernel_rfl) ?_ _
            clear hHeld
            go_wp2_with fail
            go_meet
            exact ⟨_, _, x, y, _, rfl, rfl, ax, ay, ox, kx, oy, ky, hB2, xB, bP, bQ, fxP, fxQ, fyP, fyQ, neX, vP, vQ, hbv⟩
      · go_simp
        have ne : vd.heap.size ≠ u26.heap.size := Nat.ne_of_lt bQ.lt
        replace bQ := bQ.alloc (.cells #[.int .i64 0, .slice none 0 0, .slice none 0 0, .slice none 0 0] 25)
        have bP := Bk.new u26 25 #[.int .i64 0, .slice none 0 0, .slice none 0 0, .slice none 0 0]
        have vP := hbv.size
        replace hbv := hbv.alloc hbv.size (.cells #[.int .i64 0, .slice none 0 0, .slice none 0 0, .slice none 0 0] 25)
        obtain ⟨u32, hu32⟩ : ∃ u, u26.alloc (.cells #[.int .i64 0, .slice none 0 0, .slice none 0 0, .slice none 0 0] 25) = u := ⟨_, rfl⟩
        rw [hu32] at bP hbv bQ ⊢
        clear hu32 hHeld
        refine hK.out _ _ ?_ (fun hHeld => ?_)
        · exact SB.out.keep (Keeps.of_below hbv)
        clear hK K
        try simp only [Act.put, List.setIfInBounds_toArray, List.set_cons_zero, List.set_cons_succ, List.getElem_toArray, List.getElem_cons_zero, List.getElem_cons_succ]
        refine wpAnyH_ready (rs := [1]) (by kernel_rfl) (by simp) ?_
        refine AllReadyH.cons rfl (fun K hK => ?_) AllReadyH.nil
        · go_simp
          refine (canon_any s _ (HS.out.keep (Keeps.of_below hbv)) HF.out HL.out).mono ?_
          rintro e u33 ⟨x, rfl, ax, ox, kx, hb2⟩
          have fxP := ox.far (.inl bP.lt)
          replace bP := bP.below hb2
          have fxQ := ox.far (.inl bQ.lt)
          replace bQ := bQ.below hb2
          replace ox := ox.low hbv.size
          replace hbv := hbv.trans (hb2.mono hbv.size)
          clear hb2 hHeld
          go_wp2_with fail
          refine hK.out _ _ ?_ (fun hHeld => ?_)
          · exact SB.out.keep (Keeps.of_below hbv)
          clear hK K
          try simp only [Act.put, List.setIfInBounds_toArray, List.set_cons_zero, List.set_cons_succ, List.getElem_toArray, List.getElem_cons_zero, List.getElem_cons_succ]
          refine wpAnyH_ready (rs := [3]) (by kernel_rfl) (by simp) ?_
          refine AllReadyH.cons rfl (fun K hK => ?_) AllReadyH.nil
          · go_simp
            refine (move_any s 1 _ (HS.out.keep (Keeps.of_below hbv)) HF.out HL.out HI.out).mono ?_
            rintro e u34 ⟨y, rfl, ay, oy, ky, hb2⟩
            have fyP := oy.far (.inl bP.lt)
            replace bP := bP.below hb2
            have fyQ := oy.far (.inl bQ.lt)
            replace bQ := bQ.below hb2
            have xB := ox.under
            have hB2 := hbv.size
            replace ox := ox.turned (Turned.of_below hb2 []) (by simp)
            replace kx := kx.keep (Keeps.of_below hb2)
            replace hbv := hbv.trans (hb2.mono hbv.size)
            clear hb2 hHeld
            go_wp2_with fail
            refine hK.out _ _ ?_ (fun hHeld => ?_)
            · exact SB.out.keep (Keeps.of_below hbv)
            clear hK K
            try simp only [Act.put, List.setIfInBounds_toArray, List.set_cons_zero, List.set_cons_succ, List.getElem_toArray, List.getElem_cons_zero, List.getElem_cons_succ]
            have neX : u26.heap.size ≠ vd.heap.size := by first | exact ne | exact ne.symm
            clear ne
            obtain ⟨f0, f1, f2, f3⟩ := ZF4 bP
            obtain ⟨z0, z1, z2, z3⟩ := Z4 bP
            have PB := put4_bk bP (v0 := .int .i64 x.proto) (v1 := .slice x.ca x.cores.length x.cc) (v2 := .slice x.ha x.homes.length x.hc) (v3 := .slice x.ta x.tasks.length x.tc)
            have PT := put4_turned u34 (u26.heap.size) (.int .i64 x.proto) (.slice x.ca x.cores.length x.cc) (.slice x.ha x.homes.length x.hc) (.slice x.ta x.tasks.length x.tc)
            replace bQ := bQ.turned PT (by simpa using neX.symm)
            replace ox := ox.farF PT (by intro q hq; simp at hq; subst hq; exact fxP)
            replace kx := kx.farF PT (by intro q hq; simp at hq; subst hq; exact fxP)
            replace oy := oy.farF PT (by intro q hq; simp at hq; subst hq; exact fyP)
            replace ky := ky.farF PT (by intro q hq; simp at hq; subst hq; exact fyP)
            replace hbv := hbv.trans (PT.below hbv.size (by intro q hq; simp at hq; subst hq; exact vP))
            clear bP
            have bP := PB
            clear PB PT
            obtain ⟨ut6, hut⟩ : ∃ u, put4 u34 (u26.heap.size) (.int .i64 x.proto) (.slice x.ca x.cores.length x.cc) (.slice x.ha x.homes.length x.hc) (.slice x.ta x.tasks.length x.tc) = u := ⟨_, rfl⟩
            rw [hut] at bP bQ ox kx oy ky hbv
            unfold put4 at hut
            refine wpAnyH_ready (rs := [6]) (by kernel_rfl) (by simp) ?_
            refine AllReadyH.cons rfl (fun K hK => ?_) AllReadyH.nil
            go_simp
            try rw [hut]
            clear hut f0 f1 f2 f3 z0 z1 z2 z3 hHeld
            refine hK.out _ _ ?_ (fun hHeld => ?_)
            · exact SB.out.keep (Keeps.of_below hbv)
            clear hK K
            try simp only [Act.put, List.setIfInBounds_toArray, List.set_cons_zero, List.set_cons_succ, List.getElem_toArray, List.getElem_cons_zero, List.getElem_cons_succ]
            obtain ⟨f0, f1, f2, f3⟩ := ZF4 bQ
            obtain ⟨z0, z1, z2, z3⟩ := Z4 bQ
            have PB := put4_bk bQ (v0 := .int .i64 y.proto) (v1 := .slice y.ca y.cores.length y.cc) (v2 := .slice y.ha y.homes.length y.hc) (v3 := .slice y.ta y.tasks.length y.tc)
            have PT := put4_turned ut6 (vd.heap.size) (.int .i64 y.proto) (.slice y.ca y.cores.length y.cc) (.slice y.ha y.homes.length y.hc) (.slice y.ta y.tasks.length y.tc)
            replace bP := bP.turned PT (by simpa using neX)
            replace ox := ox.farF PT (by intro q hq; simp at hq; subst hq; exact fxQ)
            replace kx := kx.farF PT (by intro q hq; simp at hq; subst hq; exact fxQ)
            replace oy := oy.farF PT (by intro q hq; simp at hq; subst hq; exact fyQ)
            replace ky := ky.farF PT (by intro q hq; simp at hq; subst hq; exact fyQ)
            replace hbv := hbv.trans (PT.below hbv.size (by intro q hq; simp at hq; subst hq; exact vQ))
            clear bQ
            have bQ := PB
            clear PB PT
            obtain ⟨ut7, hut⟩ : ∃ u, put4 ut6 (vd.heap.size) (.int .i64 y.proto) (.slice y.ca y.cores.length y.cc) (.slice y.ha y.homes.length y.hc) (.slice y.ta y.tasks.length y.tc) = u := ⟨_, rfl⟩
            rw [hut] at bP bQ ox kx oy ky hbv
            unfold put4 at hut
            refine wpAnyH_ready (rs := [7]) (by kernel_rfl) (by simp) ?_
            refine AllReadyH.cons rfl (fun K hK => ?_) AllReadyH.nil
            go_simp
            try rw [hut]
            clear hut f0 f1 f2 f3 z0 z1 z2 z3 hHeld
            refine hK.out _ _ ?_ (fun hHeld => ?_)
            · exact SB.out.keep (Keeps.of_below hbv)
            clear hK K
            try simp only [Act.put, List.setIfInBounds_toArray, List.set_cons_zero, List.set_cons_succ, List.getElem_toArray, List.getElem_cons_zero, List.getElem_cons_succ]
            refine wpAnyH_done (by kernel_rfl) ?_ _
            clear hHeld
            go_wp2_with fail
            go_meet
            exact ⟨_, _, x, y, _, rfl, rfl, ax, ay, ox, kx, oy, ky, hB2, xB, bP, bQ, fxP, fxQ, fyP, fyQ, neX, vP, vQ, hbv⟩
  case rest =>
    obtain ⟨g4, g5, x, y, B2, rfl, rfl, ts⟩ := hcut
    obtain ⟨lx, bx, ox, ex, cx⟩ := arr_b HSe.out (AX0.out ▸ ts.ax) ts.kx
    obtain ⟨ly, by_, oy, ey, cy⟩ := arr_b HSe.out (AT0.out ▸ ts.ay) ts.ky
    obtain ⟨-, -, -, p3⟩ := Z4 ts.b4
    obtain ⟨-, -, -, q3⟩ := Z4 ts.b5
    rw [lx, ex] at p3
    rw [ly, ey] at q3
    have cA2 := Keeps.of_below ts.hb _ _ cA
    have hbf := hb.trans (ts.hb.mono hb.size)
    clear lx ly ex ey ts cA SB HS hs sb
    have CZ := order_any zeroS wc (zero_ok wc) (by simp [zeroS])
    rw [show ordL zeroS.tasks = [] from rfl, show zeroS.tasks.length = 0 from rfl] at CZ
    go_wp2_with (first | (go_at_call 11; (refine CZ.mono ?_); rintro e u9 ⟨A9, c9, rfl, o9, hb9⟩))
    go_ret
    exact ⟨rfl, hbf.trans (hb9.mono hbf.size)⟩
end Go.Proofs.Ytnfkebdbfflhdaa
