/- JobLengths: no part takes longer than it may, nor less than a tick; a job takes as many ticks as its parts took. No condition. -/
import Derived.Test.YtbnncaljekifdaaKnown21
set_option maxHeartbeats 2000000
set_option linter.unusedSimpArgs false
namespace Go.Proofs.Ytbnncaljekifdaa
theorem pickV_bd {bs : List Int} {us : Nat} {n : Int} (hn : 1 ≤ n) (h2 : n ≤ 1000000) : 1 ≤ pickV bs us 1 n ∧ pickV bs us 1 n ≤ n := by
  unfold pickV
  split
  · omega
  · rename_i h
    have h' : ¬ n ≤ 1 := fun e => h (.inl e)
    have := pickI_bd (x := bs.getD (us % bs.length) 0) (lo := 1) (hi := n) (by omega) (by unfold I64; omega) (by unfold I64; omega)
    omega
theorem beginL_bd {bs : List Int} {us : Nat} {ps : List PartM} {pt : Nat} (hf : ∀ p ∈ ps, 1 ≤ p.len ∧ p.len ≤ 200) (h : pt < ps.length) : 1 ≤ beginL bs us ps pt ∧ beginL bs us ps pt ≤ (ps.getD pt default).len ∧ (ps.getD pt default).len ≤ 200 := by
  have := hf _ (partsD_mem h)
  unfold beginL
  rw [if_pos h]
  have := pickV_bd (bs := bs) (us := us) this.1 (by omega)
  omega
end Go.Proofs.Ytbnncaljekifdaa
namespace Go.Proofs.Ytbnncaljekifdaa.jobLengths
open Go.ChangeShapes Go.WideShapes Go.ChangeAt Go.RowKit
open Go.ChangeMaps (open_string shut_string)
set_option linter.unusedVariables false

/-- THE WALK: the Go text returns true, and writes nothing that was there. -/
theorem walk (s0 : TaskR) (a1 : Option Addr) (len1 cap1 : Nat) (z1 : List Int) (w : World) (w0 : TaskOk w s0) (w1 : IsRow .u8 w a1 len1 cap1 z1) :
    Calls Try.prog 7 #[.agg #[.string s0.name, .int .i64 s0.per, .int .i64 s0.dl, .int .i64 s0.prio, .int .i64 s0.cl, .slice s0.pa s0.parts.length s0.pc], .slice a1 len1 cap1] w fun e w' => e = .returned (.bool true) ∧ Below w.heap.size w w' := by
  have hr := RdB.of_row w1
  generalize z1.take len1 = bs at hr
  obtain ⟨nm, per, dl, prio, cl, pa, pc, ps⟩ := s0
  have hp := w0.at_
  have hsl := w0.sl
  have hwf := w0.wf
  dsimp only at hp hsl hwf ⊢
  clear w0 w1
  have B1 := Bk.new w 38 #[.string nm, .int .i64 per, .int .i64 dl, .int .i64 prio, .int .i64 cl, .slice pa ps.length pc]
  have hb := (Below.refl w.heap.size w).alloc (Nat.le_refl _) (.cells #[.string nm, .int .i64 per, .int .i64 dl, .int .i64 prio, .int .i64 cl, .slice pa ps.length pc] 38)
  have hw1 : w.heap.size + 1 ≤ (w.alloc (.cells #[.string nm, .int .i64 per, .int .i64 dl, .int .i64 prio, .int .i64 cl, .slice pa ps.length pc] 38)).heap.size := by simp
  have hp0 := hidp hp
  have hr0 := hidp hr
  replace hp := hp.keep (Keeps.of_below hb)
  cases hv : fitsB ps
  · go_enter Try.func7, Try.ntmps7
    go_wp2_with fail
    refine (known21_any _).mono ?_
    rintro e w1 ⟨rfl, hb1⟩
    replace B1 := B1.below hb1
    replace hp := hp.keep (Keeps.of_below hb1)
    replace hb := below0 hb hb1
    clear hb1
    obtain ⟨c0, c1, c2, c3, c4, c5⟩ := Z6 B1
    go_wp2_with fail
    refine (fits_any hp hsl hwf).mono ?_
    rw [hv]
    rintro e w2 ⟨rfl, hb2⟩
    go_wp2_with fail
    go_ret
    exact ⟨rfl, below0 hb hb2⟩
  · obtain ⟨hf, l1, l2⟩ := fitsB_ok hv
    by_cases h60 : 60 < len1
    · go_enter Try.func7, Try.ntmps7
      go_wp2_with fail
      refine (known21_any _).mono ?_
      rintro e w1 ⟨rfl, hb1⟩
      replace B1 := B1.below hb1
      replace hp := hp.keep (Keeps.of_below hb1)
      replace hb := below0 hb hb1
      clear hb1
      obtain ⟨c0, c1, c2, c3, c4, c5⟩ := Z6 B1
      go_wp2_with fail
      refine (fits_any hp hsl hwf).mono ?_
      rw [hv]
      rintro e w2 ⟨rfl, hb2⟩
      go_wp2_with fail
      go_ret
      exact ⟨rfl, below0 hb hb2⟩
    · go_enter Try.func7, Try.ntmps7
      go_wp2_with fail
      refine (known21_any _).mono ?_
      rintro e w1 ⟨rfl, hb1⟩
      replace B1 := B1.below hb1
      replace hp := hp.keep (Keeps.of_below hb1)
      replace hb := below0 hb hb1
      replace hw1 := Nat.le_trans hw1 hb1.size
      clear hb1
      obtain ⟨c0, c1, c2, c3, c4, c5⟩ := Z6 B1
      go_wp2_with fail
      refine (fits_any hp hsl hwf).mono ?_
      rw [hv]
      rintro e w2 ⟨rfl, hb2⟩
      clear c0 c1 c2 c3 c4 c5 hp hv
      replace B1 : Bk w2.drew w.heap.size 38 #[.string nm, .int .i64 per, .int .i64 dl, .int .i64 prio, .int .i64 cl, .slice pa ps.length pc] := (B1.below hb2).drewN 1
      replace hb : Below w.heap.size w w2.drew := below_drewN (below0 hb hb2) 1
      replace hw1 : w.heap.size + 1 ≤ w2.drew.heap.size := Nat.le_trans hw1 hb2.size
      clear hb2
      have hs := Z6 B1
      go_wp2_with fail
      refine wp_region_held_drew (S := fun w' => w'.cell? ⟨w.heap.size, 0, none⟩ = some (.string nm) ∧ w'.cell? ⟨w.heap.size, 1, none⟩ = some (.int .i64 per) ∧ w'.cell? ⟨w.heap.size, 2, none⟩ = some (.int .i64 dl) ∧ w'.cell? ⟨w.heap.size, 3, none⟩ = some (.int .i64 prio) ∧ w'.cell? ⟨w.heap.size, 4, none⟩ = some (.int .i64 cl) ∧ w'.cell? ⟨w.heap.size, 5, none⟩ = some (.slice pa ps.length pc)) (by kernel_rfl) ?_ (fun hHeld => ?_)
      · exact hs
      refine wpAnyH_take (i := 0) (v := ?_) rfl (by kernel_rfl) (by kernel_rfl) (by kernel_rfl) (fun _ _ _ h => h) (Or.inl ⟨by rfl, ?_⟩) (by assumption) ?_
      rotate_left 1
      · ((intro w hSw; (try dsimp only at hSw); go_simp); (try with_reducible rfl))
      simp only [Act.put, List.setIfInBounds_toArray, List.set_cons_zero, List.set_cons_succ]
      refine wpAnyH_take (i := 1) (v := ?_) rfl (by kernel_rfl) (by kernel_rfl) (by kernel_rfl) (fun _ _ _ h => h) (Or.inl ⟨by rfl, ?_⟩) (by assumption) ?_
      rotate_left 1
      · ((intro w hSw; (try dsimp only at hSw); go_simp); (try with_reducible rfl))
      simp only [Act.put, List.setIfInBounds_toArray, List.set_cons_zero, List.set_cons_succ]
      refine wpAnyH_ready (rs := [2]) (by kernel_rfl) (by simp) ?_
      refine AllReadyH.cons rfl (fun K hK => ?_) AllReadyH.nil
      go_simp
      refine (tnew_any (hr0.out.below hb) (by omega)).mono ?_
      rintro e w3 ⟨tb, F, rfl, ht, u⟩
      have htb : w.heap.size + 1 ≤ tb := Nat.le_trans hw1 (u.blocks _ ht.head)
      replace B1 := B1.below u.below
      replace hb := below0 hb u.below
      replace hw1 := Nat.le_trans hw1 u.below.size
      replace hs := Z6 B1
      clear hHeld u
      go_wp2_with fail
      refine hK.out _ _ ?_ (fun hHeld => ?_)
      · exact hs
      clear hK K
      try simp only [Act.put, List.setIfInBounds_toArray, List.set_cons_zero, List.set_cons_succ]
      refine wpAnyH_ready (rs := [3]) (by kernel_rfl) (by simp) ?_
      refine AllReadyH.cons rfl (fun K hK => ?_) AllReadyH.nil
      go_simp
      refine (newj_any rfl (hp0.out.keep (Keeps.of_below hb)) hsl hwf (by omega) ht (by decide)).mono ?_
      rintro e w4 ⟨b, A, c, rfl, h, t, hbk⟩
      have hbb : w.heap.size + 1 ≤ b := Nat.le_trans hw1 (hbk b (by simp))
      replace B1 := B1.turned t (by simp; omega)
      replace hb := below1 hb t (by omega)
      replace hs := Z6 B1
      clear hHeld t hbk ht hw1
      go_wp2_with fail
      refine hK.out _ _ ?_ (fun hHeld => ?_)
      · exact hs
      clear hK K
      try simp only [Act.put, List.setIfInBounds_toArray, List.set_cons_zero, List.set_cons_succ]
      refine wpAnyH_take (i := 4) (v := ?_) rfl (by kernel_rfl) (by kernel_rfl) (by kernel_rfl) (fun _ _ _ h => h) (Or.inl ⟨by rfl, ?_⟩) (by assumption) ?_
      rotate_left 1
      · ((intro w hSw; (try dsimp only at hSw); go_simp); (try with_reducible rfl))
      simp only [Act.put, List.setIfInBounds_toArray, List.set_cons_zero, List.set_cons_succ]
      refine wpAnyH_done (by kernel_rfl) ?_ _
      have hu0 := beginU_le 0 ps 0
      have hlf := beginL_bd (bs := bs) (us := 0) hf (pt := 0) (by omega)
      generalize beginL bs 0 ps 0 = lf0 at h hlf
      generalize beginU 0 ps 0 = us0 at h hu0
      obtain ⟨n, HN⟩ : ∃ n, Hid (ps.length = n) := ⟨_, rfl⟩
      have Hf := hidp hf
      have Hlf0 : Hid (0 < n → 1 ≤ lf0 ∧ lf0 ≤ (ps.getD 0 default).len ∧ (ps.getD 0 default).len ≤ 200) := hidp fun _ => hlf
      rw [HN.out] at B1 l1 l2
      clear hs hHeld hlf hf hr hr0
      go_wp2_with fail
      go_loopg [6] n (fun g s6 wr => ∃ (p us : Nat) (lf : Int), p + g = n ∧ s6 = .int .i64 p ∧ JT wr b ps 0 p lf A c tb bs us F ∧ us ≤ p + 1 ∧ Hid (p < n → 1 ≤ lf ∧ lf ≤ (ps.getD p default).len ∧ (ps.getD p default).len ≤ 200) ∧ Bk wr w.heap.size 38 #[.string nm, .int .i64 per, .int .i64 dl, .int .i64 prio, .int .i64 cl, .slice pa n pc] ∧ Below w.heap.size w wr)
      case atStart => exact ⟨0, us0, lf0, by omega, rfl, h, by omega, Hlf0, B1, hb⟩
      case round =>
        clear h B1 hb Hlf0 hu0
        obtain ⟨p, us, lf, hk, rfl, h, hus, Hlf, B1, hb⟩ := hrel
        obtain ⟨-, -, -, -, -, c5⟩ := Z6 B1
        by_cases hlt : p < n
        · obtain ⟨f1, f2, f3⟩ := Hlf.out hlt
          obtain ⟨ln, HLN⟩ : ∃ ln, Hid ((ps.getD p default).len = ln) := ⟨_, rfl⟩
          rw [HLN.out] at f2 f3
          obtain ⟨L, HL, hL⟩ : ∃ L : Nat, Hid ((L : Int) = lf) ∧ 1 ≤ L := ⟨lf.toNat, hidp (by omega), by omega⟩
          go_wp2_with fail
          refine (left_any h.job).mono ?_
          rintro e w' ⟨rfl, rfl⟩
          clear c5
          go_wp2_with fail
          go_loopg [7] L (fun g s7 wr => ∃ (m pt us' : Nat) (lf' : Int), s7 = .int .i64 m ∧ JT wr b ps 0 pt lf' A c tb bs us' F ∧ Bk wr w.heap.size 38 #[.string nm, .int .i64 per, .int .i64 dl, .int .i64 prio, .int .i64 cl, .slice pa n pc] ∧ Below w.heap.size w wr ∧ Hid ((pt = p ∧ lf' = lf - m ∧ m < L ∧ us' = us ∧ m + g = L) ∨ (pt = p + 1 ∧ m = L ∧ us' ≤ us + 1 ∧ (p + 1 < n → 1 ≤ lf' ∧ lf' ≤ (ps.getD (p + 1) default).len ∧ (ps.getD (p + 1) default).len ≤ 200))))
          case atStart => exact ⟨0, p, us, lf, rfl, h, B1, hb, hidp (.inl ⟨rfl, by omega, by omega, rfl, by omega⟩)⟩
          case round =>
            clear h B1 hb Hlf
            obtain ⟨m, pt, us', lf', rfl, h, B1, hb, Hc⟩ := hrel
            rcases Hc.out with ⟨e1, e2, hm, e3, hg⟩ | ⟨e1, e2, hu, Hl2⟩
            · subst e1; subst e3
              have hmL : (m : Int) < lf := by have := HL.out; omega
              have hov : overB ps pt = false := by unfold overB; rw [HN.out]; simp; omega
              go_wp2_with fail
              refine (part_any h.job).mono ?_
              rintro e w' ⟨rfl, rfl⟩
              by_cases hmid : m + 1 < L
              · have g1 : 1 < lf' := by have := HL.out; omega
                go_wp2_with fail
                refine (tick_mid h hov g1 (by omega)).mono ?_
                rintro e w5 ⟨rfl, h5, t5⟩
                have B5 := B1.turned t5 (by simp; omega)
                have hb5 := below2 hb t5 (by omega) (by omega)
                have Hc2 : Hid (lf' - 1 = lf - ((m + 1 : Nat) : Int)) := hidp (by omega)
                clear h B1 hb t5 hov g1 e2
                obtain ⟨-, -, -, -, -, c5⟩ := Z6 B5
                obtain ⟨g0, off, hA, hc⟩ := hp0.out.resolve_left (by intro e; have := HN.out; rw [e] at this; simp at this; omega)
                subst hA
                obtain ⟨-, cl1, -⟩ := (hc pt (by rw [HN.out]; exact hlt)).keep (Keeps.of_below hb5)
                rw [HLN.out] at cl1
                clear hc
                go_wp2_with fail
                refine (part_any h5.job).mono ?_
                rintro e w' ⟨rfl, rfl⟩
                go_wp2_with fail
                go_roundg (gk - 1)
                case measure => omega
                case rel => exact ⟨m + 1, pt, us', lf' - 1, by go_num, h5, B5, hb5, hidp (.inl ⟨rfl, Hc2.out, hmid, rfl, by omega⟩)⟩
              · have hmL2 : m + 1 = L := by omega
                have g1 : lf' ≤ 1 := by have := HL.out; omega
                have g2 : 0 ≤ lf' := by have := HL.out; omega
                go_wp2_with fail
                refine (tick_end h hov g1 g2 (by omega)).mono ?_
                rintro e w5 ⟨rfl, h5, t5⟩
                have hu2 := beginU_le us' ps (pt + 1)
                have Hl3 : Hid (pt + 1 < n → 1 ≤ beginL bs us' ps (pt + 1) ∧ beginL bs us' ps (pt + 1) ≤ (ps.getD (pt + 1) default).len ∧ (ps.getD (pt + 1) default).len ≤ 200) := hidp fun hh => beginL_bd Hf.out (by rw [HN.out]; exact hh)
                generalize beginL bs us' ps (pt + 1) = l2 at h5 Hl3
                generalize beginU us' ps (pt + 1) = u2 at h5 hu2
                have B5 := B1.turned t5 (by simp; omega)
                have hb5 := below2 hb t5 (by omega) (by omega)
                clear h B1 hb t5 hov g1 g2 e2
                obtain ⟨-, -, -, -, -, c5⟩ := Z6 B5
                obtain ⟨g0, off, hA, hc⟩ := hp0.out.resolve_left (by intro e; have := HN.out; rw [e] at this; simp at this; omega)
                subst hA
                obtain ⟨-, cl1, -⟩ := (hc pt (by rw [HN.out]; exact hlt)).keep (Keeps.of_below hb5)
                rw [HLN.out] at cl1
                clear hc
                have hne : ((pt : Int) + 1 == (pt : Int)) = false := by rw [beq_eq_false_iff_ne]; omega
                have hne2 : ((pt : Int) + 1 != (pt : Int)) = true := by simp only [bne, hne, Bool.not_false]
                go_wp2_with fail
                refine (part_any h5.job).mono ?_
                rintro e w' ⟨rfl, rfl⟩
                go_wp2_with fail
                go_roundg 0
                case measure => omega
                case rel => exact ⟨m + 1, pt + 1, u2, l2, by go_num, h5, B5, hb5, hidp (.inr ⟨rfl, hmL2, hu2, Hl3.out⟩)⟩
            · subst e1; subst e2
              have hne : ((p : Int) + 1 == (p : Int)) = false := by rw [beq_eq_false_iff_ne]; omega
              have hne2 : ((p : Int) + 1 != (p : Int)) = true := by simp only [bne, hne, Bool.not_false]
              have hll := HL.out
              subst hll
              go_wp2_with fail
              refine (part_any h.job).mono ?_
              rintro e w' ⟨rfl, rfl⟩
              go_wp2_with fail
              refine (part_any h.job).mono ?_
              rintro e w' ⟨rfl, rfl⟩
              go_wp2_with fail
              go_roundg (n - p - 1)
              case measure => omega
              case rel => exact ⟨p + 1, us', lf', by omega, by go_num, h, by omega, hidp Hl2, B1, hb⟩
        · obtain rfl : p = n := by omega
          have hov : overB ps p = true := by unfold overB; rw [HN.out]; simp
          have O := over_any h.job
          rw [hov] at O
          go_wp2_with fail
          refine O.mono ?_
          rintro e w5 ⟨rfl, q5⟩
          have h5 := h.over q5.b
          have hb5 := below0 hb q5.b
          clear h hb O q5 B1 c5
          go_wp2_with fail
          refine (tick_over h5 hov).mono ?_
          rintro e w6 ⟨rfl, h6, t6⟩
          have hb6 := below2 hb5 t6 (by omega) (by omega)
          clear h5 hb5 t6 hov
          go_wp2_with fail
          go_ret
          exact ⟨rfl, hb6⟩

theorem own : ownKnob Try.prog.godebug = none := by kernel_rfl
theorem laidOut : laidOutB Try.prog = true := by kernel_rfl

/-! THE ROW's STEP -/
set_option maxRecDepth 100000 in
theorem lifted (os : Os) (started : os.Started) (H : Type) (enc : TypeId × Value → H) :
    ReturnsInHanded {} Try.checked os 7 .any (Rows.jobLengthsSpec.pre6 enc Try.prog Try.f7 Rows.jobLengthsRow.domain false) (Rows.jobLengthsSpec.post enc Try.prog Try.f7 false true false false) := by
  refine returnsInHanded_of_change (C := Try.checked) own started (by kernel_rfl) Try.func7
    (ChangeSpec.witness6 (enc := enc) (C := Try.checked) false ⟨#[], #[.agg #[.string ByteArray.empty, .int .i64 0, .int .i64 0, .int .i64 0, .int .i64 0, .slice none 0 0], .slice none 0 0], []⟩ 8 (by kernel_rfl) (by kernel_rfl) (by kernel_rfl) (by kernel_rfl)) ?_
  intro W base args ds gs before hval0 hW hcnd _
  have hval : ∀ (j : Nat) t v, Try.f7.params[j]? = some t → args[j]? = some v → Value.okWide Try.prog W .any base t v := hval0
  have hW' := hW
  obtain ⟨p, q, hA0, hV, rfl, hfz, hnd⟩ := hW
  have hA : DataW.TrodAll enc Try.prog W 0 (fun _ => true) true Try.f7.params.toList args.toList ds p := hA0
  rw [Try.params7] at hA hval
  obtain ⟨v0, vs0, d0, ds0, p0, q0, hargs, rfl, rfl, h0, r0⟩ := trodAll_cons hA
  obtain ⟨v1, vs1, d1, ds1, p1, q1, rfl, rfl, rfl, h1, r1⟩ := trodAll_cons r0
  obtain ⟨rfl, rfl, rfl⟩ := trodAll_nil r1
  obtain rfl : args = #[v0, v1] := by cases args; simp_all
  obtain ⟨rfl, rfl⟩ := trodVars_none hV
  have k0 := h0
  have lt0 : ∀ x ∈ p0, x.block < W.heap.size := by obtain ⟨m, hm⟩ := k0; exact DataW.trod_lt m _ _ _ hm
  obtain ⟨s0, w0, rfl⟩ := setTypes.arg_task (hval 0 38 v0 rfl rfl) h0
  obtain ⟨a1, len1, cap1, rfl⟩ := okWide_slice Try.underlying22 (hval 1 22 v1 rfl rfl)
  have k1 := h1
  have lt1 : ∀ x ∈ p1, x.block < W.heap.size := by obtain ⟨m, hm⟩ := k1; exact DataW.trod_lt m _ _ _ hm
  obtain ⟨z1, w1⟩ : ∃ zs, IsRow .u8 W a1 len1 cap1 zs := by
    obtain ⟨fuel, hf⟩ := h1
    rcases open_ints Try.underlying22 Try.underlying5 (by kernel_rfl) hf with ⟨hcs, _⟩ | ⟨x, l, c, zs, hcs, _, hl, hm, hz, _, hcell, hwz⟩
    · simp [Value.cells] at hcs
      obtain ⟨rfl, rfl, rfl⟩ := hcs
      exact ⟨[], .inl ⟨rfl, rfl, rfl, rfl⟩⟩
    · simp [Value.cells] at hcs
      obtain ⟨rfl, rfl, rfl⟩ := hcs
      exact ⟨zs, .inr ⟨_, rfl, hl, hm, by simpa using hz, hcell, hwz⟩⟩
  clear hA0 hval0
  refine (walk s0 a1 len1 cap1 z1 W w0 w1).mono fun e W' ⟨he, bel⟩ => ?_
  subst he
  exact ⟨_, rfl, _, _, _, [], _, [], hW', trodAll_mk1 (shut_bool Try.underlying4 _), (trodAll_cons_mk (Below.trod laidOut (by kernel_rfl) (of_decide_eq_true (by kernel_rfl)) k0 bel lt0) (trodAll_cons_mk (Below.trod laidOut (by kernel_rfl) (of_decide_eq_true (by kernel_rfl)) k1 bel lt1) trodAll_mk0)), rfl, bel.frame _, fun h => by cases h⟩

theorem over : Rows.jobLengthsRow.holds Try.pinned (OpenSpec.ofChange Rows.jobLengthsSpec) :=
  OpenClaim.holds_of_wide 7 Try.f7 rfl rfl rfl rfl rfl rfl rfl ⟨rfl, rfl, rfl, rfl, rfl⟩ rfl rfl rfl rfl rfl (by kernel_rfl) Try.func7 (by kernel_rfl)
    (of_decide_eq_true (by kernel_rfl)) (by unfold Func.isWrapper; first | (rw [if_pos (by decide +kernel)]; kernel_rfl) | (rw [if_neg (by decide +kernel)]; exact ⟨rfl, rfl⟩))
    (fun os started H enc _ => lifted os started H enc)

/-- THE STATEMENT -/
theorem proved : Rows.JobLengthsSaid := over
#print axioms proved
end Go.Proofs.Ytbnncaljekifdaa.jobLengths

