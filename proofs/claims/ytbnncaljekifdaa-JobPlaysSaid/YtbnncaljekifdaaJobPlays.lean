/- JobPlays: a job's ticks up to its end and beyond: which part, of which kind, how much is left, whether a part was done with, behind each; the tape as it was used; a copy goes its own way. No condition. -/
import Derived.Test.YtbnncaljekifdaaRef20b
set_option maxHeartbeats 4000000
set_option maxRecDepth 100000
set_option linter.unusedSimpArgs false
namespace Go.Proofs.Ytbnncaljekifdaa
open Go.ChangeShapes Go.WideShapes Go.ChangeAt Go.RowKit
def tickPt (ps : List PartM) (pt : Nat) (lf : Int) : Nat := if overB ps pt = true then pt else if 1 < lf then pt else pt + 1
def tickLf (bs : List Int) (us : Nat) (ps : List PartM) (pt : Nat) (lf : Int) : Int := if overB ps pt = true then lf else if 1 < lf then lf - 1 else beginL bs us ps (pt + 1)
def tickU (us : Nat) (ps : List PartM) (pt : Nat) (lf : Int) : Nat := if overB ps pt = true then us else if 1 < lf then us else beginU us ps (pt + 1)
def tickB (ps : List PartM) (pt : Nat) (lf : Int) : Bool := if overB ps pt = true then false else if 1 < lf then false else true
theorem tickU_le (us : Nat) (ps : List PartM) (pt : Nat) (lf : Int) : tickU us ps pt lf ≤ us + 1 := by
  have := beginU_le us ps (pt + 1)
  unfold tickU; split <;> (try split) <;> omega
theorem pickV_bd2 {bs : List Int} {us : Nat} {n : Int} (hn : 1 ≤ n) (h2 : n ≤ 1000000) : 1 ≤ pickV bs us 1 n ∧ pickV bs us 1 n ≤ n := by
  unfold pickV
  split
  · omega
  · rename_i h
    have h' : ¬ n ≤ 1 := fun e => h (.inl e)
    have := pickI_bd (x := bs.getD (us % bs.length) 0) (lo := 1) (hi := n) (by omega) (by unfold I64; omega) (by unfold I64; omega)
    omega
theorem beginL_bd2 {bs : List Int} {us : Nat} {ps : List PartM} {pt : Nat} (hf : ∀ p ∈ ps, 1 ≤ p.len ∧ p.len ≤ 200) : 0 ≤ beginL bs us ps pt ∧ beginL bs us ps pt ≤ 200 := by
  unfold beginL
  split
  · rename_i h
    have h1 := hf _ (partsD_mem h)
    have := pickV_bd2 (bs := bs) (us := us) h1.1 (by omega)
    omega
  · omega
theorem tickLf_bd {bs : List Int} {us : Nat} {ps : List PartM} {pt : Nat} {lf : Int} (hf : ∀ p ∈ ps, 1 ≤ p.len ∧ p.len ≤ 200) (h : 0 ≤ lf ∧ lf ≤ 200) : 0 ≤ tickLf bs us ps pt lf ∧ tickLf bs us ps pt lf ≤ 200 := by
  have := beginL_bd2 (bs := bs) (us := us) (pt := pt + 1) hf
  unfold tickLf; split <;> (try split) <;> omega
section
variable {W w : World} {b pt c tb us pc n c2 : Nat} {ps : List PartM} {rel lf : Int} {A pa : Option Addr} {F : List Nat} {bs : List Int} {t : Five}
theorem tick_any (h : JT w b ps rel pt lf A c tb bs us F) (h0 : 0 ≤ lf ∧ lf ≤ 200) (hu : us < 1000000000000) : Calls Try.prog 32 #[.pointer (some ⟨b, 0, none⟩)] w (JTPost w b ps rel (tickPt ps pt lf) (tickLf bs us ps pt lf) A c tb bs (tickU us ps pt lf) F (.bool (tickB ps pt lf))) := by
  unfold tickPt tickLf tickU tickB
  by_cases ho : overB ps pt = true
  · simp only [if_pos ho]; exact tick_over h ho
  · simp only [if_neg ho]
    have ho' : overB ps pt = false := by simpa using ho
    by_cases hl : 1 < lf
    · simp only [if_pos hl]; exact tick_mid h ho' hl (by omega)
    · simp only [if_neg hl]; exact tick_end h ho' (by omega) h0.1 hu
theorem rtick_any (h : RJ W w b t pa pc ps rel pt lf tb A n c bs us) (h0 : 0 ≤ lf ∧ lf ≤ 200) (hu : us < 1000000000000) : Calls Try.prog 33 #[.pointer (some ⟨b, 0, none⟩)] w (RJPost W w b t pa pc ps rel (tickPt ps pt lf) (tickLf bs us ps pt lf) tb A n c bs (tickU us ps pt lf) (.bool (tickB ps pt lf))) := by
  unfold tickPt tickLf tickU tickB
  by_cases ho : overB ps pt = true
  · simp only [if_pos ho]; exact rtick_over h ho
  · simp only [if_neg ho]
    have ho' : overB ps pt = false := by simpa using ho
    by_cases hl : 1 < lf
    · simp only [if_pos hl]; exact rtick_mid h ho' hl (by omega)
    · simp only [if_neg hl]; exact rtick_end h ho' (by omega) h0.1 hu
theorem RJ.s3 (h : RJ W w b t pa pc ps rel pt lf tb A n c bs us) : w.cell? ⟨b, 7, none⟩ = some (.int .i64 pt) ∧ w.cell? ⟨b, 8, none⟩ = some (.int .i64 lf) ∧ w.cell? ⟨tb, 1, none⟩ = some (.int .i64 us) := ⟨h.cs.2.1, h.cs.2.2.1, h.tape.c1⟩
end
/-- the two jobs have no block in common -/
def Far (b tb rb Y : Nat) (A : Option Addr) (F : List Nat) : Prop := (b ≠ rb ∧ b ≠ Y ∧ tb ≠ rb ∧ tb ≠ Y) ∧ (∀ k ∈ fp A, k ≠ rb ∧ k ≠ Y) ∧ (∀ k ∈ F, k ≠ rb ∧ k ≠ Y)
end Go.Proofs.Ytbnncaljekifdaa
namespace Go.Proofs.Ytbnncaljekifdaa.jobPlays
open Go.ChangeShapes Go.WideShapes Go.ChangeAt Go.RowKit
open Go.ChangeMaps (open_string shut_string)
set_option linter.unusedVariables false

/-- THE WALK: the Go text returns true, and writes nothing that was there. -/
theorem walk (s0 : TaskR) (a1 : Int) (a2 : Option Addr) (len2 cap2 : Nat) (z2 : List Int) (a3 : Int) (w : World) (w0 : TaskOk w s0) (w1 : (Lit.int .i64 a1).wf = true) (w2 : IsRow .u8 w a2 len2 cap2 z2) (w3 : (Lit.int .u8 a3).wf = true) :
    Calls Try.prog 6 #[.agg #[.string s0.name, .int .i64 s0.per, .int .i64 s0.dl, .int .i64 s0.prio, .int .i64 s0.cl, .slice s0.pa s0.parts.length s0.pc], .int .i64 a1, .slice a2 len2 cap2, .int .u8 a3] w fun e w' => e = .returned (.bool true) ∧ Below w.heap.size w w' := by
  have p3 : 0 ≤ a3 ∧ a3 ≤ 255 := by simp [Lit.wf, IntKind.min, IntKind.max, IntKind.signed, IntKind.bits] at w3; omega
  obtain ⟨p3, p3'⟩ := p3
  have hr := RdB.of_row w2
  generalize z2.take len2 = bs at hr
  obtain ⟨nm, per, dl, prio, cl, pa, pc, ps⟩ := s0
  have hp := w0.at_
  have hsl := w0.sl
  have hwf := w0.wf
  dsimp only at hp hsl hwf ⊢
  clear w0 w1 w2 w3
  have B1 := Bk.new w 38 #[.string nm, .int .i64 per, .int .i64 dl, .int .i64 prio, .int .i64 cl, .slice pa ps.length pc]
  have hb := (Below.refl w.heap.size w).alloc (Nat.le_refl _) (.cells #[.string nm, .int .i64 per, .int .i64 dl, .int .i64 prio, .int .i64 cl, .slice pa ps.length pc] 38)
  have hw1 : w.heap.size + 1 ≤ (w.alloc (.cells #[.string nm, .int .i64 per, .int .i64 dl, .int .i64 prio, .int .i64 cl, .slice pa ps.length pc] 38)).heap.size := by simp
  have hp0 := hidp hp
  have hr0 := hidp hr
  replace hp := hp.keep (Keeps.of_below hb)
  cases hv : fitsB ps
  · go_enter Try.func6, Try.ntmps6
    go_wp2_with fail
    refine (known21_any _).mono ?_
    rintro e w1 ⟨rfl, hb1⟩
    replace B1 := B1.below hb1
    replace hp := hp.keep (Keeps.of_below hb1)
    replace hb := below0 hb hb1
    clear hb1
    obtain ⟨c0, c1, c2, c3, c4, c5⟩ := Z6 B1
    go_wp2_with fail
    refine (fits_any hp hsl hwf).mono ?_
    rw [hv]
    rintro e w2 ⟨rfl, hb2⟩
    go_wp2_with fail
    go_ret
    exact ⟨rfl, below0 hb hb2⟩
  · obtain ⟨hf, l1, l2⟩ := fitsB_ok hv
    by_cases h60 : 60 < len2
    · go_enter Try.func6, Try.ntmps6
      go_wp2_with fail
      refine (known21_any _).mono ?_
      rintro e w1 ⟨rfl, hb1⟩
      replace B1 := B1.below hb1
      replace hp := hp.keep (Keeps.of_below hb1)
      replace hb := below0 hb hb1
      clear hb1
      obtain ⟨c0, c1, c2, c3, c4, c5⟩ := Z6 B1
      go_wp2_with fail
      refine (fits_any hp hsl hwf).mono ?_
      rw [hv]
      rintro e w2 ⟨rfl, hb2⟩
      go_wp2_with fail
      go_ret
      exact ⟨rfl, below0 hb hb2⟩
    · go_enter Try.func6, Try.ntmps6
      go_wp2_with fail
      refine (known21_any _).mono ?_
      rintro e w1 ⟨rfl, hb1⟩
      replace B1 := B1.below hb1
      replace hp := hp.keep (Keeps.of_below hb1)
      replace hb := below0 hb hb1
      replace hw1 := Nat.le_trans hw1 hb1.size
      clear hb1
      obtain ⟨c0, c1, c2, c3, c4, c5⟩ := Z6 B1
      go_wp2_with fail
      refine (fits_any hp hsl hwf).mono ?_
      rw [hv]
      rintro e w2 ⟨rfl, hb2⟩
      clear c0 c1 c2 c3 c4 c5 hp hv
      replace B1 := B1.below hb2
      replace hb := below0 hb hb2
      replace hw1 := Nat.le_trans hw1 hb2.size
      clear hb2
      go_wp2_with fail
      refine (tnew_any (hr0.out.below hb) (by omega)).mono ?_
      rintro e w3 ⟨tb, F, rfl, ht, u⟩
      have htb : w.heap.size + 1 ≤ tb := Nat.le_trans hw1 (u.blocks _ ht.head)
      replace B1 := B1.below u.below
      replace hb := below0 hb u.below
      replace hw1 := Nat.le_trans hw1 u.below.size
      clear u
      have hRT : RT w (w3.alloc (.cells #[.slice a2 len2 cap2, .int .i64 0] 29)).drew w3.heap.size a2 len2 cap2 bs 0 :=
        (⟨Bk.new _ _ _, hr, hb.alloc hb.size _, hb.size⟩ : RT w (w3.alloc (.cells #[.slice a2 len2 cap2, .int .i64 0] 29)) w3.heap.size a2 len2 cap2 bs 0).turned ((Turned.refl [] _).drew) (by simp) (by simp)
      have hFY : Hid (∀ k ∈ F, k ≠ w3.heap.size) := hidp fun k hk e => by have := ht.lt k hk; omega
      have ht2 : Tp (w3.alloc (.cells #[.slice a2 len2 cap2, .int .i64 0] 29)).drew tb bs 0 F := ht.turned (((Turned.refl [] w3).alloc _).drew) (by simp)
      have B2 : Bk (w3.alloc (.cells #[.slice a2 len2 cap2, .int .i64 0] 29)).drew w.heap.size 38 #[.string nm, .int .i64 per, .int .i64 dl, .int .i64 prio, .int .i64 cl, .slice pa ps.length pc] := (B1.alloc _).drewN 1
      have hb2 : Below w.heap.size w (w3.alloc (.cells #[.slice a2 len2 cap2, .int .i64 0] 29)).drew := below_drewN (hb.alloc hb.size _) 1
      have hw2 : w3.heap.size + 1 ≤ (w3.alloc (.cells #[.slice a2 len2 cap2, .int .i64 0] 29)).drew.heap.size := by simp [World.drew]
      have hYw : w.heap.size + 1 ≤ w3.heap.size := hw1
      clear ht B1 hb hw1
      have hs := Z6 B2
      go_wp2_with fail
      refine wp_region_held_drew (S := fun w' => w'.cell? ⟨w.heap.size, 0, none⟩ = some (.string nm) ∧ w'.cell? ⟨w.heap.size, 1, none⟩ = some (.int .i64 per) ∧ w'.cell? ⟨w.heap.size, 2, none⟩ = some (.int .i64 dl) ∧ w'.cell? ⟨w.heap.size, 3, none⟩ = some (.int .i64 prio) ∧ w'.cell? ⟨w.heap.size, 4, none⟩ = some (.int .i64 cl) ∧ w'.cell? ⟨w.heap.size, 5, none⟩ = some (.slice pa ps.length pc)) (by kernel_rfl) ?_ (fun hHeld => ?_)
      · exact hs
      refine wpAnyH_take (i := 0) (v := ?_) rfl (by kernel_rfl) (by kernel_rfl) (by kernel_rfl) (fun _ _ _ h => h) (Or.inl ⟨by rfl, ?_⟩) (by assumption) ?_
      rotate_left 1
      · ((intro w hSw; (try dsimp only at hSw); go_simp); (try with_reducible rfl))
      simp only [Act.put, List.setIfInBounds_toArray, List.set_cons_zero, List.set_cons_succ, List.getElem_toArray, List.getElem_cons_zero, List.getElem_cons_succ]
      refine wpAnyH_take (i := 1) (v := ?_) rfl (by kernel_rfl) (by kernel_rfl) (by kernel_rfl) (fun _ _ _ h => h) (Or.inl ⟨by rfl, ?_⟩) (by assumption) ?_
      rotate_left 1
      · ((intro w hSw; (try dsimp only at hSw); go_simp); (try with_reducible rfl))
      simp only [Act.put, List.setIfInBounds_toArray, List.set_cons_zero, List.set_cons_succ, List.getElem_toArray, List.getElem_cons_zero, List.getElem_cons_succ]
      refine wpAnyH_take (i := 2) (v := ?_) rfl (by kernel_rfl) (by kernel_rfl) (by kernel_rfl) (fun _ _ _ h => h) (Or.inl ⟨by rfl, ?_⟩) (by assumption) ?_
      rotate_left 1
      · ((intro w hSw; (try dsimp only at hSw); go_simp); (try with_reducible rfl))
      simp only [Act.put, List.setIfInBounds_toArray, List.set_cons_zero, List.set_cons_succ, List.getElem_toArray, List.getElem_cons_zero, List.getElem_cons_succ]
      refine wpAnyH_take (i := 4) (v := ?_) rfl (by kernel_rfl) (by kernel_rfl) (by kernel_rfl) (fun _ _ _ h => h) (Or.inl ⟨by rfl, ?_⟩) (by assumption) ?_
      rotate_left 1
      · ((intro w hSw; (try dsimp only at hSw); go_simp); (try with_reducible rfl))
      simp only [Act.put, List.setIfInBounds_toArray, List.set_cons_zero, List.set_cons_succ, List.getElem_toArray, List.getElem_cons_zero, List.getElem_cons_succ]
      refine wpAnyH_take (i := 5) (v := ?_) rfl (by kernel_rfl) (by kernel_rfl) (by kernel_rfl) (fun _ _ _ h => h) (Or.inl ⟨by rfl, ?_⟩) (by assumption) ?_
      rotate_left 1
      · ((intro w hSw; (try dsimp only at hSw); go_simp); (try with_reducible rfl))
      simp only [Act.put, List.setIfInBounds_toArray, List.set_cons_zero, List.set_cons_succ, List.getElem_toArray, List.getElem_cons_zero, List.getElem_cons_succ]
      refine wpAnyH_take (i := 6) (v := ?_) rfl (by kernel_rfl) (by kernel_rfl) (by kernel_rfl) (fun _ _ _ h => h) (Or.inl ⟨by rfl, ?_⟩) (by assumption) ?_
      rotate_left 1
      · ((intro w hSw; (try dsimp only at hSw); go_simp); (try with_reducible rfl))
      simp only [Act.put, List.setIfInBounds_toArray, List.set_cons_zero, List.set_cons_succ, List.getElem_toArray, List.getElem_cons_zero, List.getElem_cons_succ]
      refine wpAnyH_ready (rs := [3]) (by kernel_rfl) (by simp) ?_
      refine AllReadyH.cons rfl (fun K hK => ?_) AllReadyH.nil
      go_simp
      refine (newj_any (ps := ps) rfl (hp0.out.keep (Keeps.of_below hb2)) hsl hwf (by omega) ht2 (by decide)).mono ?_
      rintro e w5 ⟨b, A, c, rfl, h, t, hbk⟩
      have hbY : Hid (∀ k ∈ b :: fp A, w3.heap.size + 1 ≤ k) := hidp fun k hk => Nat.le_trans hw2 (hbk k hk)
      have hbb : w3.heap.size + 1 ≤ b := hbY.out b (by simp)
      have htY : tb ≠ w3.heap.size := hFY.out tb ht2.head
      replace hRT := hRT.turned t (by simpa using fun e => htY e.symm) (by simp; omega)
      replace B2 := B2.turned t (by simp; omega)
      replace hb2 := below1 hb2 t (by omega)
      replace hs := Z6 B2
      clear hHeld t hbk ht2 hw2
      go_wp2_with fail
      refine hK.out _ _ ?_ (fun hHeld => ?_)
      · exact hs
      clear hK K
      try simp only [Act.put, List.setIfInBounds_toArray, List.set_cons_zero, List.set_cons_succ, List.getElem_toArray, List.getElem_cons_zero, List.getElem_cons_succ]
      refine wpAnyH_ready (rs := [7]) (by kernel_rfl) (by simp) ?_
      refine AllReadyH.cons rfl (fun K hK => ?_) AllReadyH.nil
      go_simp
      refine (newr_any (t := ⟨nm, per, dl, prio, cl⟩) (ps := ps) rfl hp0.out hwf (by omega) hRT (by decide)).mono ?_
      rintro e w6 ⟨rb, rfl, hR, t6, hrb⟩
      have l1 := h.job.blk.lt
      have l2 := h.job.low
      have l3 := h.tape.lt
      have HFar : Hid (Far b tb rb w3.heap.size A F) := hidp ⟨⟨by omega, by omega, by have := l3 tb h.tape.head; omega, htY⟩, fun k hk => ⟨by have := l2 k hk; omega, by have := hbY.out k (by simp [hk]); omega⟩, fun k hk => ⟨by have := l3 k hk; omega, hFY.out k hk⟩⟩
      replace h := h.turned t6 (by simp; omega) (fun k hk => by simpa using (HFar.out.2.1 k hk).2) (fun k hk => by simpa using (HFar.out.2.2 k hk).2)
      replace B2 := B2.turned t6 (by simp; omega)
      replace hb2 := below1 hb2 t6 (by omega)
      replace hs := Z6 B2
      have hrbw : w.heap.size ≤ rb := hR.hb
      clear hHeld t6 hRT l1 l2 l3
      go_wp2_with fail
      refine hK.out _ _ ?_ (fun hHeld => ?_)
      · exact hs
      clear hK K
      try simp only [Act.put, List.setIfInBounds_toArray, List.set_cons_zero, List.set_cons_succ, List.getElem_toArray, List.getElem_cons_zero, List.getElem_cons_succ]
      refine wpAnyH_take (i := 8) (v := ?_) rfl (by kernel_rfl) (by kernel_rfl) (by kernel_rfl) (fun _ _ _ h => h) (Or.inl ⟨by rfl, ?_⟩) (by assumption) ?_
      rotate_left 1
      · ((intro w hSw; (try dsimp only at hSw); go_simp); (try with_reducible rfl))
      simp only [Act.put, List.setIfInBounds_toArray, List.set_cons_zero, List.set_cons_succ, List.getElem_toArray, List.getElem_cons_zero, List.getElem_cons_succ]
      refine wpAnyH_take (i := 9) (v := ?_) rfl (by kernel_rfl) (by kernel_rfl) (by kernel_rfl) (fun _ _ _ h => h) (Or.inl ⟨by rfl, ?_⟩) (by assumption) ?_
      rotate_left 1
      · ((intro w hSw; (try dsimp only at hSw); go_simp); (try with_reducible rfl))
      simp only [Act.put, List.setIfInBounds_toArray, List.set_cons_zero, List.set_cons_succ, List.getElem_toArray, List.getElem_cons_zero, List.getElem_cons_succ]
      refine wpAnyH_done (by kernel_rfl) ?_ _
      have hu0 := beginU_le 0 ps 0
      have hlf := beginL_bd2 (bs := bs) (us := 0) (pt := 0) hf
      generalize beginL bs 0 ps 0 = lf0 at h hR hlf
      generalize beginU 0 ps 0 = us0 at h hR hu0
      obtain ⟨aN, HaN⟩ : ∃ aN : Nat, a3 = aN := ⟨a3.toNat, by omega⟩
      subst HaN
      have Hf := hidp hf
      have Hbl : Hid (bs.length ≤ 1000000) := hidp (by rw [← hr0.out.len]; omega)
      clear hs hHeld B2 hf hr hrb
      generalize w3.heap.size = Y at *
      go_wp2_with fail
      go_loopg [13] (aN + 1) (fun g s13 wr => ∃ (i pt us : Nat) (lf : Int), i + g = aN + 1 ∧ s13 = .int .i64 i ∧ JT wr b ps a1 pt lf A c tb bs us F ∧ RJ w wr rb ⟨nm, per, dl, prio, cl⟩ pa pc ps a1 pt lf Y a2 len2 cap2 bs us ∧ us ≤ i + 1 ∧ 0 ≤ lf ∧ lf ≤ 200 ∧ Below w.heap.size w wr)
      case atStart => exact ⟨0, 0, us0, lf0, by omega, rfl, h, hR, by omega, hlf.1, hlf.2, hb2⟩
      case round =>
        clear h hR hb2 hlf hu0
        obtain ⟨i, pt, us, lf, hg, rfl, h, hR, hus, lf0, lf1, hb⟩ := hrel
        by_cases hlt : i ≤ aN
        · obtain ⟨kd, HK⟩ : ∃ kd, Hid ((partV ps pt).kind = kd) := ⟨_, rfl⟩
          obtain ⟨rs, HS⟩ : ∃ rs, Hid ((partV ps pt).res = rs) := ⟨_, rfl⟩
          obtain ⟨ov, HO⟩ : ∃ ov, Hid (overB ps pt = ov) := ⟨_, rfl⟩
          replace h : JT wr.drew b ps a1 pt lf A c tb bs us F := h.turned ((Turned.refl [] wr).drew) (by simp) (by simp) (by simp)
          replace hR : RJ w wr.drew rb ⟨nm, per, dl, prio, cl⟩ pa pc ps a1 pt lf Y a2 len2 cap2 bs us := hR.turned ((Turned.refl [] wr).drew) (by simp) (by simp) (by simp)
          replace hb : Below w.heap.size w wr.drew := below_drewN hb 1
          have hs := hR.s3
          have hi2 : i ≤ 255 := by omega
          go_wp2_with fail
          refine wp_region_held_drew (S := fun w' => w'.cell? ⟨rb, 7, none⟩ = some (.int .i64 pt) ∧ w'.cell? ⟨rb, 8, none⟩ = some (.int .i64 lf) ∧ w'.cell? ⟨Y, 1, none⟩ = some (.int .i64 us)) (by kernel_rfl) ?_ (fun hHeld => ?_)
          · exact hs
          refine wpAnyH_take (i := 0) (v := ?_) rfl (by kernel_rfl) (by kernel_rfl) (by kernel_rfl) (fun _ _ _ h => h) (Or.inl ⟨by rfl, ?_⟩) (by assumption) ?_
          rotate_left 1
          · ((intro w hSw; (try dsimp only at hSw); go_simp); (try with_reducible rfl))
          simp only [Act.put, List.setIfInBounds_toArray, List.set_cons_zero, List.set_cons_succ, List.getElem_toArray, List.getElem_cons_zero, List.getElem_cons_succ]
          refine wpAnyH_take (i := 2) (v := ?_) rfl (by kernel_rfl) (by kernel_rfl) (by kernel_rfl) (fun _ _ _ h => h) (Or.inl ⟨by rfl, ?_⟩) (by assumption) ?_
          rotate_left 1
          · ((intro w hSw; (try dsimp only at hSw); go_simp); (try with_reducible rfl))
          simp only [Act.put, List.setIfInBounds_toArray, List.set_cons_zero, List.set_cons_succ, List.getElem_toArray, List.getElem_cons_zero, List.getElem_cons_succ]
          refine wpAnyH_ready (rs := [1]) (by kernel_rfl) (by simp) ?_
          refine AllReadyH.cons rfl (fun K hK => ?_) AllReadyH.nil
          go_simp
          refine (release_any h.job).mono ?_
          rintro e w' ⟨rfl, rfl⟩
          go_wp2_with fail
          refine hK.out _ _ ?_ (fun hHeld => ?_)
          · exact hs
          clear hK K
          try simp only [Act.put, List.setIfInBounds_toArray, List.set_cons_zero, List.set_cons_succ, List.getElem_toArray, List.getElem_cons_zero, List.getElem_cons_succ]
          refine wpAnyH_take (i := 3) (v := ?_) rfl (by kernel_rfl) (by kernel_rfl) (by kernel_rfl) (fun _ _ _ h => h) (Or.inl ⟨by rfl, ?_⟩) (by assumption) ?_
          rotate_left 1
          · ((intro w hSw; (try dsimp only at hSw); go_simp); (try with_reducible rfl))
          simp only [Act.put, List.setIfInBounds_toArray, List.set_cons_zero, List.set_cons_succ, List.getElem_toArray, List.getElem_cons_zero, List.getElem_cons_succ]
          refine wpAnyH_take (i := 4) (v := ?_) rfl (by kernel_rfl) (by kernel_rfl) (by kernel_rfl) (fun _ _ _ h => h) (Or.inl ⟨by rfl, ?_⟩) (by assumption) ?_
          rotate_left 1
          · ((intro w hSw; (try dsimp only at hSw); go_simp); (try with_reducible rfl))
          simp only [Act.put, List.setIfInBounds_toArray, List.set_cons_zero, List.set_cons_succ, List.getElem_toArray, List.getElem_cons_zero, List.getElem_cons_succ]
          refine wpAnyH_take (i := 5) (v := ?_) rfl (by kernel_rfl) (by kernel_rfl) (by kernel_rfl) (fun _ _ _ h => h) (Or.inl ⟨by rfl, ?_⟩) (by assumption) ?_
          rotate_left 1
          · ((intro w hSw; (try dsimp only at hSw); go_simp); (try with_reducible rfl))
          simp only [Act.put, List.setIfInBounds_toArray, List.set_cons_zero, List.set_cons_succ, List.getElem_toArray, List.getElem_cons_zero, List.getElem_cons_succ]
          refine wpAnyH_take (i := 7) (v := ?_) rfl (by kernel_rfl) (by kernel_rfl) (by kernel_rfl) (fun _ _ _ h => h) (Or.inl ⟨by rfl, ?_⟩) (by assumption) ?_
          rotate_left 1
          · ((intro w hSw; (try dsimp only at hSw); go_simp); (try with_reducible rfl))
          simp only [Act.put, List.setIfInBounds_toArray, List.set_cons_zero, List.set_cons_succ, List.getElem_toArray, List.getElem_cons_zero, List.getElem_cons_succ]
          refine wpAnyH_take (i := 8) (v := ?_) rfl (by kernel_rfl) (by kernel_rfl) (by kernel_rfl) (fun _ _ _ h => h) (Or.inl ⟨by rfl, ?_⟩) (by assumption) ?_
          rotate_left 1
          · ((intro w hSw; (try dsimp only at hSw); go_simp); (try with_reducible rfl))
          simp only [Act.put, List.setIfInBounds_toArray, List.set_cons_zero, List.set_cons_succ, List.getElem_toArray, List.getElem_cons_zero, List.getElem_cons_succ]
          refine wpAnyH_take (i := 9) (v := ?_) rfl (by kernel_rfl) (by kernel_rfl) (by kernel_rfl) (fun _ _ _ h => h) (Or.inl ⟨by rfl, ?_⟩) (by assumption) ?_
          rotate_left 1
          · ((intro w hSw; (try dsimp only at hSw); go_simp); (try with_reducible rfl))
          simp only [Act.put, List.setIfInBounds_toArray, List.set_cons_zero, List.set_cons_succ, List.getElem_toArray, List.getElem_cons_zero, List.getElem_cons_succ]
          refine wpAnyH_take (i := 10) (v := ?_) rfl (by kernel_rfl) (by kernel_rfl) (by kernel_rfl) (fun _ _ _ h => h) (Or.inl ⟨by rfl, ?_⟩) (by assumption) ?_
          rotate_left 1
          · ((intro w hSw; (try dsimp only at hSw); go_simp); (try with_reducible rfl))
          simp only [Act.put, List.setIfInBounds_toArray, List.set_cons_zero, List.set_cons_succ, List.getElem_toArray, List.getElem_cons_zero, List.getElem_cons_succ]
          refine wpAnyH_ready (rs := [6]) (by kernel_rfl) (by simp) ?_
          refine AllReadyH.cons rfl (fun K hK => ?_) AllReadyH.nil
          go_simp
          refine (part_any h.job).mono ?_
          rintro e w' ⟨rfl, rfl⟩
          go_wp2_with fail
          refine hK.out _ _ ?_ (fun hHeld => ?_)
          · exact hs
          clear hK K
          try simp only [Act.put, List.setIfInBounds_toArray, List.set_cons_zero, List.set_cons_succ, List.getElem_toArray, List.getElem_cons_zero, List.getElem_cons_succ]
          refine wpAnyH_take (i := 11) (v := ?_) rfl (by kernel_rfl) (by kernel_rfl) (by kernel_rfl) (fun _ _ _ h => h) (Or.inl ⟨by rfl, ?_⟩) (by assumption) ?_
          rotate_left 1
          · ((intro w hSw; (try dsimp only at hSw); go_simp); (try with_reducible rfl))
          simp only [Act.put, List.setIfInBounds_toArray, List.set_cons_zero, List.set_cons_succ, List.getElem_toArray, List.getElem_cons_zero, List.getElem_cons_succ]
          refine wpAnyH_take (i := 12) (v := ?_) rfl (by kernel_rfl) (by kernel_rfl) (by kernel_rfl) (fun _ _ _ h => h) (Or.inl ⟨by rfl, ?_⟩) (by assumption) ?_
          rotate_left 1
          · ((intro w hSw; (try dsimp only at hSw); go_simp); (try with_reducible rfl))
          simp only [Act.put, List.setIfInBounds_toArray, List.set_cons_zero, List.set_cons_succ, List.getElem_toArray, List.getElem_cons_zero, List.getElem_cons_succ]
          refine wpAnyH_take (i := 13) (v := ?_) rfl (by kernel_rfl) (by kernel_rfl) (by kernel_rfl) (fun _ _ _ h => h) (Or.inl ⟨by rfl, ?_⟩) (by assumption) ?_
          rotate_left 1
          · ((intro w hSw; (try dsimp only at hSw); go_simp); (try with_reducible rfl))
          simp only [Act.put, List.setIfInBounds_toArray, List.set_cons_zero, List.set_cons_succ, List.getElem_toArray, List.getElem_cons_zero, List.getElem_cons_succ]
          refine wpAnyH_take (i := 14) (v := ?_) rfl (by kernel_rfl) (by kernel_rfl) (by kernel_rfl) (fun _ _ _ h => h) (Or.inl ⟨by rfl, ?_⟩) (by assumption) ?_
          rotate_left 1
          · ((intro w hSw; (try dsimp only at hSw); go_simp); (try with_reducible rfl))
          simp only [Act.put, List.setIfInBounds_toArray, List.set_cons_zero, List.set_cons_succ, List.getElem_toArray, List.getElem_cons_zero, List.getElem_cons_succ]
          refine wpAnyH_take (i := 16) (v := ?_) rfl (by kernel_rfl) (by kernel_rfl) (by kernel_rfl) (fun _ _ _ h => h) (Or.inl ⟨by rfl, ?_⟩) (by assumption) ?_
          rotate_left 1
          · ((intro w hSw; (try dsimp only at hSw); go_simp); (try with_reducible rfl))
          simp only [Act.put, List.setIfInBounds_toArray, List.set_cons_zero, List.set_cons_succ, List.getElem_toArray, List.getElem_cons_zero, List.getElem_cons_succ]
          refine wpAnyH_ready (rs := [15]) (by kernel_rfl) (by simp) ?_
          refine AllReadyH.cons rfl (fun K hK => ?_) AllReadyH.nil
          go_simp
          refine (kind_any h.job).mono ?_
          rw [HK.out]
          rintro e v1 ⟨rfl, b1⟩
          replace h := h.over b1
          replace hR := hR.over b1
          replace hb := below0 hb b1
          replace hs := hR.s3
          clear hHeld b1
          go_wp2_with fail
          refine hK.out _ _ ?_ (fun hHeld => ?_)
          · exact hs
          clear hK K
          try simp only [Act.put, List.setIfInBounds_toArray, List.set_cons_zero, List.set_cons_succ, List.getElem_toArray, List.getElem_cons_zero, List.getElem_cons_succ]
          refine wpAnyH_ready (rs := [17]) (by kernel_rfl) (by simp) ?_
          refine AllReadyH.cons rfl (fun K hK => ?_) AllReadyH.nil
          go_simp
          refine (rkind_any hR).mono ?_
          rw [HK.out]
          rintro e v2 ⟨rfl, b2⟩
          replace h := h.over b2.b
          replace hR := hR.over b2.b
          replace hb := below0 hb b2.b
          replace hs := hR.s3
          clear hHeld b2
          go_wp2_with fail
          refine hK.out _ _ ?_ (fun hHeld => ?_)
          · exact hs
          clear hK K
          try simp only [Act.put, List.setIfInBounds_toArray, List.set_cons_zero, List.set_cons_succ, List.getElem_toArray, List.getElem_cons_zero, List.getElem_cons_succ]
          refine wpAnyH_take (i := 18) (v := ?_) rfl (by kernel_rfl) (by kernel_rfl) (by kernel_rfl) (fun _ _ _ h => h) (Or.inl ⟨by rfl, ?_⟩) (by assumption) ?_
          rotate_left 1
          · ((intro w hSw; (try dsimp only at hSw); go_simp); (try with_reducible rfl))
          simp only [Act.put, List.setIfInBounds_toArray, List.set_cons_zero, List.set_cons_succ, List.getElem_toArray, List.getElem_cons_zero, List.getElem_cons_succ]
          refine wpAnyH_take (i := 19) (v := ?_) rfl (by kernel_rfl) (by kernel_rfl) (by kernel_rfl) (fun _ _ _ h => h) (Or.inl ⟨by rfl, ?_⟩) (by assumption) ?_
          rotate_left 1
          · ((intro w hSw; (try dsimp only at hSw); go_simp); (try with_reducible rfl))
          simp only [Act.put, List.setIfInBounds_toArray, List.set_cons_zero, List.set_cons_succ, List.getElem_toArray, List.getElem_cons_zero, List.getElem_cons_succ]
          refine wpAnyH_take (i := 20) (v := ?_) rfl (by kernel_rfl) (by kernel_rfl) (by kernel_rfl) (fun _ _ _ h => h) (Or.inl ⟨by rfl, ?_⟩) (by assumption) ?_
          rotate_left 1
          · ((intro w hSw; (try dsimp only at hSw); go_simp); (try with_reducible rfl))
          simp only [Act.put, List.setIfInBounds_toArray, List.set_cons_zero, List.set_cons_succ, List.getElem_toArray, List.getElem_cons_zero, List.getElem_cons_succ]
          refine wpAnyH_take (i := 21) (v := ?_) rfl (by kernel_rfl) (by kernel_rfl) (by kernel_rfl) (fun _ _ _ h => h) (Or.inl ⟨by rfl, ?_⟩) (by assumption) ?_
          rotate_left 1
          · ((intro w hSw; (try dsimp only at hSw); go_simp); (try with_reducible rfl))
          simp only [Act.put, List.setIfInBounds_toArray, List.set_cons_zero, List.set_cons_succ, List.getElem_toArray, List.getElem_cons_zero, List.getElem_cons_succ]
          refine wpAnyH_take (i := 23) (v := ?_) rfl (by kernel_rfl) (by kernel_rfl) (by kernel_rfl) (fun _ _ _ h => h) (Or.inl ⟨by rfl, ?_⟩) (by assumption) ?_
          rotate_left 1
          · ((intro w hSw; (try dsimp only at hSw); go_simp); (try with_reducible rfl))
          simp only [Act.put, List.setIfInBounds_toArray, List.set_cons_zero, List.set_cons_succ, List.getElem_toArray, List.getElem_cons_zero, List.getElem_cons_succ]
          refine wpAnyH_take (i := 24) (v := ?_) rfl (by kernel_rfl) (by kernel_rfl) (by kernel_rfl) (fun _ _ _ h => h) (Or.inl ⟨by rfl, ?_⟩) (by assumption) ?_
          rotate_left 1
          · ((intro w hSw; (try dsimp only at hSw); go_simp); (try with_reducible rfl))
          simp only [Act.put, List.setIfInBounds_toArray, List.set_cons_zero, List.set_cons_succ, List.getElem_toArray, List.getElem_cons_zero, List.getElem_cons_succ]
          refine wpAnyH_take (i := 25) (v := ?_) rfl (by kernel_rfl) (by kernel_rfl) (by kernel_rfl) (fun _ _ _ h => h) (Or.inl ⟨by rfl, ?_⟩) (by assumption) ?_
          rotate_left 1
          · ((intro w hSw; (try dsimp only at hSw); go_simp); (try with_reducible rfl))
          simp only [Act.put, List.setIfInBounds_toArray, List.set_cons_zero, List.set_cons_succ, List.getElem_toArray, List.getElem_cons_zero, List.getElem_cons_succ]
          refine wpAnyH_take (i := 26) (v := ?_) rfl (by kernel_rfl) (by kernel_rfl) (by kernel_rfl) (fun _ _ _ h => h) (Or.inl ⟨by rfl, ?_⟩) (by assumption) ?_
          rotate_left 1
          · ((intro w hSw; (try dsimp only at hSw); go_simp); (try with_reducible rfl))
          simp only [Act.put, List.setIfInBounds_toArray, List.set_cons_zero, List.set_cons_succ, List.getElem_toArray, List.getElem_cons_zero, List.getElem_cons_succ]
          refine wpAnyH_ready (rs := [22]) (by kernel_rfl) (by simp) ?_
          refine AllReadyH.cons rfl (fun K hK => ?_) AllReadyH.nil
          go_simp
          refine (left_any h.job).mono ?_
          rintro e w' ⟨rfl, rfl⟩
          go_wp2_with fail
          refine hK.out _ _ ?_ (fun hHeld => ?_)
          · exact hs
          clear hK K
          try simp only [Act.put, List.setIfInBounds_toArray, List.set_cons_zero, List.set_cons_succ, List.getElem_toArray, List.getElem_cons_zero, List.getElem_cons_succ]
          refine wpAnyH_take (i := 27) (v := ?_) rfl (by kernel_rfl) (by kernel_rfl) (by kernel_rfl) (fun _ _ _ h => h) (Or.inl ⟨by rfl, ?_⟩) (by assumption) ?_
          rotate_left 1
          · ((intro w hSw; (try dsimp only at hSw); go_simp); (try with_reducible rfl))
          simp only [Act.put, List.setIfInBounds_toArray, List.set_cons_zero, List.set_cons_succ, List.getElem_toArray, List.getElem_cons_zero, List.getElem_cons_succ]
          refine wpAnyH_take (i := 28) (v := ?_) rfl (by kernel_rfl) (by kernel_rfl) (by kernel_rfl) (fun _ _ _ h => h) (Or.inl ⟨by rfl, ?_⟩) (by assumption) ?_
          rotate_left 1
          · ((intro w hSw; (try dsimp only at hSw); go_simp); (try with_reducible rfl))
          simp only [Act.put, List.setIfInBounds_toArray, List.set_cons_zero, List.set_cons_succ, List.getElem_toArray, List.getElem_cons_zero, List.getElem_cons_succ]
          refine wpAnyH_take (i := 29) (v := ?_) rfl (by kernel_rfl) (by kernel_rfl) (by kernel_rfl) (fun _ _ _ h => h) (Or.inl ⟨by rfl, ?_⟩) (by assumption) ?_
          rotate_left 1
          · ((intro w hSw; (try dsimp only at hSw); go_simp); (try with_reducible rfl))
          simp only [Act.put, List.setIfInBounds_toArray, List.set_cons_zero, List.set_cons_succ, List.getElem_toArray, List.getElem_cons_zero, List.getElem_cons_succ]
          refine wpAnyH_take (i := 30) (v := ?_) rfl (by kernel_rfl) (by kernel_rfl) (by kernel_rfl) (fun _ _ _ h => h) (Or.inl ⟨by rfl, ?_⟩) (by assumption) ?_
          rotate_left 1
          · ((intro w hSw; (try dsimp only at hSw); go_simp); (try with_reducible rfl))
          simp only [Act.put, List.setIfInBounds_toArray, List.set_cons_zero, List.set_cons_succ, List.getElem_toArray, List.getElem_cons_zero, List.getElem_cons_succ]
          refine wpAnyH_take (i := 32) (v := ?_) rfl (by kernel_rfl) (by kernel_rfl) (by kernel_rfl) (fun _ _ _ h => h) (Or.inl ⟨by rfl, ?_⟩) (by assumption) ?_
          rotate_left 1
          · ((intro w hSw; (try dsimp only at hSw); go_simp); (try with_reducible rfl))
          simp only [Act.put, List.setIfInBounds_toArray, List.set_cons_zero, List.set_cons_succ, List.getElem_toArray, List.getElem_cons_zero, List.getElem_cons_succ]
          refine wpAnyH_ready (rs := [31]) (by kernel_rfl) (by simp) ?_
          refine AllReadyH.cons rfl (fun K hK => ?_) AllReadyH.nil
          go_simp
          refine (res_any h.job).mono ?_
          rw [HS.out]
          rintro e v3 ⟨rfl, b3⟩
          replace h := h.over b3
          replace hR := hR.over b3
          replace hb := below0 hb b3
          replace hs := hR.s3
          clear hHeld b3
          go_wp2_with fail
          refine hK.out _ _ ?_ (fun hHeld => ?_)
          · exact hs
          clear hK K
          try simp only [Act.put, List.setIfInBounds_toArray, List.set_cons_zero, List.set_cons_succ, List.getElem_toArray, List.getElem_cons_zero, List.getElem_cons_succ]
          refine wpAnyH_ready (rs := [33]) (by kernel_rfl) (by simp) ?_
          refine AllReadyH.cons rfl (fun K hK => ?_) AllReadyH.nil
          go_simp
          refine (rres_any hR).mono ?_
          rw [HS.out]
          rintro e v4 ⟨rfl, b4⟩
          replace h := h.over b4.b
          replace hR := hR.over b4.b
          replace hb := below0 hb b4.b
          replace hs := hR.s3
          clear hHeld b4
          go_wp2_with fail
          refine hK.out _ _ ?_ (fun hHeld => ?_)
          · exact hs
          clear hK K
          try simp only [Act.put, List.setIfInBounds_toArray, List.set_cons_zero, List.set_cons_succ, List.getElem_toArray, List.getElem_cons_zero, List.getElem_cons_succ]
          refine wpAnyH_take (i := 34) (v := ?_) rfl (by kernel_rfl) (by kernel_rfl) (by kernel_rfl) (fun _ _ _ h => h) (Or.inl ⟨by rfl, ?_⟩) (by assumption) ?_
          rotate_left 1
          · ((intro w hSw; (try dsimp only at hSw); go_simp); (try with_reducible rfl))
          simp only [Act.put, List.setIfInBounds_toArray, List.set_cons_zero, List.set_cons_succ, List.getElem_toArray, List.getElem_cons_zero, List.getElem_cons_succ]
          refine wpAnyH_take (i := 35) (v := ?_) rfl (by kernel_rfl) (by kernel_rfl) (by kernel_rfl) (fun _ _ _ h => h) (Or.inl ⟨by rfl, ?_⟩) (by assumption) ?_
          rotate_left 1
          · ((intro w hSw; (try dsimp only at hSw); go_simp); (try with_reducible rfl))
          simp only [Act.put, List.setIfInBounds_toArray, List.set_cons_zero, List.set_cons_succ, List.getElem_toArray, List.getElem_cons_zero, List.getElem_cons_succ]
          refine wpAnyH_take (i := 36) (v := ?_) rfl (by kernel_rfl) (by kernel_rfl) (by kernel_rfl) (fun _ _ _ h => h) (Or.inl ⟨by rfl, ?_⟩) (by assumption) ?_
          rotate_left 1
          · ((intro w hSw; (try dsimp only at hSw); go_simp); (try with_reducible rfl))
          simp only [Act.put, List.setIfInBounds_toArray, List.set_cons_zero, List.set_cons_succ, List.getElem_toArray, List.getElem_cons_zero, List.getElem_cons_succ]
          refine wpAnyH_take (i := 37) (v := ?_) rfl (by kernel_rfl) (by kernel_rfl) (by kernel_rfl) (fun _ _ _ h => h) (Or.inl ⟨by rfl, ?_⟩) (by assumption) ?_
          rotate_left 1
          · ((intro w hSw; (try dsimp only at hSw); go_simp); (try with_reducible rfl))
          simp only [Act.put, List.setIfInBounds_toArray, List.set_cons_zero, List.set_cons_succ, List.getElem_toArray, List.getElem_cons_zero, List.getElem_cons_succ]
          refine wpAnyH_take (i := 39) (v := ?_) rfl (by kernel_rfl) (by kernel_rfl) (by kernel_rfl) (fun _ _ _ h => h) (Or.inl ⟨by rfl, ?_⟩) (by assumption) ?_
          rotate_left 1
          · ((intro w hSw; (try dsimp only at hSw); go_simp); (try with_reducible rfl))
          simp only [Act.put, List.setIfInBounds_toArray, List.set_cons_zero, List.set_cons_succ, List.getElem_toArray, List.getElem_cons_zero, List.getElem_cons_succ]
          refine wpAnyH_ready (rs := [38]) (by kernel_rfl) (by simp) ?_
          refine AllReadyH.cons rfl (fun K hK => ?_) AllReadyH.nil
          go_simp
          refine (over_any h.job).mono ?_
          rw [HO.out]
          rintro e v5 ⟨rfl, b5⟩
          replace h := h.over b5.b
          replace hR := hR.over b5.b
          replace hb := below0 hb b5.b
          replace hs := hR.s3
          clear hHeld b5
          go_wp2_with fail
          refine hK.out _ _ ?_ (fun hHeld => ?_)
          · exact hs
          clear hK K
          try simp only [Act.put, List.setIfInBounds_toArray, List.set_cons_zero, List.set_cons_succ, List.getElem_toArray, List.getElem_cons_zero, List.getElem_cons_succ]
          refine wpAnyH_ready (rs := [40]) (by kernel_rfl) (by simp) ?_
          refine AllReadyH.cons rfl (fun K hK => ?_) AllReadyH.nil
          go_simp
          refine (rover_any hR).mono ?_
          rw [HO.out]
          rintro e v6 ⟨rfl, b6⟩
          replace h := h.over b6.b
          replace hR := hR.over b6.b
          replace hb := below0 hb b6.b
          replace hs := hR.s3
          clear hHeld b6
          go_wp2_with fail
          refine hK.out _ _ ?_ (fun hHeld => ?_)
          · exact hs
          clear hK K
          try simp only [Act.put, List.setIfInBounds_toArray, List.set_cons_zero, List.set_cons_succ, List.getElem_toArray, List.getElem_cons_zero, List.getElem_cons_succ]
          refine wpAnyH_take (i := 41) (v := ?_) rfl (by kernel_rfl) (by kernel_rfl) (by kernel_rfl) (fun _ _ _ h => h) (Or.inl ⟨by rfl, ?_⟩) (by assumption) ?_
          rotate_left 1
          · ((intro w hSw; (try dsimp only at hSw); go_simp); (try with_reducible rfl))
          simp only [Act.put, List.setIfInBounds_toArray, List.set_cons_zero, List.set_cons_succ, List.getElem_toArray, List.getElem_cons_zero, List.getElem_cons_succ]
          refine wpAnyH_take (i := 42) (v := ?_) rfl (by kernel_rfl) (by kernel_rfl) (by kernel_rfl) (fun _ _ _ h => h) (Or.inl ⟨by rfl, ?_⟩) (by assumption) ?_
          rotate_left 1
          · ((intro w hSw; (try dsimp only at hSw); go_simp); (try with_reducible rfl))
          simp only [Act.put, List.setIfInBounds_toArray, List.set_cons_zero, List.set_cons_succ, List.getElem_toArray, List.getElem_cons_zero, List.getElem_cons_succ]
          refine wpAnyH_take (i := 43) (v := ?_) rfl (by kernel_rfl) (by kernel_rfl) (by kernel_rfl) (fun _ _ _ h => h) (Or.inl ⟨by rfl, ?_⟩) (by assumption) ?_
          rotate_left 1
          · ((intro w hSw; (try dsimp only at hSw); go_simp); (try with_reducible rfl))
          simp only [Act.put, List.setIfInBounds_toArray, List.set_cons_zero, List.set_cons_succ, List.getElem_toArray, List.getElem_cons_zero, List.getElem_cons_succ]
          refine wpAnyH_take (i := 44) (v := ?_) rfl (by kernel_rfl) (by kernel_rfl) (by kernel_rfl) (fun _ _ _ h => h) (Or.inl ⟨by rfl, ?_⟩) (by assumption) ?_
          rotate_left 1
          · ((intro w hSw; (try dsimp only at hSw); go_simp); (try with_reducible rfl))
          simp only [Act.put, List.setIfInBounds_toArray, List.set_cons_zero, List.set_cons_succ, List.getElem_toArray, List.getElem_cons_zero, List.getElem_cons_succ]
          refine wpAnyH_take (i := 46) (v := ?_) rfl (by kernel_rfl) (by kernel_rfl) (by kernel_rfl) (fun _ _ _ h => h) (Or.inl ⟨by rfl, ?_⟩) (by assumption) ?_
          rotate_left 1
          · ((intro w hSw; (try dsimp only at hSw); go_simp); (try with_reducible rfl))
          simp only [Act.put, List.setIfInBounds_toArray, List.set_cons_zero, List.set_cons_succ, List.getElem_toArray, List.getElem_cons_zero, List.getElem_cons_succ]
          refine wpAnyH_take (i := 47) (v := ?_) rfl (by kernel_rfl) (by kernel_rfl) (by kernel_rfl) (fun _ _ _ h => h) (Or.inl ⟨by rfl, ?_⟩) (by assumption) ?_
          rotate_left 1
          · ((intro w hSw; (try dsimp only at hSw); go_simp); (try with_reducible rfl))
          simp only [Act.put, List.setIfInBounds_toArray, List.set_cons_zero, List.set_cons_succ, List.getElem_toArray, List.getElem_cons_zero, List.getElem_cons_succ]
          refine wpAnyH_take (i := 48) (v := ?_) rfl (by kernel_rfl) (by kernel_rfl) (by kernel_rfl) (fun _ _ _ h => h) (Or.inl ⟨by rfl, ?_⟩) (by assumption) ?_
          rotate_left 1
          · ((intro w hSw; (try dsimp only at hSw); go_simp); (try with_reducible rfl))
          simp only [Act.put, List.setIfInBounds_toArray, List.set_cons_zero, List.set_cons_succ, List.getElem_toArray, List.getElem_cons_zero, List.getElem_cons_succ]
          refine wpAnyH_take (i := 49) (v := ?_) rfl (by kernel_rfl) (by kernel_rfl) (by kernel_rfl) (fun _ _ _ h => h) (Or.inl ⟨by rfl, ?_⟩) (by assumption) ?_
          rotate_left 1
          · ((intro w hSw; (try dsimp only at hSw); go_simp); (try with_reducible rfl))
          simp only [Act.put, List.setIfInBounds_toArray, List.set_cons_zero, List.set_cons_succ, List.getElem_toArray, List.getElem_cons_zero, List.getElem_cons_succ]
          refine wpAnyH_ready (rs := [45]) (by kernel_rfl) (by simp) ?_
          refine AllReadyH.cons rfl (fun K hK => ?_) AllReadyH.nil
          go_simp
          refine (tused_any h.tape).mono ?_
          rintro e w' ⟨rfl, rfl⟩
          go_wp2_with fail
          refine hK.out _ _ ?_ (fun hHeld => ?_)
          · exact hs
          clear hK K
          try simp only [Act.put, List.setIfInBounds_toArray, List.set_cons_zero, List.set_cons_succ, List.getElem_toArray, List.getElem_cons_zero, List.getElem_cons_succ]
          refine wpAnyH_take (i := 50) (v := ?_) rfl (by kernel_rfl) (by kernel_rfl) (by kernel_rfl) (fun _ _ _ h => h) (Or.inl ⟨by rfl, ?_⟩) (by assumption) ?_
          rotate_left 1
          · ((intro w hSw; (try dsimp only at hSw); go_simp); (try with_reducible rfl))
          simp only [Act.put, List.setIfInBounds_toArray, List.set_cons_zero, List.set_cons_succ, List.getElem_toArray, List.getElem_cons_zero, List.getElem_cons_succ]
          refine wpAnyH_take (i := 51) (v := ?_) rfl (by kernel_rfl) (by kernel_rfl) (by kernel_rfl) (fun _ _ _ h => h) (Or.inl ⟨by rfl, ?_⟩) (by assumption) ?_
          rotate_left 1
          · ((intro w hSw; (try dsimp only at hSw); go_simp); (try with_reducible rfl))
          simp only [Act.put, List.setIfInBounds_toArray, List.set_cons_zero, List.set_cons_succ, List.getElem_toArray, List.getElem_cons_zero, List.getElem_cons_succ]
          refine wpAnyH_done (by kernel_rfl) ?_ _
          clear hs hHeld HK HS HO
          have hN1 := h.job.blk.lt
          have hN2 := h.job.low
          have hN3 := h.tape.lt
          have hN4 := hR.blk.lt
          have hN5 := hR.tape.blk.lt
          go_wp2_with fail
          refine (tcopy_any h.tape Hbl.out).mono ?_
          rintro e v7 ⟨b3, F3, rfl, k3, u3⟩
          have hb3 := u3.blocks _ k3.head
          have hA3 : Hid (∀ k ∈ fp A, k ∉ F3) := hidp fun k hk hm => by have h1 := hN2 k hk; have h2 := u3.blocks k hm; omega
          replace h := h.over u3.below
          replace hR := hR.over u3.below
          have hbw3 : w.heap.size ≤ b3 := Nat.le_trans hb.size hb3
          replace hb := below0 hb u3.below
          have hsz := u3.below.size
          have hl3 := k3.lt
          clear u3
          go_wp2_with fail
          refine (copyj_any (tb2 := b3) h.job).mono ?_
          rintro e v8 ⟨b4, rfl, j4, bb4, hb4⟩
          have hC : JT v8 b4 ps a1 pt lf A c b3 bs us F3 := ⟨j4, k3.over bb4, fun k hk hm => by
            rcases List.mem_cons.1 hk with rfl | hk
            · have := hl3 k hm; omega
            · exact hA3.out k hk hm⟩
          replace h := h.over bb4
          replace hR := hR.over bb4
          have hbw4 : w.heap.size ≤ b4 := Nat.le_trans hb.size hb4
          replace hb := below0 hb bb4
          clear j4 k3 bb4 hl3
          go_wp2_with fail
          refine (tick_any hC ⟨lf0, lf1⟩ (by omega)).mono ?_
          rintro e v9 ⟨rfl, -, t9⟩
          replace h := h.turned t9 (by simp; omega) (fun k hk hm => by have := hN2 k hk; simp at hm; omega) (fun k hk hm => by have := hN3 k hk; simp at hm; omega)
          replace hR := hR.turned t9 (by simp; omega) (by simp; omega) (fun k hk => by simp at hk; rcases hk with rfl | rfl <;> assumption)
          replace hb := below2 hb t9 hbw4 hbw3
          clear hC t9 hN1 hN2 hN3 hN4 hN5 hb3 hA3 hsz hb4 hbw3 hbw4
          obtain ⟨tv, HT⟩ : ∃ tv, Hid (tickB ps pt lf = tv) := ⟨_, rfl⟩
          go_wp2_with fail
          refine (tick_any h ⟨lf0, lf1⟩ (by omega)).mono ?_
          rw [HT.out]
          rintro e v10 ⟨rfl, h2, t10⟩
          replace hR := hR.turned t10 (by simp; exact ⟨HFar.out.1.1.symm, HFar.out.1.2.2.1.symm⟩) (by simp; exact ⟨HFar.out.1.2.1.symm, HFar.out.1.2.2.2.symm⟩) (fun k hk => by simp at hk; rcases hk with rfl | rfl <;> omega)
          replace hb := below2 hb t10 (by omega) (by omega)
          clear h t10
          go_wp2_with fail
          refine (rtick_any hR ⟨lf0, lf1⟩ (by omega)).mono ?_
          rw [HT.out]
          rintro e v11 ⟨rfl, hR2, t11⟩
          have h3 := h2.turned t11 (by simp; exact ⟨HFar.out.1.1, HFar.out.1.2.1⟩) (fun k hk => by simpa using HFar.out.2.1 k hk) (fun k hk => by simpa using HFar.out.2.2 k hk)
          replace hb := below2 hb t11 hrbw (by omega)
          have hu2 := tickU_le us ps pt lf
          have hl2 := tickLf_bd (bs := bs) (us := us) (pt := pt) Hf.out ⟨lf0, lf1⟩
          clear hR h2 t11 HT
          go_wp2_with fail
          go_roundg (gk - 1)
          case measure => omega
          case rel => exact ⟨i + 1, _, _, _, by omega, by go_num, h3, hR2, by omega, hl2.1, hl2.2, hb⟩
        · go_wp2_with fail
          go_ret
          exact ⟨rfl, hb⟩

theorem own : ownKnob Try.prog.godebug = none := by kernel_rfl
theorem laidOut : laidOutB Try.prog = true := by kernel_rfl

/-! THE ROW's STEP -/
set_option maxRecDepth 100000 in
theorem lifted (os : Os) (started : os.Started) (H : Type) (enc : TypeId × Value → H) :
    ReturnsInHanded {} Try.checked os 6 .any (Rows.jobPlaysSpec.pre6 enc Try.prog Try.f6 Rows.jobPlaysRow.domain false) (Rows.jobPlaysSpec.post enc Try.prog Try.f6 false true false false) := by
  refine returnsInHanded_of_change (C := Try.checked) own started (by kernel_rfl) Try.func6
    (ChangeSpec.witness6 (enc := enc) (C := Try.checked) false ⟨#[], #[.agg #[.string ByteArray.empty, .int .i64 0, .int .i64 0, .int .i64 0, .int .i64 0, .slice none 0 0], .int .i64 0, .slice none 0 0, .int .u8 0], []⟩ 8 (by kernel_rfl) (by kernel_rfl) (by kernel_rfl) (by kernel_rfl)) ?_
  intro W base args ds gs before hval0 hW hcnd _
  have hval : ∀ (j : Nat) t v, Try.f6.params[j]? = some t → args[j]? = some v → Value.okWide Try.prog W .any base t v := hval0
  have hW' := hW
  obtain ⟨p, q, hA0, hV, rfl, hfz, hnd⟩ := hW
  have hA : DataW.TrodAll enc Try.prog W 0 (fun _ => true) true Try.f6.params.toList args.toList ds p := hA0
  rw [Try.params6] at hA hval
  obtain ⟨v0, vs0, d0, ds0, p0, q0, hargs, rfl, rfl, h0, r0⟩ := trodAll_cons hA
  obtain ⟨v1, vs1, d1, ds1, p1, q1, rfl, rfl, rfl, h1, r1⟩ := trodAll_cons r0
  obtain ⟨v2, vs2, d2, ds2, p2, q2, rfl, rfl, rfl, h2, r2⟩ := trodAll_cons r1
  obtain ⟨v3, vs3, d3, ds3, p3, q3, rfl, rfl, rfl, h3, r3⟩ := trodAll_cons r2
  obtain ⟨rfl, rfl, rfl⟩ := trodAll_nil r3
  obtain rfl : args = #[v0, v1, v2, v3] := by cases args; simp_all
  obtain ⟨rfl, rfl⟩ := trodVars_none hV
  have k0 := h0
  have lt0 : ∀ x ∈ p0, x.block < W.heap.size := by obtain ⟨m, hm⟩ := k0; exact DataW.trod_lt m _ _ _ hm
  obtain ⟨s0, w0, rfl⟩ := setTypes.arg_task (hval 0 38 v0 rfl rfl) h0
  obtain ⟨a1, rfl, rfl, rfl, w1⟩ := open_int Try.underlying3 (hval 1 3 v1 rfl rfl) h1
  obtain ⟨a2, len2, cap2, rfl⟩ := okWide_slice Try.underlying22 (hval 2 22 v2 rfl rfl)
  have k2 := h2
  have lt2 : ∀ x ∈ p2, x.block < W.heap.size := by obtain ⟨m, hm⟩ := k2; exact DataW.trod_lt m _ _ _ hm
  obtain ⟨z2, w2⟩ : ∃ zs, IsRow .u8 W a2 len2 cap2 zs := by
    obtain ⟨fuel, hf⟩ := h2
    rcases open_ints Try.underlying22 Try.underlying5 (by kernel_rfl) hf with ⟨hcs, _⟩ | ⟨x, l, c, zs, hcs, _, hl, hm, hz, _, hcell, hwz⟩
    · simp [Value.cells] at hcs
      obtain ⟨rfl, rfl, rfl⟩ := hcs
      exact ⟨[], .inl ⟨rfl, rfl, rfl, rfl⟩⟩
    · simp [Value.cells] at hcs
      obtain ⟨rfl, rfl, rfl⟩ := hcs
      exact ⟨zs, .inr ⟨_, rfl, hl, hm, by simpa using hz, hcell, hwz⟩⟩
  obtain ⟨a3, rfl, rfl, rfl, w3⟩ := open_int Try.underlying5 (hval 3 5 v3 rfl rfl) h3
  clear hA0 hval0
  refine (walk s0 a1 a2 len2 cap2 z2 a3 W w0 w1 w2 w3).mono fun e W' ⟨he, bel⟩ => ?_
  subst he
  exact ⟨_, rfl, _, _, _, [], _, [], hW', trodAll_mk1 (shut_bool Try.underlying4 _), (trodAll_cons_mk (Below.trod laidOut (by kernel_rfl) (of_decide_eq_true (by kernel_rfl)) k0 bel lt0) (trodAll_cons_mk (shut_int Try.underlying3 w1) (trodAll_cons_mk (Below.trod laidOut (by kernel_rfl) (of_decide_eq_true (by kernel_rfl)) k2 bel lt2) (trodAll_cons_mk (shut_int Try.underlying5 w3) trodAll_mk0)))), rfl, bel.frame _, fun h => by cases h⟩

theorem over : Rows.jobPlaysRow.holds Try.pinned (OpenSpec.ofChange Rows.jobPlaysSpec) :=
  OpenClaim.holds_of_wide 6 Try.f6 rfl rfl rfl rfl rfl rfl rfl ⟨rfl, rfl, rfl, rfl, rfl⟩ rfl rfl rfl rfl rfl (by kernel_rfl) Try.func6 (by kernel_rfl)
    (of_decide_eq_true (by kernel_rfl)) (by unfold Func.isWrapper; first | (rw [if_pos (by decide +kernel)]; kernel_rfl) | (rw [if_neg (by decide +kernel)]; exact ⟨rfl, rfl⟩))
    (fun os started H enc _ => lifted os started H enc)

/-- THE STATEMENT -/
theorem proved : Rows.JobPlaysSaid := over
#print axioms proved
end Go.Proofs.Ytbnncaljekifdaa.jobPlays

