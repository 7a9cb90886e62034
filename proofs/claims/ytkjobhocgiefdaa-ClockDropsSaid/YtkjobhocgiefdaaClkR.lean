/- clock: remove: the first of a spoke's rows that is that one. -/
import Derived.Test.YtkjobhocgiefdaaClkB
import Derived.Deep.QuietTactic
import Derived.Test.YtkjobhocgiefdaaReg
namespace Go.Proofs.Ytkjobhocgiefdaa
open Go.ChangeShapes Go.WideShapes Go.ChangeAt Go.RowKit Go.Conc
set_option linter.unusedVariables false
set_option linter.unusedSimpArgs false
/-- the first that is d -/
def FirstIs (l : List DueM) (d : DueM) (k : Nat) : Prop := k < l.length ∧ l.getD k default = d ∧ ∀ j, j < k → l.getD j default ≠ d
set_option maxHeartbeats 2000000 in
theorem index_due {w : World} {A : Option Addr} {c k : Nat} {l : List DueM} {d : DueM} (h : OwnD w A c l) (hl : l.length ≤ 1000) (hk : FirstIs l d k) :
    Calls Try.prog 28 #[.slice A l.length c, .agg #[.int .i64 d.time, .int .i64 d.id]] w fun e w' => e = .returned (.int .i64 k) ∧ Below w.heap.size w w' := by
  obtain ⟨g, off, rfl, hcells⟩ := h.dues.resolve_left (by intro e; have := hk.1; rw [e] at this; simp at this)
  have HC := hidp hcells
  have HK := hidp hk
  have hb0 := (Below.refl w.heap.size w).alloc (Nat.le_refl _) (.cells #[.int .i64 d.time, .int .i64 d.id] 31)
  have bx := Bk.new w 31 #[.int .i64 d.time, .int .i64 d.id]
  have HX := hidp bx
  have HB0 := hidp hb0
  obtain ⟨n, hn⟩ : ∃ n, l.length = n := ⟨_, rfl⟩
  have hkn : k < n := by have := hk.1; omega
  rw [hn] at hl ⊢
  have Hn := hidp hn
  obtain ⟨t0, i0⟩ := d
  dsimp only at *
  have hq0 : Qt (w.alloc (.cells #[.int .i64 t0, .int .i64 i0] 31)) (w.alloc (.cells #[.int .i64 t0, .int .i64 i0] 31)) := Qt.refl _
  clear h hcells hk hn hb0 bx
  go_enter Try.func28, Try.ntmps28
  go_wp2
  go_loopg [8] n (fun gg i wr => ∃ j : Nat, j + gg = n ∧ j ≤ k ∧ i = .int .i64 j ∧ Qt (w.alloc (.cells #[.int .i64 t0, .int .i64 i0] 31)) wr)
  case atStart => exact ⟨0, by omega, by omega, rfl, hq0⟩
  case round =>
    clear hq0
    obtain ⟨j, hj, hjk, rfl, hq⟩ := hrel
    have jn : (j : Int) < (n : Int) := by omega
    have j0 : (0 : Int) ≤ (j : Int) := by omega
    obtain ⟨d, Hd⟩ : ∃ d, Hid (l.getD j default = d) := ⟨_, hidp rfl⟩
    have cd := HC.out j (by rw [Hn.out]; omega)
    rw [Hd.out] at cd
    obtain ⟨t1, i1⟩ := d
    have c0 := hq.cell (KeepsB HB0.out _ _ cd.1)
    have c1 := hq.cell (KeepsB HB0.out _ _ cd.2)
    have x0 := hq.cell (HX.out.cell 0)
    have x1 := hq.cell (HX.out.cell 1)
    dsimp only at c0 c1
    have HQ := hidp hq
    by_cases hjk2 : j = k
    · have e := HK.out.2.1
      rw [← hjk2, Hd.out] at e
      injection e with e1 e2
      subst e1; subst e2
      have Hj := hidp hjk2
      clear cd hjk2 hjk hq
      go_wp2
      go_quiet (fail)
      go_wp2
      go_ret
      exact ⟨by rw [Hj.out]; rfl, (HQ.out.add _).below HB0.out⟩
    · have hne := HK.out.2.2 j (by omega)
      rw [Hd.out] at hne
      have wj : IntKind.i64.wrap ((j : Int) + 1) = (j : Int) + 1 := IntWalk.i64_in _ (by omega)
      have hjk3 : j + 1 ≤ k := by omega
      have Hj := hidp hj
      by_cases ht : t0 = t1
      · subst ht
        have hi : (i0 == i1) = false := by simp; intro e; exact hne (by rw [e])
        clear cd hjk2 hjk hq hne hj
        go_wp2
        go_quiet (fail)
        go_wp2
        go_roundg (n - j - 1)
        case measure => have := Hj.out; omega
        case rel => exact ⟨j + 1, by have := Hj.out; omega, hjk3, by go_num, HQ.out.add _⟩
      · have hi : (t0 == t1) = false := by simpa using ht
        clear cd hjk2 hjk hq hne hj
        go_wp2
        go_quiet (fail)
        go_wp2
        go_roundg (n - j - 1)
        case measure => have := Hj.out; omega
        case rel => exact ⟨j + 1, by have := Hj.out; omega, hjk3, by go_num, HQ.out.add _⟩
section
variable {w : World} {b o : Nat} {T : TypeId} {cs : Array Value} {now : Int} {m : Nat → SpM}
def RemPost (w : World) (b o : Nat) (T : TypeId) (cs : Array Value) (now : Int) (m : Nat → SpM) (i k kk : Nat) (w' : World) : Prop :=
  ∃ cs', Clk w' b o T cs' now (upd m i ⟨(m i).A, (m i).c, (m i).rows.eraseIdx k, (m i).bell, kk⟩) ∧ Fr w b o 9 T cs (fps m) w' cs' (fps (upd m i ⟨(m i).A, (m i).c, (m i).rows.eraseIdx k, (m i).bell, kk⟩))
set_option maxHeartbeats 8000000 in
theorem remove_any (h : Clk w b o T cs now m) (d : DueM) (hd : 0 ≤ d.time) {i k kk : Nat} (hi : i < 4) (hm : d.time.tmod 4 = (i : Int)) (hl : (m i).rows.length ≤ 64) (hk : FirstIs (m i).rows d k) (hkk : (m i).k = kk + (if d.time = now then 1 else 0)) :
    Calls Try.prog 22 #[.pointer (some ⟨b, o, none⟩), .agg #[.int .i64 d.time, .int .i64 d.id]] w fun e w' => e = .returned (.tuple #[]) ∧ RemPost w b o T cs now m i k kk w' := by
  have hB := (Below.refl w.heap.size w).alloc (Nat.le_refl _) (.cells #[.int .i64 d.time, .int .i64 d.id] 31)
  have bx := Bk.new w 31 #[.int .i64 d.time, .int .i64 d.id]
  have h1 := h.over hB
  have hsp := h1.sp i hi
  have hfp0 := (h.sp i hi).fps
  have hbw := h.blk.lt
  obtain ⟨x, hx⟩ : ∃ x, m i = x := ⟨_, rfl⟩
  rw [hx] at hsp hl hk hkk hfp0
  obtain ⟨A, c, rows, bell, k0⟩ := x
  dsimp only at hl hk hkk
  have hk0 : k < rows.length := hk.1
  obtain ⟨g, hA⟩ : ∃ g, A = some ⟨g, 0, none⟩ := by
    rcases hsp.own.own.2 with ⟨hv, h0⟩ | ⟨g, cap, cur, hv, _⟩
    · dsimp only at h0; omega
    · injection hv with e1; exact ⟨g, e1⟩
  subst hA
  have HG := hidp (hfp0 g (by simp [SpM.fp, fp]))
  have HBW := hidp hbw
  clear hfp0 hbw
  obtain ⟨n, hn⟩ : ∃ n, rows.length = n := ⟨_, rfl⟩
  have cR := (hsp.blk.cell (o + 1 + i * 2)).trans hsp.rows
  dsimp only at cR
  rw [hn] at cR hl hk0
  have Hn := hidp hn
  have HI := index_due (w := (w.alloc (.cells #[.int .i64 d.time, .int .i64 d.id] 31)).drew) (hsp.own.turned (Turned.refl [] _).drew (by simp)) (by dsimp only; omega) hk
  rw [hn] at HI
  have hs : (w.alloc (.cells #[.int .i64 d.time, .int .i64 d.id] 31)).drew.cell? ⟨b, o + 1 + i * 2, none⟩ = some (.slice (some ⟨g, 0, none⟩) n c) ∧ (w.alloc (.cells #[.int .i64 d.time, .int .i64 d.id] 31)).drew.cell? ⟨w.heap.size, 0, none⟩ = some (.int .i64 d.time) ∧ (w.alloc (.cells #[.int .i64 d.time, .int .i64 d.id] 31)).drew.cell? ⟨w.heap.size, 1, none⟩ = some (.int .i64 d.id) := ⟨cR, bx.cell 0, bx.cell 1⟩
  have CS := spoke_any (w := w.alloc (.cells #[.int .i64 d.time, .int .i64 d.id] 31)) (b := b) (o := o) hd hi hm
  have x0 := bx.cell 0
  have HS := hidp hsp
  have H1 := hidp h1
  have HX := hidp bx
  have HB := hidp hB
  have Hx := hidp hx
  have Hk := hidp hk
  have Hkk := hidp hkk
  have Hk0 := hidp hk0
  have k1 : (k : Int) < (n : Int) := by omega
  have wk : IntKind.i64.wrap ((k : Int) + 1) = (k : Int) + 1 := IntWalk.i64_in _ (by omega)
  clear h hB bx h1 hsp hx hk hkk cR hn hk0
  go_enter Try.func22, Try.ntmps22
  go_wp2_with fail
  refine CS.mono ?_
  rintro e w1 ⟨rfl, rfl⟩
  clear CS
  go_wp2_with fail
  refine wp_region_held_drew (S := fun w' => w'.cell? ⟨b, o + 1 + i * 2, none⟩ = some (.slice (some ⟨g, 0, none⟩) n c) ∧ w'.cell? ⟨w.heap.size, 0, none⟩ = some (.int .i64 d.time) ∧ w'.cell? ⟨w.heap.size, 1, none⟩ = some (.int .i64 d.id)) (by kernel_rfl) ?_ (fun hHeld => ?_)
  · exact hs
  refine wpAnyH_take (i := 0) (v := ?_) rfl (by kernel_rfl) (by kernel_rfl) (by kernel_rfl) (fun _ _ _ h => h) (Or.inl ⟨by rfl, ?_⟩) (by assumption) ?_
  rotate_left 1
  · ((intro w hSw; (try dsimp only at hSw); go_simp); (try with_reducible rfl))
  simp only [Act.put, List.setIfInBounds_toArray, List.set_cons_zero, List.set_cons_succ, List.getElem_toArray, List.getElem_cons_zero, List.getElem_cons_succ]
  refine wpAnyH_take (i := 1) (v := ?_) rfl (by kernel_rfl) (by kernel_rfl) (by kernel_rfl) (fun _ _ _ h => h) (Or.inl ⟨by rfl, ?_⟩) (by assumption) ?_
  rotate_left 1
  · ((intro w hSw; (try dsimp only at hSw); go_simp); (try with_reducible rfl))
  simp only [Act.put, List.setIfInBounds_toArray, List.set_cons_zero, List.set_cons_succ, List.getElem_toArray, List.getElem_cons_zero, List.getElem_cons_succ]
  refine wpAnyH_take (i := 2) (v := ?_) rfl (by kernel_rfl) (by kernel_rfl) (by kernel_rfl) (fun _ _ _ h => h) (Or.inl ⟨by rfl, ?_⟩) (by assumption) ?_
  rotate_left 1
  · ((intro w hSw; (try dsimp only at hSw); go_simp); (try with_reducible rfl))
  simp only [Act.put, List.setIfInBounds_toArray, List.set_cons_zero, List.set_cons_succ, List.getElem_toArray, List.getElem_cons_zero, List.getElem_cons_succ]
  refine wpAnyH_take (i := 3) (v := ?_) rfl (by kernel_rfl) (by kernel_rfl) (by kernel_rfl) (fun _ _ _ h => h) (Or.inl ⟨by rfl, ?_⟩) (by assumption) ?_
  rotate_left 1
  · ((intro w hSw; (try dsimp only at hSw); go_simp); (try with_reducible rfl))
  simp only [Act.put, List.setIfInBounds_toArray, List.set_cons_zero, List.set_cons_succ, List.getElem_toArray, List.getElem_cons_zero, List.getElem_cons_succ]
  refine wpAnyH_take (i := 4) (v := ?_) rfl (by kernel_rfl) (by kernel_rfl) (by kernel_rfl) (fun _ _ _ h => h) (Or.inl ⟨by rfl, ?_⟩) (by assumption) ?_
  rotate_left 1
  · ((intro w hSw; (try dsimp only at hSw); go_simp); (try with_reducible rfl))
  simp only [Act.put, List.setIfInBounds_toArray, List.set_cons_zero, List.set_cons_succ, List.getElem_toArray, List.getElem_cons_zero, List.getElem_cons_succ]
  refine wpAnyH_ready (rs := [5]) (by kernel_rfl) (by simp) ?_
  refine AllReadyH.cons rfl (fun K hK => ?_) AllReadyH.nil
  go_simp
  refine HI.mono ?_
  rintro e w2 ⟨rfl, hb2⟩
  have kB := KeepsB hb2
  replace hs := And.intro (kB _ _ hs.1) (And.intro (kB _ _ hs.2.1) (kB _ _ hs.2.2))
  clear hHeld kB HI
  go_wp2_with fail
  refine hK.out _ _ ?_ (fun hHeld => ?_)
  · exact hs
  clear hK K
  try simp only [Act.put, List.setIfInBounds_toArray, List.set_cons_zero, List.set_cons_succ, List.getElem_toArray, List.getElem_cons_zero, List.getElem_cons_succ]
  refine wpAnyH_take (i := 6) (v := ?_) rfl (by kernel_rfl) (by kernel_rfl) (by kernel_rfl) (fun _ _ _ h => h) (Or.inl ⟨by rfl, ?_⟩) (by assumption) ?_
  rotate_left 1
  · ((intro w hSw; (try dsimp only at hSw); go_simp); (try with_reducible rfl))
  simp only [Act.put, List.setIfInBounds_toArray, List.set_cons_zero, List.set_cons_succ, List.getElem_toArray, List.getElem_cons_zero, List.getElem_cons_succ]
  refine wpAnyH_done (by kernel_rfl) ?_ _
  clear hHeld
  have ht2 : Turned [] (w.alloc (.cells #[.int .i64 d.time, .int .i64 d.id] 31)) w2 := (Turned.refl [] _).drew.trans (Turned.of_below hb2 []) (by simp)
  have HT2 := hidp ht2
  have HD := due_del_any (w := w2) (k := k) (i := (k : Int)) (j := (k : Int) + 1) (HS.out.own.turned ht2 (by simp)) (by dsimp only; rw [Hn.out]; exact Hk0.out) rfl (by push_cast; rfl)
  dsimp only at HD
  rw [Hn.out] at HD
  obtain ⟨cR, _, _⟩ := hs
  clear ht2 hb2 x0
  go_wp2_with fail
  refine HD.mono ?_
  rintro e w3 ⟨rfl, ho3, ht3⟩
  have hbg : b ≠ g := fun e => HS.out.ne (by subst e; simp [SpM.fp, fp])
  have hb3 := ((HS.out.blk.turned HT2.out (by simp)).turned ht3 (by simp; exact hbg))
  have c3 := (hb3.cell (o + 1 + i * 2)).trans HS.out.rows
  have f3 := hb3.frozen (o + 1 + i * 2)
  dsimp only at c3
  rw [Hn.out] at c3
  have HE : (rows.eraseIdx k).length = n - 1 := by rw [List.length_eraseIdx_of_lt (by rw [Hn.out]; exact Hk0.out), Hn.out]
  have PP := HS.out.hdr (l := rows.eraseIdx k) (w1 := w3) (A' := some ⟨g, 0, none⟩) (c' := c) (F := [g]) ho3 (((HT2.out.mono (G := [g]) (fun k hk => by simp at hk)).trans ht3 (fun i hi => .inl hi))) (fun k hk => by simpa [fp] using hk) (fun k hk => .inl hk)
  rw [HE] at PP
  rw [← Hx.out] at PP
  obtain ⟨cs4, hc4, hf4⟩ := H1.out.put hi PP
  rw [Hx.out] at hc4 hf4
  dsimp only at hc4 hf4
  have hxg : w.heap.size ≠ g := Nat.ne_of_gt HG.out
  have bx3 := ((HX.out.turned HT2.out (by simp)).turned ht3 (by simpa using hxg)).turned (F := [b]) ((Turned.refl [b] w3).setCell (p := ⟨b, o + 1 + i * 2, none⟩) (.inl (by simp)) (.slice (some ⟨g, 0, none⟩) (n - 1) c)) (by have := HBW.out; simp; omega)
  have HC4 := hidp hc4
  have HF4 : Hid (Fr w b o 9 T cs (fps m) (w3.setCell ⟨b, o + 1 + i * 2, none⟩ (.slice (some ⟨g, 0, none⟩) (n - 1) c)) cs4 (fps (upd m i ⟨some ⟨g, 0, none⟩, c, rows.eraseIdx k, bell, k0⟩))) := hidp ((Fr.below HB.out).trans hf4)
  have HBX := hidp bx3
  clear HD ho3 ht3 hb3 HE PP hc4 hf4 hxg bx3 cR hbg
  go_wp2_with fail
  obtain ⟨W, hW⟩ : ∃ W, w3.setCell ⟨b, o + 1 + i * 2, none⟩ (.slice (some ⟨g, 0, none⟩) (n - 1) c) = W := ⟨_, rfl⟩
  rw [hW] at HC4 HF4 HBX ⊢
  have x0 := HBX.out.cell 0
  have cN := (HC4.out.blk.cell o).trans HC4.out.now_
  clear hW c3 f3
  by_cases hdn : d.time = now
  · have e1 : (d.time == now) = true := by simpa using hdn
    have hkk2 : k0 = kk + 1 := by rw [Hkk.out, if_pos hdn]
    subst hkk2
    clear hdn
    go_wp2_with fail
    go_quiet (fail)
    have hc5 := HC4.out.turned ((Turned.refl [] W).drewN nq) (by simp) (by simp)
    have hsp5 := hc5.sp i hi
    rw [upd_at] at hsp5
    rcases hsp5.bok with ⟨_, h0⟩ | ⟨ch, s, r, hb5, hch⟩
    · exact absurd h0 (by simp)
    dsimp only at hb5 hch
    subst hb5
    have cB := (hsp5.blk.cell _).trans hsp5.bell
    dsimp only at cB
    have hp := hsp5.rung rfl rfl hch
    rw [← upd_at m i ⟨some ⟨g, 0, none⟩, c, rows.eraseIdx k, some ch, kk + 1⟩] at hp
    obtain ⟨cs6, hc6, hf6⟩ := hc5.put hi hp
    rw [upd_upd, upd_at] at hc6 hf6
    dsimp only at hc6 hf6
    have HC6 := hidp hc6
    have HF6 := hidp ((HF4.out.trans (Fr.below (T := T) (b := b) (o := o) (n := 9) (cs := cs4) (F := fps (upd m i ⟨some ⟨g, 0, none⟩, c, rows.eraseIdx k, some ch, kk + 1⟩)) (below_drewN (Below.refl W.heap.size W) nq))).trans hf6)
    clear hc5 hsp5 hp hc6 hf6
    go_upto_region 5 with fail
    refine wpS_region [0, 1, 2, 3, 4] (by rfl) ?_
    refine wpS_quick (v := ?_) rfl rfl ?_ ?_
    rotate_left 1
    · (go_simp; (try with_reducible rfl))
    simp only [Act.put, List.setIfInBounds_toArray, List.set_cons_zero, List.set_cons_succ, List.getElem_toArray, List.getElem_cons_zero, List.getElem_cons_succ]
    refine wpS_quick (v := ?_) rfl rfl ?_ ?_
    rotate_left 1
    · (go_simp; (try with_reducible rfl))
    simp only [Act.put, List.setIfInBounds_toArray, List.set_cons_zero, List.set_cons_succ, List.getElem_toArray, List.getElem_cons_zero, List.getElem_cons_succ]
    refine wpS_quick (v := ?_) rfl rfl ?_ ?_
    rotate_left 1
    · (go_simp; (try with_reducible rfl))
    simp only [Act.put, List.setIfInBounds_toArray, List.set_cons_zero, List.set_cons_succ, List.getElem_toArray, List.getElem_cons_zero, List.getElem_cons_succ]
    refine wpS_quick (v := ?_) rfl rfl ?_ ?_
    rotate_left 1
    · (go_simp; (try with_reducible rfl))
    simp only [Act.put, List.setIfInBounds_toArray, List.set_cons_zero, List.set_cons_succ, List.getElem_toArray, List.getElem_cons_zero, List.getElem_cons_succ]
    refine wpS_recv (c := ch) (z := .agg #[]) (cap := 64) (buf := Array.replicate (kk + 1) (.agg #[])) (closed := false) (s := s) (r := r) (tm := false) rfl rfl (by simp [go_sem, execOp, rcase, Act.eval]) hch (by simp) ?_
    refine wpS_done ?_
    go_end0
    exact ⟨rfl, cs6, by rw [Hx.out]; exact HC6.out, by rw [Hx.out]; exact HF6.out⟩
  · have e1 : (d.time == now) = false := by simpa using hdn
    have hkk2 : k0 = kk := by rw [Hkk.out, if_neg hdn]; rfl
    subst hkk2
    clear hdn
    go_wp2_with fail
    go_quiet (fail)
    have HC6 := hidp (HC4.out.turned ((Turned.refl [] W).drewN nq) (by simp) (by simp))
    have HF6 := hidp (HF4.out.trans (Fr.below (T := T) (b := b) (o := o) (n := 9) (cs := cs4) (F := fps (upd m i ⟨some ⟨g, 0, none⟩, c, rows.eraseIdx k, bell, k0⟩)) (below_drewN (Below.refl W.heap.size W) nq)))
    go_wp2_with fail
    go_end0
    exact ⟨rfl, cs4, by rw [Hx.out]; exact HC6.out, by rw [Hx.out]; exact HF6.out⟩
end
end Go.Proofs.Ytkjobhocgiefdaa
