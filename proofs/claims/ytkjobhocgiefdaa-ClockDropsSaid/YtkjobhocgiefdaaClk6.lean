/- clock: Put. -/
import Derived.Test.YtkjobhocgiefdaaClk5
import Derived.Test.YtkjobhocgiefdaaRegC
namespace Go.Proofs.Ytkjobhocgiefdaa
open Go.ChangeShapes Go.WideShapes Go.ChangeAt Go.RowKit Go.Conc
set_option linter.unusedVariables false
set_option linter.unusedSimpArgs false
section
variable {w : World} {b o : Nat} {T : TypeId} {cs : Array Value} {now : Int} {m : Nat → SpM}
def PutPost (w : World) (b o : Nat) (T : TypeId) (cs : Array Value) (now : Int) (m : Nat → SpM) (i : Nat) (d : DueM) (w' : World) : Prop :=
  ∃ m' cs', Clk w' b o T cs' now m' ∧ Fr w b o 9 T cs (fps m) w' cs' (fps m') ∧ (m' i).rows = (m i).rows ++ [d] ∧ (m' i).k = (m i).k + (if d.time = now then 1 else 0) ∧ ∀ j, j ≠ i → m' j = m j
theorem put_form (h : Clk w b o T cs now m) (d : DueM) (hd : d.time < now ∨ 1000000 < d.time) : Calls Try.prog 9 #[.pointer (some ⟨b, o, none⟩), .agg #[.int .i64 d.time, .int .i64 d.id]] w fun e w' => e = .returned (.int .i64 10) ∧ Below w.heap.size w w' := by
  have hB := (Below.refl w.heap.size w).alloc (Nat.le_refl _) (.cells #[.int .i64 d.time, .int .i64 d.id] 31)
  have c1 := KeepsB hB _ _ ((h.blk.cell o).trans h.now_)
  have HB := hidp hB
  by_cases h1 : d.time < now
  · have h1' : decide (d.time < now) = true := by simpa using h1
    clear h hd hB
    go_enter Try.func9, Try.ntmps9
    go_wp2_with fail
    go_quiet (fail)
    go_wp2_with fail
    go_ret
    exact ⟨rfl, below_drewN HB.out _⟩
  · have h1' : decide (d.time < now) = false := by simpa using h1
    have h2 : 1000000 < d.time := by omega
    have h2' : decide (1000000 < d.time) = true := by simpa using h2
    clear h hd hB
    go_enter Try.func9, Try.ntmps9
    go_wp2_with fail
    go_quiet (fail)
    go_wp2_with fail
    go_ret
    exact ⟨rfl, below_drewN HB.out _⟩
theorem put_full (h : Clk w b o T cs now m) (hl : ∀ i, i < 4 → (m i).rows.length ≤ 64) (ht : totC m 4 = 64) (d : DueM) (hd : now ≤ d.time ∧ d.time ≤ 1000000) : Calls Try.prog 9 #[.pointer (some ⟨b, o, none⟩), .agg #[.int .i64 d.time, .int .i64 d.id]] w fun e w' => e = .returned (.int .i64 12) ∧ Below w.heap.size w w' := by
  have hB := (Below.refl w.heap.size w).alloc (Nat.le_refl _) (.cells #[.int .i64 d.time, .int .i64 d.id] 31)
  have c1 := KeepsB hB _ _ ((h.blk.cell o).trans h.now_)
  have HB := hidp hB
  have h1 : ¬ d.time < now := by omega
  have h1' : decide (d.time < now) = false := by simpa using h1
  have h2 : ¬ 1000000 < d.time := by omega
  have h2' : decide (1000000 < d.time) = false := by simpa using h2
  have H := hidp h
  have HL := hidp hl
  have HT := hidp ht
  clear h hd hB hl ht
  go_enter Try.func9, Try.ntmps9
  go_wp2_with fail
  go_quiet (fail)
  have CL := len_any (H.out.over (below_drewN HB.out nq)) HL.out
  rw [HT.out] at CL
  go_wp2_with fail
  refine CL.mono ?_
  rintro e w2 ⟨rfl, hb2⟩
  have HB2 := hidp ((below_drewN HB.out nq).trans (hb2.mono (below_drewN HB.out nq).size))
  clear CL hb2
  go_wp2_with fail
  go_ret
  exact ⟨rfl, HB2.out⟩
set_option maxHeartbeats 4000000 in
theorem put_ok (h : Clk w b o T cs now m) (hl : ∀ i, i < 4 → (m i).rows.length ≤ 64) (ht : totC m 4 < 64) (d : DueM) (hd : 0 ≤ now ∧ now ≤ d.time ∧ d.time ≤ 1000000) (hid : I64 d.id) {i : Nat} (hi : i < 4) (hm : d.time.tmod 4 = (i : Int)) (hk : (m i).k < 64) (hn : (m i).rows.length < 64) :
    Calls Try.prog 9 #[.pointer (some ⟨b, o, none⟩), .agg #[.int .i64 d.time, .int .i64 d.id]] w fun e w' => e = .returned (.int .i64 0) ∧ PutPost w b o T cs now m i d w' := by
  have hB := (Below.refl w.heap.size w).alloc (Nat.le_refl _) (.cells #[.int .i64 d.time, .int .i64 d.id] 31)
  have bx := Bk.new w 31 #[.int .i64 d.time, .int .i64 d.id]
  have c1 := KeepsB hB _ _ ((h.blk.cell o).trans h.now_)
  have HB := hidp hB
  have HX := hidp bx
  have h1 : ¬ d.time < now := by omega
  have h1' : decide (d.time < now) = false := by simpa using h1
  have h2 : ¬ 1000000 < d.time := by omega
  have h2' : decide (1000000 < d.time) = false := by simpa using h2
  have H := hidp h
  have HL := hidp hl
  have HT := hidp ht
  have Hd := hidp hd
  have Hk := hidp hk
  have Hn := hidp hn
  have hd0 : 0 ≤ d.time := by omega
  have hT : ¬ totC m 4 = 64 := by omega
  have hT2 : ¬ ((totC m 4 : Nat) : Int) = 64 := by omega
  obtain ⟨tt, htt⟩ : ∃ tt, totC m 4 = tt := ⟨_, rfl⟩
  rw [htt] at hT hT2
  have Htt := hidp htt
  obtain ⟨i0, hi0, hy0, hy1, hy2⟩ := info_parts infoDue
  clear h hB hl ht hd bx hk hn htt
  go_enter Try.func9, Try.ntmps9
  go_wp2_with fail
  go_quiet (fail)
  have CL := len_any (H.out.over (below_drewN HB.out nq)) HL.out
  rw [Htt.out] at CL
  go_wp2_with fail
  refine CL.mono ?_
  rintro e w2 ⟨rfl, hb2⟩
  have hB2 := (below_drewN HB.out nq).trans (hb2.mono (below_drewN HB.out nq).size)
  have bx2 := (HX.out.drewN nq).turned (Turned.of_below hb2 []) (by simp)
  have x0 := bx2.cell 0
  have x1 := bx2.cell 1
  have h2w := H.out.over hB2
  have HB2 := hidp hB2
  have CS := spoke_any (w := w2) (b := b) (o := o) hd0 hi hm
  have HX2 := hidp bx2
  clear CL hb2 hB2 bx2
  go_wp2_with fail
  refine CS.mono ?_
  rintro e w3 ⟨rfl, rfl⟩
  have hsp := h2w.sp i hi
  have HSp := hidp hsp
  have H2 := hidp h2w
  obtain ⟨x, hx⟩ : ∃ x, m i = x := ⟨_, rfl⟩
  rw [hx] at HSp hsp Hk Hn
  have Hx := hidp hx
  obtain ⟨A, c, rows, bell, k⟩ := x
  obtain ⟨n, hn⟩ : ∃ n, rows.length = n := ⟨_, rfl⟩
  have cR := (hsp.blk.cell (o + 1 + i * 2)).trans hsp.rows
  dsimp only at cR Hk Hn
  rw [hn] at cR Hn
  have hs : w2.drew.cell? ⟨b, o + 1 + i * 2, none⟩ = some (.slice A n c) ∧ w2.drew.cell? ⟨w.heap.size, 0, none⟩ = some (.int .i64 d.time) ∧ w2.drew.cell? ⟨w.heap.size, 1, none⟩ = some (.int .i64 d.id) := ⟨cR, x0, x1⟩
  have hn64 : n ≤ 64 := Nat.le_of_lt Hn.out
  have HN := hidp hn
  have hbw : b < w2.heap.size := hsp.blk.lt
  have hbx : w.heap.size < w2.heap.size := HX2.out.lt
  have Hbw := hidp hbw
  have Hbx := hidp hbx
  have hfx : Hid (w.heap.size ∉ fp A) := hidp (fun hh => by
    have h3 := (H.out.sp i hi).fps w.heap.size
    rw [Hx.out] at h3
    have := h3 (List.mem_append_left _ hh)
    omega)
  clear hsp hx hn cR x0 x1 CS h2w hbw hbx
  go_wp2_with fail
  refine wp_region_c_drew 10 (S := fun w' => w'.cell? ⟨b, o + 1 + i * 2, none⟩ = some (.slice A n c) ∧ w'.cell? ⟨w.heap.size, 0, none⟩ = some (.int .i64 d.time) ∧ w'.cell? ⟨w.heap.size, 1, none⟩ = some (.int .i64 d.id)) (by kernel_rfl) ?_ (fun hHeld => ?_)
  · exact hs
  obtain ⟨u, hu⟩ : ∃ u, w2.drew = u := ⟨_, rfl⟩
  rw [hu] at hs ⊢
  have TL : Turned [] w2 (u.alloc (.cells #[.int .i64 d.time, .int .i64 d.id] 31)) := by rw [← hu]; exact (Turned.refl [] w2).drew.alloc _
  have ba := HSp.out.blk.turned TL (by simp)
  have bxa := HX2.out.turned TL (by simp)
  have hs1 : (u.alloc (.cells #[.int .i64 d.time, .int .i64 d.id] 31)).cell? ⟨b, o + 1 + i * 2, none⟩ = some (.slice A n c) ∧ (u.alloc (.cells #[.int .i64 d.time, .int .i64 d.id] 31)).cell? ⟨w.heap.size, 0, none⟩ = some (.int .i64 d.time) ∧ (u.alloc (.cells #[.int .i64 d.time, .int .i64 d.id] 31)).cell? ⟨w.heap.size, 1, none⟩ = some (.int .i64 d.id) := ⟨(ba.cell _).trans (HN.out ▸ HSp.out.rows), bxa.cell 0, bxa.cell 1⟩
  have oa := HSp.out.own.turned TL (by simp)
  dsimp only at oa
  have oo := oa.own
  rw [HN.out] at oo
  have S2 := hidp (cellsNew u [.int .i64 d.time, .int .i64 d.id] 31)
  have O2 := hidp (dtc_one [d])
  have N2 : Hid (n + 1 ≤ maxLen) := hidp (by unfold maxLen; omega)
  have T2 : Hid ((n + 1) * 16 ≤ 140737488355328) := hidp (by omega)
  have G5 : Hid (b ∉ fp A) := hidp (fun h => HSp.out.ne (List.mem_append_left _ h))
  have TD := hidp TL
  clear TL hu
  refine wpAnyC_take (i := 0) (v := ?_) rfl rfl (by kernel_rfl) (by decide) (by kernel_rfl) (by kernel_rfl) (by kernel_rfl) (fun _ _ _ h => h) (Or.inl ⟨by rfl, ?_⟩) (by assumption) ?_
  rotate_left 1
  · ((intro w hSw; (try dsimp only at hSw); go_simp); (try with_reducible rfl))
  simp only [Act.put, List.setIfInBounds_toArray, List.set_cons_zero, List.set_cons_succ, List.getElem_toArray, List.getElem_cons_zero, List.getElem_cons_succ]
  refine wpAnyC_take (i := 1) (v := ?_) rfl rfl (by kernel_rfl) (by decide) (by kernel_rfl) (by kernel_rfl) (by kernel_rfl) (fun _ _ _ h => h) (Or.inl ⟨by rfl, ?_⟩) (by assumption) ?_
  rotate_left 1
  · ((intro w hSw; (try dsimp only at hSw); go_simp); (try with_reducible rfl))
  simp only [Act.put, List.setIfInBounds_toArray, List.set_cons_zero, List.set_cons_succ, List.getElem_toArray, List.getElem_cons_zero, List.getElem_cons_succ]
  refine wpAnyC_take (i := 2) (v := ?_) rfl rfl (by kernel_rfl) (by decide) (by kernel_rfl) (by kernel_rfl) (by kernel_rfl) (fun _ _ _ h => h) (Or.inl ⟨by rfl, ?_⟩) (by assumption) ?_
  rotate_left 1
  · ((intro w hSw; (try dsimp only at hSw); go_simp); (try with_reducible rfl))
  simp only [Act.put, List.setIfInBounds_toArray, List.set_cons_zero, List.set_cons_succ, List.getElem_toArray, List.getElem_cons_zero, List.getElem_cons_succ]
  refine wpAnyC_take (i := 3) (v := ?_) rfl rfl (by kernel_rfl) (by decide) (by kernel_rfl) (by kernel_rfl) (by kernel_rfl) (fun _ _ _ h => h) (Or.inl ⟨by rfl, ?_⟩) (by assumption) ?_
  rotate_left 1
  · ((intro w hSw; (try dsimp only at hSw); go_simp); (try with_reducible rfl))
  simp only [Act.put, List.setIfInBounds_toArray, List.set_cons_zero, List.set_cons_succ, List.getElem_toArray, List.getElem_cons_zero, List.getElem_cons_succ]
  refine wpAnyC_take (i := 4) (v := ?_) rfl rfl (by kernel_rfl) (by decide) (by kernel_rfl) (by kernel_rfl) (by kernel_rfl) (fun _ _ _ h => h) (Or.inl ⟨by rfl, ?_⟩) (by assumption) ?_
  rotate_left 1
  · ((intro w hSw; (try dsimp only at hSw); go_simp); (try with_reducible rfl))
  simp only [Act.put, List.setIfInBounds_toArray, List.set_cons_zero, List.set_cons_succ, List.getElem_toArray, List.getElem_cons_zero, List.getElem_cons_succ]
  refine wpAnyC_take (i := 5) (v := ?_) rfl rfl (by kernel_rfl) (by decide) (by kernel_rfl) (by kernel_rfl) (by kernel_rfl) (fun _ _ _ h => h) (Or.inl ⟨by rfl, ?_⟩) (by assumption) ?_
  rotate_left 1
  · ((intro w hSw; (try dsimp only at hSw); go_simp); (try with_reducible rfl))
  simp only [Act.put, List.setIfInBounds_toArray, List.set_cons_zero, List.set_cons_succ, List.getElem_toArray, List.getElem_cons_zero, List.getElem_cons_succ]
  refine wpAnyC_ready (rs := [6]) (by kernel_rfl) (by simp) ?_
  refine AllReadyC.cons rfl (fun K hK => ?_) AllReadyC.nil
  go_simp
  refine hK.out _ _ ?_ (fun hHeld => ?_)
  · exact hs1
  clear hK K
  try simp only [Act.put, List.setIfInBounds_toArray, List.set_cons_zero, List.set_cons_succ, List.getElem_toArray, List.getElem_cons_zero, List.getElem_cons_succ]
  refine wpAnyC_ready (rs := [7]) (by kernel_rfl) (by simp) ?_
  refine AllReadyC.cons rfl (fun K hK => ?_) AllReadyC.nil
  refine step_app2 _ rfl (.tmp 29) (.tmp 31) 27 rfl 0 31 i0 _ 2 16 Try.underlying27 hi0 hy0 hy1 hy2 rfl (by decide) A n c _ rfl oo _ _ 1 1 [.int .i64 d.time, .int .i64 d.id] rfl (by simp) rfl S2.out O2.out N2.out T2.out (Nat.zero_le _) ?_
  intro A' c' w5 happ
  have bb := ba.turned happ.turned G5.out
  have bxb := bxa.turned happ.turned hfx.out
  have hs2 : w5.cell? ⟨b, o + 1 + i * 2, none⟩ = some (.slice A n c) ∧ w5.cell? ⟨w.heap.size, 0, none⟩ = some (.int .i64 d.time) ∧ w5.cell? ⟨w.heap.size, 1, none⟩ = some (.int .i64 d.id) := ⟨(bb.cell _).trans (HN.out ▸ HSp.out.rows), bxb.cell 0, bxb.cell 1⟩
  have fz := bb.frozen (o + 1 + i * 2)
  refine hK.out _ _ ?_ (fun hHeld => ?_)
  · exact hs2
  clear hK K
  try simp only [Act.put, List.setIfInBounds_toArray, List.set_cons_zero, List.set_cons_succ, List.getElem_toArray, List.getElem_cons_zero, List.getElem_cons_succ]
  refine wpAnyC_ready (rs := [8]) (by kernel_rfl) (by simp) ?_
  refine AllReadyC.cons rfl (fun K hK => ?_) AllReadyC.nil
  go_simp
  refine hK.out _ _ ?_ (fun hHeld => ?_)
  · exact hs2
  clear hK K
  try simp only [Act.put, List.setIfInBounds_toArray, List.set_cons_zero, List.set_cons_succ, List.getElem_toArray, List.getElem_cons_zero, List.getElem_cons_succ]
  refine wpAnyC_ready (rs := [9]) (by kernel_rfl) (by simp) ?_
  refine AllReadyC.cons rfl (fun K hK => ?_) AllReadyC.nil
  go_simp
  refine hK.out _ _ ?_ (fun hHeld => ?_)
  · exact hs2
  clear hK K
  try simp only [Act.put, List.setIfInBounds_toArray, List.set_cons_zero, List.set_cons_succ, List.getElem_toArray, List.getElem_cons_zero, List.getElem_cons_succ]
  refine wpAnyC_ready (rs := [10]) (by kernel_rfl) (by simp) ?_
  refine AllReadyC.last rfl (fun K hK => ?_)
  go_simp
  refine hK.out _ _ ?_
  clear hK K
  refine wpAnyC_done (by kernel_rfl) ?_ _
  have hrl : (rows ++ [d]).length = n + 1 := by rw [List.length_append, HN.out]; rfl
  have oD : OwnD w5 A' c' (rows ++ [d]) := ⟨by rw [hrl, dtc_append]; exact happ.own, by rw [hrl]; exact happ.cap, fun e => by have := (happ.nil e).1; omega⟩
  have PP := HSp.out.hdr (F := fp A) oD ((TD.out.mono (G := fp A) (fun k hk => by simp at hk)).trans happ.turned (fun i hi => .inl hi)) (fun k hk => hk) (fun k hk => (happ.fps k hk).imp id (fun h => Nat.le_trans TD.out.size h))
  rw [← Hx.out] at PP
  obtain ⟨cs1, hc1, hf1⟩ := H2.out.put hi PP
  rw [hrl, Hx.out] at hc1 hf1
  dsimp only at hc1 hf1
  have bx3 := bxb.turned (F := [b]) ((Turned.refl [b] w5).setCell (p := ⟨b, o + 1 + i * 2, none⟩) (.inl (by simp)) (.slice A' (n + 1) c')) (by have := Hbx.out; have := (H.out.blk.lt); simp; omega)
  obtain ⟨W1, hW1⟩ : ∃ W1, w5.setCell ⟨b, o + 1 + i * 2, none⟩ (.slice A' (n + 1) c') = W1 := ⟨_, rfl⟩
  rw [hW1] at hc1 hf1 bx3 ⊢
  have x0 := bx3.cell 0
  have cn := (hc1.blk.cell o).trans hc1.now_
  have HC1 := hidp hc1
  have HF1 := hidp hf1
  have HB2F : Hid (Fr w b o 9 T cs (fps m) w2 cs (fps m)) := hidp (Fr.below HB2.out)
  clear hs hs1 hs2 hHeld happ bb bxb fz ba bxa oa oo S2 O2 N2 T2 TD PP hc1 hf1 bx3 hW1 oD c1 hrl
  by_cases hdn : d.time = now
  · have e1 : (d.time == now) = true := by simpa using hdn
    have Hdn := hidp hdn
    clear hdn
    go_wp2_with fail
    go_quiet (fail)
    have hc2 : Clk (W1.drewN nq) b o T cs1 now (upd m i ⟨A', c', rows ++ [d], bell, k⟩) := HC1.out.turned ((Turned.refl [] W1).drewN _) (by simp) (by simp)
    have hsp := hc2.sp i hi
    rw [upd_at] at hsp
    have CR := ring_any hsp Hk.out
    have HC2 := hidp hc2
    have HF2 : Hid (Fr W1 b o 9 T cs1 (fps (upd m i ⟨A', c', rows ++ [d], bell, k⟩)) (W1.drewN nq) cs1 (fps (upd m i ⟨A', c', rows ++ [d], bell, k⟩))) := hidp (Fr.below (below_drewN (Below.refl _ _) _))
    clear hc2 hsp
    go_wp2_with fail
    refine CR.mono ?_
    rintro e w6 ⟨rfl, bl, hp1⟩
    rw [← upd_at m i ⟨A', c', rows ++ [d], bell, k⟩] at hp1
    obtain ⟨cs2, hc3, hf3⟩ := HC2.out.put hi hp1
    have HC3 := hidp hc3
    have HF3 := hidp (((HB2F.out.trans HF1.out).trans HF2.out).trans hf3)
    clear CR hp1 hc3 hf3
    go_wp2_with fail
    go_ret
    refine ⟨rfl, _, cs2, HC3.out, HF3.out, ?_, ?_, fun j hj => ?_⟩
    · rw [upd_at, Hx.out]
    · rw [upd_at, Hx.out, if_pos Hdn.out]
    · rw [upd_ne _ _ hj, upd_ne _ _ hj]
  · have e1 : (d.time == now) = false := by simpa using hdn
    have Hdn := hidp hdn
    clear hdn
    go_wp2_with fail
    go_quiet (fail)
    have hc2 : Clk (W1.drewN nq) b o T cs1 now (upd m i ⟨A', c', rows ++ [d], bell, k⟩) := HC1.out.turned ((Turned.refl [] W1).drewN _) (by simp) (by simp)
    have HC2 := hidp hc2
    have HF2 : Hid (Fr W1 b o 9 T cs1 (fps (upd m i ⟨A', c', rows ++ [d], bell, k⟩)) (W1.drewN nq) cs1 (fps (upd m i ⟨A', c', rows ++ [d], bell, k⟩))) := hidp (Fr.below (below_drewN (Below.refl _ _) _))
    have HF3 := hidp ((HB2F.out.trans HF1.out).trans HF2.out)
    clear hc2
    go_wp2_with fail
    go_ret
    refine ⟨rfl, _, cs1, HC2.out, HF3.out, ?_, ?_, fun j hj => ?_⟩
    · rw [upd_at, Hx.out]
    · rw [upd_at, Hx.out, if_neg Hdn.out]
      rfl
    · rw [upd_ne _ _ hj]
end
end Go.Proofs.Ytkjobhocgiefdaa
