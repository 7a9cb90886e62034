/- clock: Step, the walk. Printed by tools/clock/step2.py. -/
import Derived.Test.YtkjobhocgiefdaaClk9
namespace Go.Proofs.Ytkjobhocgiefdaa
open Go.ChangeShapes Go.WideShapes Go.ChangeAt Go.RowKit Go.Conc
set_option linter.unusedVariables false
set_option linter.unusedSimpArgs false
section
variable {w : World} {b o : Nat} {T : TypeId} {cs : Array Value} {now : Int} {m : Nat → SpM}
/-- what Step leaves: i: the spoke of now, i': that of the next tick -/
structure StepOk (w : World) (b o : Nat) (T : TypeId) (cs : Array Value) (now : Int) (m : Nat → SpM) (i i' : Nat) (w' : World) (cs' : Array Value) (m' : Nat → SpM) (A : Option Addr) (c : Nat) (ids : List Int) : Prop where
  clk : Clk w' b o T cs' (min (now + 1) 1000000) m'
  fr : Fr w b o 9 T cs (fps m) w' cs' (fps m')
  rows : ∀ j, (m' j).rows = if j = i then notAt (m i).rows now else (m j).rows
  ks : ∀ j, j < 4 → (m' j).k = if j = i' ∧ now < 1000000 then dueN (m' j).rows (now + 1) else 0
  ids_ : Row w' .i64 A ids
  nil : A = none → ids.length = 0 ∧ c = 0
  cap : ids.length ≤ c ∧ c ≤ maxLen
  far : ∀ k ∈ fp A, w.heap.size ≤ k ∧ k < w'.heap.size ∧ k ∉ fps m'
def StepPost (w : World) (b o : Nat) (T : TypeId) (cs : Array Value) (now : Int) (m : Nat → SpM) (i i' : Nat) (e : Ending) (w' : World) : Prop :=
  ∃ A c m' cs', e = .returned (.slice A (idsAt (m i).rows now).length c) ∧ StepOk w b o T cs now m i i' w' cs' m' A c (idsAt (m i).rows now)
theorem StL.done {i i' : Nat} {wr : World} {cs' : Array Value} {L : List DueM} {ids : List Int} {A' : Option Addr} {c' : Nat} (h : StL w b o T cs now m i wr cs' L ids A' c') (hz : dueN L now = 0) :
    ids = idsAt (m i).rows now ∧ L = notAt (m i).rows now := by
  obtain ⟨h1, h2⟩ := none_at hz
  have h3 := h.ids_
  have h4 := h.not_
  rw [h1, List.append_nil] at h3
  rw [h2] at h4
  exact ⟨h3.symm, h4⟩
theorem StL.last {i i' : Nat} {wr : World} {cs' : Array Value} {L : List DueM} {ids : List Int} {A' : Option Addr} {c' : Nat} (h : StL w b o T cs 1000000 m i wr cs' L ids A' c') (hz : dueN L 1000000 = 0) (hi : i < 4) (hk : ∀ j, j < 4 → j ≠ i → (m j).k = 0) (hm : ∀ k ∈ fps m, k < w.heap.size) :
    StepOk w b o T cs 1000000 m i i' wr cs' (upd m i ⟨(m i).A, (m i).c, L, (m i).bell, 0⟩) A' c' (idsAt (m i).rows 1000000) := by
  obtain ⟨h1, h2⟩ := h.done (i' := i') hz
  have hc := h.clk
  rw [hz] at hc
  have hf := fps_upd (m := m) (i := i) (x := ⟨(m i).A, (m i).c, L, (m i).bell, 0⟩) rfl
  refine ⟨hc, by rw [hf]; exact h.fr, fun j => ?_, fun j hj => ?_, by rw [← h1]; exact Lies.row (B := wr.heap.size) (Lies.of_own h.own), by rw [← h1]; exact h.nil, by rw [← h1]; exact h.cap, fun k hk => ?_⟩
  · by_cases hji : j = i
    · subst hji; rw [upd_at, if_pos rfl, ← h2]
    · rw [upd_ne _ _ hji, if_neg hji]
  · rw [if_neg (by omega)]
    by_cases hji : j = i
    · subst hji; rw [upd_at]
    · rw [upd_ne _ _ hji]; exact hk j hj hji
  · have := own_fp h.own k hk
    exact ⟨this.1, this.2, fun hh => by rw [hf] at hh; have := hm k hh; omega⟩
theorem StL.more {i i' : Nat} {wr w2 : World} {cs' : Array Value} {L : List DueM} {ids : List Int} {A' : Option Addr} {c' : Nat} (h : StL w b o T cs now m i wr cs' L ids A' c') (hz : dueN L now = 0) (hi : i < 4) (hi' : i' < 4) (hii : i' ≠ i) (hn : now < 1000000) (hk : ∀ j, j < 4 → j ≠ i → (m j).k = 0) (hm : ∀ k ∈ fps m, k < w.heap.size) (hb : b < w.heap.size)
    (ht : TurnPost wr b o T cs' now (upd m i ⟨(m i).A, (m i).c, L, (m i).bell, 0⟩) i' w2) :
    ∃ m' cs2, StepOk w b o T cs now m i i' w2 cs2 m' A' c' (idsAt (m i).rows now) := by
  obtain ⟨h1, h2⟩ := h.done (i' := i') hz
  obtain ⟨bl, cs2, hc2, hf2⟩ := ht
  have hf := fps_upd (m := m) (i := i) (x := ⟨(m i).A, (m i).c, L, (m i).bell, 0⟩) rfl
  have hA : ∀ k ∈ fp A', w.heap.size ≤ k ∧ k < wr.heap.size := own_fp h.own
  have hnb : ∀ k ∈ fp A', k ∉ b :: fps m := fun k hk hh => by
    have := (hA k hk).1
    rcases List.mem_cons.1 hh with rfl | hh
    · omega
    · have := hm k hh; omega
  rw [hf] at hf2
  refine ⟨_, cs2, by rw [show min (now + 1) 1000000 = now + 1 by omega]; exact hc2, h.fr.trans hf2, fun j => ?_, fun j hj => ?_, by rw [← h1]; exact (Lies.row (B := wr.heap.size) (Lies.of_own h.own)).turned hf2.turned hnb, by rw [← h1]; exact h.nil, by rw [← h1]; exact h.cap, fun k hk => ?_⟩
  · by_cases hji' : j = i'
    · subst hji'; rw [upd_at, if_neg hii, upd_ne _ _ hii]
    · rw [upd_ne _ _ hji']
      by_cases hji : j = i
      · subst hji; rw [upd_at, if_pos rfl, ← h2]
      · rw [upd_ne _ _ hji, if_neg hji]
  · by_cases hji' : j = i'
    · subst hji'; rw [if_pos ⟨rfl, hn⟩, upd_at]
    · rw [if_neg (fun hh => hji' hh.1), upd_ne _ _ hji']
      by_cases hji : j = i
      · subst hji; rw [upd_at]
      · rw [upd_ne _ _ hji]; exact hk j hj hji
  · have h5 := hA k hk
    refine ⟨h5.1, Nat.lt_of_lt_of_le h5.2 hf2.turned.size, fun hh => ?_⟩
    rcases hf2.fps k hh with h6 | h6
    · have := hm k h6; omega
    · omega
set_option maxHeartbeats 16000000 in
set_option maxRecDepth 100000 in
theorem step_any (h : Clk w b o T cs now m) (hn : 0 ≤ now ∧ now ≤ 1000000) {i i' : Nat} (hi : i < 4) (hi' : i' < 4) (hm : now.tmod 4 = (i : Int)) (hm' : (now + 1).tmod 4 = (i' : Int)) (hl : ∀ j, j < 4 → (m j).rows.length ≤ 64) (hk : (m i).k = dueN (m i).rows now) (hk0 : ∀ j, j < 4 → j ≠ i → (m j).k = 0) :
    Calls Try.prog 14 #[.pointer (some ⟨b, o, none⟩)] w (StepPost w b o T cs now m i i') := by
  have hii : i' ≠ i := fun e => by
    subst e
    rw [Int.tmod_eq_emod_of_nonneg (by omega)] at hm hm'
    omega
  have Hii := hidp hii
  have Hn := hidp hn
  have HL := hidp hl
  have HK := hidp hk
  have HK0 := hidp hk0
  have HM := hidp hm
  have HM' := hidp hm'
  have Hb := hidp h.blk.lt
  have HF : Hid (∀ k ∈ fps m, k < w.heap.size) := hidp (fun k hk => by obtain ⟨j, hj, hk⟩ := mem_fps.1 hk; exact (h.sp j hj).fps k hk)
  have S0 : StL w b o T cs now m i w cs (m i).rows [] none 0 := by
    have e : upd m i ⟨(m i).A, (m i).c, (m i).rows, (m i).bell, dueN (m i).rows now⟩ = m := by
      funext j
      by_cases hj : j = i
      · subst hj; rw [upd_at, ← hk]
      · rw [upd_ne _ _ hj]
    exact ⟨by rw [e]; exact h, Fr.refl _ _ _ _ _ _ _, rfl, rfl, World.ownsRow_nil _ _ _ _, fun _ => ⟨rfl, rfl⟩, by decide, by simpa using hl i hi⟩
  have HS0 := hidp S0
  have hn0 : 0 ≤ now := hn.1
  have hn6 : now ≤ 1000000 := hn.2
  obtain ⟨i0, hi0, hy0, hy1, hy2⟩ := info_parts infoIntC
  clear h hl hk hk0 hm hm' hii S0 hn
  go_enter Try.func14, Try.ntmps14
  go_wp2
  go_step3
  go_wp2
  go_step3
  go_wp2
  go_loopg [3] (dueN (m i).rows now) (fun gg a wr => ∃ (c' : Nat) (A' : Option Addr) (L : List DueM) (ids : List Int) (cs' : Array Value), Hid (dueN L now = gg) ∧ a = .slice A' ids.length c' ∧ Hid (StL w b o T cs now m i wr cs' L ids A' c'))
  case atStart => exact ⟨0, none, (m i).rows, [], cs, hidp rfl, rfl, HS0⟩
  case round =>
    clear HS0
    obtain ⟨c', A', L, ids, cs', hgg, rfl, HS⟩ := hrel
    obtain ⟨c0, c1, c2, c3, c4⟩ := HS.out.cells
    obtain ⟨n0, hn0'⟩ : ∃ n0, ids.length = n0 := ⟨_, rfl⟩
    have Hn0 := hidp hn0'
    obtain ⟨b0, Hb0⟩ : ∃ x, Hid ((m 0).bell = x) := ⟨_, hidp rfl⟩
    obtain ⟨b1, Hb1⟩ : ∃ x, Hid ((m 1).bell = x) := ⟨_, hidp rfl⟩
    obtain ⟨b2, Hb2⟩ : ∃ x, Hid ((m 2).bell = x) := ⟨_, hidp rfl⟩
    obtain ⟨b3, Hb3⟩ : ∃ x, Hid ((m 3).bell = x) := ⟨_, hidp rfl⟩
    rw [Hb0.out] at c1
    rw [Hb1.out] at c2
    rw [Hb2.out] at c3
    rw [Hb3.out] at c4
    rw [hn0']
    clear hn0'
    go_upto_region 7 with fail
    refine wpS_region [0, 1, 2, 3, 4, 5] (by rfl) ?_
    by_cases hz : gk = 0
    · refine wpS_sel_default (w1 := wr) (cases := #[recvC b0, recvC b1, recvC b2, recvC b3]) rfl rfl (by simp [go_sem, execOp, recvC, Act.eval]) (fun cc hcc => ?_) ?_
      · simp only [List.mem_toArray, List.mem_cons, List.not_mem_nil, or_false] at hcc
        rcases hcc with rfl | rfl | rfl | rfl
        · rw [← Hb0.out]; exact HS.out.noway (by omega) (HK0.out 0 (by omega)) (fun _ => hgg.out.trans hz)
        · rw [← Hb1.out]; exact HS.out.noway (by omega) (HK0.out 1 (by omega)) (fun _ => hgg.out.trans hz)
        · rw [← Hb2.out]; exact HS.out.noway (by omega) (HK0.out 2 (by omega)) (fun _ => hgg.out.trans hz)
        · rw [← Hb3.out]; exact HS.out.noway (by omega) (HK0.out 3 (by omega)) (fun _ => hgg.out.trans hz)
      rw [res4_d]
      simp only [Act.put, List.setIfInBounds_toArray, List.set_cons_zero, List.set_cons_succ, List.getElem_toArray, List.getElem_cons_zero, List.getElem_cons_succ]
      refine wpS_list 1 (L := _) (by simp only [List.drop_succ_cons, List.drop_zero]; rfl) (by rfl) ?_
      go_wp2_with fail
      have hzL : dueN L now = 0 := hgg.out.trans hz
      have HzL := hidp hzL
      have hc := HS.out.clk
      rw [hzL] at hc
      have HC := hidp hc
      have Hlen : Hid (n0 = (idsAt (m i).rows now).length) := hidp (by rw [← (HS.out.done (i' := i') hzL).1, Hn0.out])
      clear hc hzL hz
      by_cases h6 : now = 1000000
      · subst h6
        refine (turn_end HC.out).mono ?_
        rintro e w2 ⟨rfl, rfl⟩
        go_wp2_with fail
        try rw [Exit.noGoto_ret]
        go_ret
        exact ⟨A', c', _, cs', by rw [Hlen.out]; rfl, HS.out.last HzL.out hi HK0.out HF.out⟩
      · have hn7 : now < 1000000 := by omega
        have hii := Hii.out
        have CT := turn_any HC.out ⟨hn0, hn7⟩ hi' HM'.out (by rw [upd_ne _ _ hii]; exact HL.out i' hi') (by rw [upd_ne _ _ hii]; exact HK0.out i' hi' hii)
        clear hii h6
        refine CT.mono ?_
        rintro e w2 ⟨rfl, hT⟩
        obtain ⟨m2, cs2, hok⟩ := HS.out.more HzL.out hi hi' Hii.out hn7 HK0.out HF.out Hb.out hT
        have HO := hidp hok
        clear hok hT CT
        go_wp2_with fail
        try rw [Exit.noGoto_ret]
        go_ret
        exact ⟨A', c', m2, cs2, by rw [Hlen.out]; rfl, HO.out⟩
    · obtain ⟨k, hk1⟩ : ∃ k, gk = k + 1 := ⟨gk - 1, by omega⟩
      have hd : dueN L now = k + 1 := hgg.out.trans hk1
      have Hd := hidp hd
      have Hgk := hidp hk1
      obtain ⟨ch, s, r, hb, hch⟩ := HS.out.bell hi hd
      obtain ⟨n, hf, h4, h5, h6⟩ := first_ex L now (by omega)
      have H4 := hidp h4
      have H5 := hidp h5
      have H6 := hidp h6
      have HFo := hidp hf
      obtain ⟨cs2, hM2, hT2⟩ := HS.out.rung hi hd hb hch
      have HLen := hidp HS.out.len
      have HfA : Hid (∀ k ∈ fp A', w.heap.size ≤ k) := hidp (fun k hk => (own_fp HS.out.own k hk).1)
      have Hnb : Hid (∀ k ∈ fp A', k ∉ b :: fps m) := hidp (fun k hk hh => by
        have h1 := HfA.out k hk
        rcases List.mem_cons.1 hh with rfl | hh
        · have := Hb.out; omega
        · have := HF.out k hh; omega)
      have Ho3 := hidp (own_turned HS.out.own hT2 Hnb.out)
      have HM2 := hidp hM2
      obtain ⟨id, Hid_⟩ : ∃ id, Hid ((L.getD n default).id = id) := ⟨_, hidp rfl⟩
      clear hd h4 h5 h6 hf hM2 hT2 hz hk1 hgg
      rcases i with _ | _ | _ | _ | i
      · have hbc : b0 = some ch := Hb0.out.symm.trans hb
        subst hbc
        refine wpS_sel_recv (w1 := wr) (blocking := false) (cases := #[recvC (some ch), recvC b1, recvC b2, recvC b3]) (c := ch) (z := .agg #[]) (cap := 64) (buf := Array.replicate (k + 1) (.agg #[])) (closed := false) (s := s) (r := r) (tm := false) 0 rfl rfl (by simp [go_sem, execOp, recvC, Act.eval]) rfl (fun j cc hj hcc => ?_) hch (by simp) ?_
        · rcases j with _ | _ | _ | _ | j
          · exact absurd rfl hj
          · simp only [List.getElem?_toArray, List.getElem?_cons_zero, List.getElem?_cons_succ, Option.some.injEq] at hcc
            subst hcc
            rw [← Hb1.out]; exact HS.out.noway (by omega) (HK0.out 1 (by omega)) (fun e => by omega)
          · simp only [List.getElem?_toArray, List.getElem?_cons_zero, List.getElem?_cons_succ, Option.some.injEq] at hcc
            subst hcc
            rw [← Hb2.out]; exact HS.out.noway (by omega) (HK0.out 2 (by omega)) (fun e => by omega)
          · simp only [List.getElem?_toArray, List.getElem?_cons_zero, List.getElem?_cons_succ, Option.some.injEq] at hcc
            subst hcc
            rw [← Hb3.out]; exact HS.out.noway (by omega) (HK0.out 3 (by omega)) (fun e => by omega)
          · simp at hcc
        have HM2' := HM2
        have Ho3' := Ho3
        rw [res4_0]
        simp only [Act.put, List.setIfInBounds_toArray, List.set_cons_zero, List.set_cons_succ, List.getElem_toArray, List.getElem_cons_zero, List.getElem_cons_succ]
        obtain ⟨w3, hw3⟩ : ∃ v, wr.setChan ch 64 ((Array.replicate (k + 1) (Value.agg #[])).extract 1 (Array.replicate (k + 1) (Value.agg #[])).size) false s (r + 1) false = v := ⟨_, rfl⟩
        rw [hw3] at HM2 Ho3 ⊢
        have hsp := HM2.out.clk.sp 0 (by omega)
        rw [upd_at] at hsp
        have cN := (HM2.out.clk.blk.cell o).trans HM2.out.clk.now_
        have CT := take_any (k := n) (t := now) hsp (by have := HLen.out; dsimp only; omega) HFo.out (by unfold I64; omega)
        simp only [Nat.zero_mul, Nat.one_mul, Nat.reduceMul, Nat.add_zero, Nat.zero_add, Nat.reduceAdd] at CT
        rw [Hid_.out] at CT
        clear hw3 hsp HM2' Ho3' hch hb c0 c1 c2 c3 c4
        refine wpS_list 1 (L := _) (by simp only [List.drop_succ_cons, List.drop_zero]; rfl) (by rfl) ?_
        go_wp2_with fail
        refine CT.mono ?_
        rintro e w4 ⟨rfl, hp4⟩
        obtain ⟨cs4, hM4, hT4⟩ := HM2.out.took (n := n) (by omega) hp4
        have HM4 := hidp hM4
        have hW4 := own_turned (own_turned Ho3.out hT4 Hnb.out) ((Turned.refl [] w4).alloc (.cells #[.int .i64 id] 3)) (by simp)
        rw [Hn0.out] at hW4
        have s2 := cellsNew w4 [.int .i64 id] 3
        have S2 := hidp s2
        have O2 := hidp (int_oneC id)
        have hn64 : n0 ≤ 64 := by have := HLen.out; rw [Hn0.out] at this; omega
        have N2 : Hid (n0 + 1 ≤ maxLen) := hidp (by unfold maxLen; omega)
        have T2 : Hid ((n0 + 1) * 8 ≤ 140737488355328) := hidp (by omega)
        have Z2 : Hid (w.heap.size ≤ (w4.alloc (.cells #[.int .i64 id] 3)).heap.size) := hidp (by have h1 := HM4.out.fr.turned.size; simp; omega)
        clear hM4 hT4 hp4 s2 CT cN
        go_wp2_with (at_builtin; refine wpList_app2 _ rfl (.tmp 51) (.tmp 58) 39 rfl w.heap.size 3 i0 _ 1 8 Try.underlying39 hi0 hy0 hy1 hy2 rfl (by decide) A' n0 c' _ rfl hW4 _ _ 1 1 [.int .i64 id] rfl (by simp) rfl S2.out O2.out N2.out T2.out Z2.out ?_; intro A9 c9 w6 happ)
        have HS6 := hidp (HS.out.next Hd.out HFo.out H4.out H5.out H6.out HM4.out (A9 := A9) (c9 := c9) (w6 := w6) (by rw [Hid_.out, Hn0.out]; exact happ) HF.out Hb.out HfA.out)
        rw [Hid_.out] at HS6
        go_roundg k
        case measure => have := Hgk.out; omega
        case rel => exact ⟨c9, A9, L.eraseIdx n, ids ++ [id], cs4, hidp (by have h1 := H4.out; have h2 := Hd.out; omega), by rw [List.length_append, Hn0.out]; rfl, HS6⟩
      · have hbc : b1 = some ch := Hb1.out.symm.trans hb
        subst hbc
        refine wpS_sel_recv (w1 := wr) (blocking := false) (cases := #[recvC b0, recvC (some ch), recvC b2, recvC b3]) (c := ch) (z := .agg #[]) (cap := 64) (buf := Array.replicate (k + 1) (.agg #[])) (closed := false) (s := s) (r := r) (tm := false) 1 rfl rfl (by simp [go_sem, execOp, recvC, Act.eval]) rfl (fun j cc hj hcc => ?_) hch (by simp) ?_
        · rcases j with _ | _ | _ | _ | j
          · simp only [List.getElem?_toArray, List.getElem?_cons_zero, List.getElem?_cons_succ, Option.some.injEq] at hcc
            subst hcc
            rw [← Hb0.out]; exact HS.out.noway (by omega) (HK0.out 0 (by omega)) (fun e => by omega)
          · exact absurd rfl hj
          · simp only [List.getElem?_toArray, List.getElem?_cons_zero, List.getElem?_cons_succ, Option.some.injEq] at hcc
            subst hcc
            rw [← Hb2.out]; exact HS.out.noway (by omega) (HK0.out 2 (by omega)) (fun e => by omega)
          · simp only [List.getElem?_toArray, List.getElem?_cons_zero, List.getElem?_cons_succ, Option.some.injEq] at hcc
            subst hcc
            rw [← Hb3.out]; exact HS.out.noway (by omega) (HK0.out 3 (by omega)) (fun e => by omega)
          · simp at hcc
        have HM2' := HM2
        have Ho3' := Ho3
        rw [res4_1]
        simp only [Act.put, List.setIfInBounds_toArray, List.set_cons_zero, List.set_cons_succ, List.getElem_toArray, List.getElem_cons_zero, List.getElem_cons_succ]
        obtain ⟨w3, hw3⟩ : ∃ v, wr.setChan ch 64 ((Array.replicate (k + 1) (Value.agg #[])).extract 1 (Array.replicate (k + 1) (Value.agg #[])).size) false s (r + 1) false = v := ⟨_, rfl⟩
        rw [hw3] at HM2 Ho3 ⊢
        have hsp := HM2.out.clk.sp 1 (by omega)
        rw [upd_at] at hsp
        have cN := (HM2.out.clk.blk.cell o).trans HM2.out.clk.now_
        have CT := take_any (k := n) (t := now) hsp (by have := HLen.out; dsimp only; omega) HFo.out (by unfold I64; omega)
        simp only [Nat.zero_mul, Nat.one_mul, Nat.reduceMul, Nat.add_zero, Nat.zero_add, Nat.reduceAdd] at CT
        rw [Hid_.out] at CT
        clear hw3 hsp HM2' Ho3' hch hb c0 c1 c2 c3 c4
        refine wpS_list 1 (L := _) (by simp only [List.drop_succ_cons, List.drop_zero]; rfl) (by rfl) ?_
        go_wp2_with fail
        refine CT.mono ?_
        rintro e w4 ⟨rfl, hp4⟩
        obtain ⟨cs4, hM4, hT4⟩ := HM2.out.took (n := n) (by omega) hp4
        have HM4 := hidp hM4
        have hW4 := own_turned (own_turned Ho3.out hT4 Hnb.out) ((Turned.refl [] w4).alloc (.cells #[.int .i64 id] 3)) (by simp)
        rw [Hn0.out] at hW4
        have s2 := cellsNew w4 [.int .i64 id] 3
        have S2 := hidp s2
        have O2 := hidp (int_oneC id)
        have hn64 : n0 ≤ 64 := by have := HLen.out; rw [Hn0.out] at this; omega
        have N2 : Hid (n0 + 1 ≤ maxLen) := hidp (by unfold maxLen; omega)
        have T2 : Hid ((n0 + 1) * 8 ≤ 140737488355328) := hidp (by omega)
        have Z2 : Hid (w.heap.size ≤ (w4.alloc (.cells #[.int .i64 id] 3)).heap.size) := hidp (by have h1 := HM4.out.fr.turned.size; simp; omega)
        clear hM4 hT4 hp4 s2 CT cN
        go_wp2_with (at_builtin; refine wpList_app2 _ rfl (.tmp 51) (.tmp 58) 39 rfl w.heap.size 3 i0 _ 1 8 Try.underlying39 hi0 hy0 hy1 hy2 rfl (by decide) A' n0 c' _ rfl hW4 _ _ 1 1 [.int .i64 id] rfl (by simp) rfl S2.out O2.out N2.out T2.out Z2.out ?_; intro A9 c9 w6 happ)
        have HS6 := hidp (HS.out.next Hd.out HFo.out H4.out H5.out H6.out HM4.out (A9 := A9) (c9 := c9) (w6 := w6) (by rw [Hid_.out, Hn0.out]; exact happ) HF.out Hb.out HfA.out)
        rw [Hid_.out] at HS6
        go_roundg k
        case measure => have := Hgk.out; omega
        case rel => exact ⟨c9, A9, L.eraseIdx n, ids ++ [id], cs4, hidp (by have h1 := H4.out; have h2 := Hd.out; omega), by rw [List.length_append, Hn0.out]; rfl, HS6⟩
      · have hbc : b2 = some ch := Hb2.out.symm.trans hb
        subst hbc
        refine wpS_sel_recv (w1 := wr) (blocking := false) (cases := #[recvC b0, recvC b1, recvC (some ch), recvC b3]) (c := ch) (z := .agg #[]) (cap := 64) (buf := Array.replicate (k + 1) (.agg #[])) (closed := false) (s := s) (r := r) (tm := false) 2 rfl rfl (by simp [go_sem, execOp, recvC, Act.eval]) rfl (fun j cc hj hcc => ?_) hch (by simp) ?_
        · rcases j with _ | _ | _ | _ | j
          · simp only [List.getElem?_toArray, List.getElem?_cons_zero, List.getElem?_cons_succ, Option.some.injEq] at hcc
            subst hcc
            rw [← Hb0.out]; exact HS.out.noway (by omega) (HK0.out 0 (by omega)) (fun e => by omega)
          · simp only [List.getElem?_toArray, List.getElem?_cons_zero, List.getElem?_cons_succ, Option.some.injEq] at hcc
            subst hcc
            rw [← Hb1.out]; exact HS.out.noway (by omega) (HK0.out 1 (by omega)) (fun e => by omega)
          · exact absurd rfl hj
          · simp only [List.getElem?_toArray, List.getElem?_cons_zero, List.getElem?_cons_succ, Option.some.injEq] at hcc
            subst hcc
            rw [← Hb3.out]; exact HS.out.noway (by omega) (HK0.out 3 (by omega)) (fun e => by omega)
          · simp at hcc
        have HM2' := HM2
        have Ho3' := Ho3
        rw [res4_2]
        simp only [Act.put, List.setIfInBounds_toArray, List.set_cons_zero, List.set_cons_succ, List.getElem_toArray, List.getElem_cons_zero, List.getElem_cons_succ]
        obtain ⟨w3, hw3⟩ : ∃ v, wr.setChan ch 64 ((Array.replicate (k + 1) (Value.agg #[])).extract 1 (Array.replicate (k + 1) (Value.agg #[])).size) false s (r + 1) false = v := ⟨_, rfl⟩
        rw [hw3] at HM2 Ho3 ⊢
        have hsp := HM2.out.clk.sp 2 (by omega)
        rw [upd_at] at hsp
        have cN := (HM2.out.clk.blk.cell o).trans HM2.out.clk.now_
        have CT := take_any (k := n) (t := now) hsp (by have := HLen.out; dsimp only; omega) HFo.out (by unfold I64; omega)
        simp only [Nat.zero_mul, Nat.one_mul, Nat.reduceMul, Nat.add_zero, Nat.zero_add, Nat.reduceAdd] at CT
        rw [Hid_.out] at CT
        clear hw3 hsp HM2' Ho3' hch hb c0 c1 c2 c3 c4
        refine wpS_list 1 (L := _) (by simp only [List.drop_succ_cons, List.drop_zero]; rfl) (by rfl) ?_
        go_wp2_with fail
        refine CT.mono ?_
        rintro e w4 ⟨rfl, hp4⟩
        obtain ⟨cs4, hM4, hT4⟩ := HM2.out.took (n := n) (by omega) hp4
        have HM4 := hidp hM4
        have hW4 := own_turned (own_turned Ho3.out hT4 Hnb.out) ((Turned.refl [] w4).alloc (.cells #[.int .i64 id] 3)) (by simp)
        rw [Hn0.out] at hW4
        have s2 := cellsNew w4 [.int .i64 id] 3
        have S2 := hidp s2
        have O2 := hidp (int_oneC id)
        have hn64 : n0 ≤ 64 := by have := HLen.out; rw [Hn0.out] at this; omega
        have N2 : Hid (n0 + 1 ≤ maxLen) := hidp (by unfold maxLen; omega)
        have T2 : Hid ((n0 + 1) * 8 ≤ 140737488355328) := hidp (by omega)
        have Z2 : Hid (w.heap.size ≤ (w4.alloc (.cells #[.int .i64 id] 3)).heap.size) := hidp (by have h1 := HM4.out.fr.turned.size; simp; omega)
        clear hM4 hT4 hp4 s2 CT cN
        go_wp2_with (at_builtin; refine wpList_app2 _ rfl (.tmp 51) (.tmp 58) 39 rfl w.heap.size 3 i0 _ 1 8 Try.underlying39 hi0 hy0 hy1 hy2 rfl (by decide) A' n0 c' _ rfl hW4 _ _ 1 1 [.int .i64 id] rfl (by simp) rfl S2.out O2.out N2.out T2.out Z2.out ?_; intro A9 c9 w6 happ)
        have HS6 := hidp (HS.out.next Hd.out HFo.out H4.out H5.out H6.out HM4.out (A9 := A9) (c9 := c9) (w6 := w6) (by rw [Hid_.out, Hn0.out]; exact happ) HF.out Hb.out HfA.out)
        rw [Hid_.out] at HS6
        go_roundg k
        case measure => have := Hgk.out; omega
        case rel => exact ⟨c9, A9, L.eraseIdx n, ids ++ [id], cs4, hidp (by have h1 := H4.out; have h2 := Hd.out; omega), by rw [List.length_append, Hn0.out]; rfl, HS6⟩
      · have hbc : b3 = some ch := Hb3.out.symm.trans hb
        subst hbc
        refine wpS_sel_recv (w1 := wr) (blocking := false) (cases := #[recvC b0, recvC b1, recvC b2, recvC (some ch)]) (c := ch) (z := .agg #[]) (cap := 64) (buf := Array.replicate (k + 1) (.agg #[])) (closed := false) (s := s) (r := r) (tm := false) 3 rfl rfl (by simp [go_sem, execOp, recvC, Act.eval]) rfl (fun j cc hj hcc => ?_) hch (by simp) ?_
        · rcases j with _ | _ | _ | _ | j
          · simp only [List.getElem?_toArray, List.getElem?_cons_zero, List.getElem?_cons_succ, Option.some.injEq] at hcc
            subst hcc
            rw [← Hb0.out]; exact HS.out.noway (by omega) (HK0.out 0 (by omega)) (fun e => by omega)
          · simp only [List.getElem?_toArray, List.getElem?_cons_zero, List.getElem?_cons_succ, Option.some.injEq] at hcc
            subst hcc
            rw [← Hb1.out]; exact HS.out.noway (by omega) (HK0.out 1 (by omega)) (fun e => by omega)
          · simp only [List.getElem?_toArray, List.getElem?_cons_zero, List.getElem?_cons_succ, Option.some.injEq] at hcc
            subst hcc
            rw [← Hb2.out]; exact HS.out.noway (by omega) (HK0.out 2 (by omega)) (fun e => by omega)
          · exact absurd rfl hj
          · simp at hcc
        have HM2' := HM2
        have Ho3' := Ho3
        rw [res4_3]
        simp only [Act.put, List.setIfInBounds_toArray, List.set_cons_zero, List.set_cons_succ, List.getElem_toArray, List.getElem_cons_zero, List.getElem_cons_succ]
        obtain ⟨w3, hw3⟩ : ∃ v, wr.setChan ch 64 ((Array.replicate (k + 1) (Value.agg #[])).extract 1 (Array.replicate (k + 1) (Value.agg #[])).size) false s (r + 1) false = v := ⟨_, rfl⟩
        rw [hw3] at HM2 Ho3 ⊢
        have hsp := HM2.out.clk.sp 3 (by omega)
        rw [upd_at] at hsp
        have cN := (HM2.out.clk.blk.cell o).trans HM2.out.clk.now_
        have CT := take_any (k := n) (t := now) hsp (by have := HLen.out; dsimp only; omega) HFo.out (by unfold I64; omega)
        simp only [Nat.zero_mul, Nat.one_mul, Nat.reduceMul, Nat.add_zero, Nat.zero_add, Nat.reduceAdd] at CT
        rw [Hid_.out] at CT
        clear hw3 hsp HM2' Ho3' hch hb c0 c1 c2 c3 c4
        refine wpS_list 1 (L := _) (by simp only [List.drop_succ_cons, List.drop_zero]; rfl) (by rfl) ?_
        go_wp2_with fail
        refine CT.mono ?_
        rintro e w4 ⟨rfl, hp4⟩
        obtain ⟨cs4, hM4, hT4⟩ := HM2.out.took (n := n) (by omega) hp4
        have HM4 := hidp hM4
        have hW4 := own_turned (own_turned Ho3.out hT4 Hnb.out) ((Turned.refl [] w4).alloc (.cells #[.int .i64 id] 3)) (by simp)
        rw [Hn0.out] at hW4
        have s2 := cellsNew w4 [.int .i64 id] 3
        have S2 := hidp s2
        have O2 := hidp (int_oneC id)
        have hn64 : n0 ≤ 64 := by have := HLen.out; rw [Hn0.out] at this; omega
        have N2 : Hid (n0 + 1 ≤ maxLen) := hidp (by unfold maxLen; omega)
        have T2 : Hid ((n0 + 1) * 8 ≤ 140737488355328) := hidp (by omega)
        have Z2 : Hid (w.heap.size ≤ (w4.alloc (.cells #[.int .i64 id] 3)).heap.size) := hidp (by have h1 := HM4.out.fr.turned.size; simp; omega)
        clear hM4 hT4 hp4 s2 CT cN
        go_wp2_with (at_builtin; refine wpList_app2 _ rfl (.tmp 51) (.tmp 58) 39 rfl w.heap.size 3 i0 _ 1 8 Try.underlying39 hi0 hy0 hy1 hy2 rfl (by decide) A' n0 c' _ rfl hW4 _ _ 1 1 [.int .i64 id] rfl (by simp) rfl S2.out O2.out N2.out T2.out Z2.out ?_; intro A9 c9 w6 happ)
        have HS6 := hidp (HS.out.next Hd.out HFo.out H4.out H5.out H6.out HM4.out (A9 := A9) (c9 := c9) (w6 := w6) (by rw [Hid_.out, Hn0.out]; exact happ) HF.out Hb.out HfA.out)
        rw [Hid_.out] at HS6
        go_roundg k
        case measure => have := Hgk.out; omega
        case rel => exact ⟨c9, A9, L.eraseIdx n, ids ++ [id], cs4, hidp (by have h1 := H4.out; have h2 := Hd.out; omega), by rw [List.length_append, Hn0.out]; rfl, HS6⟩
      · omega
end
end Go.Proofs.Ytkjobhocgiefdaa
