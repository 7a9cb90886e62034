/- clock: turn: on to the next tick; its rings. -/
import Derived.Test.YtkjobhocgiefdaaClk6
namespace Go.Proofs.Ytkjobhocgiefdaa
open Go.ChangeShapes Go.WideShapes Go.ChangeAt Go.RowKit Go.Conc
set_option linter.unusedVariables false
set_option linter.unusedSimpArgs false
def dueN (l : List DueM) (t : Int) : Nat := l.countP fun d => d.time == t
theorem dueN_next {l : List DueM} {k : Nat} (h : k < l.length) (t : Int) : dueN (l.take (k + 1)) t = dueN (l.take k) t + (if (l.getD k default).time = t then 1 else 0) := by
  unfold dueN
  rw [List.take_succ_eq_append_getElem h, List.countP_append]
  simp [List.getD, h, List.countP_cons]
theorem dueN_le (l : List DueM) (t : Int) : dueN l t ≤ l.length := List.countP_le_length
section
variable {w : World} {b o : Nat} {T : TypeId} {cs : Array Value} {now : Int} {m : Nat → SpM}
theorem upd_upd (m : Nat → SpM) (i : Nat) (x y : SpM) : upd (upd m i x) i y = upd m i y := by
  funext j
  unfold upd
  split <;> rfl
theorem Clk.size (h : Clk w b o T cs now m) : o < cs.size := by
  have := h.now_
  by_cases hs : o < cs.size
  · exact hs
  · rw [Array.getElem?_eq_none (by omega)] at this; cases this
theorem Clk.setNow (h : Clk w b o T cs now m) (n : Int) : Clk (w.setCell ⟨b, o, none⟩ (.int .i64 n)) b o T (cs.setIfInBounds o (.int .i64 n)) n m ∧ Fr w b o 9 T cs (fps m) (w.setCell ⟨b, o, none⟩ (.int .i64 n)) (cs.setIfInBounds o (.int .i64 n)) (fps m) := by
  have hs := h.size
  have ht : Turned [b] w (w.setCell ⟨b, o, none⟩ (.int .i64 n)) := (Turned.refl [b] w).setCell (.inl (by simp)) _
  have hbk := h.blk.put o (.int .i64 n)
  refine ⟨⟨hbk, by rw [Array.getElem?_setIfInBounds, if_pos rfl, if_pos hs], fun i hi => ?_, h.apart⟩, by simp, fun j hj => by rw [Array.getElem?_setIfInBounds, if_neg (by omega)], ht.mono (fun k hk => .inl (by simp at hk; simp [hk])), fun k hk => .inl hk⟩
  have hp := h.sp i hi
  have hn : ∀ k ∈ (m i).fp, k ∉ [b] := fun k hk hh => hp.ne (by simp at hh; subst hh; exact hk)
  exact ⟨hbk, by rw [Array.getElem?_setIfInBounds, if_neg (by omega)]; exact hp.rows, by rw [Array.getElem?_setIfInBounds, if_neg (by omega)]; exact hp.bell, hp.own.turned ht (fun k hk => hn k (List.mem_append_left _ hk)), hp.bok.turned ht (fun k hk => hn k (List.mem_append_right _ hk)), hp.ne, hp.ab⟩
theorem turn_end (h : Clk w b o T cs 1000000 m) : Calls Try.prog 24 #[.pointer (some ⟨b, o, none⟩)] w fun e w' => e = .returned (.tuple #[]) ∧ w = w' := by
  have c1 := (h.blk.cell o).trans h.now_
  clear h
  go_enter Try.func24, Try.ntmps24
  go_wp2
  refine bodyPost_ret (results_none rfl _ _ _) rfl ?_
  exact ⟨rfl, rfl⟩
def TurnPost (w : World) (b o : Nat) (T : TypeId) (cs : Array Value) (now : Int) (m : Nat → SpM) (i : Nat) (w' : World) : Prop :=
  ∃ bl cs', Clk w' b o T cs' (now + 1) (upd m i ⟨(m i).A, (m i).c, (m i).rows, bl, dueN (m i).rows (now + 1)⟩) ∧ Fr w b o 9 T cs (fps m) w' cs' (fps (upd m i ⟨(m i).A, (m i).c, (m i).rows, bl, dueN (m i).rows (now + 1)⟩))
set_option maxHeartbeats 4000000 in
theorem turn_any (h : Clk w b o T cs now m) (hn : 0 ≤ now ∧ now < 1000000) {i : Nat} (hi : i < 4) (hm : (now + 1).tmod 4 = (i : Int)) (hl : (m i).rows.length ≤ 64) (hk : (m i).k = 0) :
    Calls Try.prog 24 #[.pointer (some ⟨b, o, none⟩)] w fun e w' => e = .returned (.tuple #[]) ∧ TurnPost w b o T cs now m i w' := by
  have c1 := (h.blk.cell o).trans h.now_
  have f1 := h.blk.frozen o
  obtain ⟨hs1, hf1⟩ := h.setNow (now + 1)
  have hne : ¬ now = 1000000 := by omega
  have hne2 : (now == 1000000) = false := by simpa using hne
  have wn : IntKind.i64.wrap (now + 1) = now + 1 := IntWalk.i64_in _ (by omega)
  have hn0 : 0 ≤ now := hn.1
  have hn1 : now < 1000000 := hn.2
  have n1 : (0 : Int) ≤ now + 1 := by omega
  obtain ⟨x, hx⟩ : ∃ x, m i = x := ⟨_, rfl⟩
  rw [hx] at hl hk
  have Hx := hidp hx
  obtain ⟨A, c, rows, bell, k⟩ := x
  dsimp only at hl hk
  subst hk
  obtain ⟨n, hrn⟩ : ∃ n, rows.length = n := ⟨_, rfl⟩
  rw [hrn] at hl
  have Hrn := hidp hrn
  have HS1 := hidp hs1
  have HF1 := hidp hf1
  have cR := (hs1.blk.cell (o + 1 + i * 2)).trans (hs1.sp i hi).rows
  rw [hx] at cR
  dsimp only at cR
  rw [hrn] at cR
  have cN := (hs1.blk.cell o).trans hs1.now_
  have CS := spoke_any (w := w.setCell ⟨b, o, none⟩ (.int .i64 (now + 1))) (b := b) (o := o) n1 hi hm
  clear h hs1 hf1 hn hx hrn
  go_enter Try.func24, Try.ntmps24
  go_wp2_with fail
  refine CS.mono ?_
  rintro e w2 ⟨rfl, rfl⟩
  obtain ⟨W, hW⟩ : ∃ W, w.setCell ⟨b, o, none⟩ (.int .i64 (now + 1)) = W := ⟨_, rfl⟩
  rw [hW] at HS1 HF1 cR cN ⊢
  obtain ⟨cs1, hcs⟩ : ∃ cs1, cs.setIfInBounds o (.int .i64 (now + 1)) = cs1 := ⟨_, rfl⟩
  rw [hcs] at HS1 HF1
  have st : Hid (Clk W b o T cs1 (now + 1) (upd m i ⟨A, c, rows, bell, dueN (rows.take 0) (now + 1)⟩) ∧ Fr W b o 9 T cs1 (fps m) W cs1 (fps (upd m i ⟨A, c, rows, bell, dueN (rows.take 0) (now + 1)⟩))) := hidp (by
    have e : upd m i ⟨A, c, rows, bell, dueN (rows.take 0) (now + 1)⟩ = m := by
      funext j
      by_cases hj : j = i
      · subst hj; rw [upd_at, Hx.out]; rfl
      · rw [upd_ne _ _ hj]
    rw [e]
    exact ⟨HS1.out, Fr.refl _ _ _ _ _ _ _⟩)
  obtain ⟨t, ht⟩ : ∃ t, now + 1 = t := ⟨_, rfl⟩
  have Ht := hidp ht
  clear CS c1 f1 hW hcs
  go_wp2_with fail
  rw [ht] at st HS1 cN
  go_loopg [28] n (fun gg q wr => ∃ (j : Nat) (bl : Option Nat) (cs' : Array Value), j + gg = n ∧ q = .int .i64 j ∧ Hid (Clk wr b o T cs' t (upd m i ⟨A, c, rows, bl, dueN (rows.take j) t⟩) ∧ Fr W b o 9 T cs1 (fps m) wr cs' (fps (upd m i ⟨A, c, rows, bl, dueN (rows.take j) t⟩))))
  case atStart => exact ⟨0, bell, cs1, by omega, rfl, st⟩
  case round =>
    clear st cR cN
    obtain ⟨j, bl, cs', hj, rfl, hc⟩ := hrel
    by_cases hlt : j < n
    · have hsp := hc.out.1.sp i hi
      rw [upd_at] at hsp
      obtain ⟨d, Hd⟩ : ∃ d, Hid (rows.getD j default = d) := ⟨_, hidp rfl⟩
      have hjr : j < rows.length := by rw [Hrn.out]; exact hlt
      obtain ⟨g, off, eA, hcs⟩ := hsp.own.dues.resolve_left (by intro e; dsimp only at e; rw [e] at hjr; simp at hjr)
      have hd := hcs j hjr
      dsimp only at eA hd
      rw [Hd.out] at hd
      subst eA
      have d0 := hd.1
      have d1 := hd.2
      have cN := (hc.out.1.blk.cell o).trans hc.out.1.now_
      have hB := (Below.refl wr.heap.size wr).alloc (Nat.le_refl _) (.cells #[.int .i64 d.time, .int .i64 d.id] 31)
      have cN2 := KeepsB hB _ _ cN
      have bx := (Bk.new wr 31 #[.int .i64 d.time, .int .i64 d.id]).cell 0
      have HB := hidp hB
      have jn : (j : Int) < (n : Int) := by omega
      have j0 : (0 : Int) ≤ (j : Int) := by omega
      have wj : IntKind.i64.wrap ((j : Int) + 1) = (j : Int) + 1 := IntWalk.i64_in _ (by omega)
      have Hj := hidp hj
      have HN : Hid (dueN (rows.take (j + 1)) t = dueN (rows.take j) t + (if d.time = t then 1 else 0)) := hidp (by rw [dueN_next hjr, Hd.out])
      have Hk64 : Hid (dueN (rows.take j) t < 64) := hidp (by have := dueN_le (rows.take j) t; rw [List.length_take] at this; omega)
      obtain ⟨kk, Hkk⟩ : ∃ kk, Hid (dueN (rows.take j) t = kk) := ⟨_, hidp rfl⟩
      rw [Hkk.out] at HN Hk64
      have HC : Hid (Clk wr b o T cs' t (upd m i ⟨some ⟨g, off, none⟩, c, rows, bl, kk⟩) ∧ Fr W b o 9 T cs1 (fps m) wr cs' (fps (upd m i ⟨some ⟨g, off, none⟩, c, rows, bl, kk⟩))) := hidp (by have := hc.out; rw [Hkk.out] at this; exact this)
      clear hsp hcs hd hB hj hjr cN hc
      by_cases hdt : d.time = t
      · have e1 : (d.time == t) = true := by simpa using hdt
        have Hdt := hidp hdt
        clear hdt
        go_wp2_with fail
        go_quiet (fail)
        have tb : Turned [] wr ((wr.alloc (.cells #[.int .i64 d.time, .int .i64 d.id] 31)).drewN nq) := ((Turned.refl [] wr).alloc _).drewN _
        have hc2 := HC.out.1.turned tb (by simp) (by simp)
        have HC2 := hidp hc2
        have HF2 := hidp (HC.out.2.trans (Fr.below (T := T) (b := b) (o := o) (n := 9) (cs := cs') (F := fps (upd m i ⟨some ⟨g, off, none⟩, c, rows, bl, kk⟩)) (below_drewN HB.out nq)))
        have hsp := hc2.sp i hi
        rw [upd_at] at hsp
        have CR := ring_any hsp Hk64.out
        clear hc2 hsp tb
        go_wp2_with fail
        refine CR.mono ?_
        rintro e w6 ⟨rfl, bl2, hp1⟩
        rw [← upd_at m i ⟨some ⟨g, off, none⟩, c, rows, bl, kk⟩] at hp1
        obtain ⟨cs2, hc3, hf3⟩ := HC2.out.put hi hp1
        rw [upd_upd] at hc3 hf3
        have HR : Hid (Clk w6 b o T cs2 t (upd m i ⟨some ⟨g, off, none⟩, c, rows, bl2, dueN (rows.take (j + 1)) t⟩) ∧ Fr W b o 9 T cs1 (fps m) w6 cs2 (fps (upd m i ⟨some ⟨g, off, none⟩, c, rows, bl2, dueN (rows.take (j + 1)) t⟩))) := hidp (by rw [HN.out, if_pos Hdt.out]; exact ⟨hc3, HF2.out.trans hf3⟩)
        clear CR hp1 hc3 hf3
        go_wp2_with fail
        go_roundg (n - j - 1)
        case measure => have := Hj.out; omega
        case rel => exact ⟨j + 1, bl2, cs2, by have := Hj.out; omega, by go_num, HR⟩
      · have e1 : (d.time == t) = false := by simpa using hdt
        have Hdt := hidp hdt
        clear hdt
        go_wp2_with fail
        go_quiet (fail)
        have tb : Turned [] wr ((wr.alloc (.cells #[.int .i64 d.time, .int .i64 d.id] 31)).drewN nq) := ((Turned.refl [] wr).alloc _).drewN _
        have hc2 := HC.out.1.turned tb (by simp) (by simp)
        have HC2 := hidp hc2
        have HF2 := hidp (HC.out.2.trans (Fr.below (T := T) (b := b) (o := o) (n := 9) (cs := cs') (F := fps (upd m i ⟨some ⟨g, off, none⟩, c, rows, bl, kk⟩)) (below_drewN HB.out nq)))
        have HR : Hid (Clk ((wr.alloc (.cells #[.int .i64 d.time, .int .i64 d.id] 31)).drewN nq) b o T cs' t (upd m i ⟨some ⟨g, off, none⟩, c, rows, bl, dueN (rows.take (j + 1)) t⟩) ∧ Fr W b o 9 T cs1 (fps m) ((wr.alloc (.cells #[.int .i64 d.time, .int .i64 d.id] 31)).drewN nq) cs' (fps (upd m i ⟨some ⟨g, off, none⟩, c, rows, bl, dueN (rows.take (j + 1)) t⟩))) := hidp (by rw [HN.out, if_neg Hdt.out]; exact ⟨HC2.out, HF2.out⟩)
        clear hc2 tb
        go_wp2_with fail
        go_roundg (n - j - 1)
        case measure => have := Hj.out; omega
        case rel => exact ⟨j + 1, bl, cs', by have := Hj.out; omega, by go_num, HR⟩
    · obtain rfl : j = n := by omega
      have jn : ¬ (j : Int) < (j : Int) := by omega
      clear hlt hj
      go_wp2
      go_end0
      have e : rows.take j = rows := List.take_of_length_le (by rw [Hrn.out]; exact Nat.le_refl _)
      have h1 := hc.out
      rw [e] at h1
      refine ⟨rfl, bl, cs', ?_, HF1.out.trans ?_⟩
      · rw [Hx.out, Ht.out]; exact h1.1
      · rw [Hx.out, Ht.out]; exact h1.2
end
end Go.Proofs.Ytkjobhocgiefdaa
