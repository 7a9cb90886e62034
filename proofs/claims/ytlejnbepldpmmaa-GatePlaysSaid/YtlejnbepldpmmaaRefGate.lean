/- swingbridgeref2.Gate: what it is on the heap; NewGate, Ask, Leave. -/
import Derived.Test.YtlejnbepldpmmaaGateNums
import Derived.Test.YtlejnbepldpmmaaRefLine
namespace Go.Proofs.Ytlejnbepldpmmaa
open Go.ChangeShapes Go.WideShapes Go.ChangeAt Go.RowKit
set_option linter.unusedVariables false
set_option linter.unusedSimpArgs false
set_option maxRecDepth 100000

/-- a gate of the reference in block b -/
structure RG (w : World) (b : Nat) (M : Int) (is qs : List Int) (A1 : Option Addr) (c1 : Nat) (A2 : Option Addr) (c2 : Nat) : Prop where
  blk : Bk w b 61 #[.int .i64 M, .slice A1 is.length c1, .slice A2 qs.length c2]
  own : OwnInts 0 w A1 is.length c1 is
  fit : ∀ n ∈ is, I64 n
  rd2 : Rd w A2 qs.length c2 qs
  ne1 : b ∉ fp A1
  ne2 : b ∉ fp A2
  ap : ∀ k ∈ fp A1, k ∉ fp A2
  len : (is.length : Int) ≤ M ∧ 1 ≤ M ∧ M ≤ 64 ∧ qs.length ≤ 64
def RGt (w : World) (b : Nat) (M : Int) (is qs : List Int) (F : List Nat) : Prop := ∃ A1 c1 A2 c2, RG w b M is qs A1 c1 A2 c2 ∧ F = b :: (fp A1 ++ fp A2)
section
variable {w w' w3 : World} {b : Nat} {M : Int} {is qs is' qs' : List Int} {F G : List Nat} {A1 A2 A' : Option Addr} {c1 c2 c' : Nat}
theorem RG.rd1 (h : RG w b M is qs A1 c1 A2 c2) : Rd w A1 is.length c1 is := Rd.of_own h.own h.fit
theorem RG.row1 (h : RG w b M is qs A1 c1 A2 c2) : Row w .i64 A1 is := h.rd1.r
theorem RG.turned (h : RG w b M is qs A1 c1 A2 c2) (ht : Turned G w w') (hb : b ∉ G) (h1 : ∀ k ∈ fp A1, k ∉ G) (h2 : ∀ k ∈ fp A2, k ∉ G) : RG w' b M is qs A1 c1 A2 c2 :=
  ⟨h.blk.turned ht hb, ⟨own_turned h.own.1 ht h1, h.own.2⟩, h.fit, h.rd2.turned ht h2, h.ne1, h.ne2, h.ap, h.len⟩
theorem RGt.turned (h : RGt w b M is qs F) (ht : Turned G w w') (hd : ∀ k ∈ F, k ∉ G) : RGt w' b M is qs F := by
  obtain ⟨A1, c1, A2, c2, h1, rfl⟩ := h
  exact ⟨A1, c1, A2, c2, h1.turned ht (hd b (by simp)) (fun k hk => hd k (by simp [hk])) (fun k hk => hd k (by simp [hk])), rfl⟩
theorem RGt.over (h : RGt w b M is qs F) (hb : Below w.heap.size w w') : RGt w' b M is qs F := h.turned (Turned.of_below hb []) (by simp)
theorem RGt.lt (h : RGt w b M is qs F) : ∀ k ∈ F, k < w.heap.size := by
  obtain ⟨A1, c1, A2, c2, h1, rfl⟩ := h
  intro k hk
  simp only [List.mem_cons, List.mem_append] at hk
  rcases hk with rfl | hk | hk
  · exact h1.blk.lt
  · exact (own_fp h1.own.1 k hk).2
  · exact h1.rd2.fps k hk
theorem RG.setIn (h : RG w b M is qs A1 c1 A2 c2) (ht : Turned (b :: fp A1) w w3) (hb : Bk w3 b 61 #[.int .i64 M, .slice A' is'.length c', .slice A2 qs.length c2]) (ho : OwnInts 0 w3 A' is'.length c' is')
    (hfit : ∀ n ∈ is', I64 n) (hf : ∀ k ∈ fp A', k ∈ fp A1 ∨ w.heap.size ≤ k) (hl : (is'.length : Int) ≤ M) : RG w3 b M is' qs A' c' A2 c2 :=
  ⟨hb, ho, hfit, h.rd2.turned ht (fun k hk hm => by
    rcases List.mem_cons.1 hm with rfl | hm
    · exact h.ne2 hk
    · exact h.ap k hm hk), fun hk => by
    rcases hf b hk with h1 | h1
    · exact h.ne1 h1
    · have := h.blk.lt; omega, h.ne2, fun k hk hk2 => by
    rcases hf k hk with h1 | h1
    · exact h.ap k h1 hk2
    · have := h.rd2.fps k hk2; omega, ⟨hl, h.len.2⟩⟩
theorem RG.setLine (h : RG w b M is qs A1 c1 A2 c2) (ht : Turned [b] w w3) (hb : Bk w3 b 61 #[.int .i64 M, .slice A1 is.length c1, .slice A' qs'.length c']) (hr : Rd w3 A' qs'.length c' qs')
    (hf : ∀ k ∈ fp A', k ∈ fp A2 ∨ w.heap.size ≤ k) (hl : qs'.length ≤ 64) : RG w3 b M is qs' A1 c1 A' c' :=
  ⟨hb, ⟨own_turned h.own.1 ht (fun k hk hm => by simp at hm; subst hm; exact h.ne1 hk), h.own.2⟩, h.fit, hr, h.ne1, fun hk => by
    rcases hf b hk with h1 | h1
    · exact h.ne2 h1
    · have := h.blk.lt; omega, fun k hk hk2 => by
    rcases hf k hk2 with h1 | h1
    · exact h.ap k hk h1
    · have := (own_fp h.own.1 k hk).2; omega, ⟨h.len.1, h.len.2.1, h.len.2.2.1, hl⟩⟩
def RGNew (n : Int) (w : World) (e : Ending) (w' : World) : Prop := e = .returned (.pointer (some ⟨w.heap.size, 0, none⟩)) ∧ RGt w' w.heap.size (held1 n) [] [] [w.heap.size] ∧ Below w.heap.size w w' ∧ w'.heap.size = w.heap.size + 1
theorem rgnew_any (n : Int) (w : World) (hn : I64 n) : Calls Try.prog 30 #[.int .i64 n] w (RGNew n w) := by
  unfold I64 at hn
  have hb := held1_bd n
  have HG : Hid (RGNew n w (.returned (.pointer (some ⟨w.heap.size, 0, none⟩))) (w.alloc (.cells #[.int .i64 (max 1 (min n 64)), .slice none 0 0, .slice none 0 0] 61))) := hidp
    ⟨rfl, ⟨none, 0, none, 0, ⟨Bk.new _ _ _, ⟨World.ownsRow_nil _ _ _ _, rfl, by decide, by decide, fun _ => ⟨rfl, rfl⟩⟩, by simp, ⟨.inl rfl, rfl, by decide, fun _ => ⟨rfl, rfl⟩, by simp, by simp [fp], by simp⟩, by simp [fp], by simp [fp], by simp [fp], by simp; omega⟩, by simp [fp]⟩, (Below.refl _ _).alloc (Nat.le_refl _) _, by simp⟩
  clear hb
  go_enter Try.func30, Try.ntmps30
  go_wp2
  go_ret
  exact HG.out
theorem fit_snoc {zs : List Int} {id : Int} (h : ∀ n ∈ zs, I64 n) (hi : I64 id) : ∀ n ∈ zs ++ [id], I64 n := fun n hn => by
  rcases List.mem_append.1 hn with h1 | h1
  · exact h n h1
  · simp at h1; subst h1; exact hi

theorem rask_in {id : Int} (h : RG w b M is qs A1 c1 A2 c2) (hk : plK is id = true) : Calls Try.prog 32 #[.pointer (some ⟨b, 0, none⟩), .int .i64 id] w fun e w' => e = .returned (.tuple #[.bool false, .int .i64 17]) ∧ w = w' := by
  have d1 := h.blk.cell 1
  simp only [List.getElem?_toArray, List.getElem?_cons_zero, List.getElem?_cons_succ] at d1
  have hl := h.len
  have ha := at_any (id := id) (c := c1) h.row1 rfl (by omega)
  rw [atR_yes hk] at ha
  go_enter Try.func32, Try.ntmps32
  go_wp2_with fail
  refine ha.mono ?_
  rintro e w' ⟨rfl, rfl⟩
  go_wp2_with fail
  go_ret2
  exact ⟨rfl, rfl⟩
theorem rask_line {id : Int} (h : RG w b M is qs A1 c1 A2 c2) (hk : plK is id = false) (hq : plK qs id = true) : Calls Try.prog 32 #[.pointer (some ⟨b, 0, none⟩), .int .i64 id] w fun e w' => e = .returned (.tuple #[.bool false, .int .i64 17]) ∧ w = w' := by
  have d1 := h.blk.cell 1
  have d2 := h.blk.cell 2
  simp only [List.getElem?_toArray, List.getElem?_cons_zero, List.getElem?_cons_succ] at d1 d2
  have hl := h.len
  have ha := at_any (id := id) (c := c1) h.row1 rfl (by omega)
  rw [atR_no hk] at ha
  have hb := at_any (id := id) (c := c2) h.rd2.r rfl (by omega)
  rw [atR_yes hq] at hb
  go_enter Try.func32, Try.ntmps32
  go_wp2_with fail
  refine ha.mono ?_
  rintro e w' ⟨rfl, rfl⟩
  go_wp2_with fail
  refine hb.mono ?_
  rintro e w' ⟨rfl, rfl⟩
  go_wp2_with fail
  go_ret2
  exact ⟨rfl, rfl⟩
theorem rask_full {id : Int} (h : RG w b M is qs A1 c1 A2 c2) (hk : plK is id = false) (hq : plK qs id = false) (hm : (is.length : Int) = M) (hl64 : qs.length = 64) : Calls Try.prog 32 #[.pointer (some ⟨b, 0, none⟩), .int .i64 id] w fun e w' => e = .returned (.tuple #[.bool false, .int .i64 12]) ∧ Qt w w' := by
  have d0 := h.blk.cell 0
  have d1 := h.blk.cell 1
  have d2 := h.blk.cell 2
  simp only [List.getElem?_toArray, List.getElem?_cons_zero, List.getElem?_cons_succ] at d0 d1 d2
  have hl := h.len
  have ha := at_any (id := id) (c := c1) h.row1 rfl (by omega)
  rw [atR_no hk] at ha
  have hb := at_any (id := id) (c := c2) h.rd2.r rfl (by omega)
  rw [atR_no hq] at hb
  have hd : decide ((is.length : Int) < M) = false := by simp; omega
  have hd2 : ¬ (is.length : Int) < M := by omega
  have hg : (64 : Int) ≤ (qs.length : Int) := by omega
  clear hm hl64 h
  go_enter Try.func32, Try.ntmps32
  go_wp2_with fail
  refine ha.mono ?_
  rintro e w' ⟨rfl, rfl⟩
  go_wp2_with fail
  refine hb.mono ?_
  rintro e w' ⟨rfl, rfl⟩
  go_wp2_with fail
  go_quiet (fail)
  go_wp2_with fail
  go_ret2
  exact ⟨rfl, _, rfl⟩
set_option maxHeartbeats 1000000 in
theorem rask_ok {id : Int} (h : RG w b M is qs A1 c1 A2 c2) (hF : F = b :: (fp A1 ++ fp A2)) (hi : I64 id) (hk : plK is id = false) (hq : plK qs id = false) (hm : (is.length : Int) < M) : Calls Try.prog 32 #[.pointer (some ⟨b, 0, none⟩), .int .i64 id] w (Stepped w F (fun v F' => RGt v b M (is ++ [id]) qs F') (.returned (.tuple #[.bool true, .int .i64 0]))) := by
  have d0 := h.blk.cell 0
  have d1 := h.blk.cell 1
  have d2 := h.blk.cell 2
  simp only [List.getElem?_toArray, List.getElem?_cons_zero, List.getElem?_cons_succ] at d0 d1 d2
  have hl := h.len
  have ha := at_any (id := id) (c := c1) h.row1 rfl (by omega)
  rw [atR_no hk] at ha
  have hb := at_any (id := id) (c := c2) h.rd2.r rfl (by omega)
  rw [atR_no hq] at hb
  have hd : decide ((is.length : Int) < M) = true := by simpa using hm

  obtain ⟨i0, hi0, hz0, hz1, hz2⟩ := info_parts infoInt
  have Hnil : Hid (A1 = none → is.length = 0 ∧ c1 = 0) := hidp fun e => (h.own.2.2.2.2 e)
  have Hlen : Hid ((is.map (Value.int .i64)).length = is.length * 1) := hidp (by simp)
  have H1 : Hid (∀ u ∈ is.map (Value.int .i64), u.oneCell' = true) := hidp fun u hu => by obtain ⟨n, _, rfl⟩ := List.mem_map.1 hu; rfl
  have H5 : Hid (0 + is.length ≤ maxLen) := hidp (by unfold maxLen; omega)
  have H6 : Hid ((0 + is.length) * 8 ≤ 140737488355328) := hidp (by omega)
  have K1 : Hid (∀ u ∈ [Value.int .i64 id], u.oneCell' = true) := hidp (by simp; rfl)
  have K5 : Hid (is.length + 1 ≤ maxLen) := hidp (by unfold maxLen; omega)
  have K6 : Hid ((is.length + 1) * 8 ≤ 140737488355328) := hidp (by omega)
  have hblk := h.blk
  have Hrow := hidp h.rd1.row
  have HH := hidp h
  have HFF := hidp hF
  clear h hF
  go_enter Try.func32, Try.ntmps32
  go_wp2_with fail
  refine ha.mono ?_
  rintro e w' ⟨rfl, rfl⟩
  go_wp2_with fail
  refine hb.mono ?_
  rintro e w' ⟨rfl, rfl⟩
  go_wp2_with fail
  go_quiet (fail)
  clear ha hb
  have Hrow2 := hidp (Hrow.out.drewN nq)
  have hblk2 := hblk.drewN nq
  have hn0 := World.ownsRow_nil (w.drewN nq) (w.drewN nq).heap.size 3 1
  go_wp2_with (first | (at_builtin; refine wpList_app2 _ rfl (.const (.slice none 0 0)) (.tmp 38) 46 rfl (w.drewN nq).heap.size 3 i0 (.int .i64 0) 1 8 Try.underlying46 hi0 hz0 hz1 hz2 rfl (by decide) none 0 0 [] rfl hn0 _ _ is.length c1 (is.map (Value.int .i64)) rfl Hnil.out Hlen.out Hrow2.out H1.out H5.out H6.out (Nat.le_refl _) ?_; intro B1 k1 w1 happ; simp only [Nat.zero_add, List.nil_append] at happ; have hx := new_ne hblk2 happ.fps; have hb1 := hblk2.turned happ.turned (by simp [fp]); have hown2 := happ.own.alloc (.cells #[.int .i64 id] 3); have L1 := hidp (Lies.new1 w1 (.int .i64 id) 3); have Hsz : Hid ((w.drewN nq).heap.size ≤ (w1.alloc (.cells #[.int .i64 id] 3)).heap.size) := hidp (Nat.le_trans happ.turned.size (by simp))) | (at_builtin; go_loud (refine wpList_app2 _ rfl (.tmp 39) (.tmp 41) 46 rfl (w.drewN nq).heap.size 3 i0 (.int .i64 0) 1 8 Try.underlying46 hi0 hz0 hz1 hz2 rfl (by decide) B1 is.length k1 (is.map (Value.int .i64)) rfl hown2 _ _ 1 1 [.int .i64 id] rfl (by simp) rfl L1.out K1.out K5.out K6.out Hsz.out ?_); intro B2 k2 w2 happ2; have hb2 := (hb1.alloc (.cells #[.int .i64 id] 3)).turned happ2.turned hx; have d1 := hb2.cell 1; have fz := hb2.frozen 1; simp only [List.getElem?_toArray, List.getElem?_cons_zero, List.getElem?_cons_succ] at d1))
  go_ret2
  have h := HH.out
  have hs1 := happ.turned.size
  have hs2 := happ2.turned.size
  simp at hs1 hs2
  have hlt := h.blk.lt
  have hfp2 : ∀ k ∈ fp B2, w.heap.size ≤ k := fun k hk => by
    rcases happ2.fps k hk with h1 | h1
    · rcases happ.fps k h1 with h2 | h2
      · simp [fp] at h2
      · simpa using h2
    · simp at h1; omega
  have t1 : Turned [b] w w1 := ((Turned.refl [b] w).drewN nq).trans (happ.turned.mono (G := [b]) (fun k hk => by simp [fp] at hk)) (fun i hi => .inl hi)
  have t2 : Turned [b] w w2 := ((t1.alloc (.cells #[.int .i64 id] 3)).trans happ2.turned (fun i hi => by
    rcases happ.fps i hi with h2 | h2
    · simp [fp] at h2
    · right; simpa using h2))
  have TS := (Turned.refl [b] w2).setCell (p := ⟨b, 1, none⟩) (.inl (by simp)) (.slice B2 (is.length + 1) k2)
  have t3 := t2.trans TS (fun i hi => .inl hi)
  have ow : w2.ownsRow 0 3 1 (.slice B2 (is.length + 1) k2) (is.length + 1) ((is ++ [id]).map (Value.int .i64)) := by
    have := own_base (base' := 0) happ2.own (fun _ _ => Nat.zero_le _)
    rw [List.map_append]; exact this
  have ow3 := own_turned ow TS (fun k hk hm => by simp at hm; subst hm; have := hfp2 _ hk; omega)
  have bk3 := hb2.put 1 (.slice B2 (is.length + 1) k2)
  have el : (is ++ [id]).length = is.length + 1 := by simp
  have oi : OwnInts 0 (w2.setCell ⟨b, 1, none⟩ (.slice B2 (is.length + 1) k2)) B2 (is ++ [id]).length k2 (is ++ [id]) := by rw [el]; exact ⟨ow3, by simp, happ2.cap.1, happ2.cap.2, happ2.nil⟩
  refine ⟨rfl, b :: (fp B2 ++ fp A2), ⟨B2, k2, A2, c2, h.setIn (t3.mono (fun k hk => .inl (by simp at hk; simp [hk]))) (by rw [el]; exact bk3) oi (fit_snoc h.fit hi) (fun k hk => .inr (hfp2 k hk)) (by rw [el]; omega), rfl⟩, t3.mono (fun k hk => .inl (by simp at hk; rw [HFF.out]; simp [hk])), fun k hk => ?_⟩
  rw [HFF.out]
  simp only [List.mem_cons, List.mem_append] at hk ⊢
  rcases hk with h1 | h1 | h1
  · exact .inl (.inl h1)
  · exact .inr (hfp2 k h1)
  · exact .inl (.inr (.inr h1))
set_option maxHeartbeats 1000000 in
theorem rask_wait {id : Int} (h : RG w b M is qs A1 c1 A2 c2) (hF : F = b :: (fp A1 ++ fp A2)) (hi : I64 id) (hk : plK is id = false) (hq : plK qs id = false) (hm : (is.length : Int) = M) (hl64 : qs.length < 64) : Calls Try.prog 32 #[.pointer (some ⟨b, 0, none⟩), .int .i64 id] w (Stepped w F (fun v F' => RGt v b M is (qs ++ [id]) F') (.returned (.tuple #[.bool false, .int .i64 0]))) := by
  have d0 := h.blk.cell 0
  have d1 := h.blk.cell 1
  have d2 := h.blk.cell 2
  simp only [List.getElem?_toArray, List.getElem?_cons_zero, List.getElem?_cons_succ] at d0 d1 d2
  have hl := h.len
  have ha := at_any (id := id) (c := c1) h.row1 rfl (by omega)
  rw [atR_no hk] at ha
  have hb := at_any (id := id) (c := c2) h.rd2.r rfl (by omega)
  rw [atR_no hq] at hb
  have hd : decide ((is.length : Int) < M) = false := by simp; omega
  have hd2 : ¬ (is.length : Int) < M := by omega
  have hg : ¬ (64 : Int) ≤ (qs.length : Int) := by omega
  have hg2 : (qs.length : Int) < 64 := by omega
  clear hm
  obtain ⟨i0, hi0, hz0, hz1, hz2⟩ := info_parts infoInt
  have Hnil : Hid (A2 = none → qs.length = 0 ∧ c2 = 0) := hidp fun e => ⟨by rw [(h.rd2.nil e).1]; rfl, (h.rd2.nil e).2⟩
  have Hlen : Hid ((qs.map (Value.int .i64)).length = qs.length * 1) := hidp (by simp)
  have H1 : Hid (∀ u ∈ qs.map (Value.int .i64), u.oneCell' = true) := hidp fun u hu => by obtain ⟨n, _, rfl⟩ := List.mem_map.1 hu; rfl
  have H5 : Hid (0 + qs.length ≤ maxLen) := hidp (by unfold maxLen; omega)
  have H6 : Hid ((0 + qs.length) * 8 ≤ 140737488355328) := hidp (by omega)
  have K1 : Hid (∀ u ∈ [Value.int .i64 id], u.oneCell' = true) := hidp (by simp; rfl)
  have K5 : Hid (qs.length + 1 ≤ maxLen) := hidp (by unfold maxLen; omega)
  have K6 : Hid ((qs.length + 1) * 8 ≤ 140737488355328) := hidp (by omega)
  have hblk := h.blk
  have Hrow := hidp h.rd2.row
  have HH := hidp h
  have HFF := hidp hF
  clear h hF
  go_enter Try.func32, Try.ntmps32
  go_wp2_with fail
  refine ha.mono ?_
  rintro e w' ⟨rfl, rfl⟩
  go_wp2_with fail
  refine hb.mono ?_
  rintro e w' ⟨rfl, rfl⟩
  go_wp2_with fail
  go_quiet (fail)
  clear ha hb
  have Hrow2 := hidp (Hrow.out.drewN nq)
  have hblk2 := hblk.drewN nq
  have hn0 := World.ownsRow_nil (w.drewN nq) (w.drewN nq).heap.size 3 1
  go_wp2_with (first | (at_builtin; refine wpList_app2 _ rfl (.const (.slice none 0 0)) (.tmp 56) 46 rfl (w.drewN nq).heap.size 3 i0 (.int .i64 0) 1 8 Try.underlying46 hi0 hz0 hz1 hz2 rfl (by decide) none 0 0 [] rfl hn0 _ _ qs.length c2 (qs.map (Value.int .i64)) rfl Hnil.out Hlen.out Hrow2.out H1.out H5.out H6.out (Nat.le_refl _) ?_; intro B1 k1 w1 happ; simp only [Nat.zero_add, List.nil_append] at happ; have hx := new_ne hblk2 happ.fps; have hb1 := hblk2.turned happ.turned (by simp [fp]); have hown2 := happ.own.alloc (.cells #[.int .i64 id] 3); have L1 := hidp (Lies.new1 w1 (.int .i64 id) 3); have Hsz : Hid ((w.drewN nq).heap.size ≤ (w1.alloc (.cells #[.int .i64 id] 3)).heap.size) := hidp (Nat.le_trans happ.turned.size (by simp))) | (at_builtin; go_loud (refine wpList_app2 _ rfl (.tmp 57) (.tmp 59) 46 rfl (w.drewN nq).heap.size 3 i0 (.int .i64 0) 1 8 Try.underlying46 hi0 hz0 hz1 hz2 rfl (by decide) B1 qs.length k1 (qs.map (Value.int .i64)) rfl hown2 _ _ 1 1 [.int .i64 id] rfl (by simp) rfl L1.out K1.out K5.out K6.out Hsz.out ?_); intro B2 k2 w2 happ2; have hb2 := (hb1.alloc (.cells #[.int .i64 id] 3)).turned happ2.turned hx; have d1 := hb2.cell 2; have fz := hb2.frozen 2; simp only [List.getElem?_toArray, List.getElem?_cons_zero, List.getElem?_cons_succ] at d1))
  go_ret2
  have h := HH.out
  have hs1 := happ.turned.size
  have hs2 := happ2.turned.size
  simp at hs1 hs2
  have hlt := h.blk.lt
  have hfp2 : ∀ k ∈ fp B2, w.heap.size ≤ k := fun k hk => by
    rcases happ2.fps k hk with h1 | h1
    · rcases happ.fps k h1 with h2 | h2
      · simp [fp] at h2
      · simpa using h2
    · simp at h1; omega
  have t1 : Turned [b] w w1 := ((Turned.refl [b] w).drewN nq).trans (happ.turned.mono (G := [b]) (fun k hk => by simp [fp] at hk)) (fun i hi => .inl hi)
  have t2 : Turned [b] w w2 := ((t1.alloc (.cells #[.int .i64 id] 3)).trans happ2.turned (fun i hi => by
    rcases happ.fps i hi with h2 | h2
    · simp [fp] at h2
    · right; simpa using h2))
  have TS := (Turned.refl [b] w2).setCell (p := ⟨b, 2, none⟩) (.inl (by simp)) (.slice B2 (qs.length + 1) k2)
  have t3 := t2.trans TS (fun i hi => .inl hi)
  have ow : w2.ownsRow 0 3 1 (.slice B2 (qs.length + 1) k2) (qs.length + 1) ((qs ++ [id]).map (Value.int .i64)) := by
    have := own_base (base' := 0) happ2.own (fun _ _ => Nat.zero_le _)
    rw [List.map_append]; exact this
  have ow3 := own_turned ow TS (fun k hk hm => by simp at hm; subst hm; have := hfp2 _ hk; omega)
  have bk3 := hb2.put 2 (.slice B2 (qs.length + 1) k2)
  have el : (qs ++ [id]).length = qs.length + 1 := by simp
  have oi : OwnInts 0 (w2.setCell ⟨b, 2, none⟩ (.slice B2 (qs.length + 1) k2)) B2 (qs ++ [id]).length k2 (qs ++ [id]) := by rw [el]; exact ⟨ow3, by simp, happ2.cap.1, happ2.cap.2, happ2.nil⟩
  refine ⟨rfl, b :: (fp A1 ++ fp B2), ⟨A1, c1, B2, k2, h.setLine t3 (by rw [el]; exact bk3) (Rd.of_own oi (fit_snoc h.rd2.fit hi)) (fun k hk => .inr (hfp2 k hk)) (by rw [el]; omega), rfl⟩, t3.mono (fun k hk => .inl (by simp at hk; rw [HFF.out]; simp [hk])), fun k hk => ?_⟩
  rw [HFF.out]
  simp only [List.mem_cons, List.mem_append] at hk ⊢
  rcases hk with h1 | h1 | h1
  · exact .inl (.inl h1)
  · exact .inl (.inr (.inl h1))
  · exact .inr (hfp2 k h1)

theorem rleave_not {id : Int} (h : RG w b M is qs A1 c1 A2 c2) (hk : plK is id = false) : Calls Try.prog 34 #[.pointer (some ⟨b, 0, none⟩), .int .i64 id] w fun e w' => e = .returned (.tuple #[.int .i64 0, .bool false, .int .i64 13]) ∧ w = w' := by
  have d1 := h.blk.cell 1
  simp only [List.getElem?_toArray, List.getElem?_cons_zero, List.getElem?_cons_succ] at d1
  have hl := h.len
  have ha := at_any (id := id) (c := c1) h.row1 rfl (by omega)
  rw [atR_no hk] at ha
  go_enter Try.func34, Try.ntmps34
  go_wp2_with fail
  refine ha.mono ?_
  rintro e w' ⟨rfl, rfl⟩
  go_wp2_with fail
  go_ret3
  exact ⟨rfl, rfl⟩
theorem rleave_none {id : Int} (h : RG w b M is [] A1 c1 A2 c2) (hF : F = b :: (fp A1 ++ fp A2)) (hk : plK is id = true) : Calls Try.prog 34 #[.pointer (some ⟨b, 0, none⟩), .int .i64 id] w (Stepped w F (fun v F' => RGt v b M (is.eraseIdx (plN is id)) [] F') (.returned (.tuple #[.int .i64 0, .bool false, .int .i64 0]))) := by
  have d1 := h.blk.cell 1
  simp only [List.getElem?_toArray, List.getElem?_cons_zero, List.getElem?_cons_succ] at d1
  have hl := h.len
  have hlt := plN_lt hk
  have ha := at_any (id := id) (c := c1) h.row1 rfl (by omega)
  rw [atR_yes hk] at ha
  obtain ⟨k, Hk⟩ : ∃ k, Hid (plN is id = k) := ⟨_, rfl⟩
  rw [Hk.out] at ha hlt ⊢
  have hwo := without_own (k := k) (i := (k : Int)) h.rd1 hlt rfl (by omega)
  have HH := hidp h
  have HFF := hidp hF
  clear h hF hk
  go_enter Try.func34, Try.ntmps34
  go_wp2_with fail
  refine ha.mono ?_
  rintro e w' ⟨rfl, rfl⟩
  go_wp2_with fail
  refine hwo.mono ?_
  rintro e w1 ⟨A', n', c', rfl, ho, ht, hf⟩
  have hb1 := HH.out.blk.turned ht (by simp)
  have e1 := hb1.cell 1
  have e2 := hb1.cell 2
  have fz := hb1.frozen 1
  simp only [List.getElem?_toArray, List.getElem?_cons_zero, List.getElem?_cons_succ, List.length_nil] at e1 e2
  have Ho := hidp ho
  have Ht := hidp ht
  have Hf := hidp hf
  clear ho ht hf ha hwo
  go_wp2_with fail
  go_ret3
  have h := HH.out
  have TS := (Turned.refl [b] w1).setCell (p := ⟨b, 1, none⟩) (.inl (by simp)) (.slice A' n' c')
  have t3 := (Ht.out.mono (G := [b]) (by simp)).trans TS (fun i hi => .inl hi)
  have el := Ho.out.2.1
  have ow3 := own_turned (own_base (base' := 0) Ho.out.1 (fun _ _ => Nat.zero_le _)) TS (fun j hj hm => by simp at hm; subst hm; have := Hf.out _ hj; have := h.blk.lt; omega)
  have bk3 := hb1.put 1 (.slice A' n' c')
  have hle := List.length_eraseIdx_le is k
  refine ⟨rfl, b :: (fp A' ++ fp A2), ⟨A', c', A2, c2, h.setIn (t3.mono (fun k hk => .inl (by simp at hk; simp [hk]))) (by rw [← el]; exact bk3) ⟨by rw [← el]; exact ow3, rfl, by rw [← el]; exact Ho.out.2.2.1, Ho.out.2.2.2.1, by rw [← el]; exact Ho.out.2.2.2.2⟩ (fun n hn => h.fit n (List.mem_of_mem_eraseIdx hn)) (fun k hk => .inr (Hf.out k hk)) (by omega), rfl⟩, t3.mono (fun k hk => .inl (by simp at hk; rw [HFF.out]; simp [hk])), fun k hk => ?_⟩
  rw [HFF.out]
  simp only [List.mem_cons, List.mem_append] at hk ⊢
  rcases hk with h1 | h1 | h1
  · exact .inl (.inl h1)
  · exact .inr (Hf.out k h1)
  · exact .inl (.inr (.inr h1))
set_option maxHeartbeats 1000000 in
theorem rleave_next {id x : Int} (h : RG w b M is (x :: qs) A1 c1 A2 c2) (hF : F = b :: (fp A1 ++ fp A2)) (hk : plK is id = true) : Calls Try.prog 34 #[.pointer (some ⟨b, 0, none⟩), .int .i64 id] w (Stepped w F (fun v F' => RGt v b M (is.eraseIdx (plN is id) ++ [x]) qs F') (.returned (.tuple #[.int .i64 x, .bool true, .int .i64 0]))) := by
  have d1 := h.blk.cell 1
  simp only [List.getElem?_toArray, List.getElem?_cons_zero, List.getElem?_cons_succ] at d1
  have hl := h.len
  have hlt := plN_lt hk
  have ha := at_any (id := id) (c := c1) h.row1 rfl (by omega)
  rw [atR_yes hk] at ha
  obtain ⟨k, Hk⟩ : ∃ k, Hid (plN is id = k) := ⟨_, rfl⟩
  rw [Hk.out] at ha hlt ⊢
  have hwo := without_own (k := k) (i := (k : Int)) h.rd1 hlt rfl (by omega)
  obtain ⟨g, off, rfl, hc⟩ := h.rd2.r.resolve_left (by simp)
  have cx := hc 0 (by simp)
  simp only [Nat.add_zero, List.getD_cons_zero] at cx
  have hcap := h.rd2.cap
  simp only [List.length_cons] at hcap hl
  have hm := hcap.2
  unfold maxLen at hm
  have hcut := h.rd2.cut 1 (by simp)
  obtain ⟨Ac, hAc, Hcut, Hsub⟩ : ∃ Ac, (if c2 = 1 then some (⟨g, off, none⟩ : Addr) else some ⟨g, off + 1, none⟩) = Ac ∧ Hid (Rd w Ac qs.length (c2 - 1) qs) ∧ Hid (∀ k ∈ fp Ac, k ∈ fp (some (⟨g, off, none⟩ : Addr))) := by
    refine ⟨_, rfl, hidp (by simpa using hcut), hidp fun k hk => ?_⟩
    split at hk <;> simpa [fp] using hk
  have Hx : Hid (I64 x) := hidp (h.rd2.fit x (by simp))
  have hgl : g < w.heap.size := cell_lt cx
  obtain ⟨i0, hi0, hz0, hz1, hz2⟩ := info_parts infoInt
  have HH := hidp h
  have HFF := hidp hF
  clear h hF hk hc hcut
  go_enter Try.func34, Try.ntmps34
  go_wp2_with fail
  refine ha.mono ?_
  rintro e w' ⟨rfl, rfl⟩
  go_wp2_with fail
  refine hwo.mono ?_
  rintro e w1 ⟨A', n', c', rfl, ho, ht, hf⟩
  have hb1 := HH.out.blk.turned ht (by simp)
  have e1 := hb1.cell 1
  have e2 := hb1.cell 2
  have f1 := hb1.frozen 1
  have f2 := hb1.frozen 2
  simp only [List.getElem?_toArray, List.getElem?_cons_zero, List.getElem?_cons_succ, List.length_cons] at e1 e2
  have cx1 := ht.cell cx (by simp)
  have hbn : b ∉ fp A' := fun hm => by have := hf b hm; have := HH.out.blk.lt; omega
  have hle : n' + 1 ≤ is.length := by have h1 := ho.2.1; rw [List.length_eraseIdx, if_pos hlt] at h1; omega
  have hown := ((own_setCell (own_setCell ho.1 (p := ⟨b, 1, none⟩) hbn (.slice A' n' c')) (p := ⟨b, 2, none⟩) hbn (.slice Ac qs.length (c2 - 1))).alloc (.cells #[.int .i64 x] 3))
  have K1 : Hid (∀ u ∈ [Value.int .i64 x], u.oneCell' = true) := hidp (by simp; rfl)
  have K5 : Hid (n' + 1 ≤ maxLen) := hidp (by unfold maxLen; omega)
  have K6 : Hid ((n' + 1) * 8 ≤ 140737488355328) := hidp (by omega)
  have bk2 := (((hb1.put 1 (.slice A' n' c')).put 2 (.slice Ac qs.length (c2 - 1))).alloc (.cells #[.int .i64 x] 3))
  have eV : ((w1.setCell ⟨b, 1, none⟩ (.slice A' n' c')).setCell ⟨b, 2, none⟩ (.slice Ac qs.length (c2 - 1))).heap.size = w1.heap.size := by simp [World.setCell]
  have L0 := Lies.new1 ((w1.setCell ⟨b, 1, none⟩ (.slice A' n' c')).setCell ⟨b, 2, none⟩ (.slice Ac qs.length (c2 - 1))) (.int .i64 x) 3
  rw [eV] at L0
  have L1 := hidp L0
  clear eV L0
  have Hsz : Hid (w.heap.size ≤ (((w1.setCell ⟨b, 1, none⟩ (.slice A' n' c')).setCell ⟨b, 2, none⟩ (.slice Ac qs.length (c2 - 1))).alloc (.cells #[.int .i64 x] 3)).heap.size) := hidp (by have := ht.size; simp [World.setCell]; omega)
  have Ho := hidp ho
  have Ht := hidp ht
  have Hf := hidp hf
  have Hle := hidp hle
  have hgb1 : g ≠ b := fun e => by have := HH.out.ne2; subst e; exact this (by simp [fp])
  clear ho ht hf ha hwo hle
  go_wp2_with (at_builtin; go_loud (refine wpList_app2 _ rfl (.tmp 50) (.tmp 52) 46 rfl w.heap.size 3 i0 (.int .i64 0) 1 8 Try.underlying46 hi0 hz0 hz1 hz2 rfl (by decide) A' n' c' _ rfl hown _ _ 1 1 [.int .i64 x] rfl (by simp) rfl L1.out K1.out K5.out K6.out Hsz.out ?_); intro B2 k2 w2 happ; have hb2 := bk2.turned happ.turned hbn; have e3 := hb2.cell 1; have f3 := hb2.frozen 1; simp only [List.getElem?_toArray, List.getElem?_cons_zero, List.getElem?_cons_succ, List.setIfInBounds_toArray, List.set_cons_zero, List.set_cons_succ] at e3)
  go_ret3
  have h := HH.out
  have hblt := h.blk.lt
  have el := Ho.out.2.1
  -- behind the two stores
  have TS1 := (Turned.refl [b] w1).setCell (p := ⟨b, 1, none⟩) (.inl (by simp)) (.slice A' n' c')
  have ta := (Ht.out.mono (G := [b]) (by simp)).trans TS1 (fun i hi => .inl hi)
  have ow3 := own_turned (own_base (base' := 0) Ho.out.1 (fun _ _ => Nat.zero_le _)) TS1 (fun j hj hm => by simp at hm; subst hm; exact hbn hj)
  have r1 := h.setIn (ta.mono (fun k hk => .inl (by simp at hk; simp [hk]))) (by rw [← el]; exact hb1.put 1 (.slice A' n' c')) ⟨by rw [← el]; exact ow3, rfl, by rw [← el]; exact Ho.out.2.2.1, Ho.out.2.2.2.1, by rw [← el]; exact Ho.out.2.2.2.2⟩ (fun n hn => h.fit n (List.mem_of_mem_eraseIdx hn)) (fun k hk => .inr (Hf.out k hk)) (by have := Hle.out; rw [← el]; omega)
  have TS2 := (Turned.refl [b] (w1.setCell ⟨b, 1, none⟩ (.slice A' n' c'))).setCell (p := ⟨b, 2, none⟩) (.inl (by simp)) (.slice Ac qs.length (c2 - 1))
  have tb := ta.trans TS2 (fun i hi => .inl hi)
  have rd2 := Hcut.out.turned tb (fun k hk hm => by simp at hm; subst hm; exact h.ne2 (Hsub.out _ hk))
  have r2 := r1.setLine TS2 (by rw [← el]; exact (hb1.put 1 (.slice A' n' c')).put 2 (.slice Ac qs.length (c2 - 1))) rd2 (fun k hk => .inl (Hsub.out k hk)) (by omega)
  have TA := (Turned.refl ([] : List Nat) ((w1.setCell ⟨b, 1, none⟩ (.slice A' n' c')).setCell ⟨b, 2, none⟩ (.slice Ac qs.length (c2 - 1)))).alloc (.cells #[.int .i64 x] 3)
  have r3 := r2.turned TA (by simp) (by simp) (by simp)
  have TS3 := (Turned.refl [b] w2).setCell (p := ⟨b, 1, none⟩) (.inl (by simp)) (.slice B2 (n' + 1) k2)
  have tz : Turned (b :: fp A') (((w1.setCell ⟨b, 1, none⟩ (.slice A' n' c')).setCell ⟨b, 2, none⟩ (.slice Ac qs.length (c2 - 1))).alloc (.cells #[.int .i64 x] 3)) (w2.setCell ⟨b, 1, none⟩ (.slice B2 (n' + 1) k2)) := (happ.turned.mono (G := b :: fp A') (fun k hk => .inl (by simp [hk]))).trans TS3 (fun i hi => .inl (by simp at hi; simp [hi]))
  have e4 : (is.eraseIdx k ++ [x]).length = n' + 1 := by rw [List.length_append, ← el]; rfl
  have ow4 : w2.ownsRow 0 3 1 (.slice B2 (n' + 1) k2) (n' + 1) ((is.eraseIdx k ++ [x]).map (Value.int .i64)) := by
    have := own_base (base' := 0) happ.own (fun _ _ => Nat.zero_le _)
    rw [List.map_append]; exact this
  have hB2 : ∀ k ∈ fp B2, k ∈ fp A' ∨ (((w1.setCell ⟨b, 1, none⟩ (.slice A' n' c')).setCell ⟨b, 2, none⟩ (.slice Ac qs.length (c2 - 1))).alloc (.cells #[.int .i64 x] 3)).heap.size ≤ k := happ.fps
  have hwl := Nat.le_trans tb.size TA.size
  have hbB2 : b ∉ fp B2 := fun hm => by
    rcases hB2 b hm with h1 | h1
    · exact hbn h1
    · omega
  have ow5 := own_turned ow4 TS3 (fun j hj hm => by simp at hm; subst hm; exact hbB2 hj)
  have r4 := r3.setIn (is' := is.eraseIdx k ++ [x]) tz (by rw [e4]; exact hb2.put 1 (.slice B2 (n' + 1) k2)) ⟨by rw [e4]; exact ow5, rfl, by rw [e4]; exact happ.cap.1, happ.cap.2, by rw [e4]; exact happ.nil⟩ (fit_snoc r3.fit Hx.out) hB2 (by rw [e4]; have := Hle.out; omega)
  have tall : Turned [b] w (w2.setCell ⟨b, 1, none⟩ (.slice B2 (n' + 1) k2)) := ((tb.trans (TA.mono (G := [b]) (by simp)) (fun i hi => .inl hi)).trans tz (fun i hi => by
    rcases List.mem_cons.1 hi with e | e
    · exact .inl (by simp [e])
    · exact .inr (Hf.out i e)))
  refine ⟨rfl, b :: (fp B2 ++ fp Ac), ⟨B2, k2, Ac, c2 - 1, r4, rfl⟩, tall.mono (fun k hk => .inl (by simp at hk; rw [HFF.out]; simp [hk])), fun k hk => ?_⟩
  rw [HFF.out]
  simp only [List.mem_cons, List.mem_append] at hk ⊢
  rcases hk with h1 | h1 | h1
  · exact .inl (.inl h1)
  · rcases hB2 k h1 with h2 | h2
    · exact .inr (Hf.out k h2)
    · exact .inr (Nat.le_trans hwl h2)
  · exact .inl (.inr (.inr (Hsub.out k h1)))
end
end Go.Proofs.Ytlejnbepldpmmaa
