/- gate.Gate: Ask and Leave. -/
import Derived.Test.YtppgameimddimaaGreatKGate
namespace Go.Proofs.YtppgameimddimaaGreat
open Go.ChangeShapes Go.WideShapes Go.ChangeAt Go.RowKit
set_option linter.unusedVariables false

section
variable {w w' : World} {b : Nat} {M : Int} {is qs : List Int} {F G : List Nat} {A1 A2 : Option Addr} {c1 c2 : Nat}
theorem Gr.over (h : Gr w b M is qs A1 c1 A2 c2) (hb : Below w.heap.size w w') : Gr w' b M is qs A1 c1 A2 c2 := h.turned (Turned.of_below hb []) (by simp) (by simp) (by simp)
/-- who is in is another row -/
theorem Gr.putIn {w2 : World} {is' : List Int} {A' : Option Addr} {n c' : Nat} (hl : Ln w2 b 2 124 (gcs M is qs A1 c1 A2 c2) 64 qs A2 c2) (hown : w2.ownsRow 0 3 1 (.slice A' n c') n (is'.map (Value.int .i64))) (hn : n = is'.length)
    (hne : b ∉ fp A') (hap : ∀ k ∈ fp A', k ∉ fp A2) (hc : n ≤ c' ∧ c' ≤ maxLen) (hnil : A' = none → n = 0 ∧ c' = 0) (hf : ∀ n ∈ is', I64 n) (hlen : (is'.length : Int) ≤ M ∧ 1 ≤ M ∧ M ≤ 64) :
    Gr (w2.setCell ⟨b, 1, none⟩ (.slice A' n c')) b M is' qs A' c' A2 c2 := by
  subst hn
  have hb : Bk (w2.setCell ⟨b, 1, none⟩ (.slice A' is'.length c')) b 124 (gcs M is' qs A' c' A2 c2) := hl.blk.put 1 _
  exact ⟨⟨hb, rfl, rfl, own_setCell hl.own (p := ⟨b, 1, none⟩) hl.ne _, hl.ne, hl.cap, hl.nil, hl.fit, hl.len⟩, own_setCell hown (p := ⟨b, 1, none⟩) hne _, hne, hap, hc, fun e => ⟨List.eq_nil_of_length_eq_zero (hnil e).1, (hnil e).2⟩, hf, hlen⟩
/-- who waits is another row -/
theorem Gr.putLine {w2 : World} {qs' : List Int} {A' : Option Addr} {c' : Nat} (h : Gr w b M is qs A1 c1 A2 c2) (hl : Ln w2 b 2 124 ((gcs M is qs A1 c1 A2 c2).setIfInBounds 3 (.slice A' qs'.length c')) 64 qs' A' c') (ht : Turned (b :: fp A2) w w2) (hf : ∀ k ∈ fp A', k ∈ fp A2 ∨ w.heap.size ≤ k) :
    Gr w2 b M is qs' A1 c1 A' c' := by
  have hfp := fun k hk => (own_fp h.own k hk).2
  refine ⟨hl, own_turned h.own ht ?_, h.ne, ?_, h.cap, h.nil, h.fit, h.len⟩
  · intro k hk hm
    rcases List.mem_cons.1 hm with rfl | hm
    · exact h.ne hk
    · exact h.apart k hk hm
  · intro k hk hm
    rcases hf k hm with h1 | h1
    · exact h.apart k hk h1
    · have := hfp k hk; omega

theorem ask_in2 {id : Int} (h : Gt w b M is qs F) (hi : I64 id) (hk : plK is id = true) : Calls Tryz.prog 80 #[.pointer (some ⟨b, 0, none⟩), .int .i64 id] w fun e w' => e = .returned (.tuple #[.bool false, .int .i64 17]) ∧ Below w.heap.size w w' := by
  obtain ⟨A1, c1, A2, c2, h, rfl⟩ := h
  have hg := ghas_any h hi
  rw [hk] at hg
  go_enter Tryz.func80, Tryz.ntmps80
  go_wp2_with fail
  refine hg.mono ?_
  rintro e w1 ⟨rfl, hb⟩
  go_wp2_with fail
  go_ret2
  exact ⟨rfl, hb⟩
theorem ask_line2 {id : Int} (h : Gt w b M is qs F) (hi : I64 id) (hk : plK is id = false) (hq : plK qs id = true) : Calls Tryz.prog 80 #[.pointer (some ⟨b, 0, none⟩), .int .i64 id] w fun e w' => e = .returned (.tuple #[.bool false, .int .i64 17]) ∧ Below w.heap.size w w' := by
  obtain ⟨A1, c1, A2, c2, h, rfl⟩ := h
  have hg := ghas_any h hi
  rw [hk] at hg
  go_enter Tryz.func80, Tryz.ntmps80
  go_wp2_with fail
  refine hg.mono ?_
  rintro e w1 ⟨rfl, hb⟩
  have h1 := h.over hb
  go_wp2_with fail
  refine (ln_hasEq h1.ln hq).mono ?_
  rintro e w2 ⟨rfl, rfl⟩
  go_wp2_with fail
  go_ret2
  exact ⟨rfl, hb⟩
theorem ask_full {id : Int} (h : Gt w b M is qs F) (hi : I64 id) (hk : plK is id = false) (hq : plK qs id = false) (hm : (is.length : Int) = M) (hl : qs.length = 64) :
    Calls Tryz.prog 80 #[.pointer (some ⟨b, 0, none⟩), .int .i64 id] w fun e w' => e = .returned (.tuple #[.bool false, .int .i64 12]) ∧ Below w.heap.size w w' := by
  obtain ⟨A1, c1, A2, c2, h, rfl⟩ := h
  have hg := ghas_any h hi
  rw [hk] at hg
  subst hm
  go_enter Tryz.func80, Tryz.ntmps80
  go_wp2_with fail
  refine hg.mono ?_
  rintro e w1 ⟨rfl, hb⟩
  have h1 := h.over hb
  go_wp2_with fail
  refine (ln_hasEq h1.ln hq).mono ?_
  rintro e w2 ⟨rfl, rfl⟩
  have d0 := h1.cell0
  have d1 := h1.cell1
  go_wp2_with fail
  go_quiet (fail)
  have h2 := h1.turned ((Turned.refl [] w1).drewN nq) (by simp) (by simp) (by simp)
  go_wp2_with fail
  refine (ln_putFull (id := id) h2.ln (by omega)).mono ?_
  rintro e w3 ⟨rfl, n3, hw3⟩
  have hb3 : Below w.heap.size w w3 := by rw [hw3]; exact below_drewN (below_drewN hb _) _
  clear hw3
  go_wp2_with fail
  go_ret2
  exact ⟨rfl, hb3⟩
theorem ask_wait {id : Int} (h : Gt w b M is qs F) (hi : I64 id) (hk : plK is id = false) (hq : plK qs id = false) (hm : (is.length : Int) = M) (hl : qs.length < 64) :
    Calls Tryz.prog 80 #[.pointer (some ⟨b, 0, none⟩), .int .i64 id] w (Stepped w F (fun w' F' => Gt w' b M is (qs ++ [id]) F') (.returned (.tuple #[.bool false, .int .i64 0]))) := by
  obtain ⟨A1, c1, A2, c2, h, rfl⟩ := h
  have hg := ghas_any h hi
  rw [hk] at hg
  subst hm
  go_enter Tryz.func80, Tryz.ntmps80
  go_wp2_with fail
  refine hg.mono ?_
  rintro e w1 ⟨rfl, hb⟩
  have h1 := h.over hb
  go_wp2_with fail
  refine (ln_hasEq h1.ln hq).mono ?_
  rintro e w2 ⟨rfl, rfl⟩
  have d0 := h1.cell0
  have d1 := h1.cell1
  go_wp2_with fail
  go_quiet (fail)
  have h2 := h1.turned ((Turned.refl [] w1).drewN nq) (by simp) (by simp) (by simp)
  go_wp2_with fail
  refine (ln_put (id := id) h2.ln (by omega) hi).mono ?_
  rintro e w3 ⟨rfl, A', c', h3, t3, f3⟩
  go_wp2_with fail
  go_ret2
  have hs := hb.size
  refine ⟨rfl, _, ⟨A1, c1, A', c', h2.putLine h3 t3 f3, rfl⟩, ?_, ?_⟩
  · refine ((Turned.of_below hb _).drewN nq).trans (t3.mono (G := b :: (fp A1 ++ fp A2)) ?_) (fun i hi => .inl hi)
    intro k hk
    rcases List.mem_cons.1 hk with rfl | hk
    · left; simp
    · left; simp [hk]
  · intro k hk
    simp only [List.mem_cons, List.mem_append] at hk ⊢
    rcases hk with rfl | hk | hk
    · left; left; rfl
    · left; right; left; exact hk
    · rcases f3 k hk with h4 | h4
      · left; right; right; exact h4
      · right; simp at h4; omega
theorem ask_ok {id : Int} (h : Gt w b M is qs F) (hi : I64 id) (hk : plK is id = false) (hq : plK qs id = false) (hm : (is.length : Int) < M) :
    Calls Tryz.prog 80 #[.pointer (some ⟨b, 0, none⟩), .int .i64 id] w (Stepped w F (fun w' F' => Gt w' b M (is ++ [id]) qs F') (.returned (.tuple #[.bool true, .int .i64 0]))) := by
  obtain ⟨A1, c1, A2, c2, h, rfl⟩ := h
  have hg := ghas_any h hi
  rw [hk] at hg
  have hne : ((is.length : Int) == M) = false := by simp; omega
  have hlen := h.len
  obtain ⟨i0, hi0, hz0, hz1, hz2⟩ := info_parts infoInt
  have K1 : Hid (∀ u ∈ [Value.int .i64 id], u.oneCell' = true) := hidp (by simp; rfl)
  have K5 : Hid (is.length + 1 ≤ maxLen) := hidp (by unfold maxLen; omega)
  have K6 : Hid ((is.length + 1) * 8 ≤ 140737488355328) := hidp (by omega)
  go_enter Tryz.func80, Tryz.ntmps80
  go_wp2_with fail
  refine hg.mono ?_
  rintro e w1 ⟨rfl, hb⟩
  have h1 := h.over hb
  go_wp2_with fail
  refine (ln_hasEq h1.ln hq).mono ?_
  rintro e w2 ⟨rfl, rfl⟩
  have d0 := h1.cell0
  have d1 := h1.cell1
  go_wp2_with fail
  go_quiet (fail)
  have h2 := h1.turned ((Turned.refl [] w1).drewN nq) (by simp) (by simp) (by simp)
  have hown2 := h2.own.alloc (.cells #[.int .i64 id] 3)
  have L1 := hidp (Lies.new1 (w1.drewN nq) (.int .i64 id) 3)
  have h3 := h2.ln.turned (w' := (w1.drewN nq).alloc (.cells #[.int .i64 id] 3)) ((Turned.refl [] _).alloc _) (by simp) (by simp)
  go_wp2_with (at_builtin; refine wpList_app2 _ rfl (.tmp 35) (.tmp 37) 22 rfl 0 3 i0 (.int .i64 0) 1 8 Tryz.underlying22 hi0 hz0 hz1 hz2 rfl (by decide) A1 is.length c1 _ rfl hown2 _ _ 1 1 [.int .i64 id] rfl (by simp) rfl L1.out K1.out K5.out K6.out (Nat.zero_le _) ?_; intro A' c' w3 happ; have h4 := h3.turned happ.turned h.ne (fun k hk hm => h.apart k hm hk); have e1 := (h4.blk.cell 1).trans (show (gcs M is qs A1 c1 A2 c2)[1]? = some (.slice A1 is.length c1) from rfl); have e2 := h4.blk.frozen 1)
  go_ret2
  have hs := hb.size
  have hfp2 : ∀ k ∈ fp A', k ∈ fp A1 ∨ w1.heap.size ≤ k := fun k hk => (happ.fps k hk).imp (fun x => x) (fun x => by simp at x; omega)
  have hlt := h.ln.blk.lt
  have hl2 := h.ln.fps
  refine ⟨rfl, _, ⟨A', c', A2, c2, Gr.putIn (is' := is ++ [id]) h4 (by simpa using happ.own) (by simp) ?_ ?_ happ.cap happ.nil ?_ (by simp; omega), rfl⟩, ?_, ?_⟩
  · intro hk
    rcases hfp2 b hk with h5 | h5
    · exact h.ne h5
    · omega
  · intro k hk hm
    rcases hfp2 k hk with h5 | h5
    · exact h.apart k h5 hm
    · have := hl2 k hm; omega
  · intro n hn
    rcases List.mem_append.1 hn with h5 | h5
    · exact h.fit n h5
    · simp at h5; subst h5; exact hi
  · refine ((((Turned.of_below hb _).drewN nq).alloc _).trans (happ.turned.mono (G := b :: (fp A1 ++ fp A2)) (fun k hk => .inl (by simp [hk]))) (fun i hi => .inl hi)).setCell (p := ⟨b, 1, none⟩) (.inl (by simp)) _
  · intro k hk
    simp only [List.mem_cons, List.mem_append] at hk ⊢
    rcases hk with rfl | hk | hk
    · left; left; rfl
    · rcases hfp2 k hk with h5 | h5
      · left; right; left; exact h5
      · right; omega
    · left; right; right; exact hk

theorem leave_not {id : Int} (h : Gt w b M is qs F) (hi : I64 id) (hk : plK is id = false) : Calls Tryz.prog 70 #[.pointer (some ⟨b, 0, none⟩), .int .i64 id] w fun e w' => e = .returned (.tuple #[.int .i64 0, .bool false, .int .i64 13]) ∧ Below w.heap.size w w' := by
  obtain ⟨A1, c1, A2, c2, h, rfl⟩ := h
  have hg := beside_any h hi
  go_enter Tryz.func70, Tryz.ntmps70
  go_wp2_with fail
  refine hg.mono ?_
  rintro e w1 ⟨A, c, rfl, ho, hb⟩
  clear ho
  go_wp2_with fail
  go_ret3
  exact ⟨rfl, hb⟩
theorem besides_fit {id : Int} (h : ∀ n ∈ is, I64 n) : ∀ n ∈ besides is id, I64 n := fun n hn => h n (List.mem_filter.1 hn).1
theorem besides_lt {id : Int} (h : plK is id = true) : (besides is id).length < is.length := by
  have hm : id ∈ is := by simpa [plK] using h
  unfold besides
  refine Nat.lt_of_le_of_ne (List.length_filter_le _ _) fun e => ?_
  have := List.length_filter_eq_length_iff.1 e id hm
  simp at this
theorem leave_none {id : Int} (h : Gt w b M is [] F) (hi : I64 id) (hk : plK is id = true) :
    Calls Tryz.prog 70 #[.pointer (some ⟨b, 0, none⟩), .int .i64 id] w (Stepped w F (fun w' F' => Gt w' b M (besides is id) [] F') (.returned (.tuple #[.int .i64 0, .bool false, .int .i64 0]))) := by
  obtain ⟨A1, c1, A2, c2, h, rfl⟩ := h
  have hg := beside_any h hi
  have Hlt := hidp (besides_lt hk)
  go_enter Tryz.func70, Tryz.ntmps70
  go_wp2_with fail
  refine hg.mono ?_
  rintro e w1 ⟨A, c, rfl, ho, hb⟩
  have h1 := h.over hb
  go_wp2_with fail
  refine (ln_takeNil h1.ln).mono ?_
  rintro e w2 ⟨rfl, rfl⟩
  have e1 := h1.cell1
  have e2 := h1.ln.blk.frozen 1
  go_wp2_with fail
  go_ret3
  have hs := hb.size
  have hlt := h.ln.blk.lt
  have hl2 := h.ln.fps
  have hlen := h.len
  have hA := fun k hk => (own_fp ho.1 k hk).1
  refine ⟨rfl, _, ⟨A, c, A2, c2, Gr.putIn (is' := besides is id) h1.ln (own_base ho.1 (fun _ _ => Nat.zero_le _)) rfl (fun hk => by have := hA b hk; omega) (fun k hk hm => by have := hA k hk; have := hl2 k hm; omega) ⟨ho.2.2.1, ho.2.2.2.1⟩ ho.2.2.2.2 (besides_fit h.fit) (by have := Hlt.out; omega), rfl⟩, ?_, ?_⟩
  · exact (Turned.of_below hb _).setCell (p := ⟨b, 1, none⟩) (.inl (by simp)) _
  · intro k hk
    simp only [List.mem_cons, List.mem_append] at hk ⊢
    rcases hk with rfl | hk | hk
    · left; left; rfl
    · right; exact hA k hk
    · left; right; right; exact hk
theorem leave_next {id x : Int} (h : Gt w b M is (x :: qs) F) (hi : I64 id) (hk : plK is id = true) :
    Calls Tryz.prog 70 #[.pointer (some ⟨b, 0, none⟩), .int .i64 id] w (Stepped w F (fun w' F' => Gt w' b M (besides is id ++ [x]) qs F') (.returned (.tuple #[.int .i64 x, .bool true, .int .i64 0]))) := by
  obtain ⟨A1, c1, A2, c2, h, rfl⟩ := h
  have hg := beside_any h hi
  have Hlt := hidp (besides_lt hk)
  have hlen := h.len
  obtain ⟨i0, hi0, hz0, hz1, hz2⟩ := info_parts infoInt
  have hlt := h.ln.blk.lt
  have hl2 := h.ln.fps
  have K1 : Hid (∀ u ∈ [Value.int .i64 x], u.oneCell' = true) := hidp (by simp; rfl)
  obtain ⟨n, Hn⟩ : ∃ n, Hid ((besides is id).length = n) := ⟨_, rfl⟩
  have hn := Hlt.out
  rw [Hn.out] at hn
  have K5 : Hid (n + 1 ≤ maxLen) := hidp (by unfold maxLen; omega)
  have K6 : Hid ((n + 1) * 8 ≤ 140737488355328) := hidp (by omega)
  go_enter Tryz.func70, Tryz.ntmps70
  go_wp2_with fail
  refine hg.mono ?_
  rintro e w1 ⟨A, c, rfl, ho, hb⟩
  rw [Hn.out] at ho ⊢
  have h1 := h.over hb
  have hs := hb.size
  have hA := fun k hk => (own_fp ho.1 k hk).1
  go_wp2_with fail
  refine (ln_takeCons h1.ln).mono ?_
  rintro e w2 ⟨rfl, A', c', h3, t3, f3⟩
  have hnA : b ∉ fp A := fun hk => by have := hA b hk; omega
  have hown := own_turned ho.1 t3 (fun k hk hm => by
    have h5 := hA k hk
    rcases List.mem_cons.1 hm with rfl | hm
    · omega
    · have := hl2 k hm; omega)
  have hown2 := hown.alloc (.cells #[.int .i64 x] 3)
  have L1 := hidp (Lies.new1 w2 (.int .i64 x) 3)
  have Hsz : Hid (w.heap.size ≤ (w2.alloc (.cells #[.int .i64 x] 3)).heap.size) := hidp (Nat.le_trans hs (Nat.le_trans t3.size (by simp)))
  have hdA : ∀ k ∈ fp A', k ∉ fp A := fun k hk hm => by
    have h5 := (own_fp ho.1 k hm)
    rcases f3 k hk with h6 | h6
    · have := hl2 k h6; omega
    · omega
  have h4 := (h1.putLine h3 t3 f3).ln.turned (w' := w2.alloc (.cells #[.int .i64 x] 3)) ((Turned.refl [] _).alloc _) (by simp) (by simp)
  go_wp2_with (at_builtin; refine wpList_app2 _ rfl (.tmp 28) (.tmp 30) 22 rfl w.heap.size 3 i0 (.int .i64 0) 1 8 Tryz.underlying22 hi0 hz0 hz1 hz2 rfl (by decide) A n c _ rfl hown2 _ _ 1 1 [.int .i64 x] rfl (by simp) rfl L1.out K1.out K5.out K6.out Hsz.out ?_; intro A5 c5 w5 happ; have h5 := h4.turned happ.turned hnA hdA; have e1 := (h5.blk.cell 1).trans (show (gcs M is qs A1 c1 A' c')[1]? = some (.slice A1 is.length c1) from rfl); have e2 := h5.blk.frozen 1)
  go_ret3
  have hs3 := t3.size
  have hfp2 : ∀ k ∈ fp A5, k ∈ fp A ∨ w2.heap.size ≤ k := fun k hk => (happ.fps k hk).imp (fun x => x) (fun x => by simp at x; omega)
  have hfp3 := h3.fps
  have hlen2 : ((besides is id ++ [x]).length : Int) ≤ M ∧ 1 ≤ M ∧ M ≤ 64 := by simp [Hn.out]; omega
  refine ⟨rfl, _, ⟨A5, c5, A', c', Gr.putIn (is' := besides is id ++ [x]) h5 (by simpa using own_base (base' := 0) happ.own (fun _ _ => Nat.zero_le _)) (by simp [Hn.out]) ?_ ?_ happ.cap happ.nil ?_ hlen2, rfl⟩, ?_, ?_⟩
  · intro hk
    rcases hfp2 b hk with h6 | h6
    · exact hnA h6
    · omega
  · intro k hk hm
    rcases hfp2 k hk with h6 | h6
    · exact hdA k hm h6
    · have := hfp3 k hm; omega
  · intro m hm
    rcases List.mem_append.1 hm with h6 | h6
    · exact besides_fit h.fit m h6
    · simp at h6; subst h6; exact h.ln.fit _ (by simp)
  · refine (((Turned.of_below hb (b :: (fp A1 ++ fp A2))).trans (t3.mono (G := b :: (fp A1 ++ fp A2)) ?_) (fun i hi => .inl hi)).alloc _).trans (happ.turned) ?_ |>.setCell (p := ⟨b, 1, none⟩) (.inl (by simp)) _
    · intro k hk
      rcases List.mem_cons.1 hk with rfl | hk
      · left; simp
      · left; simp [hk]
    · intro k hk; right; exact hA k hk
  · intro k hk
    simp only [List.mem_cons, List.mem_append] at hk ⊢
    rcases hk with rfl | hk | hk
    · left; left; rfl
    · right
      rcases hfp2 k hk with h6 | h6
      · exact hA k h6
      · omega
    · rcases f3 k hk with h6 | h6
      · left; right; right; exact h6
      · right; omega
end
end Go.Proofs.YtppgameimddimaaGreat
