/- lock: doors. A line in a block of its own; newDoor, ask, leave, enter. -/
import Derived.Test.YtppgameimddimaaGreatKGateOps
import Derived.Test.YtppgameimddimaaGreatReg
namespace Go.Proofs.YtppgameimddimaaGreat
open Go.ChangeShapes Go.WideShapes Go.ChangeAt Go.RowKit
set_option linter.unusedVariables false
set_option linter.unusedSimpArgs false
/-- a line in a block of its own, b; its blocks are F -/
def LnO (w : World) (b : Nat) (R : Int) (zs : List Int) (F : List Nat) : Prop := ∃ A c, Ln w b 0 122 #[.int .i64 R, .slice A zs.length c] R zs A c ∧ F = b :: fp A
section
variable {w w' : World} {b : Nat} {R : Int} {zs : List Int} {F G : List Nat}
theorem LnO.turned (h : LnO w b R zs F) (ht : Turned G w w') (hd : ∀ k ∈ F, k ∉ G) : LnO w' b R zs F := by
  obtain ⟨A, c, h1, rfl⟩ := h
  exact ⟨A, c, h1.turned ht (hd b (by simp)) (fun k hk => hd k (by simp [hk])), rfl⟩
theorem LnO.over (h : LnO w b R zs F) (hb : Below w.heap.size w w') : LnO w' b R zs F := h.turned (Turned.of_below hb []) (by simp)
theorem LnO.lt (h : LnO w b R zs F) : ∀ k ∈ F, k < w.heap.size := by
  obtain ⟨A, c, h1, rfl⟩ := h
  intro k hk
  rcases List.mem_cons.1 hk with rfl | hk
  · exact h1.blk.lt
  · exact h1.fps k hk
theorem LnPost.stepped {A : Option Addr} {c : Nat} {e0 e : Ending} {ys : List Int} (hp : LnPost w b 0 122 #[.int .i64 R, .slice A zs.length c] R A ys e0 e w') : Stepped w (b :: fp A) (fun w' F' => LnO w' b R ys F') e0 e w' := by
  obtain ⟨he, A', c', h1, ht, hf⟩ := hp
  refine ⟨he, b :: fp A', ⟨A', c', h1, rfl⟩, ht, fun k hk => ?_⟩
  rcases List.mem_cons.1 hk with rfl | hk
  · exact .inl (by simp)
  · exact (hf k hk).imp (fun h => by simp [h]) id
theorem lo_put {id : Int} (h : LnO w b R zs F) (hf : (zs.length : Int) < R) (hi : I64 id) : Calls Tryz.prog 60 #[.pointer (some ⟨b, 0, none⟩), .int .i64 id] w (Stepped w F (fun w' F' => LnO w' b R (zs ++ [id]) F') (.returned (.int .i64 0))) := by
  obtain ⟨A, c, h1, rfl⟩ := h
  exact (ln_put h1 hf hi).mono fun e w' hp => LnPost.stepped hp
theorem lo_takeNil (h : LnO w b R [] F) : Calls Tryz.prog 79 #[.pointer (some ⟨b, 0, none⟩)] w fun e w' => e = .returned (.tuple #[.int .i64 0, .int .i64 13]) ∧ w = w' := by
  obtain ⟨A, c, h1, rfl⟩ := h
  exact ln_takeNil h1
theorem lo_take {x : Int} (h : LnO w b R (x :: zs) F) : Calls Tryz.prog 79 #[.pointer (some ⟨b, 0, none⟩)] w (Stepped w F (fun w' F' => LnO w' b R zs F') (.returned (.tuple #[.int .i64 x, .int .i64 0]))) := by
  obtain ⟨A, c, h1, rfl⟩ := h
  exact (ln_takeCons h1).mono fun e w' hp => LnPost.stepped hp
/-- the line without id -/
def dropI (zs : List Int) (id : Int) : List Int := if plK zs id = true then zs.eraseIdx (plN zs id) else zs
theorem Stepped.same {Q : World → List Nat → Prop} {e : Ending} (h : Q w F) : Stepped w F Q e e w := ⟨rfl, F, h, Turned.refl _ _, fun k hk => .inl hk⟩
theorem lo_drop {id : Int} (h : LnO w b R zs F) : Calls Tryz.prog 71 #[.pointer (some ⟨b, 0, none⟩), .int .i64 id] w (Stepped w F (fun w' F' => LnO w' b R (dropI zs id) F') (.returned (.bool (plK zs id)))) := by
  have h0 := h
  obtain ⟨A, c, h1, rfl⟩ := h
  by_cases hk : plK zs id = true
  · unfold dropI
    rw [if_pos hk, hk]
    exact (ln_dropYes h1 hk).mono fun e w' hp => LnPost.stepped hp
  · unfold dropI
    rw [if_neg hk]
    have hk' : plK zs id = false := by simpa using hk
    rw [hk']
    refine (ln_dropNot h1 hk').mono ?_
    rintro e w' ⟨rfl, rfl⟩
    exact Stepped.same h0
end

/-- a door: its cores, who is in, who stands outside, where both lie -/
structure DrM where
  cores : Int
  ins : List Int
  outs : List Int
  gb : Nat
  lb : Nat
def DrM.val (d : DrM) : Value := .agg #[.int .i64 d.cores, .pointer (some ⟨d.gb, 0, none⟩), .pointer (some ⟨d.lb, 0, none⟩)]
/-- a door on the heap: its blocks are F -/
structure DrOk (w : World) (d : DrM) (F : List Nat) : Prop where
  parts : ∃ F1 F2, Gt w d.gb d.cores d.ins [] F1 ∧ LnO w d.lb 6 d.outs F2 ∧ (∀ k ∈ F1, k ∉ F2) ∧ F = F1 ++ F2
  cores : 1 ≤ d.cores ∧ d.cores ≤ 3
  fit : ∀ n ∈ d.outs, I64 n
section
variable {w w' : World} {d : DrM} {F G : List Nat}
theorem DrOk.turned (h : DrOk w d F) (ht : Turned G w w') (hd : ∀ k ∈ F, k ∉ G) : DrOk w' d F := by
  obtain ⟨⟨F1, F2, h1, h2, h3, rfl⟩, hc, hf⟩ := h
  exact ⟨⟨F1, F2, h1.turned ht (fun k hk => hd k (by simp [hk])), h2.turned ht (fun k hk => hd k (by simp [hk])), h3, rfl⟩, hc, hf⟩
theorem DrOk.over (h : DrOk w d F) (hb : Below w.heap.size w w') : DrOk w' d F := h.turned (Turned.of_below hb []) (by simp)
theorem DrOk.lt (h : DrOk w d F) : ∀ k ∈ F, k < w.heap.size := by
  obtain ⟨⟨F1, F2, h1, h2, h3, rfl⟩, hc⟩ := h
  intro k hk
  rcases List.mem_append.1 hk with hk | hk
  · exact h1.lt k hk
  · exact h2.lt k hk
/-- the gate is another one -/
theorem DrOk.gate {F1 F2 F1' : List Nat} {ins' : List Int} (h1 : Gt w d.gb d.cores d.ins [] F1) (h2 : LnO w d.lb 6 d.outs F2) (h3 : ∀ k ∈ F1, k ∉ F2) (hc : 1 ≤ d.cores ∧ d.cores ≤ 3) (hf : ∀ n ∈ d.outs, I64 n)
    (hg : Gt w' d.gb d.cores ins' [] F1') (ht : Turned F1 w w') (hF : ∀ k ∈ F1', k ∈ F1 ∨ w.heap.size ≤ k) : DrOk w' { d with ins := ins' } (F1' ++ F2) ∧ Turned (F1 ++ F2) w w' ∧ ∀ k ∈ F1' ++ F2, k ∈ F1 ++ F2 ∨ w.heap.size ≤ k := by
  refine ⟨⟨⟨F1', F2, hg, h2.turned ht (fun k hk hm => h3 k hm hk), fun k hk hm => ?_, rfl⟩, hc, hf⟩, ht.mono (fun k hk => .inl (by simp [hk])), fun k hk => ?_⟩
  · rcases hF k hk with h | h
    · exact h3 k h hm
    · have := h2.lt k hm; omega
  · rcases List.mem_append.1 hk with hk | hk
    · exact (hF k hk).imp (fun h => by simp [h]) id
    · exact .inl (by simp [hk])
/-- the line is another one -/
theorem DrOk.line {F1 F2 F2' : List Nat} {outs' : List Int} (h1 : Gt w d.gb d.cores d.ins [] F1) (h2 : LnO w d.lb 6 d.outs F2) (h3 : ∀ k ∈ F1, k ∉ F2) (hc : 1 ≤ d.cores ∧ d.cores ≤ 3) (hf : ∀ n ∈ outs', I64 n)
    (hg : LnO w' d.lb 6 outs' F2') (ht : Turned F2 w w') (hF : ∀ k ∈ F2', k ∈ F2 ∨ w.heap.size ≤ k) : DrOk w' { d with outs := outs' } (F1 ++ F2') ∧ Turned (F1 ++ F2) w w' ∧ ∀ k ∈ F1 ++ F2', k ∈ F1 ++ F2 ∨ w.heap.size ≤ k := by
  refine ⟨⟨⟨F1, F2', h1.turned ht (fun k hk hm => h3 k hk hm), hg, fun k hk hm => ?_, rfl⟩, hc, hf⟩, ht.mono (fun k hk => .inl (by simp [hk])), fun k hk => ?_⟩
  · rcases hF k hm with h | h
    · exact h3 k hk h
    · have := h1.lt k hk; omega
  · rcases List.mem_append.1 hk with hk | hk
    · exact .inl (by simp [hk])
    · exact (hF k hk).imp (fun h => by simp [h]) id
end

/-- three cells written one by one -/
def put3d (w : World) (g : Nat) (v0 v1 v2 : Value) : World := ((w.setCell ⟨g, 0, none⟩ v0).setCell ⟨g, 1, none⟩ v1).setCell ⟨g, 2, none⟩ v2
theorem put3d_bk {w : World} {g : Nat} {t : TypeId} {c0 c1 c2 v0 v1 v2 : Value} (h : Bk w g t #[c0, c1, c2]) : Bk (put3d w g v0 v1 v2) g t #[v0, v1, v2] := by
  have := ((h.put 0 v0).put 1 v1).put 2 v2
  unfold put3d
  simpa using this
theorem put3d_turned (w : World) (g : Nat) (v0 v1 v2 : Value) : Turned [g] w (put3d w g v0 v1 v2) :=
  (((Turned.refl [g] w).setCell (.inl (by simp)) _).setCell (.inl (by simp)) _).setCell (.inl (by simp)) _
theorem Zd3 {w : World} {g : Nat} {t : TypeId} {c0 c1 c2 : Value} (h : Bk w g t #[c0, c1, c2]) : w.cell? ⟨g, 0, none⟩ = some c0 ∧ w.cell? ⟨g, 1, none⟩ = some c1 ∧ w.cell? ⟨g, 2, none⟩ = some c2 := ⟨h.cell 0, h.cell 1, h.cell 2⟩
def DNew (n : Int) (w : World) (e : Ending) (w' : World) : Prop := ∃ g l F, e = .returned (DrM.val ⟨n, [], [], g, l⟩) ∧ DrOk w' ⟨n, [], [], g, l⟩ F ∧ Up w.heap.size w w' F
theorem newDoor_any (n : Int) (w : World) (hn : 1 ≤ n ∧ n ≤ 3) : Calls Tryz.prog 31 #[.int .i64 n] w (DNew n w) := by
  have hn1 : held1 n = n := by unfold held1; omega
  have hi : I64 n := by unfold I64; omega
  have hb0 := (Below.refl w.heap.size w).alloc (Nat.le_refl _) (.cells #[.int .i64 0, .pointer none, .pointer none] 76)
  have bk := Bk.new w 76 #[.int .i64 0, .pointer none, .pointer none]
  have Hn := hidp hn
  clear hn
  go_enter Tryz.func31, Tryz.ntmps31
  go_wp2_with fail
  refine (gnew_any n _ hi).mono ?_
  rintro e w1 ⟨g, F1, rfl, hg, hu⟩
  rw [hn1] at hg
  go_wp2_with fail
  refine (ln_new 6 w1 (by decide)).mono ?_
  rintro e w2 ⟨rfl, rfl⟩
  have hl0 : LnO (w1.alloc (.cells #[.int .i64 (heldR 6), .slice none 0 0] 122)) w1.heap.size 6 [] [w1.heap.size] := ⟨none, 0, Ln.new w1 6, rfl⟩
  have bk2 := (bk.turned (Turned.of_below hu.below []) (by simp)).alloc (.cells #[.int .i64 (heldR 6), .slice none 0 0] 122)
  have f0 := bk2.frozen 0
  have f1 := bk2.frozen 1
  have f2 := bk2.frozen 2
  obtain ⟨x0, x1, x2⟩ := Zd3 bk2
  have PB := put3d_bk bk2 (v0 := .int .i64 n) (v1 := .pointer (some ⟨g, 0, none⟩)) (v2 := .pointer (some ⟨w1.heap.size, 0, none⟩))
  have PT := put3d_turned (w1.alloc (.cells #[.int .i64 (heldR 6), .slice none 0 0] 122)) w.heap.size (.int .i64 n) (.pointer (some ⟨g, 0, none⟩)) (.pointer (some ⟨w1.heap.size, 0, none⟩))
  obtain ⟨r0, r1, r2⟩ := Zd3 PB
  have hsz := hu.below.size
  have hub := hu.blocks
  simp at hsz hub
  have hgl := hg.lt
  have Fin : DrOk (put3d (w1.alloc (.cells #[.int .i64 (heldR 6), .slice none 0 0] 122)) w.heap.size (.int .i64 n) (.pointer (some ⟨g, 0, none⟩)) (.pointer (some ⟨w1.heap.size, 0, none⟩))) ⟨n, [], [], g, w1.heap.size⟩ (F1 ++ [w1.heap.size]) ∧ Up w.heap.size w (put3d (w1.alloc (.cells #[.int .i64 (heldR 6), .slice none 0 0] 122)) w.heap.size (.int .i64 n) (.pointer (some ⟨g, 0, none⟩)) (.pointer (some ⟨w1.heap.size, 0, none⟩))) (F1 ++ [w1.heap.size]) := by
    have ht1 : Turned [] w1 (w1.alloc (.cells #[.int .i64 (heldR 6), .slice none 0 0] 122)) := (Turned.refl [] w1).alloc _
    refine ⟨⟨⟨F1, [w1.heap.size], (hg.turned ht1 (by simp)).turned PT (fun k hk hm => ?_), hl0.turned PT (fun k hk hm => ?_), fun k hk hm => ?_, rfl⟩, Hn.out, by simp⟩, ⟨?_, fun k hk => ?_, Nat.le_refl _⟩⟩
    · simp at hm; have := hub k hk; omega
    · simp at hk hm; omega
    · simp at hm; have := hgl k hk; omega
    · exact ((hb0.trans (hu.below.mono (by simp))).alloc (by omega) _).trans (PT.below (by simp; omega) (by simp))
    · rcases List.mem_append.1 hk with h | h
      · have := hub k h; omega
      · simp at h; omega
  have HF := hidp Fin
  clear Fin hu hub hg hl0 PB PT hgl
  unfold put3d at *
  go_wp2_with fail
  refine bodyPost_ret (v := .agg #[.int .i64 n, .pointer (some ⟨g, 0, none⟩), .pointer (some ⟨w1.heap.size, 0, none⟩)]) (by simp [results, Tryz.results31, go_sem, r0, r1, r2]) rfl ?_
  exact ⟨g, w1.heap.size, _, rfl, HF.out⟩

/-- what an operation on a door leaves -/
def DrPost (w : World) (F : List Nat) (d : DrM) (e0 e : Ending) (w' : World) : Prop := Stepped w F (fun w' F' => DrOk w' d F') e0 e w'
section
variable {w : World} {d : DrM} {F : List Nat}
theorem dask_any {id : Int} (h : DrOk w d F) (hl : d.outs.length < 6) (hi : I64 id) : Calls Tryz.prog 35 #[DrM.val d, .int .i64 id] w (DrPost w F { d with outs := d.outs ++ [id] } (.returned (.tuple #[]))) := by
  have bx := Zd3 (Bk.new w 76 #[.int .i64 d.cores, .pointer (some ⟨d.gb, 0, none⟩), .pointer (some ⟨d.lb, 0, none⟩)])
  have hb := (Below.refl w.heap.size w).alloc (Nat.le_refl _) (.cells #[.int .i64 d.cores, .pointer (some ⟨d.gb, 0, none⟩), .pointer (some ⟨d.lb, 0, none⟩)] 76)
  obtain ⟨b0, b1, b2⟩ := bx
  obtain ⟨⟨F1, F2, h1, h2, h3, rfl⟩, hc, hf⟩ := h
  unfold DrM.val
  have H1 := hidp h1
  have H2 := hidp h2
  have H3 := hidp h3
  have HC := hidp hc
  have HF := hidp hf
  have HB := hidp hb
  clear h1 h2 h3 hc hf hb
  go_enter Tryz.func35, Tryz.ntmps35
  go_wp2_with fail
  refine (lo_put (H2.out.over HB.out) (by omega) hi).mono ?_
  rintro e w1 ⟨rfl, F2', hl', ht, hf'⟩
  go_wp2_with fail
  refine bodyPost_ret (results_none rfl _ _ _) rfl ?_
  have g1 := (H1.out.over HB.out)
  obtain ⟨q1, q2, q3⟩ := DrOk.line (d := d) g1 (H2.out.over HB.out) H3.out HC.out (outs' := d.outs ++ [id]) (fun n hn => (List.mem_append.1 hn).elim (HF.out n) (fun h => by simp at h; subst h; exact hi)) hl' ht hf'
  exact ⟨rfl, _, q1, (Turned.of_below HB.out _).trans q2 (fun i hi => .inl hi), fun k hk => (q3 k hk).imp (fun x => x) (fun h => by simp at h; omega)⟩
/-- the door behind the going of id -/
def leaveD (d : DrM) (id : Int) : DrM := { d with ins := besides d.ins id, outs := dropI d.outs id }
theorem dropI_fit {zs : List Int} {id : Int} (h : ∀ n ∈ zs, I64 n) : ∀ n ∈ dropI zs id, I64 n := by
  unfold dropI
  split
  · exact fun n hn => h n (List.mem_of_mem_eraseIdx hn)
  · exact h
theorem besides_no {is : List Int} {id : Int} (h : plK is id = false) : besides is id = is := by
  have h' : id ∉ is := by simpa [plK] using h
  unfold besides
  rw [List.filter_eq_self]
  intro x hx
  have : x ≠ id := fun e => h' (e ▸ hx)
  simp [this]
theorem dleave_any {id : Int} (h : DrOk w d F) (hi : I64 id) : Calls Tryz.prog 43 #[DrM.val d, .int .i64 id] w (DrPost w F (leaveD d id) (.returned (.tuple #[]))) := by
  have bx := Zd3 (Bk.new w 76 #[.int .i64 d.cores, .pointer (some ⟨d.gb, 0, none⟩), .pointer (some ⟨d.lb, 0, none⟩)])
  have hb := (Below.refl w.heap.size w).alloc (Nat.le_refl _) (.cells #[.int .i64 d.cores, .pointer (some ⟨d.gb, 0, none⟩), .pointer (some ⟨d.lb, 0, none⟩)] 76)
  have BX := hidp (Bk.new w 76 #[.int .i64 d.cores, .pointer (some ⟨d.gb, 0, none⟩), .pointer (some ⟨d.lb, 0, none⟩)])
  obtain ⟨b0, b1, b2⟩ := bx
  have hlt := h.lt
  obtain ⟨⟨F1, F2, h1, h2, h3, rfl⟩, hc, hf⟩ := h
  unfold DrM.val
  have H1 := hidp (h1.over hb)
  have H2 := hidp (h2.over hb)
  have H3 := hidp h3
  have HC := hidp hc
  have HF := hidp hf
  have HB := hidp hb
  have HL := hidp hlt
  clear h1 h2 h3 hc hf hb hlt
  -- the gate's answer, either way
  have hg : Calls Tryz.prog 70 #[.pointer (some ⟨d.gb, 0, none⟩), .int .i64 id] (w.alloc (.cells #[.int .i64 d.cores, .pointer (some ⟨d.gb, 0, none⟩), .pointer (some ⟨d.lb, 0, none⟩)] 76)) (fun e w' => ∃ v F', e = .returned v ∧ Gt w' d.gb d.cores (besides d.ins id) [] F' ∧ Turned F1 (w.alloc (.cells #[.int .i64 d.cores, .pointer (some ⟨d.gb, 0, none⟩), .pointer (some ⟨d.lb, 0, none⟩)] 76)) w' ∧ ∀ k ∈ F', k ∈ F1 ∨ w.heap.size + 1 ≤ k) := by
    by_cases hk : plK d.ins id = true
    · refine (leave_none H1.out hi hk).mono ?_
      rintro e w' ⟨rfl, F', a, b, c⟩
      exact ⟨_, F', rfl, a, b, fun k hk => (c k hk).imp (fun x => x) (fun h => by simpa using h)⟩
    · have hk' : plK d.ins id = false := by simpa using hk
      refine (leave_not H1.out hi hk').mono ?_
      rintro e w' ⟨rfl, hb⟩
      exact ⟨_, F1, rfl, by rw [besides_no hk']; exact H1.out.over hb, Turned.of_below hb _, fun k hk => .inl hk⟩
  go_enter Tryz.func43, Tryz.ntmps43
  go_wp2_with fail
  refine hg.mono ?_
  rintro e w1 ⟨v, F1', rfl, hg', ht, hf'⟩
  have g2 : LnO w1 d.lb 6 d.outs F2 := H2.out.turned ht (fun k hk hm => H3.out k hm hk)
  have hlt2 := H2.out.lt
  have g3 : ∀ k ∈ F1', k ∉ F2 := fun k hk hm => by
    rcases hf' k hk with h | h
    · exact H3.out k h hm
    · have := HL.out k (List.mem_append_right F1 hm); omega
  have hnb : w.heap.size ∉ F1 := fun hm => by have := HL.out _ (List.mem_append_left F2 hm); omega
  obtain ⟨b0, b1, b2⟩ := Zd3 (BX.out.turned ht hnb)
  have e2 := lo_drop (id := id) g2
  go_wp2_with fail
  refine e2.mono ?_
  rintro e w2 ⟨rfl, G2', hl', ht2, hf2⟩
  go_wp2_with fail
  refine bodyPost_ret (results_none rfl _ _ _) rfl ?_
  obtain ⟨p1, p2, p3⟩ := DrOk.line (d := { d with ins := besides d.ins id }) hg' g2 g3 HC.out (outs' := dropI d.outs id) (dropI_fit HF.out) hl' ht2 hf2
  have hs1 := ht.size
  simp at hs1
  refine ⟨rfl, _, p1, (Turned.of_below HB.out _).trans ((ht.mono (G := F1 ++ F2) (fun k hk => .inl (by simp [hk]))).trans p2 (fun k hk => ?_)) (fun i hi => .inl hi), fun k hk => ?_⟩
  · rcases List.mem_append.1 hk with h | h
    · exact (hf' k h).imp (fun h => by simp [h]) (fun h => by simpa using h)
    · exact .inl (by simp [h])
  · rcases p3 k hk with h | h
    · rcases List.mem_append.1 h with h | h
      · exact (hf' k h).imp (fun h => by simp [h]) (fun h => by omega)
      · exact .inl (by simp [h])
    · exact .inr (by omega)
end
end Go.Proofs.YtppgameimddimaaGreat
