/- gate.Gate: what a gate is on the heap; New, beside, Has, In, Line, Ask, Leave. -/
import Derived.Test.YtppgameimddimaaGreatKLineDel
import Derived.Test.YtppgameimddimaaGreatUp
namespace Go.Proofs.YtppgameimddimaaGreat
open Go.ChangeShapes Go.WideShapes Go.ChangeAt Go.RowKit
set_option linter.unusedVariables false

/-- the cells of a gate -/
def gcs (M : Int) (is qs : List Int) (A1 : Option Addr) (c1 : Nat) (A2 : Option Addr) (c2 : Nat) : Array Value := #[.int .i64 M, .slice A1 is.length c1, .int .i64 64, .slice A2 qs.length c2]
/-- a gate in block b: who is in, who waits -/
structure Gr (w : World) (b : Nat) (M : Int) (is qs : List Int) (A1 : Option Addr) (c1 : Nat) (A2 : Option Addr) (c2 : Nat) : Prop where
  ln : Ln w b 2 124 (gcs M is qs A1 c1 A2 c2) 64 qs A2 c2
  own : w.ownsRow 0 3 1 (.slice A1 is.length c1) is.length (is.map (Value.int .i64))
  ne : b ∉ fp A1
  apart : ∀ k ∈ fp A1, k ∉ fp A2
  cap : is.length ≤ c1 ∧ c1 ≤ maxLen
  nil : A1 = none → is = [] ∧ c1 = 0
  fit : ∀ n ∈ is, I64 n
  len : (is.length : Int) ≤ M ∧ 1 ≤ M ∧ M ≤ 64
/-- the same, its blocks are F -/
def Gt (w : World) (b : Nat) (M : Int) (is qs : List Int) (F : List Nat) : Prop := ∃ A1 c1 A2 c2, Gr w b M is qs A1 c1 A2 c2 ∧ F = b :: (fp A1 ++ fp A2)

section
variable {w w' : World} {b : Nat} {M : Int} {is qs : List Int} {F G : List Nat} {A1 A2 : Option Addr} {c1 c2 : Nat}
theorem Gr.turned (h : Gr w b M is qs A1 c1 A2 c2) (ht : Turned G w w') (hb : b ∉ G) (h1 : ∀ k ∈ fp A1, k ∉ G) (h2 : ∀ k ∈ fp A2, k ∉ G) : Gr w' b M is qs A1 c1 A2 c2 :=
  ⟨h.ln.turned ht hb h2, own_turned h.own ht h1, h.ne, h.apart, h.cap, h.nil, h.fit, h.len⟩
theorem Gt.turned (h : Gt w b M is qs F) (ht : Turned G w w') (hd : ∀ k ∈ F, k ∉ G) : Gt w' b M is qs F := by
  obtain ⟨A1, c1, A2, c2, h1, rfl⟩ := h
  exact ⟨A1, c1, A2, c2, h1.turned ht (hd b (by simp)) (fun k hk => hd k (by simp [hk])) (fun k hk => hd k (by simp [hk])), rfl⟩
theorem Gt.over (h : Gt w b M is qs F) (hb : Below w.heap.size w w') : Gt w' b M is qs F := h.turned (Turned.of_below hb []) (by simp)
theorem Gt.lt (h : Gt w b M is qs F) : ∀ k ∈ F, k < w.heap.size := by
  obtain ⟨A1, c1, A2, c2, h1, rfl⟩ := h
  intro k hk
  simp only [List.mem_cons, List.mem_append] at hk
  rcases hk with rfl | hk | hk
  · exact h1.ln.blk.lt
  · exact (own_fp h1.own k hk).2
  · exact h1.ln.fps k hk
theorem Gr.row (h : Gr w b M is qs A1 c1 A2 c2) : Row w .i64 A1 is := Lies.row (B := w.heap.size) (Lies.of_own h.own)
theorem Gr.cell0 (h : Gr w b M is qs A1 c1 A2 c2) : w.cell? ⟨b, 0, none⟩ = some (.int .i64 M) := (h.ln.blk.cell 0).trans rfl
theorem Gr.cell1 (h : Gr w b M is qs A1 c1 A2 c2) : w.cell? ⟨b, 1, none⟩ = some (.slice A1 is.length c1) := (h.ln.blk.cell 1).trans rfl

/-- a number held from 1 to 64 -/
def held1 (n : Int) : Int := max 1 (min n 64)
theorem held1_bd (n : Int) : 1 ≤ held1 n ∧ held1 n ≤ 64 := by unfold held1; omega
def GNew (n : Int) (w : World) (e : Ending) (w' : World) : Prop := ∃ b F, e = .returned (.pointer (some ⟨b, 0, none⟩)) ∧ Gt w' b (held1 n) [] [] F ∧ Up w.heap.size w w' F
theorem gnew_any (n : Int) (w : World) (hn : I64 n) : Calls Tryz.prog 57 #[.int .i64 n] w (GNew n w) := by
  unfold I64 at hn
  go_enter Tryz.func57, Tryz.ntmps57
  go_wp2_with (go_at_call 58; (with_reducible refine (ln_new 64 _ (by decide)).mono ?_); rintro e w' ⟨rfl, rfl⟩)
  go_ret
  have hb : Bk ((w.alloc (.cells #[.int .i64 (heldR 64), .slice none 0 0] 122)).alloc (.cells (gcs (held1 n) [] [] none 0 none 0) 124)) (w.heap.size + 1) 124 (gcs (held1 n) [] [] none 0 none 0) := by
    have h := Bk.new (w.alloc (.cells #[.int .i64 (heldR 64), .slice none 0 0] 122)) 124 (gcs (held1 n) [] [] none 0 none 0)
    simpa using h
  refine ⟨w.heap.size + 1, [w.heap.size + 1], rfl, ⟨none, 0, none, 0, ⟨⟨hb, rfl, rfl, World.ownsRow_nil _ _ _ _, by simp [fp], by decide, fun _ => ⟨rfl, rfl⟩, by simp, by simp⟩, World.ownsRow_nil _ _ _ _, by simp [fp], by simp [fp], by decide, fun _ => ⟨rfl, rfl⟩, by simp, by have := held1_bd n; simp; omega⟩, by simp [fp]⟩, ?_⟩
  exact ⟨((Below.refl _ _).alloc (Nat.le_refl _) _).alloc (by simp) _, by simp, Nat.le_refl _⟩

/-- who is in beside id -/
def besides (is : List Int) (id : Int) : List Int := is.filter (fun x => !(x == id))
def BesidePost (w : World) (is : List Int) (id : Int) (e : Ending) (w' : World) : Prop :=
  ∃ A c, e = .returned (.tuple #[.slice A (besides is id).length c, .bool (plK is id)]) ∧ OwnInts w.heap.size w' A (besides is id).length c (besides is id) ∧ Below w.heap.size w w'
theorem besides_hit {k : Nat} {id : Int} (hk : k < is.length) (he : is.getD k 0 = id) : besides (is.take (k + 1)) id = besides (is.take k) id ∧ plK (is.take (k + 1)) id = true := by
  unfold besides plK
  rw [take_snoc is k hk, he]; simp
theorem besides_miss {k : Nat} {id : Int} (hk : k < is.length) (he : is.getD k 0 ≠ id) : besides (is.take (k + 1)) id = besides (is.take k) id ++ [is.getD k 0] ∧ plK (is.take (k + 1)) id = plK (is.take k) id := by
  unfold besides plK
  rw [take_snoc is k hk]
  generalize is.getD k 0 = y at he
  constructor
  · simp [he]
  · simp only [List.mem_append, List.mem_singleton]
    congr 1
    simp only [eq_iff_iff, or_iff_left_iff_imp]
    intro h; exact absurd h.symm he
theorem besides_le (l : List Int) (id : Int) : (besides l id).length ≤ l.length := List.length_filter_le _ _

theorem beside_any {id : Int} (h : Gr w b M is qs A1 c1 A2 c2) (hi : I64 id) : Calls Tryz.prog 98 #[.pointer (some ⟨b, 0, none⟩), .int .i64 id] w (BesidePost w is id) := by
  have k1 := h.cell1
  have hrow := hidp h.row
  have hl := h.len
  have hfit := hidp h.fit
  obtain ⟨i0, hi0, hz0, hz1, hz2⟩ := info_parts infoInt
  clear h
  go_enter Tryz.func98, Tryz.ntmps98
  go_wp2
  go_step3
  go_wp2
  go_step3
  go_wp2
  go_loopg [6, 7, 15] is.length (fun g o f i wr => ∃ (k n : Nat) (A : Option Addr) (c : Nat) (v : Bool), k + g = is.length ∧ i = .int .i64 k ∧ o = .slice A n c ∧ f = .bool v ∧ n ≤ 64 ∧ Hid (plK (is.take k) id = v) ∧ OwnInts w.heap.size wr A n c (besides (is.take k) id) ∧ Below w.heap.size w wr)
  case atStart => exact ⟨0, 0, none, 0, false, by omega, rfl, rfl, rfl, by omega, hidp (by simp [plK]), ⟨World.ownsRow_nil _ _ _ _, rfl, Nat.le_refl _, by decide, fun _ => ⟨rfl, rfl⟩⟩, Below.refl _ _⟩
  case round =>
    obtain ⟨k, n, A, c, v, hk, rfl, rfl, rfl, hn, hv, hown, hbe⟩ := hrel
    by_cases hlt : k < is.length
    · obtain ⟨g, off, hA, hc⟩ := hrow.out.resolve_left (by intro e; simp [e] at hlt)
      subst hA
      obtain ⟨x, HX⟩ : ∃ x, Hid (is.getD k 0 = x) := ⟨_, rfl⟩
      have ck : wr.cell? ⟨g, off + k, none⟩ = some (.int .i64 x) := (hbe.cell (cell_lt (hc k hlt))).trans (HX.out ▸ hc k hlt)
      clear hc k1
      by_cases he : x = id
      · have he' : (x == id) = true := by simpa using he
        have H1 := hidp (besides_hit hlt (HX.out.trans he))
        clear he
        go_wp2
        go_roundg (gk - 1)
        case measure => omega
        case rel => exact ⟨k + 1, n, A, c, true, by omega, by go_num, rfl, rfl, hn, hidp H1.out.2, by rw [H1.out.1]; exact hown, hbe⟩
      · have he' : (x == id) = false := by simpa using he
        have H1 := hidp (besides_miss hlt (by rw [HX.out]; exact he))
        clear he
        have K1 : Hid (∀ u ∈ [Value.int .i64 x], u.oneCell' = true) := hidp (by simp; rfl)
        have K5 : Hid (n + 1 ≤ maxLen) := hidp (by unfold maxLen; omega)
        have K6 : Hid ((n + 1) * 8 ≤ 140737488355328) := hidp (by omega)
        have hn63 : n + 1 ≤ 64 := by
          have h1 := hown.2.1
          have h2 := besides_le (is.take k) id
          simp at h2; omega
        have L1 := hidp (Lies.new1 wr (.int .i64 x) 3)
        have hown2 := hown.1.alloc (.cells #[.int .i64 x] 3)
        have Hsz : Hid (w.heap.size ≤ (wr.alloc (.cells #[.int .i64 x] 3)).heap.size) := hidp (Nat.le_trans hbe.size (by simp))
        go_wp2_with (at_builtin; refine wpList_app2 _ rfl (.tmp 23) (.tmp 25) 22 rfl w.heap.size 3 i0 (.int .i64 0) 1 8 Tryz.underlying22 hi0 hz0 hz1 hz2 rfl (by decide) A n c _ rfl hown2 _ _ 1 1 [.int .i64 x] rfl (by simp) rfl L1.out K1.out K5.out K6.out Hsz.out ?_; intro A' c' w1 happ)
        go_roundg (gk - 1)
        case measure => omega
        case rel =>
          refine ⟨k + 1, n + 1, A', c', v, by omega, by go_num, rfl, rfl, hn63, hidp (by rw [H1.out.2]; exact hv.out), ⟨?_, ?_, happ.cap.1, happ.cap.2, happ.nil⟩, ?_⟩
          · rw [H1.out.1, HX.out]; simpa using happ.own
          · rw [H1.out.1]; simp; exact hown.2.1
          · exact (hbe.alloc hbe.size _).trans (happ.turned.below (Hsz.out) (fun k hk => (own_fp hown.1 k hk).1))
    · obtain rfl : k = is.length := by omega
      rw [List.take_length] at hown hv
      go_wp2
      try rw [Exit.noGoto_ret]
      go_ret2
      have h1 := hown.2.1
      subst h1
      exact ⟨A, c, by rw [hv.out]; rfl, hown, hbe⟩

theorem ghas_any {id : Int} (h : Gr w b M is qs A1 c1 A2 c2) (hi : I64 id) : Calls Tryz.prog 108 #[.pointer (some ⟨b, 0, none⟩), .int .i64 id] w fun e w' => e = .returned (.bool (plK is id)) ∧ Below w.heap.size w w' := by
  go_enter Tryz.func108, Tryz.ntmps108
  go_wp2_with fail
  refine (beside_any h hi).mono ?_
  rintro e w1 ⟨A, c, rfl, ho, hb⟩
  clear ho
  go_wp2_with fail
  go_ret
  exact ⟨rfl, hb⟩
theorem gin_any (h : Gr w b M is qs A1 c1 A2 c2) : Calls Tryz.prog 78 #[.pointer (some ⟨b, 0, none⟩)] w (LnAll w is) := by
  have k1 := h.cell1
  have hl := h.len
  have H1 : Hid (A1 = none → is.length = 0 ∧ c1 = 0) := hidp fun e => ⟨by rw [(h.nil e).1]; rfl, (h.nil e).2⟩
  have H2 : Hid ((is.map (Value.int .i64)).length = is.length * 1) := hidp (by simp)
  have H3 := hidp h.row.lies
  have H4 : Hid (∀ u ∈ is.map (Value.int .i64), u.oneCell' = true) := hidp fun u hu => by obtain ⟨n, _, rfl⟩ := List.mem_map.1 hu; rfl
  have H5 : Hid (0 + is.length ≤ maxLen) := hidp (by have := h.cap; omega)
  have H6 : Hid ((0 + is.length) * 8 ≤ 140737488355328) := hidp (by omega)
  obtain ⟨i0, hi0, hz0, hz1, hz2⟩ := info_parts infoInt
  clear h
  go_enter Tryz.func78, Tryz.ntmps78
  go_wp2_with (at_builtin; refine wpList_app2 _ rfl (.const (.slice none 0 0)) (.tmp 6) 22 rfl w.heap.size 3 i0 (.int .i64 0) 1 8 Tryz.underlying22 hi0 hz0 hz1 hz2 rfl (by decide) none 0 0 [] rfl (World.ownsRow_nil _ _ _ _) w.heap.size A1 is.length c1 (is.map (Value.int .i64)) rfl H1.out H2.out H3.out H4.out H5.out H6.out (Nat.le_refl _) ?_; intro A' c' w1 happ; simp only [Nat.zero_add, List.nil_append] at happ)
  go_ret
  exact ⟨A', c', rfl, ⟨happ.own, rfl, happ.cap.1, happ.cap.2, happ.nil⟩, happ.turned.below (Nat.le_refl _) (by simp [fp])⟩
end
end Go.Proofs.YtppgameimddimaaGreat
