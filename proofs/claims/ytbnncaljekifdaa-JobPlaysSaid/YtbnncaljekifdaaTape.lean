/- tape.Tape: what a tape on the heap is; New, Used, read, Pick, Copy. -/
import Derived.Test.YtbnncaljekifdaaUp
import Derived.Test.YtbnncaljekifdaaCalc
import Derived.Deep.LoopGhost
import Derived.Deep.QuietTactic
import Derived.BigQuiet
import Derived.Outline
import Derived.IntWalk
namespace Go.Proofs.Ytbnncaljekifdaa
open Go.ChangeShapes Go.WideShapes Go.ChangeAt Go.RowKit
set_option linter.unusedVariables false

theorem infoU8 : (Try.prog.info? 5).map (fun i => (i.zero, i.size, i.bytes)) = some (some (.int .u8 0), 1, 1) := by kernel_rfl

/-- two objects have no block in common -/
def Ap (F G : List Nat) : Prop := ∀ k ∈ F, k ∉ G
theorem Ap.symm {F G : List Nat} (h : Ap F G) : Ap G F := fun k hk hm => h k hm hk
/-- bytes that are only read -/
structure RdB (w : World) (A : Option Addr) (n c : Nat) (bs : List Int) : Prop where
  row : Row w .u8 A bs
  len : n = bs.length
  cap : n ≤ c ∧ c ≤ maxLen
  nil : A = none → n = 0 ∧ c = 0
  fit : ∀ n ∈ bs, 0 ≤ n ∧ n ≤ 255
theorem RdB.of_row {w : World} {a : Option Addr} {len cap : Nat} {zs : List Int} (h : IsRow .u8 w a len cap zs) : RdB w a len cap (zs.take len) := by
  obtain ⟨h1, h2, _, h4⟩ := h.row
  have h5 := row_wf h
  exact ⟨h1, h2.symm, ⟨h5.1, h5.2.1⟩, h5.2.2, u8_all h4⟩
theorem RdB.below {w w' : World} {A : Option Addr} {n c : Nat} {bs : List Int} (h : RdB w A n c bs) (hb : Below w.heap.size w w') : RdB w' A n c bs := ⟨h.row.below hb, h.len, h.cap, h.nil, h.fit⟩
theorem RdB.none_ (w : World) : RdB w none 0 0 [] := ⟨.inl rfl, rfl, ⟨Nat.le_refl _, Nat.zero_le _⟩, fun _ => ⟨rfl, rfl⟩, by simp⟩

theorem RdB.two (w : World) (x y : Int) (T : TypeId) (hx : 0 ≤ x ∧ x ≤ 255) (hy : 0 ≤ y ∧ y ≤ 255) : RdB (w.alloc (.cells #[.int .u8 x, .int .u8 y] T)) (some ⟨w.heap.size, 0, none⟩) 2 2 [x, y] := by
  have hb := Bk.new w T #[.int .u8 x, .int .u8 y]
  refine ⟨.inr ⟨_, 0, rfl, fun j hj => ?_⟩, rfl, ⟨Nat.le_refl _, by decide⟩, (fun e => by cases e), by simp; omega⟩
  match j, hj with
  | 0, _ => exact hb.cell 0
  | 1, _ => exact hb.cell 1
/-- a tape in block b: its bytes, which one is next, how many were used -/
structure TB (w : World) (b : Nat) (bs : List Int) (nx us : Nat) (A : Option Addr) (c : Nat) : Prop where
  blk : Bk w b 64 #[.slice A bs.length c, .int .i64 nx, .int .i64 us]
  row : Row w .u8 A bs
  ne : b ∉ fp A
  cap : bs.length ≤ c ∧ c ≤ maxLen
  nil : A = none → bs = [] ∧ c = 0
  fit : ∀ n ∈ bs, 0 ≤ n ∧ n ≤ 255
  at_ : nx ≤ bs.length
  us_ : us ≤ 1000000000000
  low : ∀ k ∈ fp A, k < w.heap.size
section
variable {w w' : World} {b nx us : Nat} {bs : List Int} {A : Option Addr} {c : Nat} {F : List Nat}
theorem TB.turned (h : TB w b bs nx us A c) (ht : Turned F w w') (hb : b ∉ F) (hA : ∀ k ∈ fp A, k ∉ F) : TB w' b bs nx us A c :=
  ⟨h.blk.turned ht hb, h.row.turned ht hA, h.ne, h.cap, h.nil, h.fit, h.at_, h.us_, fun k hk => Nat.lt_of_lt_of_le (h.low k hk) ht.size⟩
theorem TB.over (h : TB w b bs nx us A c) (hb : Below w.heap.size w w') : TB w' b bs nx us A c := h.turned (Turned.of_below hb []) (by simp) (by simp)
theorem TB.next (h : TB w b bs nx us A c) (k : Nat) (hk : k ≤ bs.length) : TB (w.setCell ⟨b, 1, none⟩ (.int .i64 k)) b bs k us A c :=
  ⟨h.blk.put 1 _, h.row.turned (F := [b]) ((Turned.refl _ _).setCell (.inl (by simp)) _) (fun i hi hm => by simp at hm; subst hm; exact h.ne hi), h.ne, h.cap, h.nil, h.fit, hk, h.us_, fun k hk => by simpa [World.setCell] using h.low k hk⟩
theorem TB.use (h : TB w b bs nx us A c) (k : Nat) (hk : k ≤ 1000000000000) : TB (w.setCell ⟨b, 2, none⟩ (.int .i64 k)) b bs nx k A c :=
  ⟨h.blk.put 2 _, h.row.turned (F := [b]) ((Turned.refl _ _).setCell (.inl (by simp)) _) (fun i hi hm => by simp at hm; subst hm; exact h.ne hi), h.ne, h.cap, h.nil, h.fit, h.at_, hk, fun k hk => by simpa [World.setCell] using h.low k hk⟩
theorem TB.c0 (h : TB w b bs nx us A c) : w.cell? ⟨b, 0, none⟩ = some (.slice A bs.length c) := (h.blk.cell 0).trans rfl
theorem TB.c1 (h : TB w b bs nx us A c) : w.cell? ⟨b, 1, none⟩ = some (.int .i64 nx) := (h.blk.cell 1).trans rfl
theorem TB.c2 (h : TB w b bs nx us A c) : w.cell? ⟨b, 2, none⟩ = some (.int .i64 us) := (h.blk.cell 2).trans rfl
theorem TB.set (h : TB w b bs nx us A c) (k : Nat) (u : Value) : Turned [b] w (w.setCell ⟨b, k, none⟩ u) := (Turned.refl _ _).setCell (.inl (by simp)) _

theorem used_any (h : TB w b bs nx us A c) : Calls Try.prog 17 #[.pointer (some ⟨b, 0, none⟩)] w fun e w' => e = .returned (.int .i64 us) ∧ w = w' := by
  have c2 := h.c2
  clear h
  go_enter Try.func17, Try.ntmps17
  go_wp2
  go_ret
  exact ⟨rfl, rfl⟩

/-- which byte is read -/
def rdN (bs : List Int) (nx : Nat) : Nat := if nx = bs.length then 0 else nx
def ReadPost (w : World) (b : Nat) (bs : List Int) (nx us : Nat) (A : Option Addr) (c : Nat) (e : Ending) (w' : World) : Prop :=
  e = .returned (.int .u8 (bs.getD (rdN bs nx) 0)) ∧ TB w' b bs (rdN bs nx + 1) us A c ∧ Turned [b] w w'
theorem read_any (h : TB w b bs nx us A c) (hp : 0 < bs.length) : Calls Try.prog 41 #[.pointer (some ⟨b, 0, none⟩)] w (ReadPost w b bs nx us A c) := by
  obtain ⟨i, hi⟩ : ∃ i, Hid (rdN bs nx = i) := ⟨_, rfl⟩
  have hil : i < bs.length := by rw [← hi.out]; unfold rdN; have := h.at_; split <;> omega
  have hm := h.cap.2
  have hm1 := h.cap.1
  unfold maxLen at hm
  obtain ⟨n, HN⟩ : ∃ n, Hid (bs.length = n) := ⟨_, rfl⟩
  have hA := hidp h.row
  have hfit := hidp h.fit
  have hnb := hidp h.ne
  go_enter Try.func41, Try.ntmps41
  go_wp2
  go_step3
  go_wp2
  go_step3
  go_wp2
  go_loopg [] 1 (fun g wr => ∃ k : Nat, TB wr b bs k us A c ∧ Hid (rdN bs k = i) ∧ Hid (k = bs.length → g = 1) ∧ Turned [b] w wr)
  case atStart => exact ⟨nx, h, hi, hidp (fun _ => rfl), Turned.refl _ _⟩
  case round =>
    obtain ⟨k, hk, hr, hg, ht⟩ := hrel
    clear h
    have c0 := hk.c0
    have c1 := hk.c1
    have f1 := hk.blk.frozen 1
    rw [HN.out] at c0 hm1 hil
    have hkl := hk.at_
    rw [HN.out] at hkl
    by_cases he : k = n
    · subst he
      have Hg : gk = 1 := hg.out HN.out.symm
      have Hi : Hid (i = 0) := hidp (by rw [← hr.out]; unfold rdN; rw [if_pos HN.out.symm])
      go_wp2
      go_quiet (fail)
      go_wp2
      go_roundg 0
      case measure => omega
      case rel =>
        exact ⟨0, (hk.turned ((Turned.refl [] wr).drewN nq) (by simp) (by simp)).next 0 (by omega), hidp (by rw [Hi.out]; unfold rdN; split <;> rfl), hidp (fun e => by omega), (ht.drewN nq).setCell (.inl (by simp)) _⟩
    · have hkn : k < n := by omega
      have hne : ((k : Int) == (n : Int)) = false := by simp; omega
      have Hi : Hid (i = k) := hidp (by rw [← hr.out]; unfold rdN; rw [if_neg (by rw [HN.out]; exact he)])
      obtain ⟨g, off, rfl, hc⟩ := hA.out.resolve_left (by intro e; have := HN.out; subst e; simp at this; omega)
      obtain ⟨x, HX⟩ : ∃ x, Hid (bs.getD k 0 = x) := ⟨_, rfl⟩
      have hrow := hk.row.resolve_left (by intro e; have := HN.out; subst e; simp at this; omega)
      obtain ⟨g', off', e', hc'⟩ := hrow
      injection e' with e'
      injection e' with e1 e2
      subst e1; subst e2
      have c2 : wr.cell? ⟨g, off + k, none⟩ = some (.int .u8 x) := HX.out ▸ hc' k (by rw [HN.out]; exact hkn)
      clear hc hc' he
      go_wp2
      go_quiet (fail)
      have hk1 := hk.turned ((Turned.refl [] wr).drewN nq) (by simp) (by simp)
      have ht1 := ht.drewN nq
      go_wp2
      go_quiet (fail)
      have hk2 := hk1.turned ((Turned.refl [] _).drewN nq) (by simp) (by simp)
      have ht2 := ht1.drewN nq
      go_wp2
      try rw [Exit.noGoto_ret]
      go_ret
      rw [Hi.out] at hi
      refine ⟨by rw [hi.out, HX.out]; rfl, ?_, ?_⟩
      · rw [hi.out]
        have := hk2.next (k + 1) (by rw [HN.out]; omega)
        simpa using this
      · simpa [World.drewN_drewN] using ht2.setCell (p := ⟨b, 1, none⟩) (.inl (by simp)) (.int .i64 ((k : Int) + 1))

/-- how far apart; what is chosen of this byte -/
def spanV (lo hi : Int) : Int := clipV (wrap64 (hi - lo)) 1 65535
def pickI (x lo hi : Int) : Int := lo + x % (spanV lo hi + 1)
theorem span_bd {lo hi : Int} (h : lo < hi) (hl : I64 lo) (hh : I64 hi) : 1 ≤ spanV lo hi ∧ spanV lo hi ≤ 65535 ∧ spanV lo hi ≤ hi - lo := by
  unfold I64 at hl hh
  by_cases h1 : hi - lo ≤ 9223372036854775807
  · have e : wrap64 (hi - lo) = hi - lo := IntWalk.wrap64_in _ (by omega)
    unfold spanV; rw [e]; unfold clipV
    split <;> (try split) <;> omega
  · have e : wrap64 (hi - lo) < 0 := by
      unfold wrap64; omega
    unfold spanV clipV
    rw [if_pos (by omega)]; omega
theorem pickI_bd {x lo hi : Int} (h : lo < hi) (hl : I64 lo) (hh : I64 hi) : lo ≤ pickI x lo hi ∧ pickI x lo hi ≤ hi := by
  obtain ⟨h1, h2, h3⟩ := span_bd h hl hh
  have a := Int.emod_nonneg x (show spanV lo hi + 1 ≠ 0 by omega)
  have b := Int.emod_lt_of_pos x (show 0 < spanV lo hi + 1 by omega)
  unfold pickI; omega

theorem pick_low {lo hi : Int} (h : TB w b bs nx us A c) (hle : hi ≤ lo) : Calls Try.prog 15 #[.pointer (some ⟨b, 0, none⟩), .int .i64 lo, .int .i64 hi] w fun e w' => e = .returned (.int .i64 hi) ∧ w = w' := by
  go_enter Try.func15, Try.ntmps15
  go_wp2
  go_ret
  exact ⟨rfl, rfl⟩
/-- what a Pick leaves -/
def PickPost (w : World) (b : Nat) (bs : List Int) (nx us : Nat) (A : Option Addr) (c : Nat) (v : Int) (e : Ending) (w' : World) : Prop := e = .returned (.int .i64 v) ∧ TB w' b bs nx us A c ∧ Turned [b] w w'
theorem pick_none {lo hi : Int} (h : TB w b [] nx us A c) (hlt : lo < hi) (hu : us < 1000000000000) :
    Calls Try.prog 15 #[.pointer (some ⟨b, 0, none⟩), .int .i64 lo, .int .i64 hi] w (PickPost w b [] nx (us + 1) A c hi) := by
  have c2 := h.c2
  have c0 := (h.use (us + 1) (by omega)).c0
  have f2 := h.blk.frozen 2
  simp only [Int.natCast_add, Int.cast_ofNat_Int, List.length_nil] at c0
  go_enter Try.func15, Try.ntmps15
  go_wp2
  go_ret
  refine ⟨rfl, ?_, h.set 2 _⟩
  simpa using h.use (us + 1) (by omega)
theorem pick_some {lo hi : Int} (h : TB w b bs nx us A c) (hp : 0 < bs.length) (hlt : lo < hi) (hl : I64 lo) (hh : I64 hi) (hu : us < 1000000000000) :
    Calls Try.prog 15 #[.pointer (some ⟨b, 0, none⟩), .int .i64 lo, .int .i64 hi] w (PickPost w b bs (rdN bs nx + 1) (us + 1) A c (pickI (bs.getD (rdN bs nx) 0) lo hi)) := by
  have c2 := h.c2
  have h2 := h.use (us + 1) (by omega)
  have c0 := h2.c0
  have f2 := h.blk.frozen 2
  simp only [Int.natCast_add, Int.cast_ofNat_Int] at c0 h2
  have ht := h.set 2 (.int .i64 ((us : Int) + 1))
  obtain ⟨s1, s2, s3⟩ := span_bd hlt hl hh
  obtain ⟨p1, p2⟩ := pickI_bd (x := bs.getD (rdN bs nx) 0) hlt hl hh
  have hfx : 0 ≤ bs.getD (rdN bs nx) 0 ∧ bs.getD (rdN bs nx) 0 ≤ 255 := by
    have hr : rdN bs nx < bs.length := by unfold rdN; have := h.at_; split <;> omega
    simp only [List.getD, List.getElem?_eq_getElem hr, Option.getD_some]
    exact h.fit _ (List.getElem_mem hr)
  obtain ⟨n, HN⟩ : ∃ n, Hid (bs.length = n) := ⟨_, rfl⟩
  rw [HN.out] at c0
  have hn0 : ((n : Int) == 0) = false := by rw [beq_eq_false_iff_ne]; have := HN.out; omega
  have h2' := hidp h2
  unfold I64 at hl hh
  unfold pickI at p1 p2 ⊢
  unfold spanV at s1 s2 s3 p1 p2 ⊢
  obtain ⟨x, HX⟩ : ∃ x, Hid (bs.getD (rdN bs nx) 0 = x) := ⟨_, rfl⟩
  rw [HX.out] at p1 p2 hfx ⊢
  obtain ⟨d, hd⟩ : ∃ d, wrap64 (hi - lo) = d := ⟨_, rfl⟩
  rw [hd] at s1 s2 s3 p1 p2 ⊢
  obtain ⟨s, hs⟩ : ∃ s, clipV d 1 65535 = s := ⟨_, rfl⟩
  rw [hs] at s1 s2 s3 p1 p2 ⊢
  obtain ⟨r, hr⟩ : ∃ r, x % (s + 1) = r := ⟨_, rfl⟩
  rw [hr] at p1 p2 ⊢
  have hr1 : 0 ≤ r := by rw [← hr]; exact Int.emod_nonneg x (by omega)
  obtain ⟨x1, x2⟩ := hfx
  clear h h2
  go_enter Try.func15, Try.ntmps15
  go_wp2_with (first | (go_at_call 40; (with_reducible refine (clip_any d 1 65535 _).mono ?_); rintro e w' ⟨rfl, rfl⟩) | (go_at_call 41; (with_reducible refine (read_any h2'.out hp).mono ?_); rintro e w3 ⟨he, h3, t3⟩; rw [HX.out] at he; subst he))
  go_ret
  exact ⟨rfl, h3, ht.trans t3 (fun i hi => .inl hi)⟩

/-- a tape, its blocks are F -/
def Tp (w : World) (b : Nat) (bs : List Int) (us : Nat) (F : List Nat) : Prop := ∃ nx A c, TB w b bs nx us A c ∧ Hid (0 < bs.length → rdN bs nx = us % bs.length) ∧ F = b :: fp A
theorem Tp.turned {G : List Nat} (h : Tp w b bs us F) (ht : Turned G w w') (hd : ∀ k ∈ F, k ∉ G) : Tp w' b bs us F := by
  obtain ⟨nx, A, c, h1, h2, rfl⟩ := h
  exact ⟨nx, A, c, h1.turned ht (hd b (by simp)) (fun k hk => hd k (by simp [hk])), h2, rfl⟩
theorem Tp.over (h : Tp w b bs us F) (hb : Below w.heap.size w w') : Tp w' b bs us F := h.turned (Turned.of_below hb []) (by simp)
theorem Tp.lt (h : Tp w b bs us F) : ∀ k ∈ F, k < w.heap.size := by
  obtain ⟨nx, A, c, h1, h2, rfl⟩ := h
  intro k hk
  rcases List.mem_cons.1 hk with rfl | hk
  · exact h1.blk.lt
  · exact h1.low k hk
theorem Tp.head (h : Tp w b bs us F) : b ∈ F := by obtain ⟨nx, A, c, h1, h2, rfl⟩ := h; simp

theorem Tp.keep {G : List Nat} {b2 : Nat} (h : Tp w b bs us F) (ht : Turned [b2] w w') (hb : b2 ∈ G) (ha : Ap G F) : Tp w' b bs us F :=
  h.turned ht fun k hk hm => by simp at hm; subst hm; exact ha _ hb hk
theorem Tp.new {w2 : World} {F2 : List Nat} (h : Tp w b bs us F) (u : Up w.heap.size w w2 F2) : Ap F F2 := fun k hk h2 => by
  have := h.lt k hk
  have := u.blocks k h2
  omega
/-- what is chosen; how many were used behind it -/
def pickV (bs : List Int) (us : Nat) (lo hi : Int) : Int := if hi ≤ lo ∨ bs = [] then hi else pickI (bs.getD (us % bs.length) 0) lo hi
def usedV (us : Nat) (lo hi : Int) : Nat := if hi ≤ lo then us else us + 1
def TpPost (w : World) (b : Nat) (bs : List Int) (us : Nat) (F : List Nat) (v : Int) (e : Ending) (w' : World) : Prop := e = .returned (.int .i64 v) ∧ Tp w' b bs us F ∧ Turned [b] w w'
theorem tpick_any {lo hi : Int} (h : Tp w b bs us F) (hl : I64 lo) (hh : I64 hi) (hu : us < 1000000000000) :
    Calls Try.prog 15 #[.pointer (some ⟨b, 0, none⟩), .int .i64 lo, .int .i64 hi] w (TpPost w b bs (usedV us lo hi) F (pickV bs us lo hi)) := by
  obtain ⟨nx, A, c, h, hn, rfl⟩ := h
  by_cases hle : hi ≤ lo
  · refine (pick_low h hle).mono ?_
    rintro e w' ⟨rfl, rfl⟩
    refine ⟨by unfold pickV; rw [if_pos (.inl hle)], ?_, Turned.refl _ _⟩
    unfold usedV; rw [if_pos hle]; exact ⟨nx, A, c, h, hn, rfl⟩
  · by_cases hb : bs = []
    · subst hb
      refine (pick_none h (by omega) hu).mono ?_
      rintro e w' ⟨rfl, h1, t1⟩
      refine ⟨by unfold pickV; rw [if_pos (.inr rfl)], ?_, t1⟩
      unfold usedV; rw [if_neg hle]; exact ⟨nx, A, c, h1, hidp (by simp), rfl⟩
    · have hp : 0 < bs.length := List.length_pos_iff.2 hb
      refine (pick_some h hp (by omega) hl hh hu).mono ?_
      rintro e w' ⟨rfl, h1, t1⟩
      have e1 := hn.out hp
      refine ⟨by unfold pickV; rw [if_neg (by simp [hb]; omega), e1], ?_, t1⟩
      unfold usedV; rw [if_neg hle]
      refine ⟨_, A, c, h1, hidp fun _ => ?_, rfl⟩
      rw [e1]
      unfold rdN
      have hlt := Nat.mod_lt us hp
      have := Nat.add_mod us 1 bs.length
      split
      · rename_i h3
        rcases Nat.lt_or_ge 1 bs.length with h4 | h4
        · rw [this, Nat.mod_eq_of_lt h4, h3, Nat.mod_self]
        · have : bs.length = 1 := by omega
          rw [this]; omega
      · have h4 : 1 < bs.length := by omega
        rw [this, Nat.mod_eq_of_lt h4, Nat.mod_eq_of_lt (show us % bs.length + 1 < bs.length by omega)]
theorem tused_any (h : Tp w b bs us F) : Calls Try.prog 17 #[.pointer (some ⟨b, 0, none⟩)] w fun e w' => e = .returned (.int .i64 us) ∧ w = w' := by
  obtain ⟨nx, A, c, h, hn, rfl⟩ := h
  exact used_any h

/-- a new tape -/
def NewPost (w : World) (bs : List Int) (us : Nat) (e : Ending) (w' : World) : Prop := ∃ b F, e = .returned (.pointer (some ⟨b, 0, none⟩)) ∧ Tp w' b bs us F ∧ Up w.heap.size w w' F
theorem tnew_any {n : Nat} (h : RdB w A n c bs) (hl : n ≤ 1000000) : Calls Try.prog 13 #[.slice A n c] w (NewPost w bs 0) := by
  obtain ⟨i0, hi0, hz0, hz1, hz2⟩ := info_parts infoU8
  have H1 := hidp h.nil
  have H2 : Hid ((bs.map (Value.int .u8)).length = n * 1) := hidp (by simp [h.len])
  have H3 := hidp h.row.lies
  have H4 := hidp (u8_one (zs := bs))
  have H5 : Hid (0 + n ≤ maxLen) := hidp (by have := h.cap; omega)
  have H6 : Hid ((0 + n) * 1 ≤ 140737488355328) := hidp (by omega)
  have H7 := hidp h.len
  have H8 := hidp h.fit
  clear h
  go_enter Try.func13, Try.ntmps13
  go_wp2_with (at_builtin; refine wpList_app2 _ rfl (.const (.slice none 0 0)) (.tmp 3) 22 rfl w.heap.size 5 i0 (.int .u8 0) 1 1 Try.underlying22 hi0 hz0 hz1 hz2 rfl (by decide) none 0 0 [] rfl (World.ownsRow_nil _ _ _ _) w.heap.size A n c (bs.map (Value.int .u8)) rfl H1.out H2.out H3.out H4.out H5.out H6.out (Nat.le_refl _) ?_; intro A1 c1 w1 happ)
  go_ret
  simp only [Nat.zero_add, List.nil_append] at happ
  have hs := happ.turned.size
  have hf : ∀ k ∈ fp A1, w.heap.size ≤ k ∧ k < w1.heap.size := fun k hk => ⟨(own_fp happ.own k hk).1, (own_fp happ.own k hk).2⟩
  have hn := H7.out
  subst hn
  have hb1 : Below w.heap.size w w1 := happ.turned.below (Nat.le_refl _) (by simp [fp])
  refine ⟨w1.heap.size, w1.heap.size :: fp A1, rfl, ⟨0, A1, c1, ⟨Bk.new _ _ _, ?_, ?_, happ.cap, ?_, H8.out, Nat.zero_le _, by omega, fun k hk => by have := hf k hk; simp; omega⟩, hidp fun _ => ?_, rfl⟩, ?_, ?_, Nat.le_refl _⟩
  · exact (Lies.row (B := w1.heap.size) (Lies.of_own happ.own)).turned (Turned.alloc (Turned.refl [] w1) _) (by simp)
  · intro hm; have := hf _ hm; omega
  · intro e; have := happ.nil e; exact ⟨List.eq_nil_of_length_eq_zero this.1, this.2⟩
  · unfold rdN; split <;> simp
  · exact hb1.alloc (by omega) _
  · intro k hk
    rcases List.mem_cons.1 hk with rfl | hk
    · exact hs
    · exact (hf k hk).1
theorem tcopy_any (h : Tp w b bs us F) (hl : bs.length ≤ 1000000) : Calls Try.prog 14 #[.pointer (some ⟨b, 0, none⟩)] w (NewPost w bs us) := by
  obtain ⟨nx, A, c, h, hn, rfl⟩ := h
  obtain ⟨i0, hi0, hz0, hz1, hz2⟩ := info_parts infoU8
  obtain ⟨n, HN⟩ : ∃ n, Hid (bs.length = n) := ⟨_, rfl⟩
  have c0 := h.c0
  have c1 := h.c1
  have c2 := h.c2
  rw [HN.out] at c0
  have hb := h.blk.lt
  have hr := hidp h.row
  have H1 : Hid (A = none → n = 0 ∧ c = 0) := hidp (fun e => by have := h.nil e; rw [← HN.out, this.1]; exact ⟨rfl, this.2⟩)
  have H2 : Hid ((bs.map (Value.int .u8)).length = n * 1) := hidp (by simp [HN.out])
  have H4 := hidp (u8_one (zs := bs))
  have H5 : Hid (0 + n ≤ maxLen) := hidp (by have := h.cap; rw [← HN.out]; omega)
  have H6 : Hid ((0 + n) * 1 ≤ 140737488355328) := hidp (by rw [← HN.out]; omega)
  have H8 := hidp h.fit
  have H9 := hidp h.at_
  have H10 := hidp h.us_
  clear h
  let u := w.alloc (.cells #[.slice A n c, .int .i64 nx, .int .i64 us] 64)
  have hu : Below w.heap.size w u := (Below.refl _ _).alloc (Nat.le_refl _) _
  have hsu : u.heap.size = w.heap.size + 1 := by simp [u]
  have bk : Bk u w.heap.size 64 #[.slice A n c, .int .i64 nx, .int .i64 us] := Bk.new _ _ _
  have H3 : Hid (Lies u.heap.size u A (bs.map (Value.int .u8))) := hidp ((hr.out.below hu).lies)
  have HZ : Hid (w.heap.size ≤ u.heap.size) := hidp (by omega)
  have g0 : u.cell? ⟨b, 0, none⟩ = some (.slice A n c) := (hu.cell (p := ⟨b, 0, none⟩) hb).trans c0
  have HF : Hid (w.heap.size ∉ fp (none : Option Addr)) := hidp (by simp [fp])
  go_enter Try.func14, Try.ntmps14
  go_wp2_with (at_builtin; go_loud (refine wpList_app2 u rfl (.const (.slice none 0 0)) (.tmp 10) 22 rfl w.heap.size 5 i0 (.int .u8 0) 1 1 Try.underlying22 hi0 hz0 hz1 hz2 rfl (by decide) none 0 0 [] rfl (World.ownsRow_nil _ _ _ _) u.heap.size A n c (bs.map (Value.int .u8)) rfl H1.out H2.out H3.out H4.out H5.out H6.out HZ.out ?_); intro A1 k1 w1 happ; have hb1 := bk.turned happ.turned HF.out; have d1 := hb1.cell 0; have d2 := hb1.frozen 0)
  go_ret
  have happ' := happ
  simp only [Nat.zero_add, List.nil_append] at happ'
  have hs := happ.turned.size
  have hf : ∀ k ∈ fp A1, w.heap.size + 1 ≤ k := fun k hk => by
    rcases happ.fps k hk with h | h
    · simp [fp] at h
    · omega
  have hw1 : Below w.heap.size w w1 := hu.trans (happ.turned.below HZ.out (by simp [fp]))
  have e := HN.out
  subst e
  refine ⟨w.heap.size, w.heap.size :: fp A1, rfl, ⟨nx, A1, k1, ⟨?_, ?_, ?_, happ'.cap, ?_, H8.out, H9.out, H10.out, fun k hk => by simpa [World.setCell] using (own_fp happ'.own k hk).2⟩, hn, rfl⟩, ?_, ?_, Nat.le_refl _⟩
  · have h := hb1.put 0 (.slice A1 (0 + bs.length) k1)
    rw [Nat.zero_add] at h
    simpa using h
  · refine (Lies.row (B := w1.heap.size) (Lies.of_own happ'.own)).turned (F := [w.heap.size]) ((Turned.refl _ _).setCell (.inl (by simp)) _) ?_
    intro k hk hm; have := hf k hk; simp at hm; omega
  · intro hm; have := hf _ hm; omega
  · intro e; have := happ'.nil e; exact ⟨List.eq_nil_of_length_eq_zero this.1, this.2⟩
  · exact hw1.setCell (Nat.le_refl _) _
  · intro k hk
    rcases List.mem_cons.1 hk with rfl | hk
    · exact Nat.le_refl _
    · have := hf k hk; omega
end
end Go.Proofs.Ytbnncaljekifdaa
