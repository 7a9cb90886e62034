/- RankPlays: the rank and the reference's side by side; each operation with one answer for every state. -/
import Derived.Test.YtpcbonljbfbdmaaPlayNums
namespace Go.Proofs.Ytpcbonljbfbdmaa
open Go.ChangeShapes Go.WideShapes Go.ChangeAt Go.RowKit
set_option linter.unusedVariables false
set_option linter.unusedSimpArgs false
structure TwoR (W w : World) (b : Nat) (R P : Int) (l : List EntM) (A : Option Addr) (c : Nat) (b2 : Nat) (ps : List (Int × Int)) (A2 : Option Addr) (c2 : Nat) : Prop where
  up : RkUp W.heap.size W w b R P l A c
  rf : Rr w b2 R ps A2 c2
  lo : ∀ k ∈ b2 :: fp A2, W.heap.size ≤ k
  sep : ∀ k ∈ b2 :: fp A2, k ∉ b :: fp A
section
variable {W w w' : World} {b b2 : Nat} {R P : Int} {l : List EntM} {A A2 : Option Addr} {c c2 : Nat} {ps : List (Int × Int)}
theorem TwoR.lts (h : TwoR W w b R P l A c b2 ps A2 c2) : ∀ k ∈ b2 :: fp A2, k < w.heap.size := fun k hk => by
  rcases List.mem_cons.1 hk with rfl | hk
  · exact h.rf.blk.lt
  · exact h.rf.fps k hk
theorem TwoR.over (h : TwoR W w b R P l A c b2 ps A2 c2) (hb : Below w.heap.size w w') : TwoR W w' b R P l A c b2 ps A2 c2 :=
  ⟨h.up.over hb, h.rf.turned (F := []) (Turned.of_below hb []) (by simp) (by simp), h.lo, h.sep⟩
theorem TwoR.put1 {m : List EntM} {Q : Int} {r e : Ending} (h : TwoR W w b R P l A c b2 ps A2 c2) (hp : RkPost w b R Q m A r e w') : e = r ∧ Turned (b :: fp A) w w' ∧ ∃ A' c', TwoR W w' b R Q m A' c' b2 ps A2 c2 := by
  obtain ⟨he, A', c', h2, ht, hf⟩ := hp
  obtain ⟨_, A3, c3, h3⟩ := h.up.put ⟨he, A', c', h2, ht, hf⟩
  refine ⟨he, ht, A', c', ⟨h2, h.up.up.below.trans (ht.below (Nat.le_trans h.up.up.base h.up.up.below.size) h.up.up.blocks), fun k hk => ?_, h.up.up.base⟩, h.rf.turned ht (h.sep b2 List.mem_cons_self) (fun k hk => h.sep k (List.mem_cons_of_mem _ hk)), h.lo, fun k hk hk2 => ?_⟩
  · rcases List.mem_cons.1 hk with rfl | hk
    · exact h.up.up.blocks _ List.mem_cons_self
    · rcases hf k hk with g | g
      · exact h.up.up.blocks _ (List.mem_cons_of_mem _ g)
      · exact Nat.le_trans (Nat.le_trans h.up.up.base h.up.up.below.size) g
  · have hlt := h.lts k hk
    rcases List.mem_cons.1 hk2 with rfl | hk2
    · exact h.sep _ hk List.mem_cons_self
    · rcases hf k hk2 with g | g
      · exact h.sep _ hk (List.mem_cons_of_mem _ g)
      · omega
theorem TwoR.took1 {m : List EntM} (h : TwoR W w b R P l A c b2 ps A2 c2) (h2 : Rk w' b R P m A c) (ht : Turned (b :: fp A) w w') : TwoR W w' b R P m A c b2 ps A2 c2 :=
  ⟨h.up.took h2 ht, h.rf.turned ht (h.sep b2 List.mem_cons_self) (fun k hk => h.sep k (List.mem_cons_of_mem _ hk)), h.lo, h.sep⟩
theorem TwoR.put2 {qs : List (Int × Int)} {r e : Ending} (h : TwoR W w b R P l A c b2 ps A2 c2) (hp : RrPost w b2 R A2 qs r e w') : e = r ∧ Turned [b2] w w' ∧ ∃ A' c', TwoR W w' b R P l A c b2 qs A' c' := by
  obtain ⟨he, A', c', h2, ht, hf⟩ := hp
  have hb2 : b2 ∉ b :: fp A := h.sep b2 List.mem_cons_self
  have hW : W.heap.size ≤ w.heap.size := h.up.up.below.size
  refine ⟨he, ht, A', c', ⟨h.up.rk.turned ht (fun e => hb2 (by simp at e; simp [e])) (fun k hk e => hb2 (by simp at e; subst e; exact List.mem_cons_of_mem _ hk)), h.up.up.below.trans (ht.below hW (fun k hk => by simp at hk; subst hk; exact h.lo _ List.mem_cons_self)), h.up.up.blocks, h.up.up.base⟩, h2, fun k hk => ?_, fun k hk hk2 => ?_⟩
  · rcases List.mem_cons.1 hk with rfl | hk
    · exact h.lo _ List.mem_cons_self
    · rcases hf k hk with g | g
      · exact h.lo k (List.mem_cons_of_mem _ g)
      · omega
  · rcases List.mem_cons.1 hk with rfl | hk
    · exact hb2 hk2
    · rcases hf k hk with g | g
      · exact h.sep k (List.mem_cons_of_mem _ g) hk2
      · have := h.up.lts k hk2
        omega
theorem TwoR.new_ {W w : World} (hb : Below W.heap.size W w) (n : Int) :
    TwoR W ((w.alloc (.cells #[.int .i64 (roomR n), .int .i64 0, .slice none 0 0] 53)).alloc (.cells #[.slice none 0 0, .int .i64 (roomR n)] 56)) w.heap.size (roomR n) 0 [] none 0 (w.heap.size + 1) [] none 0 := by
  have h1 := RkUp.new_ (R := roomR n) hb
  have hs : (w.alloc (.cells #[.int .i64 (roomR n), .int .i64 0, .slice none 0 0] 53)).heap.size = w.heap.size + 1 := by simp
  have h2 := Rr.new (w.alloc (.cells #[.int .i64 (roomR n), .int .i64 0, .slice none 0 0] 53)) n
  rw [hs] at h2
  have hsz := hb.size
  exact ⟨h1.over ((Below.refl _ _).alloc (Nat.le_refl _) _), h2, fun k hk => by simp [fp] at hk; omega, fun k hk hk2 => by simp [fp] at hk hk2; omega⟩
/-! ### one answer for every state -/
def putE (R : Int) (n : Nat) : Int := if (n : Int) < R then 0 else 12
def putP (R P : Int) (n : Nat) : Int := if (n : Int) < R then P + 1 else P
def putL (R P : Int) (l : List EntM) (k i : Int) : List EntM := if (l.length : Int) < R then riseL (l ++ [⟨k, P, i⟩]) l.length else l
def putU (R P : Int) (es : List EntM) (k i : Int) : List EntM := if (es.length : Int) < R then insU es ⟨k, P, i⟩ else es
theorem rowK_len (es : List EntM) : (rowK es).length = es.length := by unfold rowK; rw [List.length_map]
theorem PlI.putx {es : List EntM} (h : PlI P l es) (R k i : Int) : PlI (putP R P l.length) (putL R P l k i) (putU R P es k i) := by
  have e := h.perm.length_eq
  unfold putP putL putU
  rw [e]
  split
  · exact h.put k i
  · exact h
theorem px_any {k i : Int} (h : TwoR W w b R P l A c b2 ps A2 c2) (hl : (l.length : Int) ≤ R) (hP : 0 ≤ P ∧ P < 1000000) : Calls Try.prog 10 #[.pointer (some ⟨b, 0, none⟩), .int .i64 k, .int .i64 i] w fun e w' => e = .returned (.int .i64 (putE R l.length)) ∧ Turned (b :: fp A) w w' ∧ ∃ A' c', TwoR W w' b R (putP R P l.length) (putL R P l k i) A' c' b2 ps A2 c2 := by
  unfold putE putP putL
  by_cases hf : (l.length : Int) < R
  · rw [if_pos hf, if_pos hf, if_pos hf]
    refine (rput_any (k := k) (i := i) h.up.rk hf (h.rf.len.2) hP).mono fun e w' hp => h.put1 hp
  · rw [if_neg hf, if_neg hf, if_neg hf]
    refine (rput_full (k := k) (i := i) h.up.rk (by omega)).mono ?_
    rintro e w' ⟨rfl, hq⟩
    have hb := hq.below (Below.refl w.heap.size w)
    exact ⟨rfl, Turned.of_below hb _, A, c, h.over hb⟩
theorem fx_any {es : List EntM} {k i Q : Int} (h : TwoR W w b R P l A c b2 (rowK es) A2 c2) (hk : I64 k) (hi : I64 i) : Calls Try.prog 11 #[.pointer (some ⟨b2, 0, none⟩), .int .i64 k, .int .i64 i] w fun e w' => e = .returned (.int .i64 (putE R es.length)) ∧ Turned [b2] w w' ∧ ∃ A' c', TwoR W w' b R P l A c b2 (rowK (putU R Q es k i)) A' c' := by
  unfold putE putU
  by_cases hf : (es.length : Int) < R
  · rw [if_pos hf, if_pos hf, rowK_ins]
    exact (fput_any (k := k) (i := i) h.rf (by rw [rowK_len]; exact hf) hk hi).mono fun e w' hp => h.put2 hp
  · rw [if_neg hf, if_neg hf]
    refine (fput_full (k := k) (i := i) h.rf (by rw [rowK_len]; omega)).mono ?_
    rintro e w' ⟨rfl, hq⟩
    have hb := hq.below (Below.refl w.heap.size w)
    exact ⟨rfl, Turned.of_below hb _, A2, c2, h.over hb⟩
def headI (es : List EntM) : Int := match es with | [] => 0 | x :: _ => x.id
def noneE (es : List EntM) : Int := match es with | [] => 13 | _ :: _ => 0
theorem tx_any {es : List EntM} (h : TwoR W w b R P l A c b2 ps A2 c2) (hp : PlI P l es) (hl : l.length ≤ 64) : Calls Try.prog 12 #[.pointer (some ⟨b, 0, none⟩)] w fun e w' => e = .returned (.tuple #[.int .i64 (headI es), .int .i64 (noneE es)]) ∧ ∃ l', PlI P l' es.tail ∧ TwoR W w' b R P l' A c b2 ps A2 c2 := by
  cases es with
  | nil =>
    have e : l = [] := by have := hp.perm.length_eq; simp at this; exact List.eq_nil_of_length_eq_zero this.symm
    subst e
    refine (rtake_nil h.up.rk).mono ?_
    rintro e w' ⟨rfl, rfl⟩
    exact ⟨rfl, [], hp, h⟩
  | cons y T =>
    obtain ⟨e0, h2⟩ := hp.take
    have hl0 : 0 < l.length := by rw [← hp.perm.length_eq]; simp
    refine (rtake_cons h.up.rk hl0 hl).mono ?_
    rintro e w' ⟨rfl, h3, ht⟩
    exact ⟨by rw [e0]; rfl, _, h2, h.took1 h3 ht⟩
theorem ft_any {es : List EntM} (h : TwoR W w b R P l A c b2 (rowK es) A2 c2) : Calls Try.prog 13 #[.pointer (some ⟨b2, 0, none⟩)] w fun e w' => e = .returned (.tuple #[.int .i64 (headI es), .int .i64 (noneE es)]) ∧ ∃ A' c', TwoR W w' b R P l A c b2 (rowK es.tail) A' c' := by
  cases es with
  | nil =>
    refine (ftake_nil h.rf).mono ?_
    rintro e w' ⟨rfl, rfl⟩
    exact ⟨rfl, A2, c2, h⟩
  | cons y T =>
    refine (ftake_cons (x := (y.key, y.id)) (ps := rowK T) h.rf).mono fun e w' hp => ?_
    obtain ⟨he, _, A', c', h2⟩ := h.put2 hp
    exact ⟨he, A', c', h2⟩
theorem dx_any {id : Int} (h : TwoR W w b R P l A c b2 ps A2 c2) (hl : l.length ≤ 64) : Calls Try.prog 14 #[.pointer (some ⟨b, 0, none⟩), .int .i64 id] w fun e w' => e = .returned (.bool (bestE l id l.length).isSome) ∧ Turned (b :: fp A) w w' ∧ TwoR W w' b R P (dropL l id) A c b2 ps A2 c2 :=
  (drop_any (id := id) h.up.rk hl).mono fun e w' ⟨he, h2, ht⟩ => ⟨he, ht, h.took1 h2 ht⟩
theorem fd_any {es l0 : List EntM} {Q id : Int} (h : TwoR W w b R P l A c b2 (rowK es) A2 c2) (hp : PlI Q l0 es) : Calls Try.prog 15 #[.pointer (some ⟨b2, 0, none⟩), .int .i64 id] w fun e w' => e = .returned (.bool (bestE l0 id l0.length).isSome) ∧ Turned [b2] w w' ∧ ∃ es' A' c', PlI Q (dropL l0 id) es' ∧ es'.length ≤ es.length ∧ TwoR W w' b R P l A c b2 (rowK es') A' c' := by
  cases hb : bestE l0 id l0.length with
  | none =>
    refine (fdrop_not h.rf (hp.drop_not hb)).mono ?_
    rintro e w' ⟨rfl, hq⟩
    refine ⟨rfl, Turned.of_below hq _, es, A2, c2, ?_, Nat.le_refl _, h.over hq⟩
    unfold dropL
    rw [hb]; exact hp
  | some f =>
    obtain ⟨j, hj, ha, h2, e⟩ := hp.drop_yes hb
    refine (fdrop_yes h.rf (by rw [rowK_len]; exact hj) ha).mono fun e' w' hpp => ?_
    rw [← e] at hpp
    obtain ⟨he, ht, A', c', h3⟩ := h.put2 hpp
    refine ⟨he, ht, _, A', c', ?_, List.length_eraseIdx_le _ _, h3⟩
    unfold dropL
    rw [hb]; exact h2
def someB (es : List EntM) : Bool := match es with | [] => false | _ :: _ => true
theorem firstx_any {es : List EntM} (h : TwoR W w b R P l A c b2 ps A2 c2) (hp : PlI P l es) : Calls Try.prog 17 #[.pointer (some ⟨b, 0, none⟩)] w fun e w' => e = .returned (.tuple #[.int .i64 (headI es), .bool (someB es)]) ∧ w = w' := by
  cases es with
  | nil =>
    have e : l = [] := by have := hp.perm.length_eq; simp at this; exact List.eq_nil_of_length_eq_zero this.symm
    subst e
    exact rfirst_nil h.up.rk
  | cons y T =>
    obtain ⟨e0, _⟩ := hp.take
    have := rfirst_cons h.up.rk (by rw [← hp.perm.length_eq]; simp)
    rw [e0] at this
    exact this
theorem allx_any {es : List EntM} (h : TwoR W w b R P l A c b2 ps A2 c2) (hp : PlI P l es) (hl : l.length ≤ 64) : Calls Try.prog 19 #[.pointer (some ⟨b, 0, none⟩)] w fun e w' => ∃ A' c', e = .returned (.slice A' es.length c') ∧ Row w' .i64 A' (es.map EntM.id) ∧ Below w.heap.size w w' := by
  refine (all_any h.up.rk hl).mono ?_
  rintro e w' ⟨A', c', S, hS, hs, rfl, hn, hb⟩
  have e := hp.all hS hs
  subst e
  exact ⟨A', c', by rw [hS.length_eq], hn.rowI, hb⟩
theorem lenx_any {es : List EntM} (h : TwoR W w b R P l A c b2 ps A2 c2) (hp : PlI P l es) : Calls Try.prog 20 #[.pointer (some ⟨b, 0, none⟩)] w fun e w' => e = .returned (.int .i64 es.length) ∧ w = w' := by
  rw [hp.perm.length_eq]
  exact rlen_any h.up.rk
theorem rowK_ids (es : List EntM) : (rowK es).map Prod.snd = es.map EntM.id := by unfold rowK; rw [List.map_map]; rfl
theorem over7 {B : Nat} {A : Option Addr} {n c : Nat} {zs : List Int} (h : NumsAt B w A n c zs) (hb : Below w.heap.size w w') : NumsAt B w' A n c zs := h.turned (F := []) (Turned.of_below hb []) (by simp)
theorem fallx_any {es : List EntM} (h : TwoR W w b R P l A c b2 (rowK es) A2 c2) : Calls Try.prog 16 #[.pointer (some ⟨b2, 0, none⟩)] w fun e w' => ∃ A' c', e = .returned (.slice A' es.length c') ∧ NumsAt w.heap.size w' A' es.length c' (es.map EntM.id) ∧ Below w.heap.size w w' := by
  refine (fall_any h.rf).mono ?_
  rintro e w' ⟨A', c', rfl, hn, hb⟩
  rw [rowK_ids, rowK_len] at hn
  exact ⟨A', c', by rw [rowK_len], hn, hb⟩
end
end Go.Proofs.Ytpcbonljbfbdmaa
