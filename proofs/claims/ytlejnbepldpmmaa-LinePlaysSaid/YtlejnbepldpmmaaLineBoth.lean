/- A line and the reference's line, side by side: each operation as one contract, whatever stands in it. -/
import Derived.Test.YtlejnbepldpmmaaLineNums
import Derived.Test.YtlejnbepldpmmaaRefLine
namespace Go.Proofs.Ytlejnbepldpmmaa
open Go.ChangeShapes Go.WideShapes Go.ChangeAt Go.RowKit
set_option linter.unusedVariables false

/-- what a put leaves, what it answers -/
def putZ (R : Int) (zs : List Int) (id : Int) : List Int := if (zs.length : Int) = R then zs else zs ++ [id]
def putE (R : Int) (zs : List Int) : Int := if (zs.length : Int) = R then 12 else 0
def takE (zs : List Int) : Int := if zs = [] then 13 else 0
def drpZ (zs : List Int) (id : Int) : List Int := if plK zs id = true then zs.eraseIdx (plN zs id) else zs

def LnX (w : World) (b : Nat) (R : Int) (A : Option Addr) (zs : List Int) (e0 : Ending) (e : Ending) (w' : World) : Prop :=
  e = e0 ∧ ∃ cs' A' c', Ln w' b 0 94 cs' R zs A' c' ∧ Turned (b :: fp A) w w' ∧ ∀ k ∈ fp A', k ∈ fp A ∨ w.heap.size ≤ k
section
variable {w w' : World} {b : Nat} {cs : Array Value} {R : Int} {zs : List Int} {A : Option Addr} {c : Nat}
theorem LnX.same {e0 e : Ending} (h : Ln w b 0 94 cs R zs A c) (he : e = e0) (hw : Qt w w') : LnX w b R A zs e0 e w' :=
  ⟨he, cs, A, c, h.turned (hw.turned []) (by simp) (by simp), hw.turned _, fun k hk => .inl hk⟩
theorem LnX.of {e0 e : Ending} (h : LnPost w b 0 94 cs R A zs e0 e w') : LnX w b R A zs e0 e w' := by
  obtain ⟨he, A', c', h1, h2, h3⟩ := h
  exact ⟨he, _, A', c', h1, h2, h3⟩
theorem put_x {id : Int} (h : Ln w b 0 94 cs R zs A c) (hi : I64 id) : Calls Try.prog 16 #[.pointer (some ⟨b, 0, none⟩), .int .i64 id] w (LnX w b R A (putZ R zs id) (.returned (.int .i64 (putE R zs)))) := by
  by_cases hf : (zs.length : Int) = R
  · unfold putZ putE
    rw [if_pos hf, if_pos hf]
    exact (put_full (id := id) h hf).mono fun e w' ⟨he, hw⟩ => LnX.same h he hw
  · unfold putZ putE
    rw [if_neg hf, if_neg hf]
    exact (put_ok (id := id) h (by have := h.len; omega) hi).mono fun e w' hp => LnX.of hp
theorem take_x (h : Ln w b 0 94 cs R zs A c) : Calls Try.prog 18 #[.pointer (some ⟨b, 0, none⟩)] w (LnX w b R A zs.tail (.returned (.tuple #[.int .i64 (zs.headD 0), .int .i64 (takE zs)]))) := by
  cases zs with
  | nil => exact (take_nil h).mono fun e w' ⟨he, hw⟩ => LnX.same h he (hw ▸ Qt.refl _)
  | cons x zs => exact (take_cons h).mono fun e w' hp => LnX.of hp
theorem drop_x {id : Int} (h : Ln w b 0 94 cs R zs A c) : Calls Try.prog 20 #[.pointer (some ⟨b, 0, none⟩), .int .i64 id] w (LnX w b R A (drpZ zs id) (.returned (.bool (plK zs id)))) := by
  unfold drpZ
  cases hk : plK zs id
  · rw [if_neg (by simp)]
    exact (drop_not (id := id) h hk).mono fun e w' ⟨he, hw⟩ => LnX.same h he (hw ▸ Qt.refl _)
  · rw [if_pos rfl]
    exact (drop_yes (id := id) h hk).mono fun e w' hp => LnX.of hp
end
section
variable {w w' : World} {b : Nat} {R : Int} {zs : List Int} {A : Option Addr} {c : Nat}
theorem RfPost.same {e0 e : Ending} (h : Rf w b R zs A c) (he : e = e0) (hw : Qt w w') : RfPost w b R A zs e0 e w' :=
  ⟨he, A, c, h.turned (hw.turned []) (by simp) (by simp), hw.turned _, fun k hk => .inl hk⟩
theorem rput_x {id : Int} (h : Rf w b R zs A c) (hi : I64 id) : Calls Try.prog 17 #[.pointer (some ⟨b, 0, none⟩), .int .i64 id] w (RfPost w b R A (putZ R zs id) (.returned (.int .i64 (putE R zs)))) := by
  by_cases hf : (zs.length : Int) = R
  · unfold putZ putE
    rw [if_pos hf, if_pos hf]
    exact (rput_full (id := id) h (by omega)).mono fun e w' ⟨he, hw⟩ => RfPost.same h he hw
  · unfold putZ putE
    rw [if_neg hf, if_neg hf]
    exact rput_ok (id := id) h (by have := h.len; omega) hi
theorem rtake_x (h : Rf w b R zs A c) : Calls Try.prog 19 #[.pointer (some ⟨b, 0, none⟩)] w (RfPost w b R A zs.tail (.returned (.tuple #[.int .i64 (zs.headD 0), .int .i64 (takE zs)]))) := by
  cases zs with
  | nil => exact (rtake_nil h).mono fun e w' ⟨he, hw⟩ => RfPost.same h he (hw ▸ Qt.refl _)
  | cons x zs => exact rtake_cons h
theorem rdrop_x {id : Int} (h : Rf w b R zs A c) : Calls Try.prog 21 #[.pointer (some ⟨b, 0, none⟩), .int .i64 id] w (RfPost w b R A (drpZ zs id) (.returned (.bool (plK zs id)))) := by
  unfold drpZ
  cases hk : plK zs id
  · rw [if_neg (by simp)]
    exact (rdrop_not (id := id) h hk).mono fun e w' ⟨he, hw⟩ => RfPost.same h he (hw ▸ Qt.refl _)
  · rw [if_pos rfl]
    exact rdrop_yes (id := id) h hk
end
/-- a line in block b, the reference's in block d, apart; all of the call's own: below B the world is as W was -/
structure LR (B : Nat) (W w : World) (b d : Nat) (R : Int) (zs ys : List Int) (cs : Array Value) (A : Option Addr) (c : Nat) (E : Option Addr) (f : Nat) : Prop where
  ln : Ln w b 0 94 cs R zs A c
  rf : Rf w d R ys E f
  ne : b ≠ d
  hb : B ≤ b
  hd : B ≤ d
  hA : ∀ k ∈ fp A, B ≤ k ∧ k ≠ d ∧ k ∉ fp E
  hE : ∀ k ∈ fp E, B ≤ k ∧ k ≠ b ∧ k ∉ fp A
  below : Below B W w
  hB : B ≤ W.heap.size
section
variable {B : Nat} {W w w' : World} {b d : Nat} {R : Int} {zs ys zs' : List Int} {cs : Array Value} {A : Option Addr} {c : Nat} {E : Option Addr} {f : Nat} {e0 e : Ending}
theorem LR.over (h : LR B W w b d R zs ys cs A c E f) (hb : Below w.heap.size w w') : LR B W w' b d R zs ys cs A c E f :=
  ⟨h.ln.turned (F := []) (Turned.of_below hb []) (by simp) (by simp), h.rf.turned (F := []) (Turned.of_below hb []) (by simp) (by simp), h.ne, h.hb, h.hd, h.hA, h.hE, h.below.trans (hb.mono (Nat.le_trans h.hB h.below.size)), h.hB⟩
theorem LR.drew (h : LR B W w b d R zs ys cs A c E f) : LR B W w.drew b d R zs ys cs A c E f := h.over (Qt.refl w).drew.b
theorem LR.fresh {p : Nat} (h : LR B W w b d R zs ys cs A c E f) (hp : p = w.heap.size) : p ∉ b :: fp A ∧ p ∉ [d] := by
  subst hp
  have h1 := h.ln.blk.lt
  have h2 := h.rf.blk.lt
  refine ⟨fun hm => ?_, fun hm => by simp at hm; omega⟩
  rcases List.mem_cons.1 hm with e | hk
  · omega
  · have := h.ln.fps _ hk; omega
/-- an operation on the line -/
theorem LR.lnp (h : LR B W w b d R zs ys cs A c E f) (hp : LnX w b R A zs' e0 e w') : e = e0 ∧ Turned (b :: fp A) w w' ∧ ∃ cs' A' c', LR B W w' b d R zs' ys cs' A' c' E f := by
  obtain ⟨he, cs', A', c', h1, h2, h3⟩ := hp
  have hs := Nat.le_trans h.hB h.below.size
  have hdl := h.rf.blk.lt
  have hdn : d ∉ b :: fp A := fun hm => by
    rcases List.mem_cons.1 hm with e | hk
    · exact h.ne e.symm
    · exact (h.hA d hk).2.1 rfl
  have hEn : ∀ k ∈ fp E, k ∉ b :: fp A := fun k hk hm => by
    rcases List.mem_cons.1 hm with e | hk2
    · exact (h.hE k hk).2.1 e
    · exact (h.hE k hk).2.2 hk2
  have hA' : ∀ k ∈ fp A', B ≤ k ∧ k ≠ d ∧ k ∉ fp E := fun k hk => by
    rcases h3 k hk with h4 | h4
    · exact h.hA k h4
    · refine ⟨by omega, by omega, fun hm => ?_⟩
      have := h.rf.rd.fps k hm; omega
  refine ⟨he, h2, cs', A', c', h1, h.rf.turned h2 hdn hEn, h.ne, h.hb, h.hd, hA', fun k hk => ⟨(h.hE k hk).1, (h.hE k hk).2.1, fun hm => (hA' k hm).2.2 hk⟩, h.below.trans (h2.below hs ?_), h.hB⟩
  intro k hk
  rcases List.mem_cons.1 hk with rfl | hk
  · exact h.hb
  · exact (h.hA k hk).1
/-- an operation on the reference's line -/
theorem LR.rfp (h : LR B W w b d R zs ys cs A c E f) (hp : RfPost w d R E zs' e0 e w') : e = e0 ∧ Turned [d] w w' ∧ ∃ E' f', LR B W w' b d R zs zs' cs A c E' f' := by
  obtain ⟨he, E', f', h1, h2, h3⟩ := hp
  have hs := Nat.le_trans h.hB h.below.size
  have hbl := h.ln.blk.lt
  have hE' : ∀ k ∈ fp E', B ≤ k ∧ k ≠ b ∧ k ∉ fp A := fun k hk => by
    rcases h3 k hk with h4 | h4
    · exact h.hE k h4
    · refine ⟨by omega, by omega, fun hm => ?_⟩
      have := h.ln.fps k hm; omega
  refine ⟨he, h2, E', f', h.ln.turned h2 (by simp; exact h.ne) (fun k hk hm => by simp at hm; exact (h.hA k hk).2.1 hm), h1, h.ne, h.hb, h.hd, fun k hk => ⟨(h.hA k hk).1, (h.hA k hk).2.1, fun hm => (hE' k hm).2.2 hk⟩, hE', h.below.trans (h2.below hs ?_), h.hB⟩
  intro k hk
  simp at hk; subst hk; exact h.hd
end
theorem LR.new {W w : World} (hb : Below W.heap.size W w) (n : Int) : LR W.heap.size W ((w.alloc (.cells #[.int .i64 (heldR n), .slice none 0 0] 94)).alloc (.cells #[.slice none 0 0, .int .i64 (heldR n)] 48)) w.heap.size (w.heap.size + 1) (heldR n) [] [] #[.int .i64 (heldR n), .slice none 0 0] none 0 none 0 := by
  have h1 := (Ln.new w n).turned ((Turned.refl [] _).alloc (.cells #[.slice none 0 0, .int .i64 (heldR n)] 48)) (by simp) (by simp)
  have h2 := Rf.new (w.alloc (.cells #[.int .i64 (heldR n), .slice none 0 0] 94)) n
  have e : (w.alloc (.cells #[.int .i64 (heldR n), .slice none 0 0] 94)).heap.size = w.heap.size + 1 := by simp
  rw [e] at h2
  exact ⟨h1, h2, by omega, hb.size, by have := hb.size; omega, by simp [fp], by simp [fp], (hb.alloc hb.size _).alloc (by have := hb.size; simp; omega) _, Nat.le_refl _⟩
theorem first_x {w : World} {b : Nat} {cs : Array Value} {R : Int} {zs : List Int} {A : Option Addr} {c : Nat} (h : Ln w b 0 94 cs R zs A c) : Calls Try.prog 22 #[.pointer (some ⟨b, 0, none⟩)] w fun e w' => e = .returned (.tuple #[.int .i64 (zs.headD 0), .bool (decide (0 < zs.length))]) ∧ w = w' := by
  cases zs with
  | nil => exact first_nil h
  | cons x zs => exact first_cons h
theorem Turned.cell' {F : List Nat} {w w' : World} {p : Addr} {v : Value} (ht : Turned F w w') (hp : p.block ∉ F) (hc : w.cell? p = some v) : w'.cell? p = some v := ht.cell hc hp
end Go.Proofs.Ytlejnbepldpmmaa
