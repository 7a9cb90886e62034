/- A gate and the reference's gate, side by side: each operation as one contract, whatever stands in it. -/
import Derived.Test.YtlejnbepldpmmaaRefGate
namespace Go.Proofs.Ytlejnbepldpmmaa
open Go.ChangeShapes Go.WideShapes Go.ChangeAt Go.RowKit
set_option linter.unusedVariables false

def twK (is qs : List Int) (id : Int) : Bool := plK is id || plK qs id
def askI (M : Int) (is qs : List Int) (id : Int) : List Int := if twK is qs id = false ∧ (is.length : Int) < M then is ++ [id] else is
def askQ (M : Int) (is qs : List Int) (id : Int) : List Int := if twK is qs id = false ∧ ¬ (is.length : Int) < M ∧ qs.length < 64 then qs ++ [id] else qs
def askB (M : Int) (is qs : List Int) (id : Int) : Bool := decide (twK is qs id = false ∧ (is.length : Int) < M)
def askE (M : Int) (is qs : List Int) (id : Int) : Int := if twK is qs id = true then 17 else if (is.length : Int) < M ∨ qs.length < 64 then 0 else 12
def leaI (is qs : List Int) (id : Int) : List Int := if plK is id = true then is.eraseIdx (plN is id) ++ qs.take 1 else is
def leaQ (is qs : List Int) (id : Int) : List Int := if plK is id = true then qs.tail else qs
def leaX (is qs : List Int) (id : Int) : Int := if plK is id = true then qs.headD 0 else 0
def leaB (is qs : List Int) (id : Int) : Bool := plK is id && decide (0 < qs.length)
def leaE (is : List Int) (id : Int) : Int := if plK is id = true then 0 else 13

theorem besides_erase {is : List Int} {id : Int} (hn : is.Nodup) (hk : plK is id = true) : besides is id = is.eraseIdx (plN is id) := by
  have hm : id ∈ is := by simpa [plK] using hk
  unfold plN besides
  rw [if_pos hm, ← List.erase_eq_eraseIdx_of_idxOf (by rfl), List.Nodup.erase_eq_filter hn]
  congr 1
theorem ask_nodup {M : Int} {is qs : List Int} {id : Int} (h : (is ++ qs).Nodup) : (askI M is qs id ++ askQ M is qs id).Nodup := by
  cases ht : twK is qs id
  · have h1 : id ∉ is ∧ id ∉ qs := by simpa [twK, plK] using ht
    have hp : (is ++ [id] ++ qs).Nodup := by
      have e : (is ++ [id] ++ qs).Perm (id :: (is ++ qs)) := by simp
      exact e.nodup_iff.2 (List.nodup_cons.2 ⟨by simpa using h1, h⟩)
    have hq : (is ++ (qs ++ [id])).Nodup := by
      have e : (is ++ (qs ++ [id])).Perm (is ++ [id] ++ qs) := by
        rw [List.append_assoc]
        exact (List.Perm.append_left is (List.perm_append_comm))
      exact e.nodup_iff.2 hp
    unfold askI askQ
    rw [ht]
    by_cases h2 : (is.length : Int) < M
    · rw [if_pos ⟨rfl, h2⟩, if_neg (by rintro ⟨_, h3, _⟩; exact h3 h2)]; exact hp
    · rw [if_neg (by rintro ⟨_, h3⟩; exact h2 h3)]
      by_cases h3 : qs.length < 64
      · rw [if_pos ⟨rfl, h2, h3⟩]; exact hq
      · rw [if_neg (by rintro ⟨_, _, h4⟩; exact h3 h4)]; exact h
  · unfold askI askQ
    rw [ht, if_neg (by simp), if_neg (by simp)]; exact h
theorem lea_nodup {is qs : List Int} {id : Int} (h : (is ++ qs).Nodup) : (leaI is qs id ++ leaQ is qs id).Nodup := by
  unfold leaI leaQ
  split
  · have e : (is.eraseIdx (plN is id) ++ qs.take 1) ++ qs.tail = is.eraseIdx (plN is id) ++ qs := by
      rw [List.append_assoc]; cases qs <;> simp
    rw [e]
    exact (List.Sublist.append_right (List.eraseIdx_sublist ..) qs).nodup h
  · exact h
theorem plK_fit {zs : List Int} {id : Int} (h : ∀ n ∈ zs, I64 n) (hk : plK zs id = true) : I64 id := h id (by simpa [plK] using hk)

section
variable {w w' : World} {b : Nat} {M : Int} {is qs : List Int} {F : List Nat} {e0 e : Ending}
theorem Gt.step (h : Gt w b M is qs F) (he : e = e0) (hb : Below w.heap.size w w') : Stepped w F (fun v F' => Gt v b M is qs F') e0 e w' :=
  ⟨he, F, h.over hb, Turned.of_below hb F, fun k hk => .inl hk⟩
theorem RGt.step (h : RGt w b M is qs F) (he : e = e0) (hb : Below w.heap.size w w') : Stepped w F (fun v F' => RGt v b M is qs F') e0 e w' :=
  ⟨he, F, h.over hb, Turned.of_below hb F, fun k hk => .inl hk⟩
theorem gask_x {id : Int} (h : Gt w b M is qs F) (hi : I64 id) : Calls Try.prog 31 #[.pointer (some ⟨b, 0, none⟩), .int .i64 id] w (Stepped w F (fun v F' => Gt v b M (askI M is qs id) (askQ M is qs id) F') (.returned (.tuple #[.bool (askB M is qs id), .int .i64 (askE M is qs id)]))) := by
  have hf := h.fit
  cases h1 : plK is id
  · cases h2 : plK qs id
    · by_cases h3 : (is.length : Int) < M
      · have a1 : askI M is qs id = is ++ [id] := if_pos ⟨by simp [twK, h1, h2], h3⟩
        have a2 : askQ M is qs id = qs := if_neg (by rintro ⟨_, h4, _⟩; exact h4 h3)
        have a3 : askB M is qs id = true := decide_eq_true ⟨by simp [twK, h1, h2], h3⟩
        have a4 : askE M is qs id = 0 := by unfold askE; rw [if_neg (by simp [twK, h1, h2]), if_pos (.inl h3)]
        rw [a1, a2, a3, a4]
        exact ask_ok h hi h1 h2 h3
      · have a1 : askI M is qs id = is := if_neg (by rintro ⟨_, h4⟩; exact h3 h4)
        have a3 : askB M is qs id = false := decide_eq_false (by rintro ⟨_, h4⟩; exact h3 h4)
        by_cases h4 : qs.length < 64
        · have a2 : askQ M is qs id = qs ++ [id] := if_pos ⟨by simp [twK, h1, h2], h3, h4⟩
          have a4 : askE M is qs id = 0 := by unfold askE; rw [if_neg (by simp [twK, h1, h2]), if_pos (.inr h4)]
          rw [a1, a2, a3, a4]
          exact ask_wait h hi h1 h2 (by omega) h4
        · have a2 : askQ M is qs id = qs := if_neg (by rintro ⟨_, _, h5⟩; exact h4 h5)
          have a4 : askE M is qs id = 12 := by unfold askE; rw [if_neg (by simp [twK, h1, h2]), if_neg (by rintro (h5 | h5); exact h3 h5; exact h4 h5)]
          rw [a1, a2, a3, a4]
          exact (ask_full h hi h1 h2 (by omega) (by omega)).mono fun e w' ⟨he, hb⟩ => h.step he hb
    · have ht : twK is qs id = true := by simp [twK, h1, h2]
      have a1 : askI M is qs id = is := if_neg (by rw [ht]; simp)
      have a2 : askQ M is qs id = qs := if_neg (by rw [ht]; simp)
      have a3 : askB M is qs id = false := decide_eq_false (by rw [ht]; simp)
      have a4 : askE M is qs id = 17 := if_pos ht
      rw [a1, a2, a3, a4]
      exact (ask_line2 h hi h1 h2).mono fun e w' ⟨he, hb⟩ => h.step he hb
  · have ht : twK is qs id = true := by simp [twK, h1]
    have a1 : askI M is qs id = is := if_neg (by rw [ht]; simp)
    have a2 : askQ M is qs id = qs := if_neg (by rw [ht]; simp)
    have a3 : askB M is qs id = false := decide_eq_false (by rw [ht]; simp)
    have a4 : askE M is qs id = 17 := if_pos ht
    rw [a1, a2, a3, a4]
    exact (ask_in2 h hi h1).mono fun e w' ⟨he, hb⟩ => h.step he hb
theorem rask_x {id : Int} (hh : RGt w b M is qs F) (hi : I64 id) : Calls Try.prog 32 #[.pointer (some ⟨b, 0, none⟩), .int .i64 id] w (Stepped w F (fun v F' => RGt v b M (askI M is qs id) (askQ M is qs id) F') (.returned (.tuple #[.bool (askB M is qs id), .int .i64 (askE M is qs id)]))) := by
  have hh2 := hh
  obtain ⟨A1, c1, A2, c2, h, hF⟩ := hh2
  have hf := h.len
  cases h1 : plK is id
  · cases h2 : plK qs id
    · by_cases h3 : (is.length : Int) < M
      · have a1 : askI M is qs id = is ++ [id] := if_pos ⟨by simp [twK, h1, h2], h3⟩
        have a2 : askQ M is qs id = qs := if_neg (by rintro ⟨_, h4, _⟩; exact h4 h3)
        have a3 : askB M is qs id = true := decide_eq_true ⟨by simp [twK, h1, h2], h3⟩
        have a4 : askE M is qs id = 0 := by unfold askE; rw [if_neg (by simp [twK, h1, h2]), if_pos (.inl h3)]
        rw [a1, a2, a3, a4]
        exact rask_ok h hF hi h1 h2 h3
      · have a1 : askI M is qs id = is := if_neg (by rintro ⟨_, h4⟩; exact h3 h4)
        have a3 : askB M is qs id = false := decide_eq_false (by rintro ⟨_, h4⟩; exact h3 h4)
        by_cases h4 : qs.length < 64
        · have a2 : askQ M is qs id = qs ++ [id] := if_pos ⟨by simp [twK, h1, h2], h3, h4⟩
          have a4 : askE M is qs id = 0 := by unfold askE; rw [if_neg (by simp [twK, h1, h2]), if_pos (.inr h4)]
          rw [a1, a2, a3, a4]
          exact rask_wait h hF hi h1 h2 (by omega) h4
        · have a2 : askQ M is qs id = qs := if_neg (by rintro ⟨_, _, h5⟩; exact h4 h5)
          have a4 : askE M is qs id = 12 := by unfold askE; rw [if_neg (by simp [twK, h1, h2]), if_neg (by rintro (h5 | h5); exact h3 h5; exact h4 h5)]
          rw [a1, a2, a3, a4]
          exact (rask_full h h1 h2 (by omega) (by omega)).mono fun e w' ⟨he, hq⟩ => hh.step he hq.b
    · have ht : twK is qs id = true := by simp [twK, h1, h2]
      have a1 : askI M is qs id = is := if_neg (by rw [ht]; simp)
      have a2 : askQ M is qs id = qs := if_neg (by rw [ht]; simp)
      have a3 : askB M is qs id = false := decide_eq_false (by rw [ht]; simp)
      have a4 : askE M is qs id = 17 := if_pos ht
      rw [a1, a2, a3, a4]
      exact (rask_line h h1 h2).mono fun e w' ⟨he, hw⟩ => hh.step he (hw ▸ Below.refl _ _)
  · have ht : twK is qs id = true := by simp [twK, h1]
    have a1 : askI M is qs id = is := if_neg (by rw [ht]; simp)
    have a2 : askQ M is qs id = qs := if_neg (by rw [ht]; simp)
    have a3 : askB M is qs id = false := decide_eq_false (by rw [ht]; simp)
    have a4 : askE M is qs id = 17 := if_pos ht
    rw [a1, a2, a3, a4]
    exact (rask_in h h1).mono fun e w' ⟨he, hw⟩ => hh.step he (hw ▸ Below.refl _ _)
theorem glea_x {id : Int} (h : Gt w b M is qs F) (hi : I64 id) (hn : is.Nodup) : Calls Try.prog 33 #[.pointer (some ⟨b, 0, none⟩), .int .i64 id] w (Stepped w F (fun v F' => Gt v b M (leaI is qs id) (leaQ is qs id) F') (.returned (.tuple #[.int .i64 (leaX is qs id), .bool (leaB is qs id), .int .i64 (leaE is id)]))) := by
  unfold leaI leaQ leaX leaB leaE
  cases h1 : plK is id
  · rw [if_neg (by simp), if_neg (by simp), if_neg (by simp), if_neg (by simp)]
    exact (leave_not h hi h1).mono fun e w' ⟨he, hb⟩ => h.step he hb
  · rw [if_pos rfl, if_pos rfl, if_pos rfl, if_pos rfl, ← besides_erase hn h1]
    cases qs with
    | nil => simpa using leave_none h hi h1
    | cons x qs => simpa using leave_next h hi h1
theorem rlea_x {id : Int} (hh : RGt w b M is qs F) : Calls Try.prog 34 #[.pointer (some ⟨b, 0, none⟩), .int .i64 id] w (Stepped w F (fun v F' => RGt v b M (leaI is qs id) (leaQ is qs id) F') (.returned (.tuple #[.int .i64 (leaX is qs id), .bool (leaB is qs id), .int .i64 (leaE is id)]))) := by
  have hh2 := hh
  obtain ⟨A1, c1, A2, c2, h, hF⟩ := hh2
  unfold leaI leaQ leaX leaB leaE
  cases h1 : plK is id
  · rw [if_neg (by simp), if_neg (by simp), if_neg (by simp), if_neg (by simp)]
    exact (rleave_not h h1).mono fun e w' ⟨he, hw⟩ => hh.step he (hw ▸ Below.refl _ _)
  · rw [if_pos rfl, if_pos rfl, if_pos rfl, if_pos rfl]
    cases qs with
    | nil => simpa using rleave_none h hF h1
    | cons x qs => simpa using rleave_next h hF h1
end
/-- a gate in block b, the reference's in block d, apart; all of the call's own -/
structure GG (B : Nat) (W w : World) (b d : Nat) (M : Int) (is qs js ps : List Int) (F G : List Nat) : Prop where
  gt : Gt w b M is qs F
  rg : RGt w d M js ps G
  ap : ∀ k ∈ F, k ∉ G
  hF : ∀ k ∈ F, B ≤ k
  hG : ∀ k ∈ G, B ≤ k
  below : Below B W w
  hB : B ≤ W.heap.size
section
variable {B : Nat} {W w w' : World} {b d : Nat} {M : Int} {is qs js ps is' qs' : List Int} {F G : List Nat} {e0 e : Ending}
theorem GG.over (h : GG B W w b d M is qs js ps F G) (hb : Below w.heap.size w w') : GG B W w' b d M is qs js ps F G :=
  ⟨h.gt.over hb, h.rg.over hb, h.ap, h.hF, h.hG, h.below.trans (hb.mono (Nat.le_trans h.hB h.below.size)), h.hB⟩
theorem GG.drew (h : GG B W w b d M is qs js ps F G) : GG B W w.drew b d M is qs js ps F G := h.over (Qt.refl w).drew.b
theorem GG.fresh {p : Nat} (h : GG B W w b d M is qs js ps F G) (hp : p = w.heap.size) : p ∉ F ∧ p ∉ G := by
  subst hp
  exact ⟨fun hm => Nat.lt_irrefl _ (h.gt.lt _ hm), fun hm => Nat.lt_irrefl _ (h.rg.lt _ hm)⟩
theorem GG.gp (h : GG B W w b d M is qs js ps F G) (hp : Stepped w F (fun v F' => Gt v b M is' qs' F') e0 e w') : e = e0 ∧ Turned F w w' ∧ ∃ F', GG B W w' b d M is' qs' js ps F' G := by
  obtain ⟨he, F', h1, h2, h3⟩ := hp
  have hs := Nat.le_trans h.hB h.below.size
  refine ⟨he, h2, F', h1, h.rg.turned h2 (fun k hk hm => h.ap k hm hk), fun k hk hm => ?_, fun k hk => ?_, h.hG, h.below.trans (h2.below hs h.hF), h.hB⟩
  · rcases h3 k hk with h4 | h4
    · exact h.ap k h4 hm
    · have := h.rg.lt k hm; omega
  · rcases h3 k hk with h4 | h4
    · exact h.hF k h4
    · omega
theorem GG.rp (h : GG B W w b d M is qs js ps F G) (hp : Stepped w G (fun v F' => RGt v d M is' qs' F') e0 e w') : e = e0 ∧ Turned G w w' ∧ ∃ G', GG B W w' b d M is qs is' qs' F G' := by
  obtain ⟨he, F', h1, h2, h3⟩ := hp
  have hs := Nat.le_trans h.hB h.below.size
  refine ⟨he, h2, F', h.gt.turned h2 (fun k hk hm => h.ap k hk hm), h1, fun k hk hm => ?_, h.hF, fun k hk => ?_, h.below.trans (h2.below hs h.hG), h.hB⟩
  · rcases h3 k hm with h4 | h4
    · exact h.ap k hk h4
    · have := h.gt.lt k hk; omega
  · rcases h3 k hk with h4 | h4
    · exact h.hG k h4
    · omega
end
end Go.Proofs.Ytlejnbepldpmmaa
