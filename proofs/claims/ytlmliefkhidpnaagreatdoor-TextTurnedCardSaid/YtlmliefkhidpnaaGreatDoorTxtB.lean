/- What text.Print prints is what text.Parse reads: words and numbers (stage 9; a beginning). -/
import Derived.Test.YtlmliefkhidpnaaGreatDoorTxtP
import Derived.Test.YtlmliefkhidpnaaGreatDoorWdDec
namespace Go.Proofs.YtlmliefkhidpnaaGreatDoor
open Go.ChangeShapes Go.WideShapes Go.ChangeAt Go.RowKit
set_option linter.unusedVariables false
theorem textL_dec {n : Int} (h : 0 ≤ n ∧ n ≤ 9999999) : textL n = Lib.decDigits n.toNat := by
  unfold textL textV
  rw [if_neg (by omega), bl_mk]
theorem numT_textL {n : Int} (h : 0 ≤ n ∧ n ≤ 9999999) : numT (textL n) = some n := by
  have h2 : n.toNat ≤ 9999999 := by omega
  unfold numT
  rw [textL_dec h, if_pos (dec_ok _ h2), dec_num _ h2, Int.toNat_of_nonneg h.1]
theorem numsT_textL {l : List Int} (h : ∀ n ∈ l, 0 ≤ n ∧ n ≤ 9999999) : numsT (l.map textL) = some l := by
  induction l with
  | nil => rfl
  | cons a t ih =>
    simp only [List.map_cons, numsT]
    rw [numT_textL (h a List.mem_cons_self), ih (fun n hn => h n (List.mem_cons_of_mem _ hn))]
/-- the bytes of a number's text are digits: no blank, no mark, no line end, no colon -/
theorem textL_plain {n : Int} (h : 0 ≤ n ∧ n ≤ 9999999) : textL n ≠ [] ∧ ∀ c ∈ textL n, c ≠ 32 ∧ c ≠ 35 ∧ c ≠ 10 ∧ c ≠ 58 := by
  have h2 : n.toNat ≤ 9999999 := by omega
  rw [textL_dec h]
  refine ⟨fun e => by have := dec_len _ h2; rw [e] at this; simp at this, fun c hc => ?_⟩
  have hd := dec_dig _ c hc
  unfold isDig digB at hd
  refine ⟨?_, ?_, ?_, ?_⟩ <;> (rintro rfl; revert hd; decide)
theorem wl_run2 (x : Bts) (h : ∀ c ∈ x, c ≠ 32) (cur r : Bts) : wl cur (x ++ r) = wl (cur ++ x) r := by
  induction x generalizing cur with
  | nil => simp
  | cons a t ih =>
    rw [List.cons_append, wl, if_neg (h a (by simp)), ih (fun c hc => h c (by simp [hc]))]
    simp
theorem ahead_all {x : Bts} (h : ∀ c ∈ x, c ≠ 35) : ahead35 x = x := by
  induction x with
  | nil => rfl
  | cons a t ih => rw [ahead35, if_neg (h a (by simp)), ih (fun c hc => h c (by simp [hc]))]
theorem joinT_mem {s : UInt8} {l : List Bts} {p : UInt8 → Prop} (hs : p s) (h : ∀ w ∈ l, ∀ c ∈ w, p c) : ∀ c ∈ joinT s l, p c := by
  induction l with
  | nil => intro c hc; simp [joinT] at hc
  | cons w r ih =>
    cases r with
    | nil => intro c hc; exact h w List.mem_cons_self c hc
    | cons v r =>
      intro c hc
      rcases List.mem_append.1 hc with g | g
      · exact h w List.mem_cons_self c g
      · rcases List.mem_cons.1 g with rfl | g
        · exact hs
        · exact ih (fun w hw => h w (List.mem_cons_of_mem _ hw)) c g
/-- words with one blank between come back -/
theorem wl_join {l : List Bts} (h : ∀ w ∈ l, w ≠ [] ∧ ∀ c ∈ w, c ≠ 32) : wl [] (joinT 32 l) = l := by
  induction l with
  | nil => rfl
  | cons w r ih =>
    have hw := h w List.mem_cons_self
    cases r with
    | nil =>
      have := wl_run2 w hw.2 [] []
      rw [List.append_nil, List.nil_append] at this
      show wl [] w = [w]
      rw [this, wl, if_neg hw.1]
    | cons v r =>
      show wl [] (w ++ 32 :: joinT 32 (v :: r)) = _
      rw [wl_run2 w hw.2, List.nil_append, wl, if_pos rfl, if_neg hw.1, ih (fun x hx => h x (List.mem_cons_of_mem _ hx))]
theorem words_join {l : List Bts} (h : ∀ w ∈ l, w ≠ [] ∧ ∀ c ∈ w, c ≠ 32 ∧ c ≠ 35) : wordsL (joinT 32 l) = l := by
  unfold wordsL
  rw [ahead_all (joinT_mem (p := fun c => c ≠ 35) (by decide) (fun w hw c hc => ((h w hw).2 c hc).2))]
  exact wl_join (fun w hw => ⟨(h w hw).1, fun c hc => ((h w hw).2 c hc).1⟩)
theorem cutT_run (x : Bts) (h : ∀ c ∈ x, c ≠ 58) (cur r : Bts) : cutT 58 cur (x ++ 58 :: r) = (cur ++ x, r) := by
  induction x generalizing cur with
  | nil => rw [List.nil_append, cutT, if_pos rfl, List.append_nil]
  | cons a t ih =>
    rw [List.cons_append, cutT, if_neg (h a (by simp)), ih (fun c hc => h c (by simp [hc]))]
    simp
theorem sp_run (x : Bts) (h : ∀ c ∈ x, c ≠ 58) (cur r : Bts) : sp 58 cur (x ++ 58 :: r) = (cur ++ x) :: sp 58 [] r := by
  induction x generalizing cur with
  | nil => rw [List.nil_append, sp, if_pos rfl, List.append_nil]
  | cons a t ih =>
    rw [List.cons_append, sp, if_neg (h a (by simp)), ih (fun c hc => h c (by simp [hc]))]
    simp
theorem sp_all (x : Bts) (h : ∀ c ∈ x, c ≠ 58) (cur : Bts) : sp 58 cur x = [cur ++ x] := by
  induction x generalizing cur with
  | nil => rw [sp, List.append_nil]
  | cons a t ih =>
    rw [sp, if_neg (h a (by simp)), ih (fun c hc => h c (by simp [hc]))]
    simp
theorem partT_partW {p : PartT} (hk : p.kind = 1 ∧ p.res = 0 ∨ p.kind = 2 ∧ p.res = 0 ∨ p.kind = 3) (hl : 0 ≤ p.len ∧ p.len ≤ 9999999) (hr : 0 ≤ p.res ∧ p.res ≤ 9999999) : partT (partW p) = some p := by
  obtain ⟨k, n, r⟩ := p
  dsimp only at hk hl hr
  have c1 := fun c hc => ((textL_plain hl).2 c hc).2.2.2
  have c2 := fun c hc => ((textL_plain hr).2 c hc).2.2.2
  have e1 : sp 58 [] (textL n) = [textL n] := sp_all _ c1 []
  have e2 : sp 58 [] (textL r ++ 58 :: textL n) = [textL r, textL n] := by rw [sp_run _ c2, e1]; rfl
  have n1 : numsT [textL n] = some [n] := numsT_textL (l := [n]) (by simpa using hl)
  have n2 : numsT [textL r, textL n] = some [r, n] := numsT_textL (l := [r, n]) (by simp; omega)
  rcases hk with ⟨rfl, rfl⟩ | ⟨rfl, rfl⟩ | rfl
  · have e : partW ⟨1, n, 0⟩ = tRun ++ 58 :: textL n := by unfold partW; rw [if_pos rfl]
    unfold partT
    rw [e, cutT_run tRun (by decide)]
    simp only [e1, n1, List.nil_append]
    rw [if_pos trivial]
  · have e : partW ⟨2, n, 0⟩ = tSleep ++ 58 :: textL n := by unfold partW; rw [if_neg (show ¬ ((2 : Int) = 1) by decide), if_pos rfl]
    unfold partT
    rw [e, cutT_run tSleep (by decide)]
    simp only [e1, n1, List.nil_append]
    rw [if_neg (by decide), if_pos trivial]
  · have e : partW ⟨3, n, r⟩ = tLock ++ 58 :: (textL r ++ 58 :: textL n) := by unfold partW; rw [if_neg (show ¬ ((3 : Int) = 1) by decide), if_neg (show ¬ ((3 : Int) = 2) by decide)]; simp
    unfold partT
    rw [e, cutT_run tLock (by decide)]
    simp only [e2, n2, List.nil_append]
    rw [if_pos trivial]
end Go.Proofs.YtlmliefkhidpnaaGreatDoor
