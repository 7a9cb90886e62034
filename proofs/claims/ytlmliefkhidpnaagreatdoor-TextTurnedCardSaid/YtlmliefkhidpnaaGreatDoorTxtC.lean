/- What text.Print prints is what text.Parse reads: a task's line (stage 9; a beginning). -/
import Derived.Test.YtlmliefkhidpnaaGreatDoorTxtB
namespace Go.Proofs.YtlmliefkhidpnaaGreatDoor
open Go.ChangeShapes Go.WideShapes Go.ChangeAt Go.RowKit
set_option linter.unusedVariables false
theorem wl_cut (A B cur : Bts) : wl cur (A ++ 32 :: B) = wl cur A ++ wl [] B := by
  induction A generalizing cur with
  | nil =>
    have e1 : wl cur (32 :: B) = if cur = [] then wl [] B else cur :: wl [] B := by conv => lhs; rw [wl, if_pos rfl]
    have e2 : wl cur [] = if cur = [] then [] else [cur] := by rw [wl]
    rw [List.nil_append, e1, e2]
    by_cases h : cur = []
    · rw [if_pos h, if_pos h]; rfl
    · rw [if_neg h, if_neg h]; rfl
  | cons a t ih =>
    rw [List.cons_append]
    conv => lhs; rw [wl]
    conv => rhs; rw [wl]
    by_cases h : a = 32
    · rw [if_pos h, if_pos h, ih]
      by_cases hc : cur = []
      · rw [if_pos hc, if_pos hc]
      · rw [if_neg hc, if_neg hc]; rfl
    · rw [if_neg h, if_neg h, ih]
theorem wl_flat (l : List Bts) : wl [] (joinT 32 l) = l.flatMap (wl []) := by
  induction l with
  | nil => rfl
  | cons w r ih =>
    cases r with
    | nil => simp [joinT]
    | cons v r =>
      show wl [] (w ++ 32 :: joinT 32 (v :: r)) = _
      rw [wl_cut, ih]
      rfl
theorem wl_word {w : Bts} (h : w ≠ []) (h2 : ∀ c ∈ w, c ≠ 32) : wl [] w = [w] := by
  have := wl_run2 w h2 [] []
  rw [List.append_nil, List.nil_append] at this
  rw [this, wl, if_neg h]
theorem flat_words {l : List Bts} (h : ∀ w ∈ l, w ≠ [] ∧ ∀ c ∈ w, c ≠ 32) : l.flatMap (wl []) = l := by
  induction l with
  | nil => rfl
  | cons w r ih =>
    rw [List.flatMap_cons, wl_word (h w List.mem_cons_self).1 (h w List.mem_cons_self).2, ih (fun x hx => h x (List.mem_cons_of_mem _ hx))]
    rfl
def PartT.good (p : PartT) : Prop := (p.kind = 1 ∧ p.res = 0 ∨ p.kind = 2 ∧ p.res = 0 ∨ p.kind = 3) ∧ (0 ≤ p.len ∧ p.len ≤ 9999999) ∧ 0 ≤ p.res ∧ p.res ≤ 9999999
structure TaskT.good (t : TaskT) : Prop where
  name : t.name ≠ [] ∧ ∀ c ∈ t.name, c ≠ 32 ∧ c ≠ 35 ∧ c ≠ 10 ∧ c ≠ 58
  nums : ∀ n ∈ [t.per, t.dl, t.prio, t.cl], 0 ≤ n ∧ n ≤ 9999999
  parts : ∀ p ∈ t.parts, p.good
theorem partW_plain {p : PartT} (h : p.good) : partW p ≠ [] ∧ ∀ c ∈ partW p, c ≠ 32 ∧ c ≠ 35 ∧ c ≠ 10 := by
  obtain ⟨_, hl, hr⟩ := h
  have c1 := (textL_plain hl).2
  have c2 := (textL_plain hr).2
  have g1 : ∀ c ∈ tRun, c ≠ 32 ∧ c ≠ 35 ∧ c ≠ 10 := by decide
  have g2 : ∀ c ∈ tSleep, c ≠ 32 ∧ c ≠ 35 ∧ c ≠ 10 := by decide
  have g3 : ∀ c ∈ tLock, c ≠ 32 ∧ c ≠ 35 ∧ c ≠ 10 := by decide
  have g4 : (58 : UInt8) ≠ 32 ∧ (58 : UInt8) ≠ 35 ∧ (58 : UInt8) ≠ 10 := by decide
  unfold partW
  split
  · refine ⟨by simp, fun c hc => ?_⟩
    rcases List.mem_append.1 hc with h | h
    · exact g1 c h
    · rcases List.mem_cons.1 h with rfl | h
      · exact g4
      · exact ⟨(c1 c h).1, (c1 c h).2.1, (c1 c h).2.2.1⟩
  · split
    · refine ⟨by simp, fun c hc => ?_⟩
      rcases List.mem_append.1 hc with h | h
      · exact g2 c h
      · rcases List.mem_cons.1 h with rfl | h
        · exact g4
        · exact ⟨(c1 c h).1, (c1 c h).2.1, (c1 c h).2.2.1⟩
    · refine ⟨by simp, fun c hc => ?_⟩
      rcases List.mem_append.1 hc with h | h
      · rcases List.mem_append.1 h with h | h
        · exact g3 c h
        · rcases List.mem_cons.1 h with rfl | h
          · exact g4
          · exact ⟨(c2 c h).1, (c2 c h).2.1, (c2 c h).2.2.1⟩
      · rcases List.mem_cons.1 h with rfl | h
        · exact g4
        · exact ⟨(c1 c h).1, (c1 c h).2.1, (c1 c h).2.2.1⟩
theorem partsT_partW {l : List PartT} (h : ∀ p ∈ l, p.good) : partsT (l.map partW) = some l := by
  induction l with
  | nil => rfl
  | cons a t ih =>
    simp only [List.map_cons, partsT]
    obtain ⟨h1, h2, h3⟩ := h a List.mem_cons_self
    rw [partT_partW h1 h2 h3, ih (fun n hn => h n (List.mem_cons_of_mem _ hn))]
def tTask : Bts := [116, 97, 115, 107]
theorem words_task {t : TaskT} (h : t.good) : wordsL (taskW t) = tTask :: t.name :: ([t.per, t.dl, t.prio, t.cl].map textL ++ t.parts.map partW) := by
  have hn : ∀ w ∈ [t.per, t.dl, t.prio, t.cl].map textL, w ≠ [] ∧ ∀ c ∈ w, c ≠ 32 ∧ c ≠ 35 ∧ c ≠ 10 ∧ c ≠ 58 := fun w hw => by
    obtain ⟨n, hm, rfl⟩ := List.mem_map.1 hw
    exact textL_plain (h.nums n hm)
  have hp : ∀ w ∈ t.parts.map partW, w ≠ [] ∧ ∀ c ∈ w, c ≠ 32 ∧ c ≠ 35 ∧ c ≠ 10 := fun w hw => by
    obtain ⟨p, hm, rfl⟩ := List.mem_map.1 hw
    exact partW_plain (h.parts p hm)
  have g3 : ∀ c ∈ ([116, 97, 115, 107, 32] : Bts), c ≠ 35 := by decide
  have hh : ∀ c ∈ ([116, 97, 115, 107, 32] : Bts) ++ t.name, c ≠ 35 := fun c hc => by
    rcases List.mem_append.1 hc with g | g
    · exact g3 c g
    · exact (h.name.2 c g).2.1
  have h35 : ∀ c ∈ taskW t, c ≠ 35 := by
    unfold taskW
    refine joinT_mem (p := fun c => c ≠ 35) (by decide) (fun w hw => ?_)
    rcases List.mem_cons.1 hw with rfl | hw
    · unfold numsW
      refine joinT_mem (p := fun c => c ≠ 35) (by decide) (fun w hw => ?_)
      rcases List.mem_cons.1 hw with rfl | hw
      · exact hh
      · exact fun c hc => ((hn w hw).2 c hc).2.1
    · exact fun c hc => ((hp w hw).2 c hc).2.1
  have e1 : wl [] (([116, 97, 115, 107, 32] : Bts) ++ t.name) = [tTask, t.name] := by
    show wl [] (tTask ++ 32 :: t.name) = _
    rw [wl_cut, wl_word h.name.1 (fun c hc => (h.name.2 c hc).1)]
    rfl
  unfold wordsL
  rw [ahead_all h35]
  unfold taskW
  rw [wl_flat, List.flatMap_cons, flat_words (fun w hw => ⟨(hp w hw).1, fun c hc => ((hp w hw).2 c hc).1⟩)]
  unfold numsW
  rw [wl_flat, List.flatMap_cons, flat_words (fun w hw => ⟨(hn w hw).1, fun c hc => ((hn w hw).2 c hc).1⟩), e1]
  simp
end Go.Proofs.YtlmliefkhidpnaaGreatDoor
