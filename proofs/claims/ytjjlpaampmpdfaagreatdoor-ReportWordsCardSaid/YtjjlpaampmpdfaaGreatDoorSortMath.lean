/- Rows of items (key, id): putting in, merging, being in order. Plain mathematics. -/
import Derived.Test.YtjjlpaampmpdfaaGreatDoorOwn
namespace Go.Proofs.YtjjlpaampmpdfaaGreatDoor

theorem snoc_ind {α : Type} {P : List α → Prop} (nil : P []) (snoc : ∀ m x, P m → P (m ++ [x])) (l : List α) : P l := by
  rw [← l.reverse_reverse]
  induction l.reverse with
  | nil => exact nil
  | cons x l ih => simpa using snoc _ x ih
/-- x behind all whose key isn't above its own -/
def ins : List (Int × Int) → Int × Int → List (Int × Int)
  | [], x => [x]
  | y :: l, x => if x.1 < y.1 then x :: y :: l else y :: ins l x
def isort (l : List (Int × Int)) : List (Int × Int) := l.foldl ins []
def mrg : List (Int × Int) → List (Int × Int) → List (Int × Int)
  | [], bs => bs
  | a :: xs, [] => a :: xs
  | a :: xs, b :: bs => if b.1 < a.1 then b :: mrg (a :: xs) bs else a :: mrg xs (b :: bs)
theorem mrg_nil (l : List (Int × Int)) : mrg l [] = l := by cases l <;> simp [mrg]
theorem mrg_one (l : List (Int × Int)) (x : Int × Int) : mrg l [x] = ins l x := by
  induction l with
  | nil => simp [mrg, ins]
  | cons y l ih => simp only [mrg, ins]; split <;> simp [ih]
theorem mrg_ins (a b : List (Int × Int)) (x : Int × Int) : mrg a (ins b x) = ins (mrg a b) x := by
  induction a, b using mrg.induct with
  | case1 bs => simp [mrg]
  | case2 a xs => rw [mrg_nil]; simp [ins, mrg_one]
  | case3 y xs z bs h ih =>
    have e : mrg (y :: xs) (z :: bs) = z :: mrg (y :: xs) bs := by simp [mrg, h]
    rw [e]
    by_cases hx : x.1 < z.1
    · have hy : x.1 < y.1 := by omega
      simp [ins, hx, mrg, hy, h]
    · simp only [ins, if_neg hx]
      rw [← ih]
      simp [mrg, h]
  | case4 y xs z bs h ih =>
    have e : mrg (y :: xs) (z :: bs) = y :: mrg xs (z :: bs) := by simp [mrg, h]
    rw [e]
    by_cases hx : x.1 < z.1
    · simp only [ins, if_pos hx]
      by_cases hy : x.1 < y.1
      · simp [mrg, hy, h]
      · simp only [mrg, if_neg hy]
        rw [← ih]
        simp [ins, hx]
    · have hy : ¬ x.1 < y.1 := by omega
      have e2 : ins (y :: mrg xs (z :: bs)) x = y :: ins (mrg xs (z :: bs)) x := by simp [ins, hy]
      rw [e2, ← ih]
      simp only [ins, if_neg hx]
      simp [mrg, h]
theorem isort_snoc (l : List (Int × Int)) (x : Int × Int) : isort (l ++ [x]) = ins (isort l) x := by simp [isort]
theorem isort_append (l m : List (Int × Int)) : isort (l ++ m) = mrg (isort l) (isort m) := by
  induction m using snoc_ind with
  | nil => simp [isort, mrg_nil]
  | snoc m x ih => rw [← List.append_assoc, isort_snoc, isort_snoc, ih, mrg_ins]
theorem isort_one (x : Int × Int) : isort [x] = [x] := by simp [isort, ins]
theorem isort_short {l : List (Int × Int)} (h : l.length < 2) : isort l = l := by
  match l, h with
  | [], _ => rfl
  | [x], _ => exact isort_one x
theorem ins_perm (l : List (Int × Int)) (x : Int × Int) : (ins l x).Perm (x :: l) := by
  induction l with
  | nil => simp [ins]
  | cons y l ih =>
    simp only [ins]
    split
    · exact List.Perm.refl _
    · exact (List.Perm.cons y ih).trans (List.Perm.swap x y l)
theorem isort_perm (l : List (Int × Int)) : (isort l).Perm l := by
  induction l using snoc_ind with
  | nil => exact List.Perm.refl _
  | snoc m x ih =>
    rw [isort_snoc]
    exact (ins_perm _ _).trans ((List.Perm.cons x ih).trans (List.perm_append_singleton x m).symm)
theorem isort_len (l : List (Int × Int)) : (isort l).length = l.length := (isort_perm l).length_eq
theorem mrg_len (a b : List (Int × Int)) : (mrg a b).length = a.length + b.length := by
  induction a, b using mrg.induct with
  | case1 bs => simp [mrg]
  | case2 a xs => simp [mrg]
  | case3 y xs z bs h ih => simp only [mrg, if_pos h, List.length_cons, ih]; omega
  | case4 y xs z bs h ih => simp only [mrg, if_neg h, List.length_cons, ih]; omega

/-- in order -/
def Srt (l : List (Int × Int)) : Prop := l.Pairwise fun a b => a.1 ≤ b.1
theorem ins_srt {l : List (Int × Int)} (x : Int × Int) (h : Srt l) : Srt (ins l x) := by
  induction l with
  | nil => simp [ins, Srt]
  | cons y l ih =>
    have h2 := List.pairwise_cons.1 h
    simp only [ins]
    split
    · rename_i hx
      refine List.pairwise_cons.2 ⟨fun z hz => ?_, h⟩
      rcases List.mem_cons.1 hz with rfl | hz
      · omega
      · have := h2.1 z hz; omega
    · rename_i hx
      refine List.pairwise_cons.2 ⟨fun z hz => ?_, ih h2.2⟩
      rcases List.mem_cons.1 ((ins_perm l x).mem_iff.1 hz) with rfl | hz
      · omega
      · exact h2.1 z hz
theorem isort_srt (l : List (Int × Int)) : Srt (isort l) := by
  induction l using snoc_ind with
  | nil => simp [isort, Srt]
  | snoc m x ih => rw [isort_snoc]; exact ins_srt x ih
theorem ins_last {l : List (Int × Int)} {x : Int × Int} (h : ∀ y ∈ l, y.1 ≤ x.1) : ins l x = l ++ [x] := by
  induction l with
  | nil => rfl
  | cons y l ih =>
    have h1 := h y (by simp)
    simp only [ins]
    rw [if_neg (by omega), ih (fun z hz => h z (by simp [hz]))]; rfl
theorem isort_id {l : List (Int × Int)} (h : Srt l) : isort l = l := by
  induction l using snoc_ind with
  | nil => rfl
  | snoc m x ih =>
    have h2 := List.pairwise_append.1 h
    rw [isort_snoc, ih h2.1, ins_last fun y hy => h2.2.2 y hy x (by simp)]
/-- by places -/
theorem srt_iff (l : List (Int × Int)) : Srt l ↔ ∀ i, i + 1 < l.length → (l.getD i (0, 0)).1 ≤ (l.getD (i + 1) (0, 0)).1 := by
  constructor
  · intro h i hi
    have := List.pairwise_iff_getElem.1 h i (i + 1) (by omega) hi (by omega)
    simpa [List.getD, hi, show i < l.length by omega] using this
  · intro h
    induction l with
    | nil => exact List.Pairwise.nil
    | cons x l ih =>
      have h2 : Srt l := ih fun i hi => by have := h (i + 1) (by simp; omega); simpa using this
      refine List.pairwise_cons.2 ⟨fun y hy => ?_, h2⟩
      cases l with
      | nil => simp at hy
      | cons z l =>
        have h0 := h 0 (by simp)
        simp at h0
        rcases List.mem_cons.1 hy with rfl | hy
        · exact h0
        · have := (List.pairwise_cons.1 h2).1 y hy; omega
open Classical in
noncomputable def isB (l : List (Int × Int)) : Bool := decide (Srt l)
theorem isB_yes {l : List (Int × Int)} (h : Srt l) : isB l = true := by unfold isB; simpa using h
theorem isB_no {l : List (Int × Int)} (h : ¬ Srt l) : isB l = false := by unfold isB; simpa using h
end Go.Proofs.YtjjlpaampmpdfaaGreatDoor
