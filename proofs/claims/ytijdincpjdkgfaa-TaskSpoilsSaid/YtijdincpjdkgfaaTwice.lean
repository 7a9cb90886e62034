/- A set that may be, two of whose tasks are given one name, or one priority: the later one is told. Plain numbers. -/
import Derived.Test.YtijdincpjdkgfaaTaskCopy
import Derived.Test.YtijdincpjdkgfaaRef7d
namespace Go.Proofs.Ytijdincpjdkgfaa
open Go.ChangeShapes Go.WideShapes Go.ChangeAt Go.RowKit
set_option linter.unusedVariables false

theorem like_apart {s : SetR} (hok : okS s = true) {a b : Nat} (ha : a < s.tasks.length) (hb : b < a) :
    ((s.tasks.getD b default).name.toList == (s.tasks.getD a default).name.toList) = false ∧ ((s.tasks.getD b default).prio == (s.tasks.getD a default).prio) = false := by
  have h := (taskE_ok (((okS_iff s).1 hok).2 a ha)).2.2.1
  have hl : likeB (s.tasks.getD a default) (s.tasks.getD b default) = false := by
    cases e : likeB (s.tasks.getD a default) (s.tasks.getD b default)
    · rfl
    · rw [taken_some (Nat.le_of_lt ha) hb rfl e] at h; cases h
  unfold likeB at hl
  simpa using hl
theorem apart {s : SetR} (hok : okS s = true) {a b : Nat} (ha : a < s.tasks.length) (hb : b < s.tasks.length) (hne : a ≠ b) :
    ((s.tasks.getD b default).name.toList == (s.tasks.getD a default).name.toList) = false ∧ ((s.tasks.getD b default).prio == (s.tasks.getD a default).prio) = false := by
  rcases Nat.lt_or_gt_of_ne hne with h | h
  · have := like_apart hok hb h
    exact ⟨by have := this.1; simp only [beq_eq_false_iff_ne, ne_eq] at *; exact fun e => this e.symm, by have := this.2; simp only [beq_eq_false_iff_ne, ne_eq] at *; exact fun e => this e.symm⟩
  · exact like_apart hok ha h
theorem formB_parts {t : TaskR} : formB t = true ↔ nameB t.name = true ∧ inB t.per 1 3000 = true ∧ inB t.dl 1 t.per = true ∧ inB t.prio 1 1000 = true := by
  unfold formB; simp only [Bool.and_eq_true]
/-- X is s, but that task i has the priority (or the name) of task j -/
structure Twice (s X : SetR) (i j : Nat) (pB : Bool) : Prop where
  proto : X.proto = s.proto
  cores : X.cores = s.cores
  homes : X.homes = s.homes
  len : X.tasks.length = s.tasks.length
  per : ∀ m, m < s.tasks.length → (X.tasks.getD m default).per = (s.tasks.getD m default).per
  dl : ∀ m, m < s.tasks.length → (X.tasks.getD m default).dl = (s.tasks.getD m default).dl
  cl : ∀ m, m < s.tasks.length → (X.tasks.getD m default).cl = (s.tasks.getD m default).cl
  parts : ∀ m, m < s.tasks.length → (X.tasks.getD m default).parts = (s.tasks.getD m default).parts
  name : ∀ m, m < s.tasks.length → (X.tasks.getD m default).name = (s.tasks.getD (if m = i ∧ pB = false then j else m) default).name
  prio : ∀ m, m < s.tasks.length → (X.tasks.getD m default).prio = (s.tasks.getD (if m = i ∧ pB = true then j else m) default).prio
theorem Twice.tells {s X : SetR} {i j : Nat} {pB : Bool} (h : Twice s X i j pB) (hok : okS s = true) (hi : i < s.tasks.length) (hj : j < s.tasks.length) (hij : i ≠ j) : chkAt X = (max i j : Nat) ∧ chkE X = 17 := by
  have hn := fun m hm => taskE_ok (((okS_iff s).1 hok).2 m hm)
  have hf : frameV X = 0 := by
    have := ((okS_iff s).1 hok).1
    unfold frameV at this ⊢
    rw [h.proto, h.cores, h.homes, h.len]; exact this
  have fX : ∀ m, m < s.tasks.length → formB (X.tasks.getD m default) = true := fun m hm => by
    obtain ⟨a1, a2, a3, a4⟩ := formB_parts.1 (hn m hm).1
    obtain ⟨b1, b2, b3, b4⟩ := formB_parts.1 (hn j hj).1
    refine formB_parts.2 ⟨?_, by rw [h.per m hm]; exact a2, by rw [h.per m hm, h.dl m hm]; exact a3, ?_⟩
    · rw [h.name m hm]; split
      · exact b1
      · exact a1
    · rw [h.prio m hm]; split
      · exact b4
      · exact a4
  have cX : ∀ m, m < s.tasks.length → inB (X.tasks.getD m default).cl 0 ((X.cores.length : Int) - 1) = true := fun m hm => by
    rw [h.cl m hm, h.cores]; exact (hn m hm).2.1
  have pX : ∀ m, m < s.tasks.length → partsB (X.tasks.getD m default).parts X.homes.length = true := fun m hm => by
    rw [h.parts m hm, h.homes]; exact (hn m hm).2.2.2
  have hk : max i j < s.tasks.length := by omega
  have h0 : ∀ m, m < max i j → taskE X m = 0 := fun m hm => by
    have hml : m < s.tasks.length := by omega
    have ht : takenB (X.tasks.take m) (X.tasks.getD m default) = false := by
      refine taken_none (by rw [h.len]; omega) (fun l hl => ?_)
      have hll : l < s.tasks.length := by omega
      unfold likeB
      rw [h.name l hll, h.name m hml, h.prio l hll, h.prio m hml]
      have e1 : (if m = i ∧ pB = false then j else m) ≠ (if l = i ∧ pB = false then j else l) := by split <;> split <;> omega
      have e2 : (if m = i ∧ pB = true then j else m) ≠ (if l = i ∧ pB = true then j else l) := by split <;> split <;> omega
      rw [(apart hok (by split <;> omega) (by split <;> omega) e1).1, (apart hok (by split <;> omega) (by split <;> omega) e2).2]
      rfl
    unfold taskE
    rw [fX m hml, cX m hml, ht, pX m hml]; simp
  have hk17 : taskE X (max i j) = 17 := by
    have ht : takenB (X.tasks.take (max i j)) (X.tasks.getD (max i j) default) = true := by
      refine taken_some (j := min i j) (by rw [h.len]; omega) (by omega) rfl ?_
      have hml : min i j < s.tasks.length := by omega
      unfold likeB
      rw [h.name _ hml, h.name _ hk, h.prio _ hml, h.prio _ hk]
      cases pB
      · have e : (if min i j = i ∧ false = false then j else min i j) = (if max i j = i ∧ false = false then j else max i j) := by
          rcases Nat.lt_or_gt_of_ne hij with g | g
          · rw [Nat.max_eq_right (by omega), Nat.min_eq_left (by omega)]; simp
          · rw [Nat.max_eq_left (by omega), Nat.min_eq_right (by omega)]; simp
        rw [e]; simp
      · have e : (if min i j = i ∧ true = true then j else min i j) = (if max i j = i ∧ true = true then j else max i j) := by
          rcases Nat.lt_or_gt_of_ne hij with g | g
          · rw [Nat.max_eq_right (by omega), Nat.min_eq_left (by omega)]; simp
          · rw [Nat.max_eq_left (by omega), Nat.min_eq_right (by omega)]; simp
        rw [e]; simp
    unfold taskE
    rw [fX _ hk, cX _ hk, ht]; simp
  have := chk_here (k := max i j) hf (by rw [h.len]; exact hk) h0 (by rw [hk17]; decide)
  rw [hk17] at this
  exact this
end Go.Proofs.Ytijdincpjdkgfaa
