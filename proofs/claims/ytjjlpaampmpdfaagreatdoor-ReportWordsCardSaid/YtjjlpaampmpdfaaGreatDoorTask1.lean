/- task's small ones: within, all. -/
import Derived.Test.YtjjlpaampmpdfaaGreatDoorSetM
import Derived.Test.YtjjlpaampmpdfaaGreatDoorWordsName
namespace Go.Proofs.YtjjlpaampmpdfaaGreatDoor
open Go.ChangeShapes Go.WideShapes Go.ChangeAt Go.RowKit
set_option linter.unusedVariables false

def inB (x lo hi : Int) : Bool := decide (lo ≤ x) && decide (x ≤ hi)
theorem inB_true {x lo hi : Int} : inB x lo hi = true ↔ lo ≤ x ∧ x ≤ hi := by simp [inB]
theorem inB_false {x lo hi : Int} : inB x lo hi = false ↔ x < lo ∨ hi < x := by simp [inB]; omega
def allB (zs : List Int) (lo hi : Int) : Bool := zs.all fun x => inB x lo hi

theorem within_any (x lo hi : Int) (w : World) : Calls Tryz.prog 37 #[.int .i64 x, .int .i64 lo, .int .i64 hi] w fun e w' => e = .returned (.bool (inB x lo hi)) ∧ w = w' := by
  by_cases h : lo ≤ x
  · have H : Hid (inB x lo hi = decide (x ≤ hi)) := hidp (by simp [inB, h])
    go_enter Tryz.func37, Tryz.ntmps37
    go_wp2
    go_ret
    exact ⟨ret_bool H.out.symm, rfl⟩
  · have H : Hid (inB x lo hi = false) := hidp (by simp [inB, h])
    go_enter Tryz.func37, Tryz.ntmps37
    go_wp2
    go_ret
    exact ⟨ret_bool H.out.symm, rfl⟩

/-- the first place at which it holds; -1: none -/
def firstT (l : List Bool) : Int := if true ∈ l then (l.findIdx id : Nat) else -1
theorem firstT_at {l : List Bool} {k : Nat} (hk : k < l.length) (h0 : ∀ j, j < k → l.getD j false = false) (h1 : l.getD k false = true) : firstT l = k := by
  rw [List.getD_eq_getElem?_getD, List.getElem?_eq_getElem hk] at h1
  simp at h1
  have hm : true ∈ l := by rw [← h1]; exact List.getElem_mem hk
  unfold firstT
  rw [if_pos hm]
  have h2 : l.findIdx id < l.length := List.findIdx_lt_length.2 ⟨true, hm, rfl⟩
  have h3 : id l[l.findIdx id] = true := List.findIdx_getElem (w := h2)
  by_cases h : l.findIdx id = k
  · rw [h]
  · by_cases h4 : l.findIdx id < k
    · have := h0 _ h4
      rw [List.getD_eq_getElem?_getD, List.getElem?_eq_getElem h2] at this
      simp at this h3
      rw [h3] at this; cases this
    · exfalso
      have h5 : k < l.findIdx id := by omega
      have := List.not_of_lt_findIdx h5
      simp [h1] at this
theorem firstT_none {l : List Bool} (h : ∀ j, j < l.length → l.getD j false = false) : firstT l = -1 := by
  unfold firstT
  rw [if_neg]
  intro hm
  obtain ⟨j, hj, e⟩ := List.mem_iff_getElem.1 hm
  have := h j hj
  rw [List.getD_eq_getElem?_getD, List.getElem?_eq_getElem hj] at this
  simp [e] at this
theorem firstT_any (l : List Bool) : decide (0 ≤ firstT l) = l.any id := by
  unfold firstT
  by_cases h : true ∈ l
  · rw [if_pos h]; simp; exact h
  · rw [if_neg h]; simp; exact h
theorem firstT_bd (l : List Bool) : -1 ≤ firstT l := by unfold firstT; split <;> omega
theorem map_getD {α : Type} [Inhabited α] (f : α → Bool) (l : List α) (d : α) (j : Nat) (hj : j < l.length) : (l.map f).getD j false = f (l.getD j d) := by
  simp [List.getD, hj]

theorem out_any (x lo hi : Int) (p q : Addr) (w : World) (h1 : w.cell? p = some (.int .i64 lo)) (h2 : w.cell? q = some (.int .i64 hi)) :
    Calls Tryz.prog 75 #[.int .i64 x, .pointer (some p), .pointer (some q)] w fun e w' => e = .returned (.bool (!inB x lo hi)) ∧ w = w' := by
  go_enter Tryz.func75, Tryz.ntmps75
  go_wp2_with (first | (go_at_call 37; (with_reducible refine (within_any _ _ _ _).mono ?_); rintro e w' ⟨rfl, rfl⟩))
  go_ret
  exact ⟨rfl, rfl⟩

theorem idxInts_any (a : Option Addr) (c : Nat) (zs : List Int) (lo hi : Int) (p q : Addr) (w : World) (h : Row w .i64 a zs) (hl : zs.length ≤ maxLen) (h1 : w.cell? p = some (.int .i64 lo)) (h2 : w.cell? q = some (.int .i64 hi)) :
    Calls Tryz.prog 106 #[.slice a zs.length c, .func (Fn.func 75) #[] #[.pointer (some p), .pointer (some q)]] w fun e w' => e = .returned (.int .i64 (firstT (zs.map fun x => !inB x lo hi))) ∧ w = w' := by
  unfold maxLen at hl
  have HR := hidp h
  clear h
  go_enter Tryz.func106, Tryz.ntmps106
  go_wp2
  go_loopg [8] zs.length (fun g i wr => ∃ k : Nat, k + g = zs.length ∧ i = .int .i64 k ∧ Hid (∀ j, j < k → (zs.map fun x => !inB x lo hi).getD j false = false) ∧ w = wr)
  case atStart => exact ⟨0, by omega, rfl, hidp (by omega), rfl⟩
  case round =>
    obtain ⟨k, hk, rfl, Ho, rfl⟩ := hrel
    by_cases hlt : k < zs.length
    · obtain ⟨g, off, hA, hc⟩ := HR.out.resolve_left (by intro e; simp [e] at hlt)
      subst hA
      obtain ⟨n, HN⟩ : ∃ n, Hid (zs.getD k 0 = n) := ⟨_, rfl⟩
      have ck : w.cell? ⟨g, off + k, none⟩ = some (.int .i64 n) := HN.out ▸ hc k hlt
      clear hc
      have Hg : Hid ((zs.map fun x => !inB x lo hi).getD k false = !inB n lo hi) := hidp (by rw [map_getD _ _ 0 _ hlt, HN.out])
      by_cases hb : inB n lo hi = true
      · have Hn : Hid (∀ j, j < k + 1 → (zs.map fun x => !inB x lo hi).getD j false = false) := hidp (fun j hj => by
          by_cases e : j = k
          · subst e; rw [Hg.out, hb]; rfl
          · exact Ho.out j (by omega))
        go_wp2_with (first | (go_at_call 75; (with_reducible refine (out_any _ _ _ _ _ _ h1 h2).mono ?_); rintro e w' ⟨rfl, rfl⟩))
        go_roundg (gk - 1)
        case measure => omega
        case rel => exact ⟨k + 1, by omega, by go_num, Hn, rfl⟩
      · have hb : inB n lo hi = false := by simpa using hb
        have H := hidp (firstT_at (l := zs.map fun x => !inB x lo hi) (k := k) (by simpa using hlt) Ho.out (by rw [Hg.out, hb]; rfl))
        go_wp2_with (first | (go_at_call 75; (with_reducible refine (out_any _ _ _ _ _ _ h1 h2).mono ?_); rintro e w' ⟨rfl, rfl⟩))
        go_ret
        exact ⟨ret_int H.out.symm, rfl⟩
    · have H := hidp (firstT_none (l := zs.map fun x => !inB x lo hi) (fun j hj => Ho.out j (by simp at hj; omega)))
      go_wp2
      go_ret
      exact ⟨ret_int H.out.symm, rfl⟩
theorem hasInts_any (a : Option Addr) (c : Nat) (zs : List Int) (lo hi : Int) (p q : Addr) (w : World) (h : Row w .i64 a zs) (hl : zs.length ≤ maxLen) (h1 : w.cell? p = some (.int .i64 lo)) (h2 : w.cell? q = some (.int .i64 hi)) :
    Calls Tryz.prog 74 #[.slice a zs.length c, .func (Fn.func 75) #[] #[.pointer (some p), .pointer (some q)]] w fun e w' => e = .returned (.bool (!allB zs lo hi)) ∧ w = w' := by
  have H : Hid (decide (0 ≤ firstT (zs.map fun x => !inB x lo hi)) = !allB zs lo hi) := hidp (by rw [firstT_any, allB, List.any_map, List.not_all_eq_any_not]; rfl)
  have hb := firstT_bd (zs.map fun x => !inB x lo hi)
  go_enter Tryz.func74, Tryz.ntmps74
  go_wp2_with (first | (go_at_call 106; (with_reducible refine (idxInts_any _ _ _ _ _ _ _ _ h hl h1 h2).mono ?_); rintro e w' ⟨rfl, rfl⟩))
  go_ret
  exact ⟨ret_bool H.out, rfl⟩
theorem all_any (a : Option Addr) (c : Nat) (zs : List Int) (lo hi : Int) (w : World) (h : IntsOk w a c zs) :
    Calls Tryz.prog 56 #[.slice a zs.length c, .int .i64 lo, .int .i64 hi] w fun e w' => e = .returned (.bool (allB zs lo hi)) ∧ Below w.heap.size w w' := by
  have hl : zs.length ≤ maxLen := Nat.le_trans h.sl.2.1 h.sl.2.2
  have hk := (h.keep (Keeps.alloc w (.cells #[.int .i64 lo] 3))).keep (Keeps.alloc _ (.cells #[.int .i64 hi] 3))
  have H : Hid ((!!allB zs lo hi) = allB zs lo hi) := hidp (by simp)
  go_enter Tryz.func56, Tryz.ntmps56
  go_wp2_with (first | (go_at_call 74; refine (hasInts_any _ _ _ lo hi _ _ _ hk.at_ hl (by simp) (by simp)).mono ?_; rintro e w' ⟨rfl, rfl⟩))
  go_ret
  exact ⟨ret_bool (by simp), ((Below.refl _ _).alloc (Nat.le_refl _) _).alloc (by simp) _⟩
end Go.Proofs.YtjjlpaampmpdfaaGreatDoor
