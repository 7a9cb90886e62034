/- task's formed, taken, parted. -/
import Derived.Test.YtjjlpaampmpdfaaGreatDoorTask1
namespace Go.Proofs.YtjjlpaampmpdfaaGreatDoor
open Go.ChangeShapes Go.WideShapes Go.ChangeAt Go.RowKit
set_option linter.unusedVariables false

def formB (t : TaskR) : Bool := nameB t.name && (inB t.per 1 3000 && (inB t.dl 1 t.per && inB t.prio 1 1000))
theorem formed_any (t : TaskR) (w : World) (hn : t.name.size ≤ maxLen) : Calls Tryz.prog 36 #[.agg #[.string t.name, .int .i64 t.per, .int .i64 t.dl, .int .i64 t.prio, .int .i64 t.cl, .slice t.pa t.parts.length t.pc]] w fun e w' => e = .returned (.bool (formB t)) ∧ Below w.heap.size w w' := by
  by_cases h1 : nameB t.name = true
  · by_cases h2 : inB t.per 1 3000 = true
    · by_cases h3 : inB t.dl 1 t.per = true
      · have H : Hid (formB t = inB t.prio 1 1000) := hidp (by simp [formB, h1, h2, h3])
        go_enter Tryz.func36, Tryz.ntmps36
        go_wp2_with (first | (go_at_call 57; (with_reducible refine (name_any _ _ hn).mono ?_); rintro e w' ⟨rfl, rfl⟩) | (go_at_call 37; (with_reducible refine (within_any _ _ _ _).mono ?_); rintro e w' ⟨rfl, rfl⟩))
        go_ret
        exact ⟨ret_bool H.out.symm, (Below.refl _ _).alloc (Nat.le_refl _) _⟩
      · have h3 : inB t.dl 1 t.per = false := by simpa using h3
        have H : Hid (formB t = false) := hidp (by simp [formB, h3])
        go_enter Tryz.func36, Tryz.ntmps36
        go_wp2_with (first | (go_at_call 57; (with_reducible refine (name_any _ _ hn).mono ?_); rintro e w' ⟨rfl, rfl⟩) | (go_at_call 37; (with_reducible refine (within_any _ _ _ _).mono ?_); rintro e w' ⟨rfl, rfl⟩))
        go_ret
        exact ⟨ret_bool H.out.symm, (Below.refl _ _).alloc (Nat.le_refl _) _⟩
    · have h2 : inB t.per 1 3000 = false := by simpa using h2
      have H : Hid (formB t = false) := hidp (by simp [formB, h2])
      go_enter Tryz.func36, Tryz.ntmps36
      go_wp2_with (first | (go_at_call 57; (with_reducible refine (name_any _ _ hn).mono ?_); rintro e w' ⟨rfl, rfl⟩) | (go_at_call 37; (with_reducible refine (within_any _ _ _ _).mono ?_); rintro e w' ⟨rfl, rfl⟩))
      go_ret
      exact ⟨ret_bool H.out.symm, (Below.refl _ _).alloc (Nat.le_refl _) _⟩
  · have h1 : nameB t.name = false := by simpa using h1
    have H : Hid (formB t = false) := hidp (by simp [formB, h1])
    go_enter Tryz.func36, Tryz.ntmps36
    go_wp2_with (first | (go_at_call 57; (with_reducible refine (name_any _ _ hn).mono ?_); rintro e w' ⟨rfl, rfl⟩) | (go_at_call 37; (with_reducible refine (within_any _ _ _ _).mono ?_); rintro e w' ⟨rfl, rfl⟩))
    go_ret
    exact ⟨ret_bool H.out.symm, (Below.refl _ _).alloc (Nat.le_refl _) _⟩

/-- alike in name or priority -/
def likeB (t o : TaskR) : Bool := (o.name.toList == t.name.toList) || (o.prio == t.prio)
theorem like_any (t o : TaskR) (b off : Nat) (w : World) (h : TaskCells w b off t) :
    Calls Tryz.prog 59 #[.agg #[.string o.name, .int .i64 o.per, .int .i64 o.dl, .int .i64 o.prio, .int .i64 o.cl, .slice o.pa o.parts.length o.pc], .pointer (some ⟨b, off, none⟩)] w fun e w' => e = .returned (.bool (likeB t o)) ∧ Below w.heap.size w w' := by
  have hb : b < w.heap.size := cell_lt h.1
  obtain ⟨c0, _, _, c3, _, _⟩ := h.keep (Keeps.alloc w (.cells #[.string o.name, .int .i64 o.per, .int .i64 o.dl, .int .i64 o.prio, .int .i64 o.cl, .slice o.pa o.parts.length o.pc] 41))
  clear h
  by_cases h1 : (o.name.toList == t.name.toList) = true
  · have H : Hid (likeB t o = true) := hidp (by unfold likeB; rw [h1]; rfl)
    go_enter Tryz.func59, Tryz.ntmps59
    go_wp2_with fail
    go_ret
    exact ⟨ret_bool H.out.symm, (Below.refl _ _).alloc (Nat.le_refl _) _⟩
  · have h1 : (o.name.toList == t.name.toList) = false := by simpa using h1
    have H : Hid (likeB t o = (o.prio == t.prio)) := hidp (by unfold likeB; rw [h1]; rfl)
    go_enter Tryz.func59, Tryz.ntmps59
    go_wp2_with fail
    go_ret
    exact ⟨ret_bool H.out.symm, (Below.refl _ _).alloc (Nat.le_refl _) _⟩

theorem idxTasks_any (a : Option Addr) (c : Nat) (ts : List TaskR) (t : TaskR) (b0 off0 : Nat) (w : World) (h : TasksAt w a ts) (hl : ts.length ≤ maxLen) (h1 : TaskCells w b0 off0 t) :
    Calls Tryz.prog 77 #[.slice a ts.length c, .func (Fn.func 59) #[] #[.pointer (some ⟨b0, off0, none⟩)]] w fun e w' => e = .returned (.int .i64 (firstT (ts.map fun o => likeB t o))) ∧ Below w.heap.size w w' := by
  unfold maxLen at hl
  have HR := hidp h
  have HT := hidp h1
  clear h h1
  go_enter Tryz.func77, Tryz.ntmps77
  go_wp2
  go_loopg [8] ts.length (fun g i wr => ∃ k : Nat, k + g = ts.length ∧ i = .int .i64 k ∧ Hid (∀ j, j < k → (ts.map fun o => likeB t o).getD j false = false) ∧ Below w.heap.size w wr)
  case atStart => exact ⟨0, by omega, rfl, hidp (by omega), Below.refl _ _⟩
  case round =>
    obtain ⟨k, hk, rfl, Ho, hw⟩ := hrel
    by_cases hlt : k < ts.length
    · obtain ⟨g, off, hA, hc⟩ := HR.out.resolve_left (by intro e; simp [e] at hlt)
      subst hA
      obtain ⟨o, HN⟩ : ∃ o, Hid (ts.getD k default = o) := ⟨_, rfl⟩
      have hc := HN.out ▸ hc k hlt
      obtain ⟨c0, c1, c2, c3, c4, c5⟩ := hc.keep (Keeps.of_below hw)
      have ht := HT.out.keep (Keeps.of_below hw)
      clear hc
      have Hg : Hid ((ts.map fun o => likeB t o).getD k false = likeB t o) := hidp (by rw [map_getD _ _ default _ hlt, HN.out])
      by_cases hb : likeB t o = true
      · have H := hidp (firstT_at (l := ts.map fun o => likeB t o) (k := k) (by simpa using hlt) Ho.out (by rw [Hg.out, hb]))
        go_wp2_with (first | (go_at_call 59; (with_reducible refine (like_any _ _ _ _ _ ht).mono ?_); rintro e w' ⟨rfl, hb2⟩))
        go_ret
        exact ⟨ret_int H.out.symm, hw.trans (hb2.mono hw.size)⟩
      · have hb : likeB t o = false := by simpa using hb
        have Hn : Hid (∀ j, j < k + 1 → (ts.map fun o => likeB t o).getD j false = false) := hidp (fun j hj => by
          by_cases e : j = k
          · subst e; rw [Hg.out, hb]
          · exact Ho.out j (by omega))
        go_wp2_with (first | (go_at_call 59; (with_reducible refine (like_any _ _ _ _ _ ht).mono ?_); rintro e w' ⟨rfl, hb2⟩))
        go_roundg (gk - 1)
        case measure => omega
        case rel => exact ⟨k + 1, by omega, by go_num, Hn, hw.trans (hb2.mono hw.size)⟩
    · have H := hidp (firstT_none (l := ts.map fun o => likeB t o) (fun j hj => Ho.out j (by simp at hj; omega)))
      go_wp2
      go_ret
      exact ⟨ret_int H.out.symm, hw⟩
def takenB (ts : List TaskR) (t : TaskR) : Bool := ts.any fun o => likeB t o
theorem hasTasks_any (a : Option Addr) (c : Nat) (ts : List TaskR) (t : TaskR) (b0 off0 : Nat) (w : World) (h : TasksAt w a ts) (hl : ts.length ≤ maxLen) (h1 : TaskCells w b0 off0 t) :
    Calls Tryz.prog 58 #[.slice a ts.length c, .func (Fn.func 59) #[] #[.pointer (some ⟨b0, off0, none⟩)]] w fun e w' => e = .returned (.bool (takenB ts t)) ∧ Below w.heap.size w w' := by
  have H : Hid (decide (0 ≤ firstT (ts.map fun o => likeB t o)) = takenB ts t) := hidp (by rw [firstT_any, takenB, List.any_map]; rfl)
  have hb := firstT_bd (ts.map fun o => likeB t o)
  go_enter Tryz.func58, Tryz.ntmps58
  go_wp2_with (first | (go_at_call 77; (with_reducible refine (idxTasks_any _ _ _ _ _ _ _ h hl h1).mono ?_); rintro e w' ⟨rfl, hb2⟩))
  go_ret
  exact ⟨ret_bool H.out, hb2⟩
theorem taken_any (a : Option Addr) (c : Nat) (ts : List TaskR) (t : TaskR) (w : World) (h : TasksAt w a ts) (hl : ts.length ≤ maxLen) :
    Calls Tryz.prog 38 #[.slice a ts.length c, .agg #[.string t.name, .int .i64 t.per, .int .i64 t.dl, .int .i64 t.prio, .int .i64 t.cl, .slice t.pa t.parts.length t.pc]] w fun e w' => e = .returned (.bool (takenB ts t)) ∧ Below w.heap.size w w' := by
  have hk := h.keep (Keeps.alloc w (.cells #[.string t.name, .int .i64 t.per, .int .i64 t.dl, .int .i64 t.prio, .int .i64 t.cl, .slice t.pa t.parts.length t.pc] 41))
  have ht : TaskCells (w.alloc (.cells #[.string t.name, .int .i64 t.per, .int .i64 t.dl, .int .i64 t.prio, .int .i64 t.cl, .slice t.pa t.parts.length t.pc] 41)) w.heap.size 0 t := by
    refine ⟨?_, ?_, ?_, ?_, ?_, ?_⟩ <;> simp
  have Hk := hidp hk
  have Ht := hidp ht
  clear hk ht
  go_enter Tryz.func38, Tryz.ntmps38
  go_wp2_with (first | (go_at_call 58; (with_reducible refine (hasTasks_any _ _ _ _ _ _ _ Hk.out hl Ht.out).mono ?_); rintro e w' ⟨rfl, hb2⟩))
  go_ret
  exact ⟨rfl, ((Below.refl _ _).alloc (Nat.le_refl _) _).trans (hb2.mono (by simp))⟩
end Go.Proofs.YtjjlpaampmpdfaaGreatDoor
