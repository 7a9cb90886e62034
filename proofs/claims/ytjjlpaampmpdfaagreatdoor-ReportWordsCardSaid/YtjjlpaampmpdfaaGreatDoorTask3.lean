/- task's parted. -/
import Derived.Test.YtjjlpaampmpdfaaGreatDoorTask2
namespace Go.Proofs.YtjjlpaampmpdfaaGreatDoor
open Go.ChangeShapes Go.WideShapes Go.ChangeAt Go.RowKit
set_option linter.unusedVariables false

def partB (p : PartM) (res : Int) : Bool :=
  if p.kind = 3 then inB p.len 1 60 && inB p.res 0 (res - 1) else if p.kind = 1 ∨ p.kind = 2 then inB p.len 1 60 && inB p.res 0 0 else false
def partsB (ps : List PartM) (res : Int) : Bool := inB ps.length 1 6 && ps.all fun p => partB p res
theorem all_next {α : Type} [Inhabited α] {f : α → Bool} {l : List α} {k : Nat} {x : α} (hx : l.getD k default = x) (hf : f x = true) (h : ∀ j, j < k → f (l.getD j default) = true) : ∀ j, j < k + 1 → f (l.getD j default) = true := by
  intro j hj
  by_cases e : j = k
  · subst e; rw [hx]; exact hf
  · exact h j (by omega)
theorem all_getD {α : Type} [Inhabited α] {f : α → Bool} {l : List α} (h : ∀ j, j < l.length → f (l.getD j default) = true) : l.all f = true := by
  rw [List.all_eq_true]
  intro x hx
  obtain ⟨j, hj, rfl⟩ := List.mem_iff_getElem.1 hx
  have := h j hj
  simpa [List.getD, hj] using this
theorem not_all_getD {α : Type} [Inhabited α] {f : α → Bool} {l : List α} {k : Nat} {x : α} (hk : k < l.length) (hx : l.getD k default = x) (h : f x = false) : l.all f = false := by
  rw [List.all_eq_false]
  refine ⟨x, ?_, by simp [h]⟩
  rw [← hx]; simp [List.getD, hk]

set_option maxHeartbeats 1000000 in
theorem parted_any (a : Option Addr) (c : Nat) (ps : List PartM) (res : Int) (w : World) (h : PartsAt w a ps) (hl : ps.length ≤ maxLen) (r0 : 0 ≤ res) (r1 : res ≤ 9223372036854775807) :
    Calls Tryz.prog 39 #[.slice a ps.length c, .int .i64 res] w fun e w' => e = .returned (.bool (partsB ps res)) ∧ Below w.heap.size w w' := by
  unfold maxLen at hl
  have HR := hidp h
  clear h
  by_cases h0 : inB ps.length 1 6 = true
  · go_enter Tryz.func39, Tryz.ntmps39
    go_wp2
    go_step3
    go_wp2_with (first | (go_at_call 37; (with_reducible refine (within_any _ _ _ _).mono ?_); rintro e w' ⟨rfl, rfl⟩))
    go_step3
    go_wp2
    go_loopg [14] ps.length (fun g i wr => ∃ k : Nat, k + g = ps.length ∧ i = .int .i64 k ∧ Hid (∀ j, j < k → partB (ps.getD j default) res = true) ∧ Below w.heap.size w wr)
    case atStart => exact ⟨0, by omega, rfl, hidp (by omega), Below.refl _ _⟩
    case round =>
      obtain ⟨k, hk, rfl, Ho, hw⟩ := hrel
      by_cases hlt : k < ps.length
      · obtain ⟨g, off, hA, hc⟩ := HR.out.resolve_left (by intro e; simp [e] at hlt)
        subst hA
        obtain ⟨p, HN⟩ : ∃ p, Hid (ps.getD k default = p) := ⟨_, rfl⟩
        have hc := HN.out ▸ hc k hlt
        obtain ⟨c0, c1, c2⟩ := hc.keep (Keeps.of_below hw)
        clear hc
        have Hn : Hid (partB p res = true → ∀ j, j < k + 1 → partB (ps.getD j default) res = true) := hidp (fun g => all_next (f := fun p => partB p res) HN.out g Ho.out)
        have Hx : Hid (partB p res = false → partsB ps res = false) := hidp (fun g => by rw [partsB, not_all_getD hlt HN.out g]; simp)
        obtain ⟨kd, ln, rs⟩ := p
        by_cases k3 : kd = 3
        · subst k3
          have Hy : Hid (partB ⟨3, ln, rs⟩ res = (inB ln 1 60 && inB rs 0 (res - 1))) := hidp (by simp [partB])
          by_cases g1 : inB ln 1 60 = true
          · by_cases g2 : inB rs 0 (res - 1) = true
            · have Hz := hidp (Hn.out (by rw [Hy.out, g1, g2]; rfl))
              go_wp2_with (first | (go_at_call 37; (with_reducible refine (within_any _ _ _ _).mono ?_); rintro e w' ⟨rfl, rfl⟩))
              go_roundg (gk - 1)
              case measure => omega
              case rel => exact ⟨k + 1, by omega, by go_num, Hz, hw.alloc hw.size _⟩
            · have g2 : inB rs 0 (res - 1) = false := by simpa using g2
              have Hz := hidp (Hx.out (by rw [Hy.out, g1, g2]; rfl))
              go_wp2_with (first | (go_at_call 37; (with_reducible refine (within_any _ _ _ _).mono ?_); rintro e w' ⟨rfl, rfl⟩))
              try rw [Exit.noGoto_ret]
              go_ret
              exact ⟨ret_bool Hz.out.symm, hw.alloc hw.size _⟩
          · have g1 : inB ln 1 60 = false := by simpa using g1
            have Hz := hidp (Hx.out (by rw [Hy.out, g1]; rfl))
            go_wp2_with (first | (go_at_call 37; (with_reducible refine (within_any _ _ _ _).mono ?_); rintro e w' ⟨rfl, rfl⟩))
            try rw [Exit.noGoto_ret]
            go_ret
            exact ⟨ret_bool Hz.out.symm, hw.alloc hw.size _⟩
        · by_cases k1 : kd = 1
          · subst k1
            clear k3
            have Hy : Hid (partB ⟨1, ln, rs⟩ res = (inB ln 1 60 && inB rs 0 (0))) := hidp (by simp [partB])
            by_cases g1 : inB ln 1 60 = true
            · by_cases g2 : inB rs 0 (0) = true
              · have Hz := hidp (Hn.out (by rw [Hy.out, g1, g2]; rfl))
                go_wp2_with (first | (go_at_call 37; (with_reducible refine (within_any _ _ _ _).mono ?_); rintro e w' ⟨rfl, rfl⟩))
                go_roundg (gk - 1)
                case measure => omega
                case rel => exact ⟨k + 1, by omega, by go_num, Hz, hw.alloc hw.size _⟩
              · have g2 : inB rs 0 (0) = false := by simpa using g2
                have Hz := hidp (Hx.out (by rw [Hy.out, g1, g2]; rfl))
                go_wp2_with (first | (go_at_call 37; (with_reducible refine (within_any _ _ _ _).mono ?_); rintro e w' ⟨rfl, rfl⟩))
                try rw [Exit.noGoto_ret]
                go_ret
                exact ⟨ret_bool Hz.out.symm, hw.alloc hw.size _⟩
            · have g1 : inB ln 1 60 = false := by simpa using g1
              have Hz := hidp (Hx.out (by rw [Hy.out, g1]; rfl))
              go_wp2_with (first | (go_at_call 37; (with_reducible refine (within_any _ _ _ _).mono ?_); rintro e w' ⟨rfl, rfl⟩))
              try rw [Exit.noGoto_ret]
              go_ret
              exact ⟨ret_bool Hz.out.symm, hw.alloc hw.size _⟩
          · by_cases k2 : kd = 2
            · subst k2
              clear k3 k1
              have Hy : Hid (partB ⟨2, ln, rs⟩ res = (inB ln 1 60 && inB rs 0 (0))) := hidp (by simp [partB])
              by_cases g1 : inB ln 1 60 = true
              · by_cases g2 : inB rs 0 (0) = true
                · have Hz := hidp (Hn.out (by rw [Hy.out, g1, g2]; rfl))
                  go_wp2_with (first | (go_at_call 37; (with_reducible refine (within_any _ _ _ _).mono ?_); rintro e w' ⟨rfl, rfl⟩))
                  go_roundg (gk - 1)
                  case measure => omega
                  case rel => exact ⟨k + 1, by omega, by go_num, Hz, hw.alloc hw.size _⟩
                · have g2 : inB rs 0 (0) = false := by simpa using g2
                  have Hz := hidp (Hx.out (by rw [Hy.out, g1, g2]; rfl))
                  go_wp2_with (first | (go_at_call 37; (with_reducible refine (within_any _ _ _ _).mono ?_); rintro e w' ⟨rfl, rfl⟩))
                  try rw [Exit.noGoto_ret]
                  go_ret
                  exact ⟨ret_bool Hz.out.symm, hw.alloc hw.size _⟩
              · have g1 : inB ln 1 60 = false := by simpa using g1
                have Hz := hidp (Hx.out (by rw [Hy.out, g1]; rfl))
                go_wp2_with (first | (go_at_call 37; (with_reducible refine (within_any _ _ _ _).mono ?_); rintro e w' ⟨rfl, rfl⟩))
                try rw [Exit.noGoto_ret]
                go_ret
                exact ⟨ret_bool Hz.out.symm, hw.alloc hw.size _⟩
            · have Hz := hidp (Hx.out (by simp [partB, k1, k2, k3]))
              have e3 : (kd == 3) = false := by simpa using k3
              have e1 : (kd == 1) = false := by simpa using k1
              have e2 : (kd == 2) = false := by simpa using k2
              go_wp2_with (first | (go_at_call 37; (with_reducible refine (within_any _ _ _ _).mono ?_); rintro e w' ⟨rfl, rfl⟩))
              try rw [Exit.noGoto_ret]
              go_ret
              exact ⟨ret_bool Hz.out.symm, hw.alloc hw.size _⟩
      · have Hz : Hid (partsB ps res = true) := hidp (by rw [partsB, h0, all_getD (f := fun p => partB p res) (fun j hj => Ho.out j (by omega))]; rfl)
        go_wp2
        try rw [Exit.noGoto_ret]
        go_ret
        exact ⟨ret_bool Hz.out.symm, hw⟩
  · have h0 : inB ps.length 1 6 = false := by simpa using h0
    have Hz : Hid (partsB ps res = false) := hidp (by rw [partsB, h0]; rfl)
    go_enter Tryz.func39, Tryz.ntmps39
    go_wp2
    go_step3
    go_wp2_with (first | (go_at_call 37; (with_reducible refine (within_any _ _ _ _).mono ?_); rintro e w' ⟨rfl, rfl⟩))
    try rw [Exit.noGoto_ret]
    go_ret
    exact ⟨ret_bool Hz.out.symm, Below.refl _ _⟩
end Go.Proofs.YtjjlpaampmpdfaaGreatDoor
