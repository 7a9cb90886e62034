/- demand: Runs, Sleeps, Locks, Longest of a task whose Lens are within their bounds. -/
import Derived.Test.YtjjlpaampmpdfaaGreatDoorSound
namespace Go.Proofs.YtjjlpaampmpdfaaGreatDoor
open Go.ChangeShapes Go.WideShapes Go.ChangeAt Go.RowKit
set_option linter.unusedVariables false

/-- a task whose parts are few, and lie where it says -/
structure TaskLen (w : World) (t : TaskR) : Prop where
  at_ : PartsAt w t.pa t.parts
  lens : LenOk t.parts
  few : t.parts.length ≤ 1000
theorem TaskLen.keep {w w' : World} {t : TaskR} (h : TaskLen w t) (k : Keeps w w') : TaskLen w' t := ⟨h.at_.keep k, h.lens, h.few⟩

theorem together_any (t : TaskR) (kd : Int) (w : World) (h : TaskLen w t) : Calls Tryz.prog 134 #[.agg #[.string t.name, .int .i64 t.per, .int .i64 t.dl, .int .i64 t.prio, .int .i64 t.cl, .slice t.pa t.parts.length t.pc], .int .i64 kd] w fun e w' => e = .returned (.int .i64 (sumK kd t.parts)) ∧ Below w.heap.size w w' := by
  have HR := hidp h.at_
  have HL := hidp h.lens
  have hl := h.few
  clear h
  obtain ⟨nm, per, dl, prio, cl, pa, pc, parts⟩ := t
  dsimp only at HR HL hl ⊢
  go_enter Tryz.func134, Tryz.ntmps134
  go_wp2
  go_step3
  go_wp2
  go_step3
  go_wp2
  go_loopg [5, 11] parts.length (fun g s i wr => ∃ (k : Nat) (x : Int), k + g = parts.length ∧ i = .int .i64 k ∧ s = .int .i64 x ∧ Hid (sumK kd (parts.take k) = x) ∧ Below w.heap.size w wr)
  case atStart => exact ⟨0, 0, by omega, rfl, rfl, hidp (by simp [sumK]), (Below.refl _ _).alloc (Nat.le_refl _) _⟩
  case round =>
    obtain ⟨k, x, hk, rfl, rfl, Hx, hw⟩ := hrel
    have hb := sumK_bd kd (HL.out.take k)
    rw [Hx.out, List.length_take] at hb
    obtain ⟨x0, x1⟩ := hb
    have x2 : x ≤ 60000 := by omega
    clear x1
    by_cases hlt : k < parts.length
    · obtain ⟨g, off, hA, hc⟩ := HR.out.resolve_left (by intro e; rw [e] at hlt; simp at hlt)
      subst hA
      obtain ⟨p, HN⟩ : ∃ p, Hid (parts.getD k default = p) := ⟨_, rfl⟩
      have hc := HN.out ▸ hc k hlt
      obtain ⟨c0, c1, c2⟩ := hc.keep (Keeps.of_below hw)
      clear hc
      have Hs : Hid (sumK kd (parts.take (k + 1)) = x + if p.kind = kd then p.len else 0) := hidp (by rw [sumK_snoc kd _ _ hlt, Hx.out, HN.out])
      have hp := HL.out p (HN.out ▸ getD_mem hlt)
      obtain ⟨p1, p2⟩ := hp
      by_cases e : p.kind = kd
      · have e' : (p.kind != kd) = false := by simpa using e
        have Hz : Hid (sumK kd (parts.take (k + 1)) = x + p.len) := hidp (by rw [Hs.out, if_pos e])
        clear e
        go_wp2
        go_roundg (gk - 1)
        case measure => omega
        case rel => exact ⟨k + 1, x + p.len, by omega, by go_num, rfl, Hz, hw.alloc hw.size _⟩
      · have e' : (p.kind != kd) = true := by simpa using e
        have Hz : Hid (sumK kd (parts.take (k + 1)) = x) := hidp (by rw [Hs.out, if_neg e]; omega)
        clear e
        go_wp2
        go_roundg (gk - 1)
        case measure => omega
        case rel => exact ⟨k + 1, x, by omega, by go_num, rfl, Hz, hw.alloc hw.size _⟩
    · have Hz : Hid (sumK kd parts = x) := hidp (by rw [← Hx.out, List.take_of_length_le (by omega)])
      go_wp2
      try rw [Exit.noGoto_ret]
      go_ret
      exact ⟨ret_int Hz.out.symm, hw⟩

theorem runs_any (t : TaskR) (w : World) (h : TaskLen w t) : Calls Tryz.prog 108 #[.agg #[.string t.name, .int .i64 t.per, .int .i64 t.dl, .int .i64 t.prio, .int .i64 t.cl, .slice t.pa t.parts.length t.pc]] w fun e w' => e = .returned (.int .i64 (sumK 1 t.parts)) ∧ Below w.heap.size w w' := by
  have hb := (Below.refl w.heap.size w).alloc (Nat.le_refl _) (.cells #[.string t.name, .int .i64 t.per, .int .i64 t.dl, .int .i64 t.prio, .int .i64 t.cl, .slice t.pa t.parts.length t.pc] 41)
  have H := hidp (h.keep (Keeps.of_below hb))
  clear h
  go_enter Tryz.func108, Tryz.ntmps108
  go_wp2_with (first | (go_at_call 134; (with_reducible refine (together_any _ _ _ H.out).mono ?_); rintro e w2 ⟨rfl, hb2⟩))
  go_ret
  exact ⟨rfl, hb.trans (hb2.mono hb.size)⟩
theorem sleeps_any (t : TaskR) (w : World) (h : TaskLen w t) : Calls Tryz.prog 109 #[.agg #[.string t.name, .int .i64 t.per, .int .i64 t.dl, .int .i64 t.prio, .int .i64 t.cl, .slice t.pa t.parts.length t.pc]] w fun e w' => e = .returned (.int .i64 (sumK 2 t.parts)) ∧ Below w.heap.size w w' := by
  have hb := (Below.refl w.heap.size w).alloc (Nat.le_refl _) (.cells #[.string t.name, .int .i64 t.per, .int .i64 t.dl, .int .i64 t.prio, .int .i64 t.cl, .slice t.pa t.parts.length t.pc] 41)
  have H := hidp (h.keep (Keeps.of_below hb))
  clear h
  go_enter Tryz.func109, Tryz.ntmps109
  go_wp2_with (first | (go_at_call 134; (with_reducible refine (together_any _ _ _ H.out).mono ?_); rintro e w2 ⟨rfl, hb2⟩))
  go_ret
  exact ⟨rfl, hb.trans (hb2.mono hb.size)⟩
theorem locks_any (t : TaskR) (w : World) (h : TaskLen w t) : Calls Tryz.prog 138 #[.agg #[.string t.name, .int .i64 t.per, .int .i64 t.dl, .int .i64 t.prio, .int .i64 t.cl, .slice t.pa t.parts.length t.pc]] w fun e w' => e = .returned (.int .i64 (sumK 3 t.parts)) ∧ Below w.heap.size w w' := by
  have hb := (Below.refl w.heap.size w).alloc (Nat.le_refl _) (.cells #[.string t.name, .int .i64 t.per, .int .i64 t.dl, .int .i64 t.prio, .int .i64 t.cl, .slice t.pa t.parts.length t.pc] 41)
  have H := hidp (h.keep (Keeps.of_below hb))
  clear h
  go_enter Tryz.func138, Tryz.ntmps138
  go_wp2_with (first | (go_at_call 134; (with_reducible refine (together_any _ _ _ H.out).mono ?_); rintro e w2 ⟨rfl, hb2⟩))
  go_ret
  exact ⟨rfl, hb.trans (hb2.mono hb.size)⟩

theorem longest_any (t : TaskR) (w : World) (h : TaskLen w t) : Calls Tryz.prog 113 #[.agg #[.string t.name, .int .i64 t.per, .int .i64 t.dl, .int .i64 t.prio, .int .i64 t.cl, .slice t.pa t.parts.length t.pc]] w fun e w' => e = .returned (.int .i64 (maxL t.parts)) ∧ Below w.heap.size w w' := by
  have HR := hidp h.at_
  have HL := hidp h.lens
  have hl := h.few
  clear h
  obtain ⟨nm, per, dl, prio, cl, pa, pc, parts⟩ := t
  dsimp only at HR HL hl ⊢
  go_enter Tryz.func113, Tryz.ntmps113
  go_wp2
  go_step3
  go_wp2
  go_step3
  go_wp2
  go_loopg [3, 4, 10] parts.length (fun g s f i wr => ∃ (k : Nat) (x : Int) (b : Bool), k + g = parts.length ∧ i = .int .i64 k ∧ s = .int .i64 x ∧ f = .bool b ∧ Hid (maxL (parts.take k) = x) ∧ Hid (b = decide (0 < x)) ∧ Below w.heap.size w wr)
  case atStart => exact ⟨0, 0, false, by omega, rfl, rfl, rfl, hidp (by simp [maxL]), hidp (by decide), (Below.refl _ _).alloc (Nat.le_refl _) _⟩
  case round =>
    obtain ⟨k, x, b, hk, rfl, rfl, rfl, Hx, Hb, hw⟩ := hrel
    have hb := maxL_bd (HL.out.take k)
    have hb0 := maxL_nn (parts.take k)
    rw [Hx.out] at hb hb0
    by_cases hlt : k < parts.length
    · obtain ⟨g, off, hA, hc⟩ := HR.out.resolve_left (by intro e; rw [e] at hlt; simp at hlt)
      subst hA
      obtain ⟨p, HN⟩ : ∃ p, Hid (parts.getD k default = p) := ⟨_, rfl⟩
      have hc := HN.out ▸ hc k hlt
      obtain ⟨c0, c1, c2⟩ := hc.keep (Keeps.of_below hw)
      clear hc
      have Hs : Hid (maxL (parts.take (k + 1)) = max x (if p.kind = 3 then p.len else 0)) := hidp (by rw [maxL_snoc _ _ hlt, Hx.out, HN.out])
      have hp := HL.out p (HN.out ▸ getD_mem hlt)
      obtain ⟨p1, p2⟩ := hp
      by_cases e : p.kind = 3
      · have e' : (p.kind != 3) = false := by simpa using e
        cases b with
        | true =>
          have hx0 : 0 < x := by simpa using Hb.out.symm
          by_cases hle : p.len ≤ x
          · have Hz : Hid (maxL (parts.take (k + 1)) = x) := hidp (by rw [Hs.out, if_pos e]; omega)
            clear e
            go_wp2
            go_roundg (gk - 1)
            case measure => omega
            case rel => exact ⟨k + 1, x, true, by omega, by go_num, rfl, rfl, Hz, Hb, hw.alloc hw.size _⟩
          · have Hz : Hid (maxL (parts.take (k + 1)) = p.len) := hidp (by rw [Hs.out, if_pos e]; omega)
            clear e
            go_wp2
            go_roundg (gk - 1)
            case measure => omega
            case rel => exact ⟨k + 1, p.len, true, by omega, by go_num, rfl, rfl, Hz, hidp (by simp; omega), hw.alloc hw.size _⟩
        | false =>
          have hx0 : ¬ 0 < x := by simpa using Hb.out.symm
          have Hz : Hid (maxL (parts.take (k + 1)) = p.len) := hidp (by rw [Hs.out, if_pos e]; omega)
          clear e
          go_wp2
          go_roundg (gk - 1)
          case measure => omega
          case rel => exact ⟨k + 1, p.len, true, by omega, by go_num, rfl, rfl, Hz, hidp (by simp; omega), hw.alloc hw.size _⟩
      · have e' : (p.kind != 3) = true := by simpa using e
        have Hz : Hid (maxL (parts.take (k + 1)) = x) := hidp (by rw [Hs.out, if_neg e]; omega)
        clear e
        go_wp2
        go_roundg (gk - 1)
        case measure => omega
        case rel => exact ⟨k + 1, x, b, by omega, by go_num, rfl, rfl, Hz, Hb, hw.alloc hw.size _⟩
    · have Hz : Hid (maxL parts = x) := hidp (by rw [← Hx.out, List.take_of_length_le (by omega)])
      go_wp2
      try rw [Exit.noGoto_ret]
      go_ret
      exact ⟨ret_int Hz.out.symm, hw⟩

theorem sound_any (s : SetR) (w : World) (hs : SetOk w s) : Calls Tryz.prog 152 #[.agg #[.int .i64 s.proto, .slice s.ca s.cores.length s.cc, .slice s.ha s.homes.length s.hc, .slice s.ta s.tasks.length s.tc]] w fun e w' => e = .returned (.bool (okS s)) ∧ Below w.heap.size w w' := by
  have hb := (Below.refl w.heap.size w).alloc (Nat.le_refl _) (.cells #[.int .i64 s.proto, .slice s.ca s.cores.length s.cc, .slice s.ha s.homes.length s.hc, .slice s.ta s.tasks.length s.tc] 25)
  have H := hidp (hs.keep (Keeps.of_below hb))
  have Ho : Hid (okS s = (chkE s == 0)) := hidp rfl
  clear hs
  go_enter Tryz.func152, Tryz.ntmps152
  go_wp2_with (first | (go_at_call 23; (with_reducible refine (check_any _ _ H.out).mono ?_); rintro e w2 ⟨rfl, hb2⟩))
  go_ret
  exact ⟨ret_bool Ho.out.symm, hb.trans (hb2.mono hb.size)⟩
end Go.Proofs.YtjjlpaampmpdfaaGreatDoor
