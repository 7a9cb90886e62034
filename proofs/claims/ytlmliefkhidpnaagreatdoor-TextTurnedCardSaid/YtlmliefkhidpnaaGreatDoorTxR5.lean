/- swingbridgeref7.protocol. Printed by tools/text/txr5.py. -/
import Derived.Test.YtlmliefkhidpnaaGreatDoorTxR1
namespace Go.Proofs.YtlmliefkhidpnaaGreatDoor
open Go.ChangeShapes Go.WideShapes Go.ChangeAt Go.RowKit
set_option linter.unusedVariables false
set_option linter.unusedSimpArgs false
def rprotoV : List Bts → Int
  | h :: rest => if h = [112, 114, 111, 116, 111, 99, 111, 108] then (protoT rest).getD 0 else 0
  | [] => 0
theorem protoT_W : ∀ p : Nat, 1 ≤ p → p ≤ 3 → protoT [protoW p] = some (p : Int) := by
  intro p h1 h2
  match p, h1, h2 with
  | 1, _, _ => decide
  | 2, _, _ => decide
  | 3, _, _ => decide
theorem protoT_no {w : Bts} (h : ∀ q : Nat, 1 ≤ q → q < 4 → w ≠ protoW q) : protoT [w] = none := by
  have a1 : w ≠ [102, 97, 105, 114] := h 1 (by decide) (by decide)
  have a2 : w ≠ [97, 103, 101, 110, 116] := h 2 (by decide) (by decide)
  have a3 : w ≠ [116, 111, 107, 101, 110] := h 3 (by decide) (by decide)
  unfold protoT
  simp [a1, a2, a3]
theorem protoT_len {l : List Bts} (h : l.length ≠ 1) : protoT l = none := by
  match l, h with
  | [], _ => rfl
  | [a], h => exact absurd rfl h
  | a :: b :: c, _ => rfl
theorem eq_W (y : ByteArray) (l : Bts) {z : ByteArray} (hz : mkB l = z) : (y.toList == z.toList) = decide (bl y = l) := by
  have h1 : z.toList = l := by rw [← hz]; have : (mkB l).toList = bl (mkB l) := by simp [bl, ByteArray.toList_eq]
                               rw [this, bl_mk]
  rw [h1]; exact toList_lit y l
theorem ri_ {a b : Int} (h : a = b) : Ending.returned (.int .i64 a) = .returned (.int .i64 b) := by rw [h]
set_option maxHeartbeats 4000000 in
theorem rproto_any (A : Option Addr) (c : Nat) (x : ByteArray) (rs : List ByteArray) (w : World) (hs : StrsAt w A (x :: rs)) (hl : rs.length ≤ 100000) : Calls Tryz.prog 20 #[.slice A (rs.length + 1) c] w fun e w' => e = .returned (.int .i64 (rprotoV ((x :: rs).map bl))) ∧ Qt w w' := by
  by_cases h1 : rs.length = 1
  · obtain ⟨y, rfl⟩ : ∃ y, rs = [y] := List.length_eq_one_iff.1 h1
    obtain ⟨g, off, rfl, hc⟩ := hs.resolve_left (by simp)
    have c0 : w.cell? ⟨g, off, none⟩ = some (.string x) := hc 0 (by simp)
    have c1 : w.cell? ⟨g, off + 1, none⟩ = some (.string y) := hc 1 (by simp)
    have e0 := toList_lit x [112, 114, 111, 116, 111, 99, 111, 108]
    clear hc hs h1 hl
    show Calls Tryz.prog 20 #[.slice (some ⟨g, off, none⟩) 2 c] w _
    have C0 := hidp c0
    have C1 := hidp c1
    clear c0 c1
    by_cases d : bl x = [112, 114, 111, 116, 111, 99, 111, 108]
    · have f2 : (x.toList == [112, 114, 111, 116, 111, 99, 111, 108]) = true := by rw [e0, d]; decide
      have HX : Hid (∀ v, protoT [bl y] = v → rprotoV ([x, y].map bl) = v.getD 0) := hidp (fun v hv => by show (if bl x = _ then _ else _) = _; rw [if_pos d]; show (protoT [bl y]).getD 0 = _; rw [hv])
      clear e0 d
      go_enter Tryz.func20, Tryz.ntmps20
      go_wp2_with fail
      go_loopg [3] 3 (fun g i wr => ∃ (p : Nat), p + g = 4 ∧ 1 ≤ p ∧ i = .int .i64 p ∧ Hid (∀ q : Nat, 1 ≤ q → q < p → bl y ≠ protoW q) ∧ Qt w wr)
      case atStart => exact ⟨1, by omega, by omega, rfl, hidp (fun q h1 h2 => by omega), Qt.refl w⟩
      case round =>
        obtain ⟨p, hp, hp1, rfl, HI, HQ⟩ := hrel
        have HQ := hidp HQ
        have wp : IntKind.i64.wrap ((p : Int) + 1) = (p : Int) + 1 := IntWalk.i64_in _ (by omega)
        by_cases hin : p < 4
        · have f5 : (p : Int) ≤ 3 := by omega
          have c0 := HQ.out.cell C0.out
          have c1 := HQ.out.cell C1.out
          obtain ⟨z, hz⟩ : ∃ z, Hid (mkB (protoW p) = z) := ⟨_, hidp rfl⟩
          have CW : Hid (∀ u, Calls Tryz.prog 27 #[.int .i64 (p : Int)] u fun e w' => e = .returned (.string z) ∧ w' = u) := hidp (fun u => by
            have := rword_any (p : Int) u
            rw [hz.out] at this
            exact this.mono (fun _ _ ⟨a, b⟩ => ⟨a, b.symm⟩))
          have e3 := eq_W y (protoW p) hz.out
          by_cases d3 : bl y = protoW p
          · have f3 : (y.toList == z.toList) = true := by rw [e3]; exact decide_eq_true d3
            have HV : Hid (rprotoV ([x, y].map bl) = (p : Int)) := hidp (HX.out (some (p : Int)) (by rw [d3]; exact protoT_W p hp1 (by omega)))
            clear e3 d3
            go_wp2_with fail
            go_quiet (first | (go_at_call 27; refine Calls.quiet_of_same (CW.out _)))
            go_wp2_with fail
            try rw [Exit.noGoto_ret]
            go_ret
            exact ⟨ri_ HV.out.symm, HQ.out.add _⟩
          · have f3 : (y.toList == z.toList) = false := by rw [e3]; exact decide_eq_false d3
            have HI2 : Hid (∀ q : Nat, 1 ≤ q → q < p + 1 → bl y ≠ protoW q) := hidp (fun q h1 h2 => by
              by_cases e : q = p
              · subst e; exact d3
              · exact HI.out q h1 (by omega))
            clear e3 d3
            go_wp2_with fail
            go_quiet (first | (go_at_call 27; refine Calls.quiet_of_same (CW.out _)))
            go_wp2_with fail
            go_roundg (gk - 1)
            case measure => omega
            case rel => exact ⟨p + 1, by omega, by omega, by go_num, HI2, HQ.out.add _⟩
        · have f5 : ¬ (p : Int) ≤ 3 := by omega
          obtain rfl : p = 4 := by omega
          go_wp2_with fail
          try rw [Exit.noGoto_ret]
          go_ret
          exact ⟨ri_ (HX.out none (protoT_no HI.out)).symm, HQ.out⟩

    · have f2 : (x.toList == [112, 114, 111, 116, 111, 99, 111, 108]) = false := by rw [e0]; exact decide_eq_false d
      have HV : Hid (rprotoV ([x, y].map bl) = 0) := hidp (by show (if bl x = _ then _ else _) = _; rw [if_neg d])
      clear e0 d
      go_enter Tryz.func20, Tryz.ntmps20
      go_wp2_with fail
      go_loopg [3] 3 (fun g i wr => ∃ (p : Nat), p + g = 4 ∧ 1 ≤ p ∧ i = .int .i64 p ∧ Hid True ∧ Qt w wr)
      case atStart => exact ⟨1, by omega, by omega, rfl, hidp trivial, Qt.refl w⟩
      case round =>
        obtain ⟨p, hp, hp1, rfl, HI, HQ⟩ := hrel
        have HQ := hidp HQ
        have wp : IntKind.i64.wrap ((p : Int) + 1) = (p : Int) + 1 := IntWalk.i64_in _ (by omega)
        by_cases hin : p < 4
        · have f5 : (p : Int) ≤ 3 := by omega
          have c0 := HQ.out.cell C0.out
          go_wp2_with fail
          go_quiet (fail)
          go_wp2_with fail
          go_roundg (gk - 1)
          case measure => omega
          case rel => exact ⟨p + 1, by omega, by omega, by go_num, HI, HQ.out.add _⟩
        · have f5 : ¬ (p : Int) ≤ 3 := by omega
          obtain rfl : p = 4 := by omega
          go_wp2_with fail
          try rw [Exit.noGoto_ret]
          go_ret
          exact ⟨ri_ HV.out.symm, HQ.out⟩

  · have HV : Hid (rprotoV ((x :: rs).map bl) = 0) := hidp (by
      show (if bl x = _ then (protoT (rs.map bl)).getD 0 else 0) = 0
      rw [protoT_len (by rw [List.length_map]; exact h1)]
      split <;> rfl)
    obtain ⟨N, hN⟩ : ∃ N, rs.length + 1 = N := ⟨_, rfl⟩
    have f1 : ((N : Int) == 2) = false := by rw [beq_eq_false_iff_ne]; omega
    rw [hN]
    clear hN h1 hl hs
    go_enter Tryz.func20, Tryz.ntmps20
    go_wp2_with fail
    go_loopg [3] 3 (fun g i wr => ∃ (p : Nat), p + g = 4 ∧ 1 ≤ p ∧ i = .int .i64 p ∧ Hid True ∧ Qt w wr)
    case atStart => exact ⟨1, by omega, by omega, rfl, hidp trivial, Qt.refl w⟩
    case round =>
      obtain ⟨p, hp, hp1, rfl, HI, HQ⟩ := hrel
      have HQ := hidp HQ
      have wp : IntKind.i64.wrap ((p : Int) + 1) = (p : Int) + 1 := IntWalk.i64_in _ (by omega)
      by_cases hin : p < 4
      · have f5 : (p : Int) ≤ 3 := by omega
        go_wp2_with fail
        go_quiet (fail)
        go_wp2_with fail
        go_roundg (gk - 1)
        case measure => omega
        case rel => exact ⟨p + 1, by omega, by omega, by go_num, HI, HQ.out.add _⟩
      · have f5 : ¬ (p : Int) ≤ 3 := by omega
        obtain rfl : p = 4 := by omega
        go_wp2_with fail
        try rw [Exit.noGoto_ret]
        go_ret
        exact ⟨ri_ HV.out.symm, HQ.out⟩

end Go.Proofs.YtlmliefkhidpnaaGreatDoor
