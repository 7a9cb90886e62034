/- clock: Len, New. -/
import Derived.Test.YtkjobhocgiefdaaClk4
namespace Go.Proofs.Ytkjobhocgiefdaa
open Go.ChangeShapes Go.WideShapes Go.ChangeAt Go.RowKit Go.Conc
set_option linter.unusedVariables false
set_option linter.unusedSimpArgs false
section
variable {w : World} {b o : Nat} {T : TypeId} {cs : Array Value} {now : Int} {m : Nat → SpM}
theorem Clk.cells (h : Clk w b o T cs now m) : (∀ i, i < 4 → w.cell? ⟨b, o + 1 + i * 2, none⟩ = some (.slice (m i).A (m i).rows.length (m i).c)) ∧ (∀ i, i < 4 → w.cell? ⟨b, o + 1 + i * 2 + 1, none⟩ = some (.chan (m i).bell)) :=
  ⟨fun i hi => (h.blk.cell _).trans (h.sp i hi).rows, fun i hi => (h.blk.cell _).trans (h.sp i hi).bell⟩
def totC (m : Nat → SpM) : Nat → Nat
  | 0 => 0
  | k + 1 => totC m k + (m k).rows.length
theorem idx0 (a0 a1 a2 a3 a4 a5 a6 a7 : Value) (w : World) : (Instr.index 53 (.agg #[a0, a1, a2, a3, a4, a5, a6, a7]) (.int .i64 0)).run Try.prog w = .ok (.agg #[a0, a1]) w := by kernel_rfl
theorem idx1 (a0 a1 a2 a3 a4 a5 a6 a7 : Value) (w : World) : (Instr.index 53 (.agg #[a0, a1, a2, a3, a4, a5, a6, a7]) (.int .i64 1)).run Try.prog w = .ok (.agg #[a2, a3]) w := by kernel_rfl
theorem idx2 (a0 a1 a2 a3 a4 a5 a6 a7 : Value) (w : World) : (Instr.index 53 (.agg #[a0, a1, a2, a3, a4, a5, a6, a7]) (.int .i64 2)).run Try.prog w = .ok (.agg #[a4, a5]) w := by kernel_rfl
theorem idx3 (a0 a1 a2 a3 a4 a5 a6 a7 : Value) (w : World) : (Instr.index 53 (.agg #[a0, a1, a2, a3, a4, a5, a6, a7]) (.int .i64 3)).run Try.prog w = .ok (.agg #[a6, a7]) w := by kernel_rfl
theorem totC_le (hl : ∀ i, i < 4 → (m i).rows.length ≤ 64) : ∀ k, k ≤ 4 → totC m k ≤ 64 * k
  | 0, _ => Nat.le_refl _
  | k + 1, h => by
    have h1 := totC_le hl k (by omega)
    have h2 := hl k (by omega)
    unfold totC
    omega
theorem len_any (h : Clk w b o T cs now m) (hl : ∀ i, i < 4 → (m i).rows.length ≤ 64) : Calls Try.prog 19 #[.pointer (some ⟨b, o, none⟩)] w fun e w' => e = .returned (.int .i64 (totC m 4)) ∧ Below w.heap.size w w' := by
  obtain ⟨cr, cb⟩ := h.cells
  have r0 := cr 0 (by omega)
  have r1 := cr 1 (by omega)
  have r2 := cr 2 (by omega)
  have r3 := cr 3 (by omega)
  have b0 := cb 0 (by omega)
  have b1 := cb 1 (by omega)
  have b2 := cb 2 (by omega)
  have b3 := cb 3 (by omega)
  have hb0 := Below.refl w.heap.size w
  have HL := hidp hl
  simp only [Nat.zero_mul, Nat.one_mul, Nat.reduceMul, Nat.add_zero, Nat.add_assoc, Nat.reduceAdd] at r0 r1 r2 r3 b0 b1 b2 b3
  clear h cr cb hl
  go_enter Try.func19, Try.ntmps19
  go_wp2
  go_loopg [3, 10] 4 (fun gg s i wr => ∃ j : Nat, j + gg = 4 ∧ s = .int .i64 (totC m j) ∧ i = .int .i64 j ∧ Below w.heap.size w wr)
  case atStart => exact ⟨0, by omega, rfl, rfl, hb0⟩
  case round =>
    clear hb0
    obtain ⟨j, hj, rfl, rfl, hb⟩ := hrel
    have HB := hidp hb
    have HT := hidp (totC_le HL.out j (by omega))
    have HN : Hid (j < 4 → totC m (j + 1) = totC m j + (m j).rows.length) := hidp (fun _ => rfl)
    obtain ⟨t, Ht⟩ : ∃ t, Hid (totC m j = t) := ⟨_, rfl⟩
    rw [Ht.out] at HN HT ⊢
    clear hb
    rcases j with _ | _ | _ | _ | _ | j
    · have hl := HL.out 0 (by omega)
      have hix := idx0 (.slice (m 0).A (m 0).rows.length (m 0).c) (.chan (m 0).bell) (.slice (m 1).A (m 1).rows.length (m 1).c) (.chan (m 1).bell) (.slice (m 2).A (m 2).rows.length (m 2).c) (.chan (m 2).bell) (.slice (m 3).A (m 3).rows.length (m 3).c) (.chan (m 3).bell)
      have ht := HT.out
      have HB2 := hidp (HB.out.alloc HB.out.size (.cells #[.slice (m 0).A (m 0).rows.length (m 0).c, .chan (m 0).bell] 52))
      have hw : IntKind.i64.wrap ((t : Int) + ((m 0).rows.length : Int)) = (t : Int) + ((m 0).rows.length : Int) := IntWalk.i64_in _ (by omega)
      go_wp2
      go_roundg 3
      case measure => omega
      case rel => exact ⟨1, by omega, by rw [HN.out (by omega)]; push_cast; rfl, by go_num, HB2.out⟩
    · have hl := HL.out 1 (by omega)
      have hix := idx1 (.slice (m 0).A (m 0).rows.length (m 0).c) (.chan (m 0).bell) (.slice (m 1).A (m 1).rows.length (m 1).c) (.chan (m 1).bell) (.slice (m 2).A (m 2).rows.length (m 2).c) (.chan (m 2).bell) (.slice (m 3).A (m 3).rows.length (m 3).c) (.chan (m 3).bell)
      have ht := HT.out
      have HB2 := hidp (HB.out.alloc HB.out.size (.cells #[.slice (m 1).A (m 1).rows.length (m 1).c, .chan (m 1).bell] 52))
      have hw : IntKind.i64.wrap ((t : Int) + ((m 1).rows.length : Int)) = (t : Int) + ((m 1).rows.length : Int) := IntWalk.i64_in _ (by omega)
      go_wp2
      go_roundg 2
      case measure => omega
      case rel => exact ⟨2, by omega, by rw [HN.out (by omega)]; push_cast; rfl, by go_num, HB2.out⟩
    · have hl := HL.out 2 (by omega)
      have hix := idx2 (.slice (m 0).A (m 0).rows.length (m 0).c) (.chan (m 0).bell) (.slice (m 1).A (m 1).rows.length (m 1).c) (.chan (m 1).bell) (.slice (m 2).A (m 2).rows.length (m 2).c) (.chan (m 2).bell) (.slice (m 3).A (m 3).rows.length (m 3).c) (.chan (m 3).bell)
      have ht := HT.out
      have HB2 := hidp (HB.out.alloc HB.out.size (.cells #[.slice (m 2).A (m 2).rows.length (m 2).c, .chan (m 2).bell] 52))
      have hw : IntKind.i64.wrap ((t : Int) + ((m 2).rows.length : Int)) = (t : Int) + ((m 2).rows.length : Int) := IntWalk.i64_in _ (by omega)
      go_wp2
      go_roundg 1
      case measure => omega
      case rel => exact ⟨3, by omega, by rw [HN.out (by omega)]; push_cast; rfl, by go_num, HB2.out⟩
    · have hl := HL.out 3 (by omega)
      have hix := idx3 (.slice (m 0).A (m 0).rows.length (m 0).c) (.chan (m 0).bell) (.slice (m 1).A (m 1).rows.length (m 1).c) (.chan (m 1).bell) (.slice (m 2).A (m 2).rows.length (m 2).c) (.chan (m 2).bell) (.slice (m 3).A (m 3).rows.length (m 3).c) (.chan (m 3).bell)
      have ht := HT.out
      have HB2 := hidp (HB.out.alloc HB.out.size (.cells #[.slice (m 3).A (m 3).rows.length (m 3).c, .chan (m 3).bell] 52))
      have hw : IntKind.i64.wrap ((t : Int) + ((m 3).rows.length : Int)) = (t : Int) + ((m 3).rows.length : Int) := IntWalk.i64_in _ (by omega)
      go_wp2
      go_roundg 0
      case measure => omega
      case rel => exact ⟨4, by omega, by rw [HN.out (by omega)]; push_cast; rfl, by go_num, HB2.out⟩
    · have h4 := Ht.out
      go_wp2
      go_ret
      exact ⟨by rw [h4]; rfl, HB.out⟩
    · omega
theorem new_any (w : World) : Calls Try.prog 8 #[] w fun e w' => e = .returned (.pointer (some ⟨w.heap.size, 0, none⟩)) ∧ w' = w.alloc (.cells #[.int .i64 0, .slice none 0 0, .chan none, .slice none 0 0, .chan none, .slice none 0 0, .chan none, .slice none 0 0, .chan none] 55) := by
  go_enter Try.func8, Try.ntmps8
  go_wp2
  go_ret
  exact ⟨rfl, rfl⟩
theorem Clk.new (w : World) : Clk (w.alloc (.cells #[.int .i64 0, .slice none 0 0, .chan none, .slice none 0 0, .chan none, .slice none 0 0, .chan none, .slice none 0 0, .chan none] 55)) w.heap.size 0 55 #[.int .i64 0, .slice none 0 0, .chan none, .slice none 0 0, .chan none, .slice none 0 0, .chan none, .slice none 0 0, .chan none] 0 (fun _ => SpM.nil) := by
  have hb := Bk.new w 55 #[.int .i64 0, .slice none 0 0, .chan none, .slice none 0 0, .chan none, .slice none 0 0, .chan none, .slice none 0 0, .chan none]
  refine ⟨hb, rfl, fun i hi => ⟨hb, ?_, ?_, OwnD.empty _, .inl ⟨rfl, rfl⟩, by simp [SpM.fp, SpM.nil, fp], by simp [SpM.nil]⟩, by simp [SpM.fp, SpM.nil, fp]⟩
  · rcases i with _ | _ | _ | _ | i <;> first | rfl | omega
  · rcases i with _ | _ | _ | _ | i <;> first | rfl | omega
end
end Go.Proofs.Ytkjobhocgiefdaa
