/- clock: the library's stable sort of few. Made by tools/clock/fromturn.py. -/
import Derived.Test.YtkjobhocgiefdaaClkS3
import Derived.WalkSpells
import Derived.Lib.SliceRun
namespace Go.Proofs.Ytkjobhocgiefdaa
open Go.ChangeShapes Go.WideShapes Go.ChangeAt Go.RowKit
set_option linter.unusedVariables false
set_option linter.unusedSimpArgs false
theorem partE_all (l : List DueM) : partE l 0 l.length = sortE l := by
  unfold partE
  simp
set_option maxHeartbeats 2000000 in
theorem stableE_any (B : Nat) (g n c : Nat) (l : List DueM) (w : World) (ho : OwnE B w (some ⟨g, 0, none⟩) n c l) (hn : n ≤ 20) (wf : ∀ x ∈ l, x.wf) :
    Calls Try.prog 32 #[.slice (some ⟨g, 0, none⟩) n c, .int .i64 n, .func (Fn.func 26) #[] #[]] w (InsPostE w B g n c (sortE l)) := by
  have hl := ho.len
  have H0 : Hid (partE l 0 n = sortE l) := hidp (by rw [hl]; exact partE_all l)
  have HW : Hid (∀ x ∈ sortE l, x.wf) := hidp (fun x hx => wf x ((sortE_perm l).mem_iff.1 hx))
  have HL : Hid ((sortE l).length = n) := hidp (by rw [sortE_len, hl])
  have C1 := insE_any B g n c 0 n l w ho (Nat.zero_le _) (Nat.le_refl _) (by omega) wf
  rw [H0.out] at C1
  have HC := hidp C1
  clear C1
  by_cases e : n = 20
  · subst e
    clear hl wf
    go_enter Try.func32, Try.ntmps32
    go_wp2
    go_loopg [7, 8] 1 (fun gg a b wr => (gg = 1 ∧ a = .int .i64 0 ∧ b = .int .i64 20 ∧ w = wr) ∨ (gg = 0 ∧ a = .int .i64 20 ∧ b = .int .i64 40 ∧ OwnE B wr (some ⟨g, 0, none⟩) 20 c (sortE l) ∧ Turned [g] w wr))
    case atStart => exact .inl ⟨rfl, rfl, rfl, rfl⟩
    case round =>
      rcases hrel with ⟨hg, rfl, rfl, rfl⟩ | ⟨hg, rfl, rfl, ho, ht⟩
      · go_wp2_with fail
        refine HC.out.mono ?_
        rintro e w2 ⟨rfl, ho2, ht2⟩
        go_wp2_with fail
        go_roundg 0
        case measure => omega
        case rel => exact .inr ⟨rfl, rfl, rfl, ho2, ht2⟩
      · have C2 := insE_any B g 20 c 20 20 (sortE l) wr ho (Nat.le_refl _) (Nat.le_refl _) (by omega) HW.out
        rw [partE_one 20 (by omega) (Nat.le_refl _)] at C2
        go_wp2_with fail
        refine C2.mono ?_
        rintro e w2 ⟨rfl, ho2, ht2⟩
        go_wp2_with fail
        go_loopg [6] 0 (fun gg a w5 => a = .int .i64 20 ∧ w2 = w5)
        case atStart => exact ⟨rfl, rfl⟩
        case round =>
          obtain ⟨rfl, rfl⟩ := hrel
          go_wp2_with fail
          refine bodyPost_ret (v := .tuple #[]) (by simp [results, Try.results32, go_sem]) rfl ⟨rfl, ho2, ht.trans ht2 (by simp)⟩
  · have hlt : n < 20 := by omega
    have h20 : ¬ (20 : Int) ≤ (n : Int) := by omega
    have h21 : ¬ (20 : Int) < (n : Int) := by omega
    clear hl wf ho
    go_enter Try.func32, Try.ntmps32
    go_wp2
    go_loopg [7, 8] 0 (fun gg a b wr => a = .int .i64 0 ∧ b = .int .i64 20 ∧ w = wr)
    case atStart => exact ⟨rfl, rfl, rfl⟩
    case round =>
      obtain ⟨rfl, rfl, rfl⟩ := hrel
      go_wp2_with fail
      refine HC.out.mono ?_
      rintro e w2 ⟨rfl, ho2, ht2⟩
      go_wp2_with fail
      go_loopg [6] 0 (fun gg a w5 => a = .int .i64 20 ∧ w2 = w5)
      case atStart => exact ⟨rfl, rfl⟩
      case round =>
        obtain ⟨rfl, rfl⟩ := hrel
        go_wp2_with fail
        refine bodyPost_ret (v := .tuple #[]) (by simp [results, Try.results32, go_sem]) rfl ⟨rfl, ho2, ht2⟩
theorem sortStableE_any (B : Nat) (g n c : Nat) (l : List DueM) (w : World) (ho : OwnE B w (some ⟨g, 0, none⟩) n c l) (hn : n ≤ 20) (wf : ∀ x ∈ l, x.wf) :
    Calls Try.prog 25 #[.slice (some ⟨g, 0, none⟩) n c, .func (Fn.func 26) #[] #[]] w (InsPostE w B g n c (sortE l)) := by
  go_enter Try.func25, Try.ntmps25
  go_wp2_with fail
  refine (stableE_any B g n c l w ho hn wf).mono ?_
  rintro e w2 ⟨rfl, ho2, ht2⟩
  go_wp2_with fail
  refine bodyPost_ret (v := .tuple #[]) (by simp [results, Try.results25, go_sem]) rfl ⟨rfl, ho2, ht2⟩
def NilPostE (w : World) (e : Ending) (w' : World) : Prop := e = .returned (.tuple #[]) ∧ w = w'
/-- of no row nothing is turned -/
theorem sortNilE_any (w : World) : Calls Try.prog 25 #[.slice none 0 0, .func (Fn.func 26) #[] #[]] w (NilPostE w) := by
  have I0 : Calls Try.prog 34 #[.slice none 0 0, .int .i64 0, .int .i64 0, .func (Fn.func 26) #[] #[]] w (NilPostE w) := by
    go_enter Try.func34, Try.ntmps34
    go_wp2
    go_loopg [8] 0 (fun gg a w5 => a = .int .i64 1 ∧ w = w5)
    case atStart => exact ⟨rfl, rfl⟩
    case round =>
      obtain ⟨rfl, rfl⟩ := hrel
      go_wp2
      refine bodyPost_ret (v := .tuple #[]) (by simp [results, Try.results34, go_sem]) rfl ⟨rfl, rfl⟩
  have I1 : Calls Try.prog 32 #[.slice none 0 0, .int .i64 0, .func (Fn.func 26) #[] #[]] w (NilPostE w) := by
    go_enter Try.func32, Try.ntmps32
    go_wp2
    go_loopg [7, 8] 0 (fun gg a b wr => a = .int .i64 0 ∧ b = .int .i64 20 ∧ w = wr)
    case atStart => exact ⟨rfl, rfl, rfl⟩
    case round =>
      obtain ⟨rfl, rfl, rfl⟩ := hrel
      go_wp2_with fail
      refine I0.mono ?_
      rintro e w2 ⟨rfl, rfl⟩
      go_wp2_with fail
      go_loopg [6] 0 (fun gg a w5 => a = .int .i64 20 ∧ w = w5)
      case atStart => exact ⟨rfl, rfl⟩
      case round =>
        obtain ⟨rfl, rfl⟩ := hrel
        go_wp2_with fail
        refine bodyPost_ret (v := .tuple #[]) (by simp [results, Try.results32, go_sem]) rfl ⟨rfl, rfl⟩
  go_enter Try.func25, Try.ntmps25
  go_wp2_with fail
  refine I1.mono ?_
  rintro e w2 ⟨rfl, rfl⟩
  go_wp2_with fail
  refine bodyPost_ret (v := .tuple #[]) (by simp [results, Try.results25, go_sem]) rfl ⟨rfl, rfl⟩
end Go.Proofs.Ytkjobhocgiefdaa
