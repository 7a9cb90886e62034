/- swingbridgeref2: Same. -/
import Derived.Test.YtlejnbepldpmmaaSortIs
namespace Go.Proofs.Ytlejnbepldpmmaa
set_option maxRecDepth 100000
open Go.ChangeShapes Go.WideShapes Go.ChangeAt Go.RowKit
set_option linter.unusedVariables false

theorem take_snoc2 (l : List (Int × Int)) (k : Nat) (h : k < l.length) : l.take (k + 1) = l.take k ++ [l.getD k (0, 0)] := by
  rw [List.take_succ_eq_append_getElem h]; simp [List.getD, h]
theorem same_any {w : World} {A B : Option Addr} {n m c d : Nat} {ps : List (Int × Int)} (ha : RdI w A n c ps) (hb : RdI w B m d ps) (hl : n ≤ 1000) :
    Calls Try.prog 52 #[.slice A n c, .slice B m d] w fun e w' => e = .returned (.bool true) ∧ Below w.heap.size w w' := by
  obtain rfl : n = m := ha.len.trans hb.len.symm
  have Hl := hidp ha.len
  go_enter Try.func52, Try.ntmps52
  go_wp2
  go_loopg [5] n (fun g i wr => ∃ k : Nat, k + g = n ∧ i = .int .i64 k ∧ Below w.heap.size w wr)
  case atStart => exact ⟨0, by omega, rfl, Below.refl _ _⟩
  case round =>
    obtain ⟨k, hk, rfl, hbe⟩ := hrel
    by_cases hlt : k < n
    · have hkl : k < ps.length := by rw [← Hl.out]; exact hlt
      obtain ⟨g1, o1, rfl⟩ := ha.some_ (by omega)
      obtain ⟨g2, o2, rfl⟩ := hb.some_ (by omega)
      obtain ⟨a1, a2⟩ := (ha.over hbe).cells hkl
      obtain ⟨b1, b2⟩ := (hb.over hbe).cells hkl
      obtain ⟨x, HX⟩ : ∃ x, Hid (ps.getD k (0, 0) = x) := ⟨_, rfl⟩
      rw [HX.out] at a1 a2 b1 b2
      obtain ⟨x1, x2⟩ := x
      simp only at a1 a2 b1 b2
      have i5 : (0 : Int) ≤ (k : Int) := by omega
      have i6 : (k : Int) < (n : Int) := by omega
      go_wp2_with fail
      go_quiet (fail)
      go_wp2_with fail
      go_roundg (gk - 1)
      case measure => omega
      case rel => exact ⟨k + 1, by omega, by go_num, below_drewN hbe _⟩
    · have : k = n := by omega
      subst this
      go_wp2
      go_ret
      exact ⟨rfl, hbe⟩
end Go.Proofs.Ytlejnbepldpmmaa
