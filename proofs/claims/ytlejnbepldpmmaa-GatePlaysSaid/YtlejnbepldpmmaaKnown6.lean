/- swingbridgelaw6's known answers are as known. -/
import Derived.Test.YtlejnbepldpmmaaGateOps
namespace Go.Proofs.Ytlejnbepldpmmaa
open Go.ChangeShapes Go.WideShapes Go.ChangeAt Go.RowKit
set_option linter.unusedVariables false

section
variable {w : World} {b : Nat} {M : Int} {is qs : List Int} {F : List Nat}
theorem ghas_eq {id : Int} {v : Bool} (h : Gt w b M is qs F) (hi : I64 id) (hk : plK is id = v) : Calls Try.prog 37 #[.pointer (some ⟨b, 0, none⟩), .int .i64 id] w fun e w' => e = .returned (.bool v) ∧ Below w.heap.size w w' := by
  obtain ⟨A1, c1, A2, c2, h, rfl⟩ := h
  exact hk ▸ ghas_any h hi
theorem gin_eq (h : Gt w b M is qs F) : Calls Try.prog 35 #[.pointer (some ⟨b, 0, none⟩)] w (AllPost w is) := by
  obtain ⟨A1, c1, A2, c2, h, rfl⟩ := h
  exact gin_any h
theorem gline_eq (h : Gt w b M is qs F) : Calls Try.prog 36 #[.pointer (some ⟨b, 0, none⟩)] w (AllPost w qs) := by
  obtain ⟨A1, c1, A2, c2, h, rfl⟩ := h
  exact gline_any h
theorem Gt.fit (h : Gt w b M is qs F) : (is.length : Int) ≤ M ∧ 1 ≤ M ∧ M ≤ 64 ∧ qs.length ≤ 64 ∧ (∀ n ∈ is, I64 n) ∧ ∀ n ∈ qs, I64 n := by
  obtain ⟨A1, c1, A2, c2, h, rfl⟩ := h
  have h1 := h.len
  have h2 := h.ln.len
  exact ⟨h1.1, h1.2.1, h1.2.2, by omega, h.fit, h.ln.fit⟩
end

theorem known6_any (w : World) : Calls Try.prog 28 #[] w fun e w' => e = .returned (.bool true) ∧ Below w.heap.size w w' := by
  go_enter Try.func28, Try.ntmps28
  go_wp2_with fail
  refine (gnew_any 1 _ (by decide)).mono ?_
  rintro e w1 ⟨b, F, rfl, h, u⟩
  rw [show held1 1 = 1 by decide] at h
  go_wp2_with fail
  refine (ask_ok (id := 1) h (by decide) (by decide) (by decide) (by decide)).mono ?_
  intro e w2 hp
  obtain ⟨rfl, F2, h2, u2⟩ := u.step hp
  clear hp h u
  go_wp2_with fail
  refine (ask_wait (id := 2) h2 (by decide) (by decide) (by decide) (by decide) (by decide)).mono ?_
  intro e w3 hp
  obtain ⟨rfl, F3, h3, u3⟩ := u2.step hp
  clear hp h2 u2
  go_wp2_with fail
  refine (ask_line2 (id := 2) h3 (by decide) (by decide) (by decide)).mono ?_
  rintro e w4 ⟨rfl, hb⟩
  have h4 := h3.over hb
  have u4 := u3.over hb
  clear h3 u3 hb
  go_wp2_with fail
  refine (leave_not (id := 2) h4 (by decide) (by decide)).mono ?_
  rintro e w5 ⟨rfl, hb⟩
  have h5 := h4.over hb
  have u5 := u4.over hb
  clear h4 u4 hb
  go_wp2_with fail
  refine (leave_next (id := 1) h5 (by decide) (by decide)).mono ?_
  intro e w6 hp
  obtain ⟨rfl, F6, h6, u6⟩ := u5.step hp
  clear hp h5 u5
  rw [show besides ([] ++ [1]) 1 ++ [2] = [2] by decide] at h6
  go_wp2_with fail
  refine (ghas_eq (id := 2) (v := true) h6 (by decide) (by decide)).mono ?_
  rintro e w7 ⟨rfl, hb⟩
  have h7 := h6.over hb
  have u7 := u6.over hb
  clear h6 u6 hb
  go_wp2_with fail
  refine (ghas_eq (id := 1) (v := false) h7 (by decide) (by decide)).mono ?_
  rintro e w8 ⟨rfl, hb⟩
  have h8 := h7.over hb
  have u8 := u7.over hb
  clear h7 u7 hb
  go_wp2_with fail
  refine (gin_eq h8).mono ?_
  rintro e w9 ⟨A9, c9, rfl, o9, hb⟩
  have h9 := h8.over hb
  have u9 := u8.over hb
  clear h8 u8 hb o9
  go_wp2_with fail
  refine (gline_eq h9).mono ?_
  rintro e w10 ⟨A10, c10, rfl, o10, hb⟩
  have u10 := u9.over hb
  clear h9 u9 hb o10
  go_wp2_with fail
  go_ret
  exact ⟨rfl, u10.below⟩
end Go.Proofs.Ytlejnbepldpmmaa
