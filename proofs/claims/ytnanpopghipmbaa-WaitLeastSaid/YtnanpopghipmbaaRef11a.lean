/- swingbridgeref11: Longest, others, Ahead, lock. -/
import Derived.Test.YtnanpopghipmbaaFair2
import Derived.Test.YtnanpopghipmbaaRef7d
namespace Go.Proofs.Ytnanpopghipmbaa
open Go.ChangeShapes Go.WideShapes Go.ChangeAt Go.RowKit
set_option linter.unusedVariables false

theorem rthere_any (s : SetR) (of : Int) (w : World) (hs : SetOk w s) : Calls Try.prog 7 #[.agg #[.int .i64 s.proto, .slice s.ca s.cores.length s.cc, .slice s.ha s.homes.length s.hc, .slice s.ta s.tasks.length s.tc], .int .i64 of] w fun e w' => e = .returned (.bool (thereB s of)) ∧ Below w.heap.size w w' := by
  have hb := (Below.refl w.heap.size w).alloc (Nat.le_refl _) (.cells #[.int .i64 s.proto, .slice s.ca s.cores.length s.cc, .slice s.ha s.homes.length s.hc, .slice s.ta s.tasks.length s.tc] 25)
  have sc := SetCells.new w s 25
  have H := hidp (hs.keep (Keeps.of_below hb))
  have l3 : s.tasks.length ≤ maxLen := Nat.le_trans hs.tasks.sl.2.1 hs.tasks.sl.2.2
  unfold maxLen at l3
  clear hs
  by_cases ho : okS s = true
  · by_cases h0 : 0 ≤ of
    · have Hv : Hid (thereB s of = decide (of < s.tasks.length)) := hidp (by simp [thereB, ho, h0])
      go_enter Try.func7, Try.ntmps7
      go_wp2_with (first | (go_at_call 14; (with_reducible refine (rok_any _ _ H.out).mono ?_); rintro e w2 ⟨rfl, hb2⟩; have sc2 := sc.keep (Keeps.of_below hb2); obtain ⟨c0, c1, c2, c3⟩ := sc2))
      go_ret
      exact ⟨ret_bool Hv.out.symm, hb.trans (hb2.mono hb.size)⟩
    · have Hv : Hid (thereB s of = false) := hidp (by simp [thereB, h0])
      have d0 : decide (0 ≤ of) = false := by simpa using h0
      clear h0
      go_enter Try.func7, Try.ntmps7
      go_wp2_with (first | (go_at_call 14; (with_reducible refine (rok_any _ _ H.out).mono ?_); rintro e w2 ⟨rfl, hb2⟩; have sc2 := sc.keep (Keeps.of_below hb2); obtain ⟨c0, c1, c2, c3⟩ := sc2))
      go_ret
      exact ⟨ret_bool Hv.out.symm, hb.trans (hb2.mono hb.size)⟩
  · have ho : okS s = false := by simpa using ho
    have Hv : Hid (thereB s of = false) := hidp (by unfold thereB; rw [ho]; rfl)
    go_enter Try.func7, Try.ntmps7
    go_wp2_with (first | (go_at_call 14; (with_reducible refine (rok_any _ _ H.out).mono ?_); rintro e w2 ⟨rfl, hb2⟩; have sc2 := sc.keep (Keeps.of_below hb2); obtain ⟨c0, c1, c2, c3⟩ := sc2))
    go_ret
    exact ⟨ret_bool Hv.out.symm, hb.trans (hb2.mono hb.size)⟩

/-- the longest Locks of all but one task, 0 where there is none -/
def rothL (of : Int) : Nat → List TaskR → List Int
  | _, [] => []
  | k, t :: ts => (if (k : Int) = of then [] else [maxL t.parts]) ++ rothL of (k + 1) ts
theorem rothL_append (of : Int) (k : Nat) (a b : List TaskR) : rothL of k (a ++ b) = rothL of k a ++ rothL of (k + a.length) b := by
  induction a generalizing k with
  | nil => simp [rothL]
  | cons t a ih => simp only [List.cons_append, rothL, ih, List.length_cons, List.append_assoc]; rw [show k + 1 + a.length = k + (a.length + 1) by omega]
theorem rothL_snoc (of : Int) (ts : List TaskR) (n : Nat) (h : n < ts.length) : rothL of 0 (ts.take (n + 1)) = rothL of 0 (ts.take n) ++ (if (n : Int) = of then [] else [maxL (ts.getD n default).parts]) := by
  rw [take_snocD ts n h, rothL_append]; simp [rothL, List.length_take, Nat.min_eq_left (Nat.le_of_lt h)]
theorem rothL_len (of : Int) (k : Nat) (ts : List TaskR) : (rothL of k ts).length ≤ ts.length := by
  induction ts generalizing k with
  | nil => simp [rothL]
  | cons t ts ih =>
    have := ih (k + 1)
    simp only [rothL, List.length_append, List.length_cons]
    split
    · simp; omega
    · simp; omega
theorem rothL_bd {of : Int} {k : Nat} {ts : List TaskR} (h : ∀ t ∈ ts, LenOk t.parts) : ∀ n ∈ rothL of k ts, 0 ≤ n ∧ n ≤ 60 := by
  induction ts generalizing k with
  | nil => simp [rothL]
  | cons t ts ih =>
    intro n hn
    simp only [rothL, List.mem_append] at hn
    rcases hn with hn | hn
    · have h1 := maxL_nn t.parts
      have h2 := maxL_bd (h t (by simp))
      split at hn
      · simp at hn
      · simp at hn; subst hn; omega
    · exact ih (fun q hq => h q (by simp [hq])) n hn
/-- how many of a row are greater than 0 -/
def posN : List Int → Int
  | [] => 0
  | a :: l => (if 0 < a then 1 else 0) + posN l
theorem posN_append (a b : List Int) : posN (a ++ b) = posN a + posN b := by
  induction a with
  | nil => simp [posN]
  | cons x a ih => simp only [List.cons_append, posN, ih]; omega
theorem posN_bd (l : List Int) : 0 ≤ posN l ∧ posN l ≤ l.length := by
  induction l with
  | nil => simp [posN]
  | cons a l ih => simp only [posN, List.length_cons]; split <;> omega
theorem posN_snoc (l : List Int) (k : Nat) (h : k < l.length) : posN (l.take (k + 1)) = posN (l.take k) + if 0 < l.getD k 0 then 1 else 0 := by
  rw [take_snoc l k h, posN_append]; simp only [posN, Int.add_zero]
theorem roth_is (of : Int) (k : Nat) (ts : List TaskR) : tot (rothL of k ts) = tot (othL of k ts) ∧ posN (rothL of k ts) = (othL of k ts).length := by
  induction ts generalizing k with
  | nil => simp [rothL, othL, tot, posN]
  | cons t ts ih =>
    obtain ⟨i1, i2⟩ := ih (k + 1)
    have hm := maxL_nn t.parts
    simp only [rothL, othL, tot_append, posN_append, List.length_append, i1, i2]
    by_cases e : (k : Int) = of
    · rw [if_pos e, if_pos (.inl e)]; simp [tot, posN]
    · rw [if_neg e]
      by_cases z : maxL t.parts = 0
      · rw [if_pos (.inr z)]; simp [tot, posN, z]
      · rw [if_neg (fun h => h.elim e z)]; simp [tot, posN, show 0 < maxL t.parts by omega]

end Go.Proofs.Ytnanpopghipmbaa
