/- sorted: Is, Sort, Put. -/
import Derived.Test.YtlejnbepldpmmaaSort
import Derived.Test.YtlejnbepldpmmaaShelf
import Derived.Deep.RegionWith
import Derived.Deep.RegionHeld3
import Derived.Deep.RegionLaw
import Derived.IntWalk
namespace Go.Proofs.Ytlejnbepldpmmaa
set_option maxRecDepth 100000
open Go.ChangeShapes Go.WideShapes Go.ChangeAt Go.RowKit
set_option linter.unusedVariables false

/-- below 0: a's key is below b's -/
theorem cmp_lt (a b : Int) : Lib.compareInt a b < 0 ↔ a < b := by
  unfold Lib.compareInt; split <;> (try split) <;> omega
theorem is1_any (a1 a2 b1 b2 : Int) (w : World) : Calls Try.prog 57 #[.agg #[.int .i64 a1, .int .i64 a2], .agg #[.int .i64 b1, .int .i64 b2]] w fun e w' => e = .returned (.int .i64 (Lib.compareInt a1 b1)) ∧ Below w.heap.size w w' := by
  have hc := fun W => Try.cmp_Compare_int a1 b1 W
  generalize Lib.compareInt a1 b1 = r at hc ⊢
  go_enter Try.func57, Try.ntmps57
  go_wp2_with (go_at_call 58; (with_reducible refine (hc _).mono ?_); rintro e w' ⟨rfl, rfl⟩)
  go_ret
  exact ⟨rfl, (((Below.refl _ _).alloc (Nat.le_refl _) _).alloc (by simp) _)⟩

theorem isf_any {w : World} {A : Option Addr} {n c : Nat} {ps : List (Int × Int)} (h : RdI w A n c ps) (hl : n ≤ 1000) :
    Calls Try.prog 56 #[.slice A n c, .func (.func 57) #[] #[]] w fun e w' => e = .returned (.bool (isB ps)) ∧ Below w.heap.size w w' := by
  have hl1 := hidp h.len
  go_enter Try.func56, Try.ntmps56
  go_wp2
  go_loopg [5] n (fun g i wr => ∃ k : Int, i = .int .i64 k ∧ -1 ≤ k ∧ k < n ∧ (k.toNat ≤ g) ∧ Hid (∀ j : Nat, k ≤ (j : Int) → j + 1 < ps.length → (ps.getD j (0, 0)).1 ≤ (ps.getD (j + 1) (0, 0)).1) ∧ Below w.heap.size w wr)
  case atStart => exact ⟨(n : Int) - 1, rfl, by omega, by omega, by omega, hidp (fun j h1 h2 => by have := hl1.out; omega), Below.refl _ _⟩
  case round =>
    obtain ⟨ki, rfl, hk0, hkn, hkg, HS, hbe⟩ := hrel
    by_cases hpos : 0 < ki
    · obtain ⟨k, rfl⟩ : ∃ k : Nat, ki = (k : Int) + 1 := ⟨(ki - 1).toNat, by omega⟩
      have hkl : k + 1 < ps.length := by have := hl1.out; omega
      obtain ⟨g, off, rfl⟩ := h.some_ (by omega)
      have r := h.over hbe
      obtain ⟨a1, a2⟩ := r.cells (k := k + 1) hkl
      obtain ⟨b1, b2⟩ := r.cells (k := k) (by omega)
      obtain ⟨x, HX⟩ : ∃ x, Hid (ps.getD (k + 1) (0, 0) = x) := ⟨_, rfl⟩
      obtain ⟨y, HY⟩ : ∃ y, Hid (ps.getD k (0, 0) = y) := ⟨_, rfl⟩
      rw [HX.out] at a1 a2
      rw [HY.out] at b1 b2
      obtain ⟨x1, x2⟩ := x
      obtain ⟨y1, y2⟩ := y
      simp only at a1 a2 b1 b2
      have i1 : (0 : Int) ≤ (k : Int) + 1 := by omega
      have i2 : (k : Int) + 1 < (n : Int) := by omega
      have i3 : ((k : Int) + 1).toNat = k + 1 := by omega
      have i4 : IntKind.i64.wrap ((k : Int) + 1 - 1) = (k : Int) := by rw [show (k : Int) + 1 - 1 = k by omega]; exact IntWalk.i64_in _ (by omega)
      have i4' : IntKind.i64.wrap (k : Int) = (k : Int) := IntWalk.i64_in _ (by omega)
      have i5 : (0 : Int) ≤ (k : Int) := by omega
      have i6 : (k : Int) < (n : Int) := by omega
      clear r
      have hbe2 : ∀ w1, Below wr.drew.heap.size wr.drew w1 → Below w.heap.size w w1 := fun w1 hb => hbe.drew.trans (hb.mono (by have := hbe.size; simpa using this))
      have Hbe2 := hidp hbe2
      clear hbe2
      by_cases hlt : x1 < y1
      · have hd := (cmp_lt x1 y1).2 hlt
        have Hno : Hid (isB ps = false) := hidp (isB_no fun hs => by
          have := (srt_iff ps).1 hs k hkl
          rw [HX.out, HY.out] at this
          simp at this; omega)
        go_wp2_with fail
        go_region_held3 (fun w' => w'.cell? ⟨g, off + (k + 1) * 2, none⟩ = some (.int .i64 x1) ∧ w'.cell? ⟨g, off + (k + 1) * 2 + 1, none⟩ = some (.int .i64 x2) ∧ w'.cell? ⟨g, off + k * 2, none⟩ = some (.int .i64 y1) ∧ w'.cell? ⟨g, off + k * 2 + 1, none⟩ = some (.int .i64 y2)) (first | exact ⟨a1, a2, b1, b2⟩ | exact hs)
          ((go_at_call 57; refine (is1_any x1 x2 y1 y2 _).mono ?_; rintro e w1 ⟨rfl, hb1⟩; have hs := And.intro ((hb1.cell (cell_lt a1)).trans a1) (And.intro ((hb1.cell (cell_lt a2)).trans a2) (And.intro ((hb1.cell (cell_lt b1)).trans b1) ((hb1.cell (cell_lt b2)).trans b2)))))
        go_wp2_with fail
        go_ret
        exact ⟨ret_bool Hno.out.symm, Hbe2.out _ hb1⟩
      · have hd : ¬ (Lib.compareInt x1 y1 < 0) := fun h => hlt ((cmp_lt x1 y1).1 h)
        have hd2 : 0 ≤ Lib.compareInt x1 y1 := by omega
        go_wp2_with fail
        go_region_held3 (fun w' => w'.cell? ⟨g, off + (k + 1) * 2, none⟩ = some (.int .i64 x1) ∧ w'.cell? ⟨g, off + (k + 1) * 2 + 1, none⟩ = some (.int .i64 x2) ∧ w'.cell? ⟨g, off + k * 2, none⟩ = some (.int .i64 y1) ∧ w'.cell? ⟨g, off + k * 2 + 1, none⟩ = some (.int .i64 y2)) (first | exact ⟨a1, a2, b1, b2⟩ | exact hs)
          ((go_at_call 57; refine (is1_any x1 x2 y1 y2 _).mono ?_; rintro e w1 ⟨rfl, hb1⟩; have hs := And.intro ((hb1.cell (cell_lt a1)).trans a1) (And.intro ((hb1.cell (cell_lt a2)).trans a2) (And.intro ((hb1.cell (cell_lt b1)).trans b1) ((hb1.cell (cell_lt b2)).trans b2)))))
        go_wp2_with fail
        go_roundg (gk - 1)
        case measure => omega
        case rel =>
          refine ⟨k, rfl, by omega, by omega, by omega, hidp (fun j h1 h2 => ?_), Hbe2.out _ hb1⟩
          by_cases e : j = k
          · subst e; rw [HX.out, HY.out]; simp; omega
          · exact HS.out j (by omega) h2
    · have Hyes : Hid (isB ps = true) := hidp (isB_yes ((srt_iff ps).2 fun j hj => HS.out j (by omega) hj))
      have hge : ki ≤ 0 := by omega
      go_wp2
      go_ret
      exact ⟨ret_bool Hyes.out.symm, hbe⟩

theorem is_any {w : World} {A : Option Addr} {n c : Nat} {ps : List (Int × Int)} (h : RdI w A n c ps) (hl : n ≤ 1000) :
    Calls Try.prog 12 #[.slice A n c] w fun e w' => e = .returned (.bool (isB ps)) ∧ Below w.heap.size w w' := by
  go_enter Try.func12, Try.ntmps12
  go_wp2_with fail
  refine (isf_any h hl).mono ?_
  rintro e w1 ⟨rfl, hb⟩
  go_wp2_with fail
  go_ret
  exact ⟨rfl, hb⟩
theorem sort_short {w : World} {A : Option Addr} {n c : Nat} {ps : List (Int × Int)} (h : RdI w A n c ps) (hl : n < 2) : Calls Try.prog 11 #[.slice A n c] w (SortPost w n (isort ps)) := by
  obtain ⟨i0, hi0, hz0, hz1, hz2⟩ := info_parts infoItem
  have hl1 := hidp h.len
  have H0 : Hid (isort ps = ps) := hidp (isort_short (by have := hl1.out; omega))
  have P2 : Hid (A = none → n = 0 ∧ c = 0) := hidp fun e => ⟨by have := (h.nil e).1; subst this; exact hl1.out, (h.nil e).2⟩
  have Q2 : Hid ((pcs ps).length = n * 2) := hidp (by rw [pcs_len, hl1.out])
  have S2 := hidp h.lies
  have O2 := hidp (pcs_one ps)
  have N2 : Hid (0 + n ≤ maxLen) := hidp (by unfold maxLen; omega)
  have T2 : Hid ((0 + n) * 16 ≤ 140737488355328) := hidp (by omega)
  go_enter Try.func11, Try.ntmps11
  go_wp2_with (at_builtin; refine wpList_app2 _ rfl (.const (.slice none 0 0)) (.tmp 7) 22 rfl w.heap.size 25 i0 _ 2 16 Try.underlying22 hi0 hz0 hz1 hz2 rfl (by decide) none 0 0 [] rfl (World.ownsRow_nil _ _ _ _) _ _ n c (pcs ps) rfl P2.out Q2.out S2.out O2.out N2.out T2.out (Nat.le_refl _) ?_; intro A' c' w1 happ; simp only [Nat.zero_add, List.nil_append] at happ)
  go_ret
  rw [H0.out]
  exact ⟨A', c', rfl, ⟨happ.own, hl1.out, happ.cap, happ.nil, h.fit⟩, happ.turned.below (Nat.le_refl _) (by simp [fp])⟩
theorem isort_fit {ps : List (Int × Int)} (h : ∀ p ∈ ps, I64 p.1 ∧ I64 p.2) : ∀ p ∈ isort ps, I64 p.1 ∧ I64 p.2 := fun p hp => h p ((isort_perm ps).mem_iff.1 hp)
theorem sort_ind (k : Nat) : ∀ (w : World) (A : Option Addr) (n c : Nat) (ps : List (Int × Int)), n ≤ k → RdI w A n c ps → n ≤ 1000 → Calls Try.prog 11 #[.slice A n c] w (SortPost w n (isort ps)) := by
  induction k with
  | zero => intro w A n c ps hn h _; exact sort_short h (by omega)
  | succ k ih =>
    intro w A n c ps hn h hl
    by_cases h2 : n < 2
    · exact sort_short h h2
    · have Hih := hidp ih
      clear ih
      have hl1 := hidp h.len
      obtain ⟨g, off, rfl⟩ := h.some_ (by have := hl1.out; omega)
      obtain ⟨q, Hq, q1, q2⟩ : ∃ q : Nat, Hid ((n : Int) / 2 = (q : Int)) ∧ 1 ≤ q ∧ q < n := ⟨n / 2, hidp (by omega), by omega, by omega⟩
      have hcap := h.cap
      have hcm := hcap.2
      unfold maxLen at hcm
      have R1 := hidp (h.head q (by have := hl1.out; omega))
      obtain ⟨C, hC, R2⟩ : ∃ C, (if c = q then some (⟨g, off, none⟩ : Addr) else some ⟨g, off + q * 2, none⟩) = C ∧ Hid (RdI w C (n - q) (c - q) (ps.drop q)) := ⟨_, rfl, hidp (h.cut q (by have := hl1.out; omega))⟩
      have Hs : Hid (mrg (isort (ps.take q)) (isort (ps.drop q)) = isort ps) := hidp (by rw [← isort_append, List.take_append_drop])
      have hqc : q ≤ c := by have := hl1.out; omega
      have hqn : q ≤ n := by omega
      go_enter Try.func11, Try.ntmps11
      go_wp2_with fail
      rw [Hq.out]
      have R1d := hidp R1.out.drew
      have R2d := hidp R2.out.drew
      have Hl := hidp (show q + (n - q) ≤ 1000 by omega)
      go_region_with (first
        | (go_at_call 11; (with_reducible refine (Hih.out _ (some ⟨g, off, none⟩) q c (ps.take q) (by omega) ?_ (by omega)).mono ?_); (first | exact R1d.out | exact R1d.out.over hb2); rintro e w1 ⟨D1, k1, rfl, o1, hb1⟩)
        | (go_at_call 11; (with_reducible refine (Hih.out _ C (n - q) (c - q) (ps.drop q) (by omega) ?_ (by omega)).mono ?_); (first | exact R2d.out | exact R2d.out.over hb1); rintro e w2 ⟨D2, k2, rfl, o2, hb2⟩)
        | (go_at_call 55; (with_reducible refine (merge_any (xs := isort (ps.take q)) (ys := isort (ps.drop q)) ?_ ?_ Hl.out).mono ?_); (first | exact RdI.of_own o1 | exact (RdI.of_own o1).over hb2); (first | exact RdI.of_own o2 | exact (RdI.of_own o2).over hb1); rintro e w3 ⟨D3, k3, rfl, o3, hb3⟩))
      all_goals
        go_wp2_with fail
        go_ret
        have hn3 : q + (n - q) = n := by omega
        rw [Hs.out, hn3] at o3
        refine ⟨D3, k3, rfl, ?_, ?_⟩
        · exact o3.low (by have s1 := hb1.size; have s2 := hb2.size; simp at s1 s2; omega)
        · have s1 := hb1.size
          have s2 := hb2.size
          simp at s1 s2
          first
            | exact ((Below.refl w.heap.size w).drew.trans (hb1.mono (by simp))).trans ((hb2.mono (by omega)).trans (hb3.mono (by omega)))
            | exact ((Below.refl w.heap.size w).drew.trans (hb2.mono (by simp))).trans ((hb1.mono (by omega)).trans (hb3.mono (by omega)))
theorem sort_any {w : World} {A : Option Addr} {n c : Nat} {ps : List (Int × Int)} (h : RdI w A n c ps) (hl : n ≤ 1000) : Calls Try.prog 11 #[.slice A n c] w (SortPost w n (isort ps)) := sort_ind n w A n c ps (Nat.le_refl _) h hl
end Go.Proofs.Ytlejnbepldpmmaa
