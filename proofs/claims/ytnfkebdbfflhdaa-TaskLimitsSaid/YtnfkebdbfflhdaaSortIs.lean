/- sorted: Is, Sort, Put. -/
import Derived.Test.YtnfkebdbfflhdaaSort
import Derived.Deep.RegionWith
import Derived.Deep.RegionHeld3
import Derived.Deep.RegionLaw
import Derived.IntWalk
namespace Go.Proofs.Ytnfkebdbfflhdaa
set_option maxRecDepth 100000
open Go.ChangeShapes Go.WideShapes Go.ChangeAt Go.RowKit
set_option linter.unusedVariables false

theorem sort_short {w : World} {A : Option Addr} {n c : Nat} {ps : List (Int × Int)} (h : RdI w A n c ps) (hl : n < 2) : Calls Try.prog 20 #[.slice A n c] w (SortPost w n (isort ps)) := by
  obtain ⟨i0, hi0, hz0, hz1, hz2⟩ := info_parts infoItem
  have hl1 := hidp h.len
  have H0 : Hid (isort ps = ps) := hidp (isort_short (by have := hl1.out; omega))
  have P2 : Hid (A = none → n = 0 ∧ c = 0) := hidp fun e => ⟨by have := (h.nil e).1; subst this; exact hl1.out, (h.nil e).2⟩
  have Q2 : Hid ((pcs ps).length = n * 2) := hidp (by rw [pcs_len, hl1.out])
  have S2 := hidp h.lies
  have O2 := hidp (pcs_one ps)
  have N2 : Hid (0 + n ≤ maxLen) := hidp (by unfold maxLen; omega)
  have T2 : Hid ((0 + n) * 16 ≤ 140737488355328) := hidp (by omega)
  go_enter Try.func20, Try.ntmps20
  go_wp2_with (at_builtin; refine wpList_app2 _ rfl (.const (.slice none 0 0)) (.tmp 7) 46 rfl w.heap.size 48 i0 _ 2 16 Try.underlying46 hi0 hz0 hz1 hz2 rfl (by decide) none 0 0 [] rfl (World.ownsRow_nil _ _ _ _) _ _ n c (pcs ps) rfl P2.out Q2.out S2.out O2.out N2.out T2.out (Nat.le_refl _) ?_; intro A' c' w1 happ; simp only [Nat.zero_add, List.nil_append] at happ)
  go_ret
  rw [H0.out]
  exact ⟨A', c', rfl, ⟨happ.own, hl1.out, happ.cap, happ.nil, h.fit⟩, happ.turned.below (Nat.le_refl _) (by simp [fp])⟩
theorem isort_fit {ps : List (Int × Int)} (h : ∀ p ∈ ps, I64 p.1 ∧ I64 p.2) : ∀ p ∈ isort ps, I64 p.1 ∧ I64 p.2 := fun p hp => h p ((isort_perm ps).mem_iff.1 hp)
theorem sort_ind (k : Nat) : ∀ (w : World) (A : Option Addr) (n c : Nat) (ps : List (Int × Int)), n ≤ k → RdI w A n c ps → n ≤ 1000 → Calls Try.prog 20 #[.slice A n c] w (SortPost w n (isort ps)) := by
  induction k with
  | zero => intro w A n c ps hn h _; exact sort_short h (by omega)
  | succ k ih =>
    intro w A n c ps hn h hl
    by_cases h2 : n < 2
    · exact sort_short h h2
    · have Hih := hidp ih
      clear ih
      have hl1 := hidp h.len
      obtain ⟨g, off, rfl⟩ := h.some_ (by have := hl1.out; omega)
      obtain ⟨q, Hq, q1, q2⟩ : ∃ q : Nat, Hid ((n : Int) / 2 = (q : Int)) ∧ 1 ≤ q ∧ q < n := ⟨n / 2, hidp (by omega), by omega, by omega⟩
      have hcap := h.cap
      have hcm := hcap.2
      unfold maxLen at hcm
      have R1 := hidp (h.head q (by have := hl1.out; omega))
      obtain ⟨C, hC, R2⟩ : ∃ C, (if c = q then some (⟨g, off, none⟩ : Addr) else some ⟨g, off + q * 2, none⟩) = C ∧ Hid (RdI w C (n - q) (c - q) (ps.drop q)) := ⟨_, rfl, hidp (h.cut q (by have := hl1.out; omega))⟩
      have Hs : Hid (mrg (isort (ps.take q)) (isort (ps.drop q)) = isort ps) := hidp (by rw [← isort_append, List.take_append_drop])
      have hqc : q ≤ c := by have := hl1.out; omega
      have hqn : q ≤ n := by omega
      go_enter Try.func20, Try.ntmps20
      go_wp2_with fail
      rw [Hq.out]
      have R1d := hidp R1.out.drew
      have R2d := hidp R2.out.drew
      have Hl := hidp (show q + (n - q) ≤ 1000 by omega)
      go_region_with (first
        | (go_at_call 20; (with_reducible refine (Hih.out _ (some ⟨g, off, none⟩) q c (ps.take q) (by omega) ?_ (by omega)).mono ?_); (first | exact R1d.out | exact R1d.out.over hb2); rintro e w1 ⟨D1, k1, rfl, o1, hb1⟩)
        | (go_at_call 20; (with_reducible refine (Hih.out _ C (n - q) (c - q) (ps.drop q) (by omega) ?_ (by omega)).mono ?_); (first | exact R2d.out | exact R2d.out.over hb1); rintro e w2 ⟨D2, k2, rfl, o2, hb2⟩)
        | (go_at_call 34; (with_reducible refine (merge_any (xs := isort (ps.take q)) (ys := isort (ps.drop q)) ?_ ?_ Hl.out).mono ?_); (first | exact RdI.of_own o1 | exact (RdI.of_own o1).over hb2); (first | exact RdI.of_own o2 | exact (RdI.of_own o2).over hb1); rintro e w3 ⟨D3, k3, rfl, o3, hb3⟩))
      all_goals
        go_wp2_with fail
        go_ret
        have hn3 : q + (n - q) = n := by omega
        rw [Hs.out, hn3] at o3
        refine ⟨D3, k3, rfl, ?_, ?_⟩
        · exact o3.low (by have s1 := hb1.size; have s2 := hb2.size; simp at s1 s2; omega)
        · have s1 := hb1.size
          have s2 := hb2.size
          simp at s1 s2
          first
            | exact ((Below.refl w.heap.size w).drew.trans (hb1.mono (by simp))).trans ((hb2.mono (by omega)).trans (hb3.mono (by omega)))
            | exact ((Below.refl w.heap.size w).drew.trans (hb2.mono (by simp))).trans ((hb1.mono (by omega)).trans (hb3.mono (by omega)))
theorem sort_any {w : World} {A : Option Addr} {n c : Nat} {ps : List (Int × Int)} (h : RdI w A n c ps) (hl : n ≤ 1000) : Calls Try.prog 20 #[.slice A n c] w (SortPost w n (isort ps)) := sort_ind n w A n c ps (Nat.le_refl _) h hl
end Go.Proofs.Ytnfkebdbfflhdaa
