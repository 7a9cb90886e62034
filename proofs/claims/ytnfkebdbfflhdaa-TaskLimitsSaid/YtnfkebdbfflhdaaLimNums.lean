/- task: as many of all as may be, and one more. Plain numbers. -/
import Derived.Test.YtnfkebdbfflhdaaGrown
import Derived.Test.YtnfkebdbfflhdaaRef7d
namespace Go.Proofs.Ytnfkebdbfflhdaa
open Go.ChangeShapes Go.WideShapes Go.ChangeAt Go.RowKit
set_option linter.unusedVariables false
def limPart (j : Nat) : PartM := ⟨1 + ((j % 2 : Nat) : Int), 60, 0⟩
def limPs (M : Nat) : List PartM := (List.range M).map limPart
def limTask (L : Option Addr) (d M C i : Nat) : TaskR := ⟨letter i, 3000, 3000, 1000 - (i : Int), ((i % C : Nat) : Int), L, d, limPs M⟩
def limTs (L : Option Addr) (d M C n : Nat) : List TaskR := (List.range n).map (limTask L d M C)
def limHs (C n : Nat) : List Int := (List.range n).map fun i => ((i % C : Nat) : Int)
theorem limPs_snoc (n : Nat) : limPs (n + 1) = limPs n ++ [limPart n] := by unfold limPs; rw [List.range_succ, List.map_append]; rfl
theorem limTs_snoc (L : Option Addr) (d M C n : Nat) : limTs L d M C (n + 1) = limTs L d M C n ++ [limTask L d M C n] := by unfold limTs; rw [List.range_succ, List.map_append]; rfl
theorem limHs_snoc (C n : Nat) : limHs C (n + 1) = limHs C n ++ [((n % C : Nat) : Int)] := by unfold limHs; rw [List.range_succ, List.map_append]; rfl
theorem limPs_len (M : Nat) : (limPs M).length = M := by simp [limPs]
theorem limTs_len (L : Option Addr) (d M C n : Nat) : (limTs L d M C n).length = n := by simp [limTs]
theorem limHs_len (C n : Nat) : (limHs C n).length = n := by simp [limHs]
theorem limTs_at {L : Option Addr} {d M C n i : Nat} (h : i < n) : (limTs L d M C n).getD i default = limTask L d M C i := by simp [limTs, List.getD, h]
theorem limPs_wf (M : Nat) : ∀ p ∈ limPs M, p.wf := fun p hp => by
  obtain ⟨j, _, rfl⟩ := List.mem_map.1 hp
  exact ⟨by show I64 _; unfold limPart I64; dsimp only; omega, by show I64 60; decide, by show I64 0; decide⟩
theorem limHs_wf (C n : Nat) (h : n ≤ 100) : ∀ z ∈ limHs C n, I64 z := fun z hz => by
  obtain ⟨j, hj, rfl⟩ := List.mem_map.1 hz
  have := List.mem_range.1 hj
  have := Nat.mod_le j C
  unfold I64; omega
theorem inB_no {x lo hi : Int} (h : ¬ (lo ≤ x ∧ x ≤ hi)) : inB x lo hi = false := by
  cases e : inB x lo hi with
  | false => rfl
  | true => exact absurd (inB_true.1 e) h
theorem lim_frame {S : SetR} {C K R N : Nat} (h0 : S.proto = 3) (h1 : S.cores = List.replicate C (K : Int)) (h2 : S.homes = limHs C R) (h3 : S.tasks.length = N) (hC : 2 ≤ C) (hK : 2 ≤ K) (hN : 1 ≤ N) :
    frameV S = if 3 < C ∨ 3 < K ∨ 4 < R then 16 else if 6 < N then 11 else 0 := by
  have e0 : inB S.proto 1 3 = true := by rw [h0]; decide
  have l1 : S.cores.length = C := by rw [h1]; simp
  have l2 : S.homes.length = R := by rw [h2, limHs_len]
  unfold frameV
  rw [if_neg (by rw [e0]; decide), l1, l2, h3]
  by_cases hc : 3 < C
  · rw [if_pos (inB_no (by omega)), if_pos (.inl hc)]
  · have e1 : inB (C : Int) 1 3 = true := inB_true.2 (by omega)
    rw [if_neg (by rw [e1]; decide)]
    by_cases hk : 3 < K
    · have e2 : allB S.cores 1 3 = false := by
        unfold allB
        rw [List.all_eq_false]
        refine ⟨(K : Int), by rw [h1]; exact List.mem_replicate.2 ⟨by omega, rfl⟩, ?_⟩
        rw [inB_no (by omega)]; decide
      rw [if_pos e2, if_pos (.inr (.inl hk))]
    · have e2 : allB S.cores 1 3 = true := List.all_eq_true.2 (fun n hn => by
        rw [h1] at hn
        rw [(List.mem_replicate.1 hn).2]
        exact inB_true.2 (by omega))
      rw [if_neg (by rw [e2]; decide)]
      by_cases hr : 4 < R
      · rw [if_pos hr, if_pos (.inr (.inr hr))]
      · have e3 : allB S.homes 0 ((C : Int) - 1) = true := List.all_eq_true.2 (fun n hn => by
          rw [h2] at hn
          obtain ⟨j, _, rfl⟩ := List.mem_map.1 hn
          have := Nat.mod_lt j (show 0 < C by omega)
          exact inB_true.2 (by omega))
        have hg : ¬ (3 < C ∨ 3 < K ∨ 4 < R) := by omega
        rw [if_neg hr, if_neg (by rw [e3]; decide), if_neg hg]
        by_cases hn : 6 < N
        · rw [if_pos hn, if_pos hn]
        · rw [if_neg hn, if_neg (by omega), if_neg hn]
theorem lim_task {S : SetR} {C R M N d k : Nat} {L : Option Addr} (h1 : S.cores.length = C) (h2 : S.homes.length = R) (h3 : S.tasks = limTs L d M C N) (hC : 2 ≤ C) (hM : 1 ≤ M) (hN : N ≤ 6) (hk : k < N) : taskE S k = if 6 < M then 15 else 0 := by
  have et : S.tasks.getD k default = limTask L d M C k := by rw [h3]; exact limTs_at hk
  have hl : S.tasks.length = N := by rw [h3, limTs_len]
  have hm := Nat.mod_lt k (show 0 < C by omega)
  have f : formB (limTask L d M C k) = true := formB_mk (letter_name (by omega)) (by simp [limTask]) (by simp [limTask]) (by simp [limTask]; omega)
  have g : inB (limTask L d M C k).cl 0 ((C : Int) - 1) = true := inB_true.2 (by simp only [limTask]; omega)
  have t : takenB (S.tasks.take k) (limTask L d M C k) = false := taken_no (by omega) (fun i hi => by
    rw [h3, limTs_at (by omega)]
    refine ⟨letters (by omega) hi, ?_⟩
    rw [beq_eq_false_iff_ne]
    simp only [limTask]; omega)
  unfold taskE
  rw [et, h1, h2, if_neg (by rw [f]; decide), if_neg (by rw [g]; decide), if_neg (by rw [t]; decide)]
  by_cases hm6 : 6 < M
  · have e : partsB (limTask L d M C k).parts (R : Int) = false := by
      unfold partsB
      simp only [limTask]
      rw [limPs_len, inB_no (by omega)]; rfl
    rw [if_pos e, if_pos hm6]
  · have e : partsB (limTask L d M C k).parts (R : Int) = true := partsB_mk (by simp only [limTask]; rw [limPs_len]; omega) (fun p hp => by
      obtain ⟨j, _, rfl⟩ := List.mem_map.1 hp
      exact partB_run (by omega) (by omega))
    rw [if_neg (by rw [e]; decide), if_neg hm6]
theorem lim_told {S : SetR} {C K R M N d : Nat} {L : Option Addr} (h0 : S.proto = 3) (h1 : S.cores = List.replicate C (K : Int)) (h2 : S.homes = limHs C R) (h3 : S.tasks = limTs L d M C N) (hC : 2 ≤ C) (hK : 2 ≤ K) (hM : 1 ≤ M) (hN : 1 ≤ N) :
    (3 < C ∨ 3 < K ∨ 4 < R → chkAt S = -1 ∧ chkE S = 16) ∧ (¬ (3 < C ∨ 3 < K ∨ 4 < R) → 6 < N → chkAt S = -1 ∧ chkE S = 11) ∧ (¬ (3 < C ∨ 3 < K ∨ 4 < R) → ¬ 6 < N → 6 < M → chkAt S = 0 ∧ chkE S = 15) ∧ (¬ (3 < C ∨ 3 < K ∨ 4 < R) → ¬ 6 < N → ¬ 6 < M → chkAt S = -1 ∧ chkE S = 0) := by
  have hl : S.tasks.length = N := by rw [h3, limTs_len]
  have hf := lim_frame h0 h1 h2 hl hC hK hN
  have ht := fun k (hk : k < N) (hN6 : N ≤ 6) => lim_task (S := S) (k := k) (R := R) (by rw [h1]; simp) (by rw [h2, limHs_len]) h3 hC hM hN6 hk
  refine ⟨fun h => chk_frame (by rw [hf, if_pos h]) (by decide), fun h hn => chk_frame (by rw [hf, if_neg h, if_pos hn]) (by decide), fun h hn hm => ?_, fun h hn hm => ?_⟩
  · have := chk_here (s := S) (k := 0) (by rw [hf, if_neg h, if_neg hn]) (by omega) (by omega) (by rw [ht 0 (by omega) (by omega), if_pos hm]; decide)
    rw [ht 0 (by omega) (by omega), if_pos hm] at this
    exact ⟨by simpa using this.1, this.2⟩
  · exact chk_none (by rw [hf, if_neg h, if_neg hn]) (fun j hj => by rw [ht j (by omega) (by omega), if_neg hm])
theorem lim_bytes (i : Nat) (hi : i < 7) (w : World) (T8 : TypeId) : ∀ j (hj : j < [UInt8.ofNat (97 + i)].length), (w.alloc (.cells #[.int .u8 (97 + (i : Int))] T8)).cell? ((⟨w.heap.size, 0, none⟩ : Addr).add j) = some (.int .u8 ([UInt8.ofNat (97 + i)][j].toNat : Int)) := by
  intro j hj
  have hj0 : j = 0 := by simpa using hj
  subst hj0
  have e : ((UInt8.ofNat (97 + i)).toNat : Int) = 97 + (i : Int) := by
    have : i = 0 ∨ i = 1 ∨ i = 2 ∨ i = 3 ∨ i = 4 ∨ i = 5 ∨ i = 6 := by omega
    rcases this with rfl | rfl | rfl | rfl | rfl | rfl | rfl <;> decide
  show (w.alloc (.cells #[.int .u8 (97 + (i : Int))] T8)).cell? ((⟨w.heap.size, 0, none⟩ : Addr).add 0) = some (.int .u8 ((UInt8.ofNat (97 + i)).toNat : Int))
  rw [e]
  simp [Addr.add]
end Go.Proofs.Ytnfkebdbfflhdaa
