/- Numbers for layer 6's laws: 0 .. k - 1; a, a + 1 .. a + n - 1. -/
import Derived.Test.YtlejnbepldpmmaaKnown6
namespace Go.Proofs.Ytlejnbepldpmmaa
open Go.ChangeShapes Go.WideShapes Go.ChangeAt Go.RowKit
/-- a, a + 1 .. a + n - 1 -/
def seg (a n : Nat) : List Int := (List.range' a n).map fun (i : Nat) => (i : Int)
theorem seg_len (a n : Nat) : (seg a n).length = n := by simp [seg]
theorem seg_snoc (a n : Nat) : seg a (n + 1) = seg a n ++ [((a + n : Nat) : Int)] := by simp [seg, List.range'_concat]
theorem seg_cons (a n : Nat) : seg a (n + 1) = (a : Int) :: seg (a + 1) n := by simp [seg, List.range'_succ]
theorem seg_mem (a n : Nat) (x : Int) : x ∈ seg a n ↔ (a : Int) ≤ x ∧ x < a + n := by
  simp only [seg, List.mem_map, List.mem_range'_1]
  constructor
  · rintro ⟨i, hi, rfl⟩; omega
  · intro h; exact ⟨x.toNat, by omega, by omega⟩
theorem plK_seg (a n : Nat) (x : Int) : plK (seg a n) x = decide ((a : Int) ≤ x ∧ x < a + n) := by
  unfold plK; simp [seg_mem]
theorem filter_ne_nodup {l : List Int} {x : Int} (h : l.Nodup) (hm : x ∈ l) : (besides l x).length + 1 = l.length := by
  induction l with
  | nil => simp at hm
  | cons y l ih =>
    have hn := List.nodup_cons.1 h
    unfold besides
    by_cases e : y = x
    · subst e
      have : l.filter (fun z => !(z == y)) = l := List.filter_eq_self.2 fun z hz => by
        have : z ≠ y := fun e => hn.1 (e ▸ hz)
        simpa using this
      simp [this]
    · have hm2 : x ∈ l := by
        rcases List.mem_cons.1 hm with h1 | h1
        · exact absurd h1.symm e
        · exact h1
      have := ih hn.2 hm2
      unfold besides at this
      simp [e]; omega
theorem seg_nodup (a n : Nat) : (seg a n).Nodup := by
  unfold seg
  exact List.pairwise_map.2 ((List.nodup_range' (s := a) (n := n)).imp fun h e => h (by omega))
theorem besides_seg (m : Nat) (j : Int) (h0 : 0 ≤ j) (h1 : j < m) : (besides (seg 0 m) j).length + 1 = m := by
  rw [filter_ne_nodup (seg_nodup 0 m) ((seg_mem 0 m j).2 (by omega)), seg_len]
/-- the ids 0 .. i - 1 have asked; nx of them were let in, in order -/
def FairInv (K : Int) (i nx : Nat) (is qs : List Int) : Prop := nx ≤ i ∧ qs = seg nx (i - nx) ∧ is.Nodup ∧ (∀ x ∈ is, 0 ≤ x ∧ x < nx) ∧ (nx < i → (is.length : Int) = K)
section
variable {K : Int} {i nx : Nat} {is qs : List Int}
theorem FairInv.out (h : FairInv K i nx is qs) : plK is i = false ∧ plK qs i = false := by
  obtain ⟨h1, rfl, h3, h4, h5⟩ := h
  refine ⟨?_, by rw [plK_seg]; simp; omega⟩
  unfold plK
  simp only [decide_eq_false_iff_not]
  intro hm; have := h4 _ hm; omega
theorem FairInv.ok (h : FairInv K i nx is qs) (hl : (is.length : Int) < K) : nx = i ∧ qs = [] ∧ FairInv K (i + 1) (i + 1) (is ++ [(i : Int)]) [] := by
  obtain ⟨h1, rfl, h3, h4, h5⟩ := h
  have e : nx = i := by
    rcases Nat.lt_or_ge nx i with h | h
    · have := h5 h; omega
    · omega
  subst e
  refine ⟨rfl, by simp [seg], by omega, by simp [seg], ?_, ?_, by omega⟩
  · rw [List.nodup_append]
    refine ⟨h3, by simp, fun a ha b hb => ?_⟩
    simp at hb; subst hb
    have := h4 a ha; omega
  · intro x hx
    rcases List.mem_append.1 hx with h | h
    · have := h4 x h; omega
    · simp at h; omega
theorem FairInv.wait (h : FairInv K i nx is qs) (hl : (is.length : Int) = K) : FairInv K (i + 1) nx is (qs ++ [(i : Int)]) ∧ qs.length = i - nx := by
  obtain ⟨h1, rfl, h3, h4, h5⟩ := h
  refine ⟨⟨by omega, ?_, h3, h4, fun _ => hl⟩, seg_len _ _⟩
  rw [show i + 1 - nx = (i - nx) + 1 by omega, seg_snoc, show nx + (i - nx) = i by omega]
theorem FairInv.none_ (y : Int) (h : FairInv K i nx is []) : FairInv K i nx (besides is y) [] := by
  obtain ⟨h1, h2, h3, h4, h5⟩ := h
  have e : nx = i := by have := congrArg List.length h2; rw [seg_len] at this; simp at this; omega
  subst e
  exact ⟨h1, h2, h3.filter _, fun x hx => h4 x (List.mem_filter.1 hx).1, by omega⟩
theorem FairInv.next {x y : Int} (h : FairInv K i nx is (x :: qs)) (hy : plK is y = true) : x = nx ∧ FairInv K i (nx + 1) (besides is y ++ [x]) qs := by
  obtain ⟨h1, h2, h3, h4, h5⟩ := h
  have hlt : nx < i := by
    rcases Nat.lt_or_ge nx i with h | h
    · exact h
    · rw [show i - nx = 0 by omega] at h2; simp [seg] at h2
  have hm : y ∈ is := by simpa [plK] using hy
  rw [show i - nx = (i - (nx + 1)) + 1 by omega, seg_cons] at h2
  injection h2 with e1 e2
  subst e1
  refine ⟨rfl, by omega, e2, ?_, ?_, ?_⟩
  · rw [List.nodup_append]
    refine ⟨h3.filter _, by simp, fun a ha b hb => ?_⟩
    simp at hb; subst hb
    have := h4 a (List.mem_filter.1 ha).1; omega
  · intro z hz
    rcases List.mem_append.1 hz with h | h
    · have := h4 z (List.mem_filter.1 h).1; omega
    · simp at h; omega
  · intro _
    have h6 := filter_ne_nodup h3 hm
    have h7 := h5 hlt
    simp; omega
end
theorem plK_getD {l : List Int} {k : Nat} (hk : k < l.length) : plK l (l.getD k 0) = true := by
  unfold plK; simp [List.getD, hk]
theorem u8_bd {zs : List Int} (hz : ∀ n ∈ zs, (Lit.int .u8 n).wf = true) (k : Nat) (hk : k < zs.length) : 0 ≤ zs.getD k 0 ∧ zs.getD k 0 ≤ 255 := by
  have h := hz (zs.getD k 0) (by simp [List.getD, hk])
  generalize zs.getD k 0 = x at h
  simp [Lit.wf, IntKind.min, IntKind.max, IntKind.signed, IntKind.bits] at h
  omega
theorem Up.since {W w w' : World} {F : List Nat} (hb : Below W.heap.size W w) (h : Up w.heap.size w w' F) : Up W.heap.size W w' F :=
  ⟨hb.trans (h.below.mono hb.size), fun k hk => Nat.le_trans hb.size (h.blocks k hk), Nat.le_refl _⟩
theorem Up.old {W w : World} {F : List Nat} {p : Addr} {v : Value} (h : Up W.heap.size W w F) (hc : W.cell? p = some v) : w.cell? p = some v :=
  (h.below.cell (cell_lt hc)).trans hc
end Go.Proofs.Ytlejnbepldpmmaa
