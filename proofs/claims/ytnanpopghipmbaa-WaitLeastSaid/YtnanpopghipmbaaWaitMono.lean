/- wait: with longer parts a wait isn't less. Plain numbers. -/
import Derived.Test.YtnanpopghipmbaaWaitNums
namespace Go.Proofs.Ytnanpopghipmbaa
open Go.ChangeShapes Go.WideShapes Go.ChangeAt Go.RowKit
set_option linter.unusedVariables false

/-! ### The greatest so many of a row -/
def exc (c : Int) : List Int → Int
  | [] => 0
  | z :: l => max (z - c) 0 + exc c l
theorem exc_nn (c : Int) (l : List Int) : 0 ≤ exc c l := by
  induction l with
  | nil => simp [exc]
  | cons z l ih => simp only [exc]; omega
theorem exc_append (c : Int) (a b : List Int) : exc c (a ++ b) = exc c a + exc c b := by
  induction a with
  | nil => simp [exc]
  | cons z a ih => simp only [List.cons_append, exc, ih]; omega
theorem exc_perm {c : Int} {a b : List Int} (h : a.Perm b) : exc c a = exc c b := by
  induction h with
  | nil => rfl
  | cons x _ ih => simp [exc, ih]
  | swap x y l => simp [exc]; omega
  | trans _ _ i1 i2 => exact i1.trans i2
theorem exc_over {c : Int} (l : List Int) : tot l ≤ c * (l.length : Int) + exc c l := by
  induction l with
  | nil => simp [tot, exc]
  | cons z l ih =>
    simp only [tot, exc, List.length_cons]
    rw [Int.natCast_succ, Int.mul_add, Int.mul_one]
    omega
theorem exc_up {c : Int} {l : List Int} (h : ∀ z ∈ l, c ≤ z) : tot l = c * (l.length : Int) + exc c l := by
  induction l with
  | nil => simp [tot, exc]
  | cons z l ih =>
    have h1 := ih (fun y hy => h y (by simp [hy]))
    have h2 := h z (by simp)
    simp only [tot, exc, List.length_cons]
    rw [Int.natCast_succ, Int.mul_add, Int.mul_one]
    omega
theorem exc_down {c : Int} {l : List Int} (h : ∀ z ∈ l, z ≤ c) : exc c l = 0 := by
  induction l with
  | nil => rfl
  | cons z l ih =>
    have h1 := ih (fun y hy => h y (by simp [hy]))
    have h2 := h z (by simp)
    simp only [exc]; omega
theorem top_over {d : List Int} {n : Nat} (hn : n ≤ d.length) {c : Int} : tot (d.take n) ≤ c * (n : Int) + exc c d := by
  have h1 := exc_over (c := c) (d.take n)
  have h2 : exc c d = exc c (d.take n) + exc c (d.drop n) := by rw [← exc_append, List.take_append_drop]
  have h3 := exc_nn c (d.drop n)
  rw [List.length_take, Nat.min_eq_left hn] at h1
  omega
theorem top_at {d : List Int} {n : Nat} (hn : n ≤ d.length) (hs : d.Pairwise (fun a b => b ≤ a)) (h0 : ∀ z ∈ d, 0 ≤ z) : ∃ c : Int, tot (d.take n) = c * (n : Int) + exc c d := by
  have hsplit : ∀ c, exc c d = exc c (d.take n) + exc c (d.drop n) := fun c => by rw [← exc_append, List.take_append_drop]
  by_cases e : n < d.length
  · refine ⟨d[n], ?_⟩
    have h1 : ∀ z ∈ d.take n, d[n] ≤ z := fun z hz => by
      obtain ⟨i, hi, rfl⟩ := List.getElem_of_mem hz
      rw [List.length_take] at hi
      rw [List.getElem_take]
      exact List.pairwise_iff_getElem.1 hs i n (by omega) e (by omega)
    have h2 : ∀ z ∈ d.drop n, z ≤ d[n] := fun z hz => by
      obtain ⟨i, hi, rfl⟩ := List.getElem_of_mem hz
      rw [List.length_drop] at hi
      rw [List.getElem_drop]
      by_cases e0 : i = 0
      · subst e0; simp
      · exact List.pairwise_iff_getElem.1 hs n (n + i) e (by omega) (by omega)
    have h3 := exc_up h1
    rw [List.length_take, Nat.min_eq_left hn] at h3
    rw [hsplit, exc_down h2, h3]; omega
  · have hl : n = d.length := by omega
    refine ⟨0, ?_⟩
    rw [hl, List.take_length, exc_up h0]
/-- number by number not less -/
def LeL : List Int → List Int → Prop
  | [], [] => True
  | x :: a, y :: b => x ≤ y ∧ LeL a b
  | _, _ => False
theorem LeL.len {a b : List Int} (h : LeL a b) : a.length = b.length := by
  induction a generalizing b with
  | nil => cases b with
    | nil => rfl
    | cons y b => exact h.elim
  | cons x a ih => cases b with
    | nil => exact h.elim
    | cons y b => simp [ih h.2]
theorem LeL.exc {c : Int} {a b : List Int} (h : LeL a b) : exc c a ≤ exc c b := by
  induction a generalizing b with
  | nil => cases b with
    | nil => exact Int.le_refl _
    | cons y b => exact h.elim
  | cons x a ih => cases b with
    | nil => exact h.elim
    | cons y b =>
      have := ih h.2
      have := h.1
      simp only [Go.Proofs.Ytnanpopghipmbaa.exc]; omega
theorem LeL.tot {a b : List Int} (h : LeL a b) : tot a ≤ tot b := by
  induction a generalizing b with
  | nil => cases b with
    | nil => exact Int.le_refl _
    | cons y b => exact h.elim
  | cons x a ih => cases b with
    | nil => exact h.elim
    | cons y b =>
      have := ih h.2
      have := h.1
      simp only [Go.Proofs.Ytnanpopghipmbaa.tot]; omega
theorem tops_le {a b : List Int} (h : LeL a b) (hb : ∀ n ∈ b, 0 ≤ n) (k : Int) : tot (tops a k) ≤ tot (tops b k) := by
  have hl := h.len
  unfold tops
  rw [hl]
  have hn := clampN_le k b.length
  obtain ⟨c, hc⟩ := top_at (d := desc b) (n := clampN k b.length) (by rw [desc_len]; exact hn) (desc_srt b) (fun z hz => hb z ((desc_perm b).mem_iff.1 hz))
  rw [hc]
  have h1 := top_over (d := desc a) (n := clampN k b.length) (by rw [desc_len, hl]; exact hn) (c := c)
  rw [exc_perm (desc_perm a)] at h1
  rw [exc_perm (desc_perm b)]
  have := h.exc (c := c)
  omega
theorem sum_tops6 {zs : List Int} {k : Int} (h : ∀ n ∈ zs, 0 ≤ n ∧ n ≤ 60) (hl : zs.length ≤ 6) : sumW (tops zs k) = tot (tops zs k) := by
  have h1 : ∀ n ∈ tops zs k, 0 ≤ n ∧ n ≤ 60 := fun n hn => h n (tops_sub n hn)
  have h2 : (tops zs k).length ≤ 6 := by rw [tops_len]; exact Nat.le_trans (clampN_le _ _) hl
  unfold sumW
  rw [fold_small _ 0 h1 (by omega) (by omega)]
  omega

/-! ### Parts that are not shorter -/
def LeP : List PartM → List PartM → Prop
  | [], [] => True
  | p :: a, q :: b => (p.kind = q.kind ∧ p.res = q.res ∧ p.len ≤ q.len) ∧ LeP a b
  | _, _ => False
theorem LeP.refl (a : List PartM) : LeP a a := by
  induction a with
  | nil => trivial
  | cons p a ih => exact ⟨⟨rfl, rfl, Int.le_refl _⟩, ih⟩
theorem LeP.ind {P : List PartM → List PartM → Prop} (h0 : P [] []) (h1 : ∀ p q a b, p.kind = q.kind → p.res = q.res → p.len ≤ q.len → LeP a b → P a b → P (p :: a) (q :: b)) {a b : List PartM} (h : LeP a b) : P a b := by
  induction a generalizing b with
  | nil => cases b with
    | nil => exact h0
    | cons y b => exact h.elim
  | cons x a ih => cases b with
    | nil => exact h.elim
    | cons y b => exact h1 _ _ _ _ h.1.1 h.1.2.1 h.1.2.2 h.2 (ih h.2)
theorem LeP.len {a b : List PartM} (h : LeP a b) : a.length = b.length := LeP.ind (P := fun a b => a.length = b.length) rfl (fun p q a b _ _ _ _ h => by simp [h]) h
theorem LeP.get {a b : List PartM} (h : LeP a b) (k : Nat) : (a.getD k default).kind = (b.getD k default).kind ∧ (a.getD k default).res = (b.getD k default).res ∧ (a.getD k default).len ≤ (b.getD k default).len := by
  induction a generalizing b k with
  | nil => cases b with
    | nil => exact ⟨rfl, rfl, Int.le_refl _⟩
    | cons y b => exact h.elim
  | cons x a ih => cases b with
    | nil => exact h.elim
    | cons y b =>
      cases k with
      | zero => exact h.1
      | succ k => simpa using ih h.2 k
theorem LeP.max {a b : List PartM} (h : LeP a b) (hl : LenOk a) : maxL a ≤ maxL b ∧ (maxL a = 0 ↔ maxL b = 0) := by
  revert hl
  refine LeP.ind (P := fun a b => LenOk a → maxL a ≤ maxL b ∧ (maxL a = 0 ↔ maxL b = 0)) (fun _ => ⟨Int.le_refl _, Iff.rfl⟩) (fun p q a b h1 h2 h3 _ ih hl => ?_) h
  have h4 := ih (fun r hr => hl r (by simp [hr]))
  have h5 := hl p (by simp)
  have h6 := maxL_nn a
  have h7 := maxL_nn b
  obtain ⟨i1, i2⟩ := h4
  simp only [maxL]
  rw [← h1]
  split
  · refine ⟨by omega, ?_⟩
    constructor <;> intro h <;> omega
  · refine ⟨by omega, ?_⟩
    constructor
    · intro h; have := i2.1 (by omega); omega
    · intro h; have := i2.2 (by omega); omega
theorem LeP.sum {a b : List PartM} (h : LeP a b) (k : Int) : sumK k a ≤ sumK k b := by
  refine LeP.ind (P := fun a b => sumK k a ≤ sumK k b) (Int.le_refl _) (fun p q a b h1 h2 h3 _ ih => ?_) h
  simp only [sumK]
  rw [← h1]
  split <;> omega
theorem LeP.filter {a b : List PartM} (h : LeP a b) (homes : List Int) (cl : Int) : LeP (a.filter (srvB homes cl)) (b.filter (srvB homes cl)) := by
  refine LeP.ind (P := fun a b => LeP (a.filter (srvB homes cl)) (b.filter (srvB homes cl))) trivial (fun p q a b h1 h2 h3 _ ih => ?_) h
  have e : srvB homes cl q = srvB homes cl p := by unfold srvB; rw [h1, h2]
  simp only [List.filter_cons]
  rw [e]
  split
  · exact ⟨⟨h1, h2, h3⟩, ih⟩
  · exact ih
def LeT (t u : TaskR) : Prop := t.per = u.per ∧ t.prio = u.prio ∧ t.cl = u.cl ∧ LeP t.parts u.parts
theorem LeT.refl (t : TaskR) : LeT t t := ⟨rfl, rfl, rfl, LeP.refl _⟩
def LeTs : List TaskR → List TaskR → Prop
  | [], [] => True
  | p :: a, q :: b => LeT p q ∧ LeTs a b
  | _, _ => False
theorem LeTs.refl (a : List TaskR) : LeTs a a := by
  induction a with
  | nil => trivial
  | cons p a ih => exact ⟨LeT.refl _, ih⟩
theorem LeTs.set {a : List TaskR} {k : Nat} {u : TaskR} (h : LeT (a.getD k default) u) : LeTs a (a.set k u) := by
  induction a generalizing k with
  | nil => trivial
  | cons p a ih =>
    cases k with
    | zero => exact ⟨h, LeTs.refl _⟩
    | succ k => exact ⟨LeT.refl _, ih (by simpa using h)⟩
theorem LeP.set {a : List PartM} {k : Nat} {q : PartM} (h : (a.getD k default).kind = q.kind ∧ (a.getD k default).res = q.res ∧ (a.getD k default).len ≤ q.len) : LeP a (a.set k q) := by
  induction a generalizing k with
  | nil => trivial
  | cons p a ih =>
    cases k with
    | zero => exact ⟨h, LeP.refl _⟩
    | succ k => exact ⟨⟨rfl, rfl, Int.le_refl _⟩, ih (by simpa using h)⟩
theorem LeTs.get {a b : List TaskR} (h : LeTs a b) (k : Nat) : LeT (a.getD k default) (b.getD k default) := by
  induction a generalizing b k with
  | nil => cases b with
    | nil => exact LeT.refl _
    | cons y b => exact h.elim
  | cons x a ih => cases b with
    | nil => exact h.elim
    | cons y b =>
      cases k with
      | zero => exact h.1
      | succ k => simpa using ih h.2 k
theorem LeTs.len {a b : List TaskR} (h : LeTs a b) : a.length = b.length := by
  induction a generalizing b with
  | nil => cases b with
    | nil => rfl
    | cons y b => exact h.elim
  | cons x a ih => cases b with
    | nil => exact h.elim
    | cons y b => simp [ih h.2]
structure LeS (s t : SetR) : Prop where
  proto : s.proto = t.proto
  cores : s.cores = t.cores
  homes : s.homes = t.homes
  tasks : LeTs s.tasks t.tasks
  oks : okS s = true
  okt : okS t = true
section
variable {s t : SetR}
theorem LeS.lens (h : LeS s t) (k : Nat) : LenOk (s.tasks.getD k default).parts := by
  by_cases hk : k < s.tasks.length
  · exact ((Good.of h.oks).parts _ (getD_mem hk)).lens
  · have e : s.tasks.getD k default = default := by simp [List.getD, hk]
    rw [e]; intro p hp; exact absurd hp (by show p ∉ ([] : List PartM); simp)
theorem LeS.there (h : LeS s t) (of : Int) : thereB t of = thereB s of := by unfold thereB; rw [h.oks, h.okt, h.tasks.len]
theorem LeS.part (h : LeS s t) (of part : Int) : (partAt s of part).kind = (partAt t of part).kind ∧ (partAt s of part).res = (partAt t of part).res ∧ (partAt s of part).len ≤ (partAt t of part).len := by
  unfold partAt; exact (h.tasks.get _).2.2.2.get _
theorem LeS.fairK (h : LeS s t) (of part : Int) : fairK t of part = fairK s of part := by
  unfold Go.Proofs.Ytnanpopghipmbaa.fairK
  rw [h.there, (h.tasks.get of.toNat).2.2.2.len, (h.part of part).1]
theorem roth_le {of : Int} {k : Nat} {a b : List TaskR} (h : LeTs a b) (hl : ∀ t ∈ a, LenOk t.parts) : LeL (rothL of k a) (rothL of k b) := by
  induction a generalizing b k with
  | nil => cases b with
    | nil => trivial
    | cons y b => exact h.elim
  | cons x a ih => cases b with
    | nil => exact h.elim
    | cons y b =>
      have h1 := ih (k := k + 1) h.2 (fun t ht => hl t (by simp [ht]))
      have h2 := (h.1.2.2.2.max (hl x (by simp))).1
      simp only [rothL]
      split
      · simpa using h1
      · exact ⟨h2, h1⟩
theorem LeS.roth (h : LeS s t) (of : Int) : LeL (rothL of 0 s.tasks) (rothL of 0 t.tasks) := roth_le h.tasks (fun q hq => ((Good.of h.oks).parts q hq).lens)
theorem LeS.fairV (h : LeS s t) (of part : Int) : fairV s of part ≤ fairV t of part := by
  unfold Go.Proofs.Ytnanpopghipmbaa.fairV
  rw [h.fairK]
  have h1 := (h.part of part).2.2
  have h2 := (h.roth of).tot
  rw [(roth_is of 0 s.tasks).1, (roth_is of 0 t.tasks).1] at h2
  split <;> omega
theorem LeS.besV (h : LeS s t) (of : Int) : besV s of ≤ besV t of := by
  have hs := Good.of h.oks
  have ht := Good.of h.okt
  have b1 : ∀ n ∈ rothL of 0 s.tasks, 0 ≤ n ∧ n ≤ 60 := fun n hn => rothL_bd (fun q hq => (hs.parts q hq).lens) n hn
  have b2 : ∀ n ∈ rothL of 0 t.tasks, 0 ≤ n ∧ n ≤ 60 := fun n hn => rothL_bd (fun q hq => (ht.parts q hq).lens) n hn
  have l1 := Nat.le_trans (rothL_len of 0 s.tasks) hs.ntasks.2
  have l2 := Nat.le_trans (rothL_len of 0 t.tasks) ht.ntasks.2
  have e : coresV t = coresV s := by unfold coresV; rw [h.oks, h.okt, h.cores]
  unfold Go.Proofs.Ytnanpopghipmbaa.besV
  rw [sum_tops6 b1 l1, sum_tops6 b2 l2, e]
  exact tops_le (h.roth of) (fun n hn => (b2 n hn).1) _
theorem LeS.insV (h : LeS s t) (of part : Int) : insV s of part ≤ insV t of part := by
  have h1 := (h.part of part).2.2
  have h2 := h.besV of
  unfold Go.Proofs.Ytnanpopghipmbaa.insV
  rw [h.fairK]
  split <;> omega
theorem ask_le {cl : Int} {a b : List TaskR} (h : LeTs a b) (hl : ∀ t ∈ a, LenOk t.parts) (hl2 : ∀ t ∈ b, LenOk t.parts) : askN cl b = askN cl a := by
  induction a generalizing b with
  | nil => cases b with
    | nil => rfl
    | cons y b => exact h.elim
  | cons x a ih => cases b with
    | nil => exact h.elim
    | cons y b =>
      have h1 := ih h.2 (fun t ht => hl t (by simp [ht])) (fun t ht => hl2 t (by simp [ht]))
      have h2 := h.1.2.2.2.max (hl x (by simp))
      have h3 : sumK 3 x.parts ≠ 0 ↔ sumK 3 y.parts ≠ 0 := by
        have a1 := maxL_le_sum (hl x (by simp))
        have a2 := maxL_le_sum (hl2 y (by simp))
        have a3 := maxL_nn x.parts
        have a4 := maxL_nn y.parts
        constructor
        · intro e h0; exact e (sum_le_maxL (hl x (by simp)) (h2.2.2 (by omega)))
        · intro e h0; exact e (sum_le_maxL (hl2 y (by simp)) (h2.2.1 (by omega)))
      have h4 := h.1.2.2.1
      simp only [askN, h1, h4]
      by_cases e : y.cl = cl ∧ sumK 3 y.parts ≠ 0
      · rw [if_pos e, if_pos ⟨e.1, h3.2 e.2⟩]
      · rw [if_neg e, if_neg (fun g => e ⟨g.1, h3.1 g.2⟩)]
theorem LeS.rnd (h : LeS s t) (cl : Int) : rndV t cl = rndV s cl := by
  have e : askersV t cl = askersV s cl := by
    unfold askersV; rw [h.oks, h.okt]
    exact ask_le h.tasks (fun q hq => ((Good.of h.oks).parts q hq).lens) (fun q hq => ((Good.of h.okt).parts q hq).lens)
  unfold rndV coreAt
  rw [e, h.cores]
theorem LeS.slow (h : LeS s t) (cl : Int) {k : Nat} {a b : List TaskR} (hab : LeTs a b) (hl : ∀ t ∈ a, LenOk t.parts) : slowL s cl k a ≤ slowL t cl k b := by
  induction a generalizing b k with
  | nil => cases b with
    | nil => exact Int.le_refl _
    | cons y b => exact hab.elim
  | cons x a ih => cases b with
    | nil => exact hab.elim
    | cons y b =>
      have h1 := ih (k := k + 1) hab.2 (fun t ht => hl t (by simp [ht]))
      have h2 := hab.1.2.2.2.max (hl x (by simp))
      have h3 := h.besV k
      have h4 := hab.1.2.2.1
      simp only [slowL]
      rw [h4]
      by_cases e : y.cl = cl ∧ maxL y.parts ≠ 0
      · have e2 : y.cl = cl ∧ maxL x.parts ≠ 0 := ⟨e.1, fun g => e.2 (h2.2.1 g)⟩
        simp only [if_pos e, if_pos e2]; omega
      · have e2 : ¬ (y.cl = cl ∧ maxL x.parts ≠ 0) := fun g => e ⟨g.1, fun g2 => g.2 (h2.2.2 g2)⟩
        simp only [if_neg e, if_neg e2]; omega
theorem LeS.outV (h : LeS s t) (of : Int) : outV s of ≤ outV t of := by
  have h1 := h.tasks.get of.toNat
  have h2 := h1.2.2.2.max (h.lens _)
  have h3 := h.slow (s.tasks.getD of.toNat default).cl (k := 0) h.tasks (fun q hq => ((Good.of h.oks).parts q hq).lens)
  have h5 : ∀ q ∈ s.tasks, LenOk q.parts := fun q hq => ((Good.of h.oks).parts q hq).lens
  unfold Go.Proofs.Ytnanpopghipmbaa.outV
  rw [h.there, ← h1.2.2.1, h.rnd]
  by_cases e : thereB s of = true ∧ maxL (s.tasks.getD of.toNat default).parts ≠ 0
  · rw [if_pos e, if_pos ⟨e.1, fun g => e.2 (h2.2.2 g)⟩]
    obtain ⟨ho, r1, r2⟩ := thereB_true.1 e.1
    have hg := Good.of ho
    have hm : s.tasks.getD of.toNat default ∈ s.tasks := getD_mem (by omega)
    have hp := hg.place _ hm
    exact Int.mul_le_mul_of_nonneg_left h3 (rndV_bd ho (by omega)).1
  · rw [if_neg e, if_neg (fun g => e ⟨g.1, fun g2 => g.2 (h2.2.1 g2)⟩)]
    exact Int.le_refl _
theorem LeS.tokV (h : LeS s t) (of part : Int) : tokV s of part ≤ tokV t of part := by
  have h1 := h.insV of part
  have h2 := h.outV of
  unfold Go.Proofs.Ytnanpopghipmbaa.tokV
  rw [h.fairK]
  split <;> omega
theorem LeS.srv (h : LeS s t) (of cl : Int) : LeP (srv s of cl) (srv t of cl) := by
  unfold Go.Proofs.Ytnanpopghipmbaa.srv
  rw [h.oks, h.okt, h.tasks.len, h.homes]
  split
  · exact (h.tasks.get of.toNat).2.2.2.filter _ _
  · trivial
theorem LeS.low (h : LeS s t) (pr cl : Int) {k : Nat} {a b : List TaskR} (hab : LeTs a b) : lowL s pr cl k a ≤ lowL t pr cl k b := by
  induction a generalizing b k with
  | nil => cases b with
    | nil => exact Int.le_refl _
    | cons y b => exact hab.elim
  | cons x a ih => cases b with
    | nil => exact hab.elim
    | cons y b =>
      have h1 := ih (k := k + 1) hab.2
      have h2 : mostV s k cl ≤ mostV t k cl := ((h.srv k cl).max (srv_len s k cl).1).1
      simp only [lowL]
      rw [hab.1.2.1]
      split <;> omega
theorem workV_each {w b p e e' : Int} (h : e ≤ e') : workV w b p e ≤ workV w b p e' := by
  have h2 := (jobV_bd w b p).1
  have h3 : jobV w b p * max e 0 ≤ jobV w b p * max e' 0 := Int.mul_le_mul_of_nonneg_left (by omega) h2
  unfold workV; omega
theorem LeS.riv (h : LeS s t) (bs : List Int) (pr cl wd : Int) {k : Nat} {a b : List TaskR} (hab : LeTs a b) : workS wd (rivL s bs pr cl k a) ≤ workS wd (rivL t bs pr cl k b) := by
  induction a generalizing b k with
  | nil => cases b with
    | nil => exact Int.le_refl _
    | cons y b => exact hab.elim
  | cons x a ih => cases b with
    | nil => exact hab.elim
    | cons y b =>
      have h1 := ih (k := k + 1) hab.2
      have h2 : atV s k cl ≤ atV t k cl := (h.srv k cl).sum 3
      simp only [rivL, workS_append]
      rw [hab.1.2.1, hab.1.1]
      split
      · have := workV_each (w := wd) (b := bs.getD k 0) (p := y.per) h2
        simp only [workS]; omega
      · simp only [workS]; omega
theorem LeS.agent (h : LeS s t) (bs : List Int) (of part : Int) (hk : agentK t bs of part = true) : agentK s bs of part = true ∧ agentV s bs of part ≤ agentV t bs of part := by
  obtain ⟨k1, k2⟩ := agent_lock hk
  have f1 : Go.Proofs.Ytnanpopghipmbaa.fairK s of part = true := by rw [← h.fairK]; exact k1
  have hb : agentB t bs of part = true := agentB_true.2 ⟨k1, k2⟩
  have hb2 : agentB s bs of part = true := agentB_true.2 ⟨f1, by rw [h.tasks.len]; exact k2⟩
  have eh : homeV t of part = homeV s of part := by unfold homeV; rw [h.homes, (h.part of part).2.1]
  have ep : prioOf t of = prioOf s of := by unfold prioOf; exact (h.tasks.get of.toNat).2.1.symm
  have hl : leastV s of part ≤ leastV t of part := by
    have a1 := (h.part of part).2.2
    have a2 : lowerV s of (homeV s of part) ≤ lowerV t of (homeV s of part) := by
      unfold lowerV
      rw [h.there, ep]
      split
      · exact h.low _ _ h.tasks
      · exact Int.le_refl _
    unfold leastV; rw [eh]; omega
  obtain ⟨_, l1, l2, _⟩ := lock_part k1
  have hlo := lowerV_bd t of (homeV t of part)
  unfold agentK agentO at hk
  unfold agentV agentK agentO
  rw [if_pos hb] at hk ⊢
  rw [if_pos hb2]
  cases e : fixO (winF (leastV t of part) (rivL t bs (prioOf t of) (homeV t of part) 0 t.tasks)) (leastV t of part) with
  | none => rw [e] at hk; cases hk
  | some v =>
    obtain ⟨u, hu, huv⟩ := fix_le (F := winF (leastV s of part) (rivL s bs (prioOf s of) (homeV s of part) 0 s.tasks)) (fun x y hxy => winF_mono _ _ hxy) (fun x => by
      have := h.riv bs (prioOf s of) (homeV s of part) x (k := 0) h.tasks
      rw [ep, eh]
      unfold winF capV; omega) hl (fun x => (winF_own _ _ x).1) (by unfold leastV; omega) e
    rw [hu]
    exact ⟨rfl, huv⟩
theorem LeS.wait (h : LeS s t) (bs : List Int) (of part : Int) (hk : waitK t bs of part = true) : waitK s bs of part = true ∧ waitV s bs of part ≤ waitV t bs of part := by
  unfold waitK at hk ⊢
  unfold waitV
  rw [h.tasks.len, h.proto] at *
  split at hk
  · rename_i e
    rw [if_pos e, if_pos e, if_pos e]
    by_cases p2 : t.proto = 2
    · rw [if_pos p2] at hk ⊢
      have p1 : ¬ t.proto = 1 := by omega
      rw [if_neg p1, if_neg p1, if_pos p2, if_pos p2]
      exact h.agent bs of part hk
    · rw [if_neg p2] at hk ⊢
      refine ⟨by rw [← h.fairK]; exact hk, ?_⟩
      rw [if_neg p2, if_neg p2]
      split
      · exact h.fairV of part
      · exact h.tokV of part
  · cases hk
end
theorem wait_own {s : SetR} {bs : List Int} {of part : Int} (h : waitK s bs of part = true) : (partAt s of part).len ≤ waitV s bs of part := by
  obtain ⟨f, hl⟩ := waitK_lock h
  obtain ⟨ho, l1, l2, _⟩ := lock_part f
  have hg := Good.of ho
  unfold waitK at h
  unfold waitV
  rw [if_pos hl] at h ⊢
  by_cases p1 : s.proto = 1
  · rw [if_pos p1]
    have hb := tot_small (fun x (hx : x ∈ othL of 0 s.tasks) => by have := othL_bd (fun q hq => (hg.parts q hq).lens) x hx; omega)
    unfold fairV; rw [if_pos f]; omega
  · rw [if_neg p1]
    by_cases p2 : s.proto = 2
    · rw [if_pos p2] at h ⊢
      have h1 := (agentV_in h).1
      have hlo := lowerV_bd s of (homeV s of part)
      unfold leastV at h1; omega
    · rw [if_neg p2]
      have h1 := (besV_bd ho of).1
      have h2 := (outV_bd s of).1
      unfold tokV insV; rw [if_pos f, if_pos f]; omega
end Go.Proofs.Ytnanpopghipmbaa
