/- turn: who runs: three numbers; rows of them; who is ahead; rows in that order. Plain laws over any program. -/
import Derived.Test.YtonodmoklbmfkaaOwn
namespace Go.Proofs.Ytonodmoklbmfkaa
open Go.ChangeShapes Go.WideShapes Go.ChangeAt Go.RowKit
set_option linter.unusedVariables false
set_option linter.unusedSimpArgs false

structure WhoM where
  task : Int
  prio : Int
  boost : Int
deriving DecidableEq
instance : Inhabited WhoM := ⟨⟨0, 0, 0⟩⟩
def WhoM.val (a : WhoM) : Value := .agg #[.int .i64 a.task, .int .i64 a.prio, .int .i64 a.boost]
def WhoM.wf (a : WhoM) : Prop := I64 a.task ∧ I64 a.prio ∧ I64 a.boost
/-- who is boosted is ahead, by place; of the others by priority; then by number -/
def aheadB (a b : WhoM) : Bool :=
  if decide (0 < max a.boost 0) ≠ decide (0 < max b.boost 0) then decide (0 < max a.boost 0)
  else if max a.boost 0 ≠ max b.boost 0 then decide (max a.boost 0 < max b.boost 0)
  else if max a.boost 0 = 0 ∧ a.prio ≠ b.prio then decide (a.prio < b.prio) else decide (a.task < b.task)
def orderV (a b : WhoM) : Int := if aheadB a b = true then -1 else if aheadB b a = true then 1 else 0
theorem orderV_neg (a b : WhoM) : orderV a b < 0 ↔ aheadB a b = true := by
  unfold orderV
  by_cases h : aheadB a b = true
  · simp [h]
  · rw [if_neg h]
    constructor
    · intro g; split at g <;> omega
    · intro g; exact absurd g h
theorem orderV_bd (a b : WhoM) : -1 ≤ orderV a b ∧ orderV a b ≤ 1 := by unfold orderV; (repeat' split) <;> omega
/-- the cells of a row of them -/
def wtc (ps : List WhoM) : List Value := ps.flatMap fun p => [.int .i64 p.task, .int .i64 p.prio, .int .i64 p.boost]
theorem wtc_len (ps : List WhoM) : (wtc ps).length = ps.length * 3 := by
  induction ps with
  | nil => rfl
  | cons p ps ih => simp only [wtc, List.flatMap_cons, List.length_append, List.length_cons, List.length_nil] at *; omega
theorem wtc_append (a b : List WhoM) : wtc (a ++ b) = wtc a ++ wtc b := by simp [wtc]
theorem wtc_one (ps : List WhoM) : ∀ u ∈ wtc ps, u.oneCell' = true := fun u hu => by
  obtain ⟨p, _, h⟩ := List.mem_flatMap.1 hu
  simp at h
  rcases h with rfl | rfl | rfl <;> rfl
theorem wtc_drop (ps : List WhoM) (k : Nat) : (wtc ps).drop (k * 3) = wtc (ps.drop k) := by
  induction k generalizing ps with
  | zero => simp
  | succ k ih =>
    cases ps with
    | nil => simp [wtc]
    | cons p ps =>
      rw [show (k + 1) * 3 = k * 3 + 1 + 1 + 1 by omega]
      simp only [wtc, List.flatMap_cons, List.cons_append, List.nil_append, List.drop_succ_cons]
      exact ih ps
theorem wtc_at (ps : List WhoM) (k : Nat) (hk : k < ps.length) : (wtc ps)[k * 3]? = some (.int .i64 (ps.getD k default).task) ∧ (wtc ps)[k * 3 + 1]? = some (.int .i64 (ps.getD k default).prio) ∧ (wtc ps)[k * 3 + 2]? = some (.int .i64 (ps.getD k default).boost) := by
  have h := wtc_drop ps k
  rw [List.drop_eq_getElem_cons hk] at h
  have h0 := congrArg (fun l => l[0]?) h
  have h1 := congrArg (fun l => l[1]?) h
  have h2 := congrArg (fun l => l[2]?) h
  simp only [List.getElem?_drop, Nat.add_zero] at h0 h1 h2
  have hg : ps.getD k default = ps[k] := by simp [List.getD, hk]
  rw [hg, h0, h1, h2]
  exact ⟨rfl, rfl, rfl⟩
def WhoCells (w : World) (b off : Nat) (p : WhoM) : Prop :=
  w.cell? ⟨b, off, none⟩ = some (.int .i64 p.task) ∧ w.cell? ⟨b, off + 1, none⟩ = some (.int .i64 p.prio) ∧ w.cell? ⟨b, off + 2, none⟩ = some (.int .i64 p.boost)
def WhosAt (w : World) (a : Option Addr) (ps : List WhoM) : Prop :=
  ps = [] ∨ ∃ b off, a = some ⟨b, off, none⟩ ∧ ∀ i, i < ps.length → WhoCells w b (off + i * 3) (ps.getD i default)
theorem whos_lie {B : Nat} {w : World} {A : Option Addr} {ps : List WhoM} (h : Lies B w A (wtc ps)) : WhosAt w A ps := by
  rcases h with h | ⟨b, off, rfl, _, hc⟩
  · left
    have := congrArg List.length h
    rw [wtc_len] at this
    exact List.eq_nil_of_length_eq_zero (by simp at this; omega)
  · refine .inr ⟨b, off, rfl, fun i hi => ?_⟩
    obtain ⟨a0, a1, a2⟩ := wtc_at ps i hi
    exact ⟨hc _ _ a0, by have := hc _ _ a1; rwa [← Nat.add_assoc] at this, by have := hc _ _ a2; rwa [← Nat.add_assoc] at this⟩
theorem infoWho : (Try.prog.info? 23).map (fun i => (i.zero, i.size, i.bytes)) = some (some (.agg #[.int .i64 0, .int .i64 0, .int .i64 0]), 3, 24) := by kernel_rfl
structure OwnW (B : Nat) (w : World) (A : Option Addr) (n c : Nat) (ps : List WhoM) : Prop where
  own : w.ownsRow B 23 3 (.slice A n c) n (wtc ps)
  len : n = ps.length
  cap : n ≤ c ∧ c ≤ maxLen
  nil : A = none → n = 0 ∧ c = 0
theorem OwnW.empty (B : Nat) (w : World) : OwnW B w none 0 0 [] := ⟨World.ownsRow_nil _ _ _ _, rfl, by decide, fun _ => ⟨rfl, rfl⟩⟩
theorem OwnW.whos {B : Nat} {w : World} {A : Option Addr} {n c : Nat} {ps : List WhoM} (h : OwnW B w A n c ps) : WhosAt w A ps := by
  obtain ⟨h1, rfl, _, _⟩ := h
  exact whos_lie (Lies.of_own h1)
theorem OwnW.app {B : Nat} {w w1 w2 : World} {A A' : Option Addr} {n c c' : Nat} {rs ps : List WhoM} {m : Nat} (h : OwnW B w A n c rs) (ha : App B 23 3 w1 A A' (n + m) c' (wtc rs ++ wtc ps) w2) (hm : m = ps.length) : OwnW B w2 A' (n + m) c' (rs ++ ps) :=
  ⟨by rw [wtc_append]; exact ha.own, by rw [List.length_append, h.len, hm], ha.cap, ha.nil⟩
theorem OwnW.turned {B : Nat} {F : List Nat} {w w' : World} {A : Option Addr} {n c : Nat} {ps : List WhoM} (h : OwnW B w A n c ps) (ht : Turned F w w') (hF : ∀ k ∈ fp A, k ∉ F) : OwnW B w' A n c ps := ⟨own_turned h.own ht hF, h.len, h.cap, h.nil⟩

/-! ### A row in order -/
/-- x goes in behind all that it isn't ahead of, from the end on -/
def insR (x : WhoM) : List WhoM → List WhoM
  | [] => [x]
  | y :: r => if aheadB x y = true then y :: insR x r else x :: y :: r
/-- x put into a row that is in order, from its end on -/
def insW (l : List WhoM) (x : WhoM) : List WhoM := (insR x l.reverse).reverse
def sortW (l : List WhoM) : List WhoM := l.foldl insW []
theorem insR_at {x : WhoM} : ∀ {q r : List WhoM}, (∀ y ∈ q, aheadB x y = true) → (∀ y, r.head? = some y → aheadB x y = false) → insR x (q ++ r) = q ++ x :: r
  | [], [], _, _ => rfl
  | [], y :: r, _, h => by
    have := h y rfl
    simp [insR, this]
  | y :: q, r, hq, h => by
    have e := hq y (by simp)
    simp only [List.cons_append, insR, e, if_true]
    rw [insR_at (fun z hz => hq z (by simp [hz])) h]
theorem insW_at {x : WhoM} {p q : List WhoM} (hq : ∀ y ∈ q, aheadB x y = true) (hp : ∀ y, p.getLast? = some y → aheadB x y = false) : insW (p ++ q) x = p ++ x :: q := by
  unfold insW
  rw [List.reverse_append, insR_at (fun y hy => hq y (by simpa using hy)) (fun y hy => hp y (by rw [← hy, List.head?_reverse]))]
  simp
theorem insR_perm (x : WhoM) (l : List WhoM) : (insR x l).Perm (x :: l) := by
  induction l with
  | nil => exact .refl _
  | cons y r ih =>
    simp only [insR]
    split
    · exact (List.Perm.cons y ih).trans (List.Perm.swap x y r)
    · exact .refl _
theorem insW_perm (l : List WhoM) (x : WhoM) : (insW l x).Perm (x :: l) := by
  unfold insW
  exact (List.reverse_perm _).trans ((insR_perm x l.reverse).trans (List.Perm.cons x (List.reverse_perm l)))
theorem insW_len (l : List WhoM) (x : WhoM) : (insW l x).length = l.length + 1 := by simpa using (insW_perm l x).length_eq
theorem sort_go (l : List WhoM) (a : List WhoM) : (l.foldl insW a).Perm (a ++ l) := by
  induction l generalizing a with
  | nil => simp
  | cons x l ih =>
    refine (ih (insW a x)).trans ?_
    have h := (insW_perm a x).append_right l
    refine h.trans ?_
    simp only [List.cons_append]
    exact List.perm_middle.symm
theorem sortW_perm (l : List WhoM) : (sortW l).Perm l := by have := sort_go l []; simpa [sortW] using this
theorem sortW_len (l : List WhoM) : (sortW l).length = l.length := (sortW_perm l).length_eq
theorem sortW_snoc (l : List WhoM) (x : WhoM) : sortW (l ++ [x]) = insW (sortW l) x := by simp [sortW]
/-! who is ahead of whom: an order -/
theorem ahead_asym {a b : WhoM} (h : aheadB a b = true) : aheadB b a = false := by
  unfold aheadB at h ⊢
  by_cases h1 : 0 < max a.boost 0 <;> by_cases h2 : 0 < max b.boost 0 <;> simp only [h1, h2, decide_true, decide_false, ne_eq, not_true_eq_false, Bool.true_eq_false, Bool.false_eq_true, if_true, if_false, not_false_eq_true, reduceCtorEq] at h ⊢
  · by_cases h3 : max a.boost 0 = max b.boost 0
    · rw [if_neg (by omega)] at h
      rw [if_neg (by omega)]
      rw [if_neg (by omega)] at h
      rw [if_neg (by omega)]
      simp at h ⊢; omega
    · rw [if_pos h3] at h
      rw [if_pos (by omega)]
      simp at h ⊢; omega
  · have h3 : max a.boost 0 = max b.boost 0 := by omega
    rw [if_neg (by omega)] at h
    rw [if_neg (by omega)]
    by_cases h4 : a.prio = b.prio
    · rw [if_neg (by omega)] at h
      rw [if_neg (by omega)]
      simp at h ⊢; omega
    · rw [if_pos (by omega)] at h
      rw [if_pos (by omega)]
      simp at h ⊢; omega
end Go.Proofs.Ytonodmoklbmfkaa
