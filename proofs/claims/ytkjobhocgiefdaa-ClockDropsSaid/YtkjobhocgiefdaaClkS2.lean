/- clock: what its sort is: rows of dues in order of time, those of one time as they stood. Made by tools/clock/fromturn.py. -/
import Derived.Test.YtkjobhocgiefdaaClk6
import Derived.Deep.LoopGhost
import Derived.Deep.RegionHeld3
import Derived.BigRegion
namespace Go.Proofs.Ytkjobhocgiefdaa
open Go.ChangeShapes Go.WideShapes Go.ChangeAt Go.RowKit
set_option linter.unusedVariables false
set_option linter.unusedSimpArgs false
/-- comes earlier -/
def erl (a b : DueM) : Bool := decide (a.time < b.time)
def cmpV (a b : DueM) : Int := if a.time < b.time then -1 else if b.time < a.time then 1 else 0
theorem cmpV_neg (a b : DueM) : cmpV a b < 0 ↔ erl a b = true := by
  unfold cmpV erl
  rw [decide_eq_true_iff]
  split
  · simp [*]
  · split <;> simp [*]
theorem cmpV_bd (a b : DueM) : -1 ≤ cmpV a b ∧ cmpV a b ≤ 1 := by unfold cmpV; (repeat' split) <;> omega
structure OwnE (B : Nat) (w : World) (A : Option Addr) (n c : Nat) (ps : List DueM) : Prop where
  own : w.ownsRow B 31 2 (.slice A n c) n (dtc ps)
  len : n = ps.length
  cap : n ≤ c ∧ c ≤ maxLen
  nil : A = none → n = 0 ∧ c = 0
theorem OwnE.turned {B : Nat} {F : List Nat} {w w' : World} {A : Option Addr} {n c : Nat} {ps : List DueM} (h : OwnE B w A n c ps) (ht : Turned F w w') (hF : ∀ k ∈ fp A, k ∉ F) : OwnE B w' A n c ps := ⟨own_turned h.own ht hF, h.len, h.cap, h.nil⟩
theorem OwnE.dues {B : Nat} {w : World} {A : Option Addr} {n c : Nat} {ps : List DueM} (h : OwnE B w A n c ps) : DuesAt w A ps := by
  obtain ⟨h1, rfl, _, _⟩ := h
  exact dues_lie (Lies.of_own h1)
/-! ### A row in order -/
/-- x goes in behind all that it isn't ahead of, from the end on -/
def insG (x : DueM) : List DueM → List DueM
  | [] => [x]
  | y :: r => if erl x y = true then y :: insG x r else x :: y :: r
/-- x put into a row that is in order, from its end on -/
def insE (l : List DueM) (x : DueM) : List DueM := (insG x l.reverse).reverse
def sortE (l : List DueM) : List DueM := l.foldl insE []
theorem insG_at {x : DueM} : ∀ {q r : List DueM}, (∀ y ∈ q, erl x y = true) → (∀ y, r.head? = some y → erl x y = false) → insG x (q ++ r) = q ++ x :: r
  | [], [], _, _ => rfl
  | [], y :: r, _, h => by
    have := h y rfl
    simp [insG, this]
  | y :: q, r, hq, h => by
    have e := hq y (by simp)
    simp only [List.cons_append, insG, e, if_true]
    rw [insG_at (fun z hz => hq z (by simp [hz])) h]
theorem insE_at {x : DueM} {p q : List DueM} (hq : ∀ y ∈ q, erl x y = true) (hp : ∀ y, p.getLast? = some y → erl x y = false) : insE (p ++ q) x = p ++ x :: q := by
  unfold insE
  rw [List.reverse_append, insG_at (fun y hy => hq y (by simpa using hy)) (fun y hy => hp y (by rw [← hy, List.head?_reverse]))]
  simp
theorem insG_perm (x : DueM) (l : List DueM) : (insG x l).Perm (x :: l) := by
  induction l with
  | nil => exact .refl _
  | cons y r ih =>
    simp only [insG]
    split
    · exact (List.Perm.cons y ih).trans (List.Perm.swap x y r)
    · exact .refl _
theorem insE_perm (l : List DueM) (x : DueM) : (insE l x).Perm (x :: l) := by
  unfold insE
  exact (List.reverse_perm _).trans ((insG_perm x l.reverse).trans (List.Perm.cons x (List.reverse_perm l)))
theorem insE_len (l : List DueM) (x : DueM) : (insE l x).length = l.length + 1 := by simpa using (insE_perm l x).length_eq
theorem sort_go (l : List DueM) (a : List DueM) : (l.foldl insE a).Perm (a ++ l) := by
  induction l generalizing a with
  | nil => simp
  | cons x l ih =>
    refine (ih (insE a x)).trans ?_
    have h := (insE_perm a x).append_right l
    refine h.trans ?_
    simp only [List.cons_append]
    exact List.perm_middle.symm
theorem sortE_perm (l : List DueM) : (sortE l).Perm l := by have := sort_go l []; simpa [sortE] using this
theorem sortE_len (l : List DueM) : (sortE l).length = l.length := (sortE_perm l).length_eq
theorem sortE_snoc (l : List DueM) (x : DueM) : sortE (l ++ [x]) = insE (sortE l) x := by simp [sortE]
theorem who_put {w : World} {base : Nat} {e : TypeId} {size n m c g : Nat} {xs : List Value} (h : w.ownsRow base e size (.slice (some ⟨g, 0, none⟩) m c) n xs) (k : Nat) (hk : k < n * size) (u : Value) :
    (w.setCell ⟨g, k, none⟩ u).ownsRow base e size (.slice (some ⟨g, 0, none⟩) m c) n (xs.set k u) := by
  obtain ⟨h1, h2⟩ := h
  refine ⟨by rw [List.length_set]; exact h1, ?_⟩
  rcases h2 with ⟨hv, _⟩ | ⟨g', cap, cur, hv, hb, hg, h3, h4, h5, h6⟩
  · cases hv
  · injection hv with e1 e2 e3
    injection e1 with e1
    injection e1 with e1
    subst e1; subst e2; subst e3
    refine .inr ⟨g, _, cur.setIfInBounds k u, rfl, hb, ?_, h3, h4, by simpa using h5, ?_⟩
    · exact (Bk.put (cs := cur) hg k u)
    · rw [Array.toList_setIfInBounds, List.take_set, h6]
theorem who_frozen {w : World} {base : Nat} {e : TypeId} {size n m c g : Nat} {xs : List Value} (h : w.ownsRow base e size (.slice (some ⟨g, 0, none⟩) m c) n xs) (k : Nat) : w.frozen? ⟨g, k, none⟩ = false := by
  rcases h.2 with ⟨hv, _⟩ | ⟨g', cap, cur, hv, hb, hg, _⟩
  · cases hv
  · injection hv with e1; injection e1 with e1; injection e1 with e1; subst e1
    exact Bk.frozen (cs := cur) hg k
/-- where an own row lies -/
theorem who_own {w : World} {base : Nat} {e : TypeId} {size n m : Nat} {A : Option Addr} {c : Nat} {xs : List Value} (h : w.ownsRow base e size (.slice A m c) n xs) (hn : 0 < n) : ∃ g, A = some ⟨g, 0, none⟩ ∧ base ≤ g ∧ g < w.heap.size := by
  rcases h.2 with ⟨_, h0⟩ | ⟨g, cap, cur, hv, hb, hg, _⟩
  · omega
  · injection hv with e1
    exact ⟨g, e1, hb, (Array.getElem?_eq_some_iff.1 hg).1⟩
theorem dtc_set (l : List DueM) (i : Nat) (hi : i < l.length) (x : DueM) : ((dtc l).set (i * 2) (.int .i64 x.time)).set (i * 2 + 1) (.int .i64 x.id) = dtc (l.set i x) := by
  induction l generalizing i with
  | nil => simp at hi
  | cons a l ih =>
    cases i with
    | zero => simp [dtc]
    | succ i =>
      have h := ih i (by simpa using hi)
      have e : ∀ (k : Nat) (v : Value) (m : List Value), (Value.int .i64 a.time :: Value.int .i64 a.id :: m).set (k + 2) v = Value.int .i64 a.time :: Value.int .i64 a.id :: m.set k v := fun k v m => rfl
      show ((Value.int .i64 a.time :: Value.int .i64 a.id :: dtc l).set ((i + 1) * 2) _).set ((i + 1) * 2 + 1) _ = Value.int .i64 a.time :: Value.int .i64 a.id :: dtc (l.set i x)
      rw [show (i + 1) * 2 = i * 2 + 2 by omega, show i * 2 + 2 + 1 = i * 2 + 1 + 2 by omega, e, e, h]
def put2d (w : World) (g o : Nat) (x : DueM) : World := (w.setCell ⟨g, o, none⟩ (.int .i64 x.time)).setCell ⟨g, o + 1, none⟩ (.int .i64 x.id)
theorem OwnE.set {B : Nat} {w : World} {g n c : Nat} {l : List DueM} (h : OwnE B w (some ⟨g, 0, none⟩) n c l) {i : Nat} (hi : i < l.length) (x : DueM) : OwnE B (put2d w g (i * 2) x) (some ⟨g, 0, none⟩) n c (l.set i x) := by
  have hl := h.len
  have h1 := who_put h.own (i * 2) (by omega) (.int .i64 x.time)
  have h2 := who_put h1 (i * 2 + 1) (by omega) (.int .i64 x.id)
  rw [dtc_set l i hi x] at h2
  exact ⟨h2, by rw [List.length_set]; exact hl, h.cap, h.nil⟩
theorem put2d_turned (w : World) (g o : Nat) (x : DueM) : Turned [g] w (put2d w g o x) := ((Turned.refl [g] w).setCell (.inl (by simp)) _).setCell (.inl (by simp)) _
theorem OwnE.at_ {B : Nat} {w : World} {g n c : Nat} {l : List DueM} (h : OwnE B w (some ⟨g, 0, none⟩) n c l) {i : Nat} (hi : i < l.length) : DueCells w g (i * 2) (l.getD i default) := by
  obtain ⟨b, off, e, hc⟩ := h.dues.resolve_left (by intro e; rw [e] at hi; simp at hi)
  cases e
  have := hc i hi
  rwa [Nat.zero_add] at this
theorem OwnE.free {B : Nat} {w : World} {g n c : Nat} {l : List DueM} (h : OwnE B w (some ⟨g, 0, none⟩) n c l) (k : Nat) : w.frozen? ⟨g, k, none⟩ = false := who_frozen h.own k
/-- what lies in memory while x goes down -/
theorem swap_list (A p q R : List DueM) (x y : DueM) : ((A ++ (p ++ [y] ++ x :: q) ++ R).set (A.length + p.length + 1) y).set (A.length + p.length) x = A ++ (p ++ x :: (y :: q)) ++ R := by
  have e1 : (A ++ (p ++ [y] ++ x :: q) ++ R) = (A ++ p) ++ (y :: x :: (q ++ R)) := by simp
  rw [e1, List.set_append_right _ _ (by simp), List.set_append_right _ _ (by simp)]
  simp
theorem sortE_one (l : List DueM) (h : l.length ≤ 1) : sortE l = l := by
  match l, h with
  | [], _ => rfl
  | [x], _ => rfl
/-! ### the closure that compares -/
theorem nan_any (a : Int) (w : World) : Calls Try.prog 33 #[.int .i64 a] w fun e w' => e = .returned (.bool false) ∧ w = w' := by
  go_enter Try.func33, Try.ntmps33
  go_wp2
  go_ret
  exact ⟨rfl, rfl⟩
def CmpPost (o : Int) (w : World) (e : Ending) (w' : World) : Prop := e = .returned (.int .i64 o) ∧ w = w'
theorem cmpI_any (a b : Int) (w : World) : Calls Try.prog 27 #[.int .i64 a, .int .i64 b] w (CmpPost (if a < b then -1 else if b < a then 1 else 0) w) := by
  by_cases h1 : a < b
  · rw [if_pos h1]
    have h1' : decide (a < b) = true := by simpa using h1
    go_enter Try.func27, Try.ntmps27
    go_wp2_with (first | (go_at_call 33; refine (nan_any _ _).mono ?_; rintro e w' ⟨rfl, rfl⟩))
    all_goals (go_ret; exact ⟨rfl, rfl⟩)
  · rw [if_neg h1]
    have h1' : decide (a < b) = false := by simpa using h1
    by_cases h2 : b < a
    · rw [if_pos h2]
      have h2' : decide (b < a) = true := by simpa using h2
      go_enter Try.func27, Try.ntmps27
      go_wp2_with (first | (go_at_call 33; refine (nan_any _ _).mono ?_; rintro e w' ⟨rfl, rfl⟩))
      all_goals (go_ret; exact ⟨rfl, rfl⟩)
    · rw [if_neg h2]
      have h2' : decide (b < a) = false := by simpa using h2
      go_enter Try.func27, Try.ntmps27
      go_wp2_with (first | (go_at_call 33; refine (nan_any _ _).mono ?_; rintro e w' ⟨rfl, rfl⟩))
      all_goals (go_ret; exact ⟨rfl, rfl⟩)
theorem cmpT_any (a b : DueM) (w : World) (ha : a.wf) (hb : b.wf) : Calls Try.prog 26 #[.agg #[.int .i64 a.time, .int .i64 a.id], .agg #[.int .i64 b.time, .int .i64 b.id]] w fun e w' => e = .returned (.int .i64 (cmpV a b)) ∧ Below w.heap.size w w' := by
  have hB := ((Below.refl w.heap.size w).alloc (Nat.le_refl _) (.cells #[.int .i64 a.time, .int .i64 a.id] 31)).alloc (by simp) (.cells #[.int .i64 b.time, .int .i64 b.id] 31)
  have HC := fun w => hidp (cmpI_any a.time b.time w)
  obtain ⟨o, Ho⟩ : ∃ o, Hid ((if a.time < b.time then -1 else if b.time < a.time then 1 else 0 : Int) = o) := ⟨_, hidp rfl⟩
  have Hv : Hid (cmpV a b = o) := hidp (by unfold cmpV; exact Ho.out)
  rw [Hv.out]
  have HB := hidp hB
  clear hB
  go_enter Try.func26, Try.ntmps26
  go_wp2_with fail
  have C := (HC ((w.alloc (.cells #[.int .i64 a.time, .int .i64 a.id] 31)).alloc (.cells #[.int .i64 b.time, .int .i64 b.id] 31))).out
  rw [Ho.out] at C
  clear HC
  refine C.mono ?_
  rintro e w2 ⟨rfl, rfl⟩
  go_wp2_with fail
  go_ret
  exact ⟨rfl, HB.out⟩
end Go.Proofs.Ytkjobhocgiefdaa
