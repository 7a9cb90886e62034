/- rank: entries (three numbers); rows of them; who is ahead. Plain laws over any program. -/
import Derived.Test.YtppgameimddimaaGreatOwn
namespace Go.Proofs.YtppgameimddimaaGreat
open Go.ChangeShapes Go.WideShapes Go.ChangeAt Go.RowKit
set_option linter.unusedVariables false
set_option linter.unusedSimpArgs false

structure EntM where
  key : Int
  turn : Int
  id : Int
deriving DecidableEq
instance : Inhabited EntM := ⟨⟨0, 0, 0⟩⟩
def EntM.val (a : EntM) : Value := .agg #[.int .i64 a.key, .int .i64 a.turn, .int .i64 a.id]
def EntM.wf (a : EntM) : Prop := I64 a.key ∧ I64 a.turn ∧ I64 a.id
/-- a is ahead of b -/
def lessE (a b : EntM) : Bool := decide (a.key < b.key) || (decide (a.key = b.key) && decide (a.turn < b.turn))
def cmpV (x y : Int) : Int := if x < y then -1 else if y < x then 1 else 0
def ordV (a b : EntM) : Int := if cmpV a.key b.key ≠ 0 then cmpV a.key b.key else cmpV a.turn b.turn
theorem ordV_neg (a b : EntM) : ordV a b < 0 ↔ lessE a b = true := by
  unfold ordV cmpV lessE
  rw [Bool.or_eq_true, Bool.and_eq_true, decide_eq_true_iff, decide_eq_true_iff, decide_eq_true_iff]
  (repeat' split) <;> omega
theorem lessE_trans {a b c : EntM} (h : lessE a b = true) (g : lessE b c = true) : lessE a c = true := by
  unfold lessE at *
  rw [Bool.or_eq_true, Bool.and_eq_true, decide_eq_true_iff, decide_eq_true_iff, decide_eq_true_iff] at *
  omega
theorem lessE_not {a b : EntM} (h : lessE a b = true) : lessE b a = false := by
  cases g : lessE b a with
  | false => rfl
  | true =>
    unfold lessE at *
    rw [Bool.or_eq_true, Bool.and_eq_true, decide_eq_true_iff, decide_eq_true_iff, decide_eq_true_iff] at *
    omega
theorem lessE_tot {a b : EntM} (h : lessE a b = false) (hn : a.turn ≠ b.turn) : lessE b a = true := by
  unfold lessE at *
  rw [Bool.or_eq_false_iff, Bool.and_eq_false_imp] at h
  rw [Bool.or_eq_true, Bool.and_eq_true, decide_eq_true_iff, decide_eq_true_iff, decide_eq_true_iff]
  have h1 := of_decide_eq_false h.1
  have h2 : a.key = b.key → ¬ a.turn < b.turn := fun e => of_decide_eq_false (h.2 (decide_eq_true e))
  omega
/-- the cells of a row of them -/
def etc_ (ps : List EntM) : List Value := ps.flatMap fun p => [.int .i64 p.key, .int .i64 p.turn, .int .i64 p.id]
theorem etc__len (ps : List EntM) : (etc_ ps).length = ps.length * 3 := by
  induction ps with
  | nil => rfl
  | cons p ps ih => simp only [etc_, List.flatMap_cons, List.length_append, List.length_cons, List.length_nil] at *; omega
theorem etc__append (a b : List EntM) : etc_ (a ++ b) = etc_ a ++ etc_ b := by simp [etc_]
theorem etc__one (ps : List EntM) : ∀ u ∈ etc_ ps, u.oneCell' = true := fun u hu => by
  obtain ⟨p, _, h⟩ := List.mem_flatMap.1 hu
  simp at h
  rcases h with rfl | rfl | rfl <;> rfl
theorem etc__drop (ps : List EntM) (k : Nat) : (etc_ ps).drop (k * 3) = etc_ (ps.drop k) := by
  induction k generalizing ps with
  | zero => simp
  | succ k ih =>
    cases ps with
    | nil => simp [etc_]
    | cons p ps =>
      rw [show (k + 1) * 3 = k * 3 + 1 + 1 + 1 by omega]
      simp only [etc_, List.flatMap_cons, List.cons_append, List.nil_append, List.drop_succ_cons]
      exact ih ps
theorem etc__at (ps : List EntM) (k : Nat) (hk : k < ps.length) : (etc_ ps)[k * 3]? = some (.int .i64 (ps.getD k default).key) ∧ (etc_ ps)[k * 3 + 1]? = some (.int .i64 (ps.getD k default).turn) ∧ (etc_ ps)[k * 3 + 2]? = some (.int .i64 (ps.getD k default).id) := by
  have h := etc__drop ps k
  rw [List.drop_eq_getElem_cons hk] at h
  have h0 := congrArg (fun l => l[0]?) h
  have h1 := congrArg (fun l => l[1]?) h
  have h2 := congrArg (fun l => l[2]?) h
  simp only [List.getElem?_drop, Nat.add_zero] at h0 h1 h2
  have hg : ps.getD k default = ps[k] := by simp [List.getD, hk]
  rw [hg, h0, h1, h2]
  exact ⟨rfl, rfl, rfl⟩
def EntCells (w : World) (b off : Nat) (p : EntM) : Prop :=
  w.cell? ⟨b, off, none⟩ = some (.int .i64 p.key) ∧ w.cell? ⟨b, off + 1, none⟩ = some (.int .i64 p.turn) ∧ w.cell? ⟨b, off + 2, none⟩ = some (.int .i64 p.id)
def EntsAt (w : World) (a : Option Addr) (ps : List EntM) : Prop :=
  ps = [] ∨ ∃ b off, a = some ⟨b, off, none⟩ ∧ ∀ i, i < ps.length → EntCells w b (off + i * 3) (ps.getD i default)
theorem ents_lie {B : Nat} {w : World} {A : Option Addr} {ps : List EntM} (h : Lies B w A (etc_ ps)) : EntsAt w A ps := by
  rcases h with h | ⟨b, off, rfl, _, hc⟩
  · left
    have := congrArg List.length h
    rw [etc__len] at this
    exact List.eq_nil_of_length_eq_zero (by simp at this; omega)
  · refine .inr ⟨b, off, rfl, fun i hi => ?_⟩
    obtain ⟨a0, a1, a2⟩ := etc__at ps i hi
    exact ⟨hc _ _ a0, by have := hc _ _ a1; rwa [← Nat.add_assoc] at this, by have := hc _ _ a2; rwa [← Nat.add_assoc] at this⟩
theorem infoEnt : (Tryz.prog.info? 105).map (fun i => (i.zero, i.size, i.bytes)) = some (some (.agg #[.int .i64 0, .int .i64 0, .int .i64 0]), 3, 24) := by kernel_rfl
structure OwnE (B : Nat) (w : World) (A : Option Addr) (n c : Nat) (ps : List EntM) : Prop where
  own : w.ownsRow B 105 3 (.slice A n c) n (etc_ ps)
  len : n = ps.length
  cap : n ≤ c ∧ c ≤ maxLen
  nil : A = none → n = 0 ∧ c = 0
theorem OwnE.empty (B : Nat) (w : World) : OwnE B w none 0 0 [] := ⟨World.ownsRow_nil _ _ _ _, rfl, by decide, fun _ => ⟨rfl, rfl⟩⟩
theorem OwnE.ents {B : Nat} {w : World} {A : Option Addr} {n c : Nat} {ps : List EntM} (h : OwnE B w A n c ps) : EntsAt w A ps := by
  obtain ⟨h1, rfl, _, _⟩ := h
  exact ents_lie (Lies.of_own h1)
theorem OwnE.app {B : Nat} {w w1 w2 : World} {A A' : Option Addr} {n c c' : Nat} {rs ps : List EntM} {m : Nat} (h : OwnE B w A n c rs) (ha : App B 105 3 w1 A A' (n + m) c' (etc_ rs ++ etc_ ps) w2) (hm : m = ps.length) : OwnE B w2 A' (n + m) c' (rs ++ ps) :=
  ⟨by rw [etc__append]; exact ha.own, by rw [List.length_append, h.len, hm], ha.cap, ha.nil⟩
theorem OwnE.turned {B : Nat} {F : List Nat} {w w' : World} {A : Option Addr} {n c : Nat} {ps : List EntM} (h : OwnE B w A n c ps) (ht : Turned F w w') (hF : ∀ k ∈ fp A, k ∉ F) : OwnE B w' A n c ps := ⟨own_turned h.own ht hF, h.len, h.cap, h.nil⟩

end Go.Proofs.YtppgameimddimaaGreat
