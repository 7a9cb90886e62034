/- Plain numbers for FairSame: what a set is whose cores, priorities, clusters are others. -/
import Derived.Test.YtigmbfleffpmeaaKnown13
import Derived.Test.YtigmbfleffpmeaaRef7c
namespace Go.Proofs.Ytigmbfleffpmeaa
open Go.ChangeShapes Go.WideShapes Go.ChangeAt Go.RowKit
set_option linter.unusedVariables false

def chgT (p n : Int) (k : Nat) (t : TaskR) : TaskR := { t with prio := 1 + (k + p) % n, cl := 0 }
def chg (p n : Int) : Nat → List TaskR → List TaskR
  | _, [] => []
  | k, t :: ts => chgT p n k t :: chg p n (k + 1) ts
theorem chg_len (p n : Int) (k : Nat) (ts : List TaskR) : (chg p n k ts).length = ts.length := by
  induction ts generalizing k with
  | nil => rfl
  | cons t ts ih => simp [chg, ih]
theorem chg_append (p n : Int) (k : Nat) (a b : List TaskR) : chg p n k (a ++ b) = chg p n k a ++ chg p n (k + a.length) b := by
  induction a generalizing k with
  | nil => simp [chg]
  | cons t a ih => simp only [List.cons_append, chg, ih, List.length_cons]; rw [show k + 1 + a.length = k + (a.length + 1) by omega]
theorem chg_get (p n : Int) (k : Nat) (ts : List TaskR) (i : Nat) (hi : i < ts.length) : (chg p n k ts).getD i default = chgT p n (k + i) (ts.getD i default) := by
  induction ts generalizing k i with
  | nil => simp at hi
  | cons t ts ih =>
    cases i with
    | zero => simp [chg]
    | succ i =>
      have := ih (k + 1) i (by simpa using hi)
      simp only [chg, List.getD_cons_succ, this]
      rw [show k + 1 + i = k + (i + 1) by omega]
/-- i of them are changed -/
def cur (p n : Int) (ts : List TaskR) (i : Nat) : List TaskR := chg p n 0 (ts.take i) ++ ts.drop i
theorem cur_len (p n : Int) (ts : List TaskR) (i : Nat) : (cur p n ts i).length = ts.length := by
  unfold cur; rw [List.length_append, chg_len, ← List.length_append, List.take_append_drop]
theorem cur_at (p n : Int) (ts : List TaskR) (i : Nat) (hi : i < ts.length) : (cur p n ts i)[i]'(by rw [cur_len]; exact hi) = ts.getD i default := by
  have h1 : (chg p n 0 (ts.take i)).length = i := by rw [chg_len, List.length_take]; omega
  unfold cur
  rw [List.getElem_append_right (by omega)]
  simp only [h1, Nat.sub_self, List.getElem_drop, Nat.add_zero]
  simp [List.getD, hi]
theorem cur_step (p n : Int) (ts : List TaskR) (i : Nat) (hi : i < ts.length) : (cur p n ts i).set i (chgT p n i (ts.getD i default)) = cur p n ts (i + 1) := by
  have h1 : (chg p n 0 (ts.take i)).length = i := by rw [chg_len, List.length_take]; omega
  unfold cur
  rw [List.set_append_right _ _ (by omega), h1, Nat.sub_self, List.drop_eq_getElem_cons hi, List.set_cons_zero, take_snocD ts i hi, chg_append]
  simp [chg, List.length_take, Nat.min_eq_left (Nat.le_of_lt hi)]
theorem cur_zero (p n : Int) (ts : List TaskR) : cur p n ts 0 = ts := by simp [cur, chg]
theorem cur_all (p n : Int) (ts : List TaskR) : cur p n ts ts.length = chg p n 0 ts := by simp [cur]
theorem othL_chg (p n of : Int) (k j : Nat) (ts : List TaskR) : othL of k (chg p n j ts) = othL of k ts := by
  induction ts generalizing k j with
  | nil => rfl
  | cons t ts ih => simp only [chg, othL, ih]; rfl
theorem mod_ne {n p j k : Int} (hj : 0 ≤ j) (hjk : j < k) (hkn : k < n) : (j + p) % n ≠ (k + p) % n := by
  intro h
  have h1 : (k + p - (j + p)) % n = 0 := by rw [Int.sub_emod, h]; simp
  rw [show k + p - (j + p) = k - j by omega, Int.emod_eq_of_lt (by omega) (by omega)] at h1
  omega
theorem good_chg {s t : SetR} {c p : Int} (h : okS s = true) (hc : 1 ≤ c ∧ c ≤ 3) (e1 : t.proto = s.proto) (e2 : t.cores = List.replicate s.cores.length c) (e3 : t.homes = s.homes) (e4 : t.tasks = chg p s.tasks.length 0 s.tasks) (hp : 0 ≤ p) : okS t = true := by
  have hg := Good.of h
  have hf := (okS_iff s).1 h
  refine okS_mk (by rw [e1]; exact inB_true.2 hg.proto) (by rw [e2]; exact inB_true.2 (by have := hg.ncores; simp; omega)) ?_ (by rw [e3]; exact hg.nhomes) (by rw [e2, e3]; simp only [List.length_replicate]; exact (frameV_ok hf.1).2.2.2.2.1) (by rw [e4, chg_len]; exact hg.ntasks.1) (by rw [e4, chg_len]; exact hg.ntasks.2) (fun k hk => ?_)
  · rw [e2]
    unfold allB
    rw [List.all_eq_true]
    intro x hx
    obtain ⟨_, rfl⟩ := List.mem_replicate.1 hx
    exact inB_true.2 hc
  · rw [e4, chg_len] at hk
    have hn : 0 < (s.tasks.length : Int) := by omega
    have hn6 := hg.ntasks.2
    have hx := taskE_ok (hf.2 k hk)
    rw [e4, chg_get _ _ _ _ _ hk, Nat.zero_add, e2, e3]
    have hm := Int.emod_nonneg ((k : Int) + p) (show (s.tasks.length : Int) ≠ 0 by omega)
    have hm2 := Int.emod_lt_of_pos ((k : Int) + p) hn
    refine ⟨?_, ?_, ?_, hx.2.2.2⟩
    · have h1 := hx.1
      unfold formB at h1 ⊢
      simp only [Bool.and_eq_true] at h1 ⊢
      exact ⟨h1.1, h1.2.1, h1.2.2.1, inB_true.2 (by unfold chgT; dsimp only; omega)⟩
    · show inB 0 0 _ = true
      have := hg.ncores
      exact inB_true.2 (by simp only [List.length_replicate]; omega)
    · refine taken_none (by rw [chg_len]; omega) (fun j hj => ?_)
      have hjl : j < s.tasks.length := by omega
      rw [chg_get _ _ _ _ _ hjl, Nat.zero_add]
      have h3 := hx.2.2.1
      unfold takenB at h3
      rw [List.any_eq_false] at h3
      have h4 := h3 (s.tasks.getD j default) (by
        simp only [List.getD, List.getElem?_eq_getElem hjl, Option.getD_some]
        exact List.mem_iff_getElem.2 ⟨j, by rw [List.length_take]; omega, by rw [List.getElem_take]⟩)
      unfold likeB at h4 ⊢
      simp only [Bool.or_eq_true, not_or, Bool.not_eq_true] at h4
      rw [Bool.or_eq_false_iff]
      refine ⟨h4.1, ?_⟩
      have := mod_ne (n := (s.tasks.length : Int)) (p := p) (show 0 ≤ (j : Int) by omega) (show (j : Int) < k by omega) (by omega)
      simp only [chgT, beq_eq_false_iff_ne]
      omega
theorem fair_chg {s t : SetR} {c p : Int} (h : okS s = true) (hc : 1 ≤ c ∧ c ≤ 3) (e1 : t.proto = s.proto) (e2 : t.cores = List.replicate s.cores.length c) (e3 : t.homes = s.homes) (e4 : t.tasks = chg p s.tasks.length 0 s.tasks) (hp : 0 ≤ p) (i k : Nat) (hi : i < s.tasks.length) : fairK t i k = fairK s i k ∧ fairV t i k = fairV s i k := by
  have ho := good_chg h hc e1 e2 e3 e4 hp
  have hp1 : (t.tasks.getD i default).parts = (s.tasks.getD i default).parts := by rw [e4, chg_get _ _ _ _ _ hi]; rfl
  have hpa : partAt t i k = partAt s i k := by unfold partAt; simp only [Int.toNat_natCast]; rw [hp1]
  have hth : thereB t i = true := thereB_true.2 ⟨ho, by omega, by rw [e4, chg_len]; omega⟩
  have hth2 : thereB s i = true := thereB_true.2 ⟨h, by omega, by omega⟩
  have hk : fairK t i k = fairK s i k := by
    rw [Bool.eq_iff_iff, fairK_iff, fairK_iff, hpa]
    simp only [Int.toNat_natCast]
    rw [hp1]
    simp [hth, hth2]
  refine ⟨hk, ?_⟩
  unfold fairV
  rw [hk, hpa, e4, othL_chg]
end Go.Proofs.Ytigmbfleffpmeaa
