/- WaitLeast's numbers: a set one of whose parts is longer. Plain numbers. -/
import Derived.Test.YtnanpopghipmbaaWaitMono
import Derived.Test.YtnanpopghipmbaaOk3
namespace Go.Proofs.Ytnanpopghipmbaa
open Go.ChangeShapes Go.WideShapes Go.ChangeAt Go.RowKit
set_option linter.unusedVariables false
/-- a task with its parts elsewhere, one of them so long -/
def lenT (t : TaskR) (pa : Option Addr) (pc kp : Nat) (x : Int) : TaskR := { t with pa := pa, pc := pc, parts := t.parts.set kp { t.parts.getD kp default with len := x } }
theorem lenT_len (t : TaskR) (pa : Option Addr) (pc kp : Nat) (x : Int) : (lenT t pa pc kp x).parts.length = t.parts.length := by simp [lenT]
def lenL (ts : List TaskR) (kk : Nat) (pa : Option Addr) (pc kp : Nat) (x : Int) : List TaskR := ts.set kk (lenT (ts.getD kk default) pa pc kp x)
theorem lenL_len (ts : List TaskR) (kk : Nat) (pa : Option Addr) (pc kp : Nat) (x : Int) : (lenL ts kk pa pc kp x).length = ts.length := by simp [lenL]
theorem lenL_at {ts : List TaskR} {kk : Nat} (h : kk < ts.length) (pa : Option Addr) (pc kp : Nat) (x : Int) : (lenL ts kk pa pc kp x).getD kk default = lenT (ts.getD kk default) pa pc kp x := by simp [lenL, List.getD, h]
theorem lenL_else {ts : List TaskR} {kk k : Nat} (h : k ≠ kk) (pa : Option Addr) (pc kp : Nat) (x : Int) : (lenL ts kk pa pc kp x).getD k default = ts.getD k default := by
  unfold lenL
  simp [List.getD, Ne.symm h]
theorem like_no1 {t o : TaskR} (h : likeB t o = false) : (o.name.toList == t.name.toList) = false ∧ (o.prio == t.prio) = false := by
  unfold likeB at h
  rw [Bool.or_eq_false_iff] at h; exact h
theorem len_le {s t : SetR} {kk kp : Nat} {x : Int} {pa : Option Addr} {pc : Nat} (ho : okS s = true) (hk : kk < s.tasks.length) (h1 : t.proto = s.proto) (h2 : t.cores = s.cores) (h3 : t.homes = s.homes) (h4 : t.tasks = lenL s.tasks kk pa pc kp x)
    (hx : ((s.tasks.getD kk default).parts.getD kp default).len ≤ x ∧ x ≤ 60) (hkp : kp < (s.tasks.getD kk default).parts.length) : LeS s t := by
  have hg := Good.of ho
  have ht := ((okS_iff s).1 ho).2
  have hl : t.tasks.length = s.tasks.length := by rw [h4, lenL_len]
  have hat : ∀ k, (t.tasks.getD k default).name = (s.tasks.getD k default).name ∧ (t.tasks.getD k default).per = (s.tasks.getD k default).per ∧ (t.tasks.getD k default).dl = (s.tasks.getD k default).dl ∧ (t.tasks.getD k default).prio = (s.tasks.getD k default).prio ∧ (t.tasks.getD k default).cl = (s.tasks.getD k default).cl ∧ ((t.tasks.getD k default).parts = (s.tasks.getD k default).parts ∨ k = kk ∧ (t.tasks.getD k default).parts = (s.tasks.getD k default).parts.set kp { (s.tasks.getD k default).parts.getD kp default with len := x }) := fun k => by
    rw [h4]
    by_cases e : k = kk
    · subst e; rw [lenL_at hk]; exact ⟨rfl, rfl, rfl, rfl, rfl, .inr ⟨rfl, rfl⟩⟩
    · rw [lenL_else e]; exact ⟨rfl, rfl, rfl, rfl, rfl, .inl rfl⟩
  refine ⟨h1.symm, h2.symm, h3.symm, ?_, ho, ?_⟩
  · rw [h4]
    exact LeTs.set ⟨rfl, rfl, rfl, LeP.set ⟨rfl, rfl, hx.1⟩⟩
  · refine okS_all (by rw [h1]; exact hg.proto) (by rw [h2]; exact hg.ncores) (by rw [h2]; exact hg.cores) (by rw [h3]; exact hg.nhomes) (by rw [h3, h2]; intro n hn; have := hg.homes n hn; omega) (by rw [hl]; exact hg.ntasks) (fun k hk => ?_) (fun j k hjk hk => ?_)
    · rw [hl] at hk
      obtain ⟨a, b, c, d⟩ := taskE_ok (ht k hk)
      have b2 := inB_true.1 b
      obtain ⟨q1, q2, q3, q4, q5, q6⟩ := hat k
      unfold formB at a
      simp only [Bool.and_eq_true] at a
      obtain ⟨a0, a1, a2, a3⟩ := a
      have a1' := inB_true.1 a1
      have a2' := inB_true.1 a2
      have a3' := inB_true.1 a3
      refine ⟨formB_mk (by rw [q1]; exact a0) (by rw [q2]; exact a1') (by rw [q2, q3]; exact a2') (by rw [q4]; exact a3'), by rw [q5, h2]; omega, ?_⟩
      rcases q6 with e | ⟨rfl, e⟩
      · rw [e, h3]; exact d
      · rw [e, h3]
        unfold partsB at d ⊢
        rw [Bool.and_eq_true] at d ⊢
        refine ⟨by rw [List.length_set]; exact d.1, List.all_eq_true.2 (fun p hp => ?_)⟩
        rcases List.mem_or_eq_of_mem_set hp with h | h
        · exact List.all_eq_true.1 d.2 p h
        · have h0 := List.all_eq_true.1 d.2 _ (getD_mem hkp)
          have hl0 := ((hg.parts _ (getD_mem hk)).lens _ (getD_mem hkp))
          have hx1 : inB x 1 60 = true := inB_true.2 (by omega)
          subst h
          unfold partB at h0 ⊢
          dsimp only
          rw [hx1]
          split
          · rename_i e3
            rw [if_pos e3, Bool.and_eq_true] at h0
            simpa using h0.2
          · rename_i e3
            rw [if_neg e3] at h0
            split
            · rename_i e4
              rw [if_pos e4, Bool.and_eq_true] at h0
              simpa using h0.2
            · rename_i e4
              rw [if_neg e4] at h0; exact h0
    · rw [hl] at hk
      rw [(hat k).1, (hat k).2.2.2.1, (hat j).1, (hat j).2.2.2.1]
      have h := hg.apart k hk
      unfold takenB at h
      rw [List.any_eq_false] at h
      have hm : s.tasks.getD j default ∈ s.tasks.take k := by
        have e2 : (s.tasks.take k).getD j default = s.tasks.getD j default := by simp [List.getD, show j < k by omega]
        rw [← e2]; exact getD_mem (by rw [List.length_take]; omega)
      exact like_no1 (by simpa using h _ hm)
/-- what is told of the waits of both -/
theorem least_told {s t : SetR} (h : LeS s t) (bs : List Int) (j : Nat) (hj : j < s.tasks.length) :
    (waitsK t bs j = true → waitsK s bs j = true) ∧ (waitsK s bs j = true → (waitsL s bs j).length = (s.tasks.getD j default).parts.length) ∧
    (waitsK s bs j = true → ∀ m, m < (s.tasks.getD j default).parts.length → (decide (0 < (waitsL s bs j).getD m 0) = (((s.tasks.getD j default).parts.getD m default).kind == 3)) ∧ (((s.tasks.getD j default).parts.getD m default).kind = 3 → ((s.tasks.getD j default).parts.getD m default).len ≤ (waitsL s bs j).getD m 0)) ∧
    (waitsK t bs j = true → (waitsL t bs j).length = (s.tasks.getD j default).parts.length ∧ ∀ m, m < (s.tasks.getD j default).parts.length → (waitsL s bs j).getD m 0 ≤ (waitsL t bs j).getD m 0) := by
  have hlen : (partsOf t j).length = (partsOf s j).length := by
    unfold partsOf
    exact ((h.tasks.get _).2.2.2.len).symm
  have hps : partsOf s j = (s.tasks.getD j default).parts := by unfold partsOf; simp
  have hpw : ∀ k : Nat, k < (partsOf s j).length → pK t bs j k = true → pK s bs j k = true ∧ pW s bs j k ≤ pW t bs j k := fun k hk hkt => by
    have e := (h.part (j : Int) (k : Int)).1
    unfold pK at hkt ⊢
    unfold pW
    rw [e]
    split
    · rename_i e3
      rw [if_pos e3] at hkt
      exact h.wait bs j k hkt
    · exact ⟨rfl, Int.le_refl _⟩
  have hk1 : waitsK t bs j = true → waitsK s bs j = true := fun hk => by
    unfold waitsK at hk ⊢
    rw [Bool.and_eq_true] at hk ⊢
    rw [h.there] at hk
    refine ⟨hk.1, (upTo_iff _ _).2 (fun k hlt => ?_)⟩
    have := (upTo_iff _ _).1 hk.2 k (by rw [hlen]; exact hlt)
    exact (hpw k hlt this).1
  have hLs : waitsK s bs j = true → waitsL s bs j = (List.range (partsOf s j).length).map (pW s bs j) := fun hk => by unfold waitsL; rw [if_pos hk]
  have hLt : waitsK t bs j = true → waitsL t bs j = (List.range (partsOf s j).length).map (pW t bs j) := fun hk => by unfold waitsL; rw [if_pos hk, hlen]
  have gm : ∀ (f : Nat → Int) (n m : Nat), m < n → ((List.range n).map f).getD m 0 = f m := fun f n m hm => by simp [List.getD, hm]
  rw [← hps]
  refine ⟨hk1, fun hk => by rw [hLs hk]; simp, fun hk m hm => ?_, fun hk => ⟨by rw [hLt hk]; simp, fun m hm => ?_⟩⟩
  · rw [hLs hk, gm _ _ _ hm]
    have hpk : pK s bs j m = true := by
      unfold waitsK at hk
      rw [Bool.and_eq_true] at hk
      exact (upTo_iff _ _).1 hk.2 m hm
    have e0 : partAt s (j : Int) (m : Int) = (partsOf s j).getD m default := by unfold partAt partsOf; simp
    unfold pK at hpk
    unfold pW
    rw [e0] at hpk ⊢
    by_cases e3 : ((partsOf s j).getD m default).kind = 3
    · rw [if_pos e3] at hpk ⊢
      have h1 := wait_own hpk
      obtain ⟨f, _⟩ := waitK_lock hpk
      obtain ⟨_, l1, _, _⟩ := lock_part f
      rw [e0] at h1 l1
      refine ⟨?_, fun _ => h1⟩
      rw [e3]
      simp; omega
    · rw [if_neg e3]
      refine ⟨?_, fun e => absurd e e3⟩
      have : (((partsOf s j).getD m default).kind == 3) = false := by simpa using e3
      rw [this]; simp
  · have hk0 := hk1 hk
    rw [hLs hk0, hLt hk, gm _ _ _ hm, gm _ _ _ hm]
    unfold waitsK at hk
    rw [Bool.and_eq_true] at hk
    exact (hpw m hm ((upTo_iff _ _).1 hk.2 m (by rw [hlen]; exact hm))).2
end Go.Proofs.Ytnanpopghipmbaa
