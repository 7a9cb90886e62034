/- bound: with greater bounds, a greater window nothing is less. Plain numbers. -/
import Derived.Test.YtjjlpaampmpdfaaGreatDoorBoundNums
namespace Go.Proofs.YtjjlpaampmpdfaaGreatDoor
open Go.ChangeShapes Go.WideShapes Go.ChangeAt Go.RowKit
set_option linter.unusedVariables false
theorem jobV_boundM {w b b' p : Int} (h : b ≤ b') : jobV w b p ≤ jobV w b' p := by
  by_cases hp : 0 < p
  · exact jobV_mono (Int.le_refl _) h (Int.le_refl _) hp
  · rw [jobV_out (by omega)]; exact (jobV_bd _ _ _).1
theorem workV_boundM {w b b' p e : Int} (h : b ≤ b') : workV w b p e ≤ workV w b' p e := by
  have h1 := jobV_boundM (w := w) (p := p) h
  have h2 := (jobV_bd w b p).1
  have h3 : jobV w b p * max e 0 ≤ jobV w b' p * max e 0 := Int.mul_le_mul_of_nonneg_right h1 (by omega)
  unfold workV; omega
theorem riv_boundM (s : SetR) {bs cs : List Int} (pr cl wd : Int) (hle : ∀ k, bs.getD k 0 ≤ cs.getD k 0) (k : Nat) (ts : List TaskR) : workS wd (rivL s bs pr cl k ts) ≤ workS wd (rivL s cs pr cl k ts) := by
  induction ts generalizing k with
  | nil => simp [rivL, workS]
  | cons t ts ih =>
    have h1 := ih (k + 1)
    simp only [rivL, workS_append]
    split
    · have := workV_boundM (w := wd) (p := t.per) (e := atV s k cl) (hle k)
      simp only [workS]; omega
    · simp only [workS]; omega
section
variable {s : SetR} {bs cs : List Int}
theorem agent_risesM {of part : Int} (hle : ∀ k, bs.getD k 0 ≤ cs.getD k 0) (hl : cs.length = bs.length) (h : agentK s cs of part = true) : agentK s bs of part = true ∧ agentV s bs of part ≤ agentV s cs of part := by
  obtain ⟨k1, k2⟩ := agent_lock h
  have hb : agentB s cs of part = true := agentB_true.2 ⟨k1, k2⟩
  have hb2 : agentB s bs of part = true := agentB_true.2 ⟨k1, by rw [← hl]; exact k2⟩
  obtain ⟨ho, l1, l2, _⟩ := lock_part k1
  have hlo := lowerV_bd s of (homeV s of part)
  unfold agentK agentO at h
  unfold agentV agentK agentO
  rw [if_pos hb] at h ⊢
  rw [if_pos hb2]
  cases e : fixO (winF (leastV s of part) (rivL s cs (prioOf s of) (homeV s of part) 0 s.tasks)) (leastV s of part) with
  | none => rw [e] at h; cases h
  | some v =>
    obtain ⟨u, hu, huv⟩ := fix_le (F := winF (leastV s of part) (rivL s bs (prioOf s of) (homeV s of part) 0 s.tasks)) (fun x y hxy => winF_mono _ _ hxy) (fun x => by
      have := riv_boundM s (prioOf s of) (homeV s of part) x hle 0 s.tasks
      unfold winF capV; omega) (Int.le_refl _) (fun x => (winF_own _ _ x).1) (by unfold leastV; omega) e
    rw [hu]
    exact ⟨rfl, huv⟩
theorem wait_rises {of part : Int} (hle : ∀ k, bs.getD k 0 ≤ cs.getD k 0) (hl : cs.length = bs.length) (h : waitK s cs of part = true) : waitK s bs of part = true ∧ waitV s bs of part ≤ waitV s cs of part := by
  unfold waitK at h ⊢
  unfold waitV
  rw [hl] at h ⊢
  split at h
  · rename_i e
    rw [if_pos e, if_pos e, if_pos e]
    by_cases p2 : s.proto = 2
    · have p1 : ¬ s.proto = 1 := by omega
      rw [if_pos p2] at h ⊢
      rw [if_neg p1, if_neg p1, if_pos p2, if_pos p2]
      exact agent_risesM hle hl h
    · rw [if_neg p2] at h ⊢
      rw [if_neg p2, if_neg p2]
      exact ⟨h, Int.le_refl _⟩
  · cases h
theorem tot_map_le {n : Nat} {f g : Nat → Int} (h : ∀ k, k < n → f k ≤ g k) : tot ((List.range n).map f) ≤ tot ((List.range n).map g) := by
  induction n with
  | zero => simp [tot]
  | succ n ih =>
    have h1 := ih (fun k hk => h k (by omega))
    have h2 := h n (by omega)
    rw [range_snoc, range_snoc, tot_append, tot_append]
    simp only [tot]; omega
theorem waits_rises {of : Int} (hle : ∀ k, bs.getD k 0 ≤ cs.getD k 0) (hl : cs.length = bs.length) (h : waitsK s cs of = true) : waitsK s bs of = true ∧ tot (waitsL s bs of) ≤ tot (waitsL s cs of) := by
  have ht := waitsK_there h
  have hc : ∀ k, k < (partsOf s of).length → pK s cs of k = true := by
    unfold waitsK at h
    rw [ht, Bool.true_and] at h
    exact (upTo_iff _ _).1 h
  have hk : ∀ k, k < (partsOf s of).length → pK s bs of k = true ∧ pW s bs of k ≤ pW s cs of k := fun k hk => by
    have h1 := hc k hk
    unfold pK at h1 ⊢
    unfold pW
    split
    · rename_i e
      rw [if_pos e] at h1
      exact wait_rises hle hl h1
    · exact ⟨rfl, Int.le_refl _⟩
  obtain ⟨a1, a2⟩ := waits_yes (bs := bs) ht (fun k h => (hk k h).1)
  obtain ⟨b1, b2⟩ := waits_yes (bs := cs) ht hc
  refine ⟨a1, ?_⟩
  rw [a2, b2]
  exact tot_map_le (fun k h => (hk k h).2)
theorem othW_rises {of wd wd' : Int} (hle : ∀ k, bs.getD k 0 ≤ cs.getD k 0) (hw : wd ≤ wd') (k : Nat) {ts : List TaskR} (hp : ∀ t ∈ ts, 1 ≤ t.per) : othW s bs of wd k ts ≤ othW s cs of wd' k ts := by
  induction ts generalizing k with
  | nil => simp [othW]
  | cons t ts ih =>
    have h1 := ih (k + 1) (fun q hq => hp q (by simp [hq]))
    have h2 : workV wd (bs.getD k 0) t.per (eachV s k of) ≤ workV wd' (cs.getD k 0) t.per (eachV s k of) := workV_mono hw (hle k) (Int.le_refl _) (by have := hp t (by simp); omega) (Int.le_refl _)
    simp only [othW]
    split <;> omega
theorem per_pos (ho : okS s = true) : ∀ t ∈ s.tasks, 1 ≤ t.per := fun t ht => by
  have h := (Good.of ho).form t ht
  unfold formB at h
  simp [inB] at h
  omega
theorem others_rises {of wd wd' : Int} (hle : ∀ k, bs.getD k 0 ≤ cs.getD k 0) (hl : cs.length = bs.length) (hn : nnB bs = true) (hn' : nnB cs = true) (hw : wd ≤ wd') : othersV s bs of wd ≤ othersV s cs of wd' := by
  unfold othersV
  have e : othersB s cs of = othersB s bs of := by unfold othersB; rw [hl]
  rw [e]
  by_cases h : othersB s bs of = true
  · rw [if_pos ⟨h, hn⟩, if_pos ⟨h, hn'⟩]
    obtain ⟨ht, _⟩ := othersB_true.1 h
    exact Int.ediv_le_ediv (by have := cores_at ht; omega) (othW_rises hle hw 0 (per_pos (thereB_true.1 ht).1))
  · rw [if_neg (fun g => h g.1), if_neg (fun g => h g.1)]; exact Int.le_refl _
theorem next_rises {of : Int} (hle : ∀ k, bs.getD k 0 ≤ cs.getD k 0) (hl : cs.length = bs.length) (hn : nnB bs = true) (hn' : nnB cs = true) (h : nextK s cs of = true) : nextK s bs of = true ∧ nextV s bs of ≤ nextV s cs of := by
  obtain ⟨h1, h2⟩ := nextK_true.1 h
  obtain ⟨a1, a2⟩ := waits_rises hle hl h1
  have k1 : nextK s bs of = true := nextK_true.2 ⟨a1, by rw [← hl]; exact h2⟩
  refine ⟨k1, ?_⟩
  have h3 := others_rises (s := s) (of := of) hle hl hn hn' (hle of.toNat)
  unfold nextV ownV
  rw [if_pos h, if_pos k1, if_pos h1, if_pos a1]
  omega
theorem next_own {of : Int} (h : nextK s bs of = true) : ownV s bs of ≤ nextV s bs of := by
  have := (othersV_bd s bs of (bs.getD of.toNat 0)).1
  unfold nextV; rw [if_pos h]; omega
end
end Go.Proofs.YtjjlpaampmpdfaaGreatDoor
