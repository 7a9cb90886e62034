/- rank: the heap's order. Plain lists. -/
import Derived.Test.YtppgameimddimaaGreatLRankQ
namespace Go.Proofs.YtppgameimddimaaGreat
set_option linter.unusedVariables false
set_option linter.unusedSimpArgs false
abbrev atE (l : List EntM) (i : Nat) : EntM := l.getD i default
/-- no two were put at one time -/
def DistE (l : List EntM) : Prop := ∀ i j, i < l.length → j < l.length → i ≠ j → (atE l i).turn ≠ (atE l j).turn
def HeapE (l : List EntM) : Prop := ∀ i, 0 < i → i < l.length → lessE (atE l ((i - 1) / 2)) (atE l i) = true
/-- all in order but for the entry at k against the one above it -/
def UpE (l : List EntM) (k : Nat) : Prop := (∀ i, 0 < i → i < l.length → i ≠ k → lessE (atE l ((i - 1) / 2)) (atE l i) = true) ∧ (0 < k → ∀ i, 0 < i → i < l.length → (i - 1) / 2 = k → lessE (atE l ((k - 1) / 2)) (atE l i) = true)
/-- all in order but for the entry at k against those below it -/
def DownE (l : List EntM) (k : Nat) : Prop := (∀ i, 0 < i → i < l.length → (i - 1) / 2 ≠ k → lessE (atE l ((i - 1) / 2)) (atE l i) = true) ∧ (0 < k → ∀ i, 0 < i → i < l.length → (i - 1) / 2 = k → lessE (atE l ((k - 1) / 2)) (atE l i) = true)
theorem swapE_at {l : List EntM} {i j : Nat} (hi : i < l.length) (hj : j < l.length) (k : Nat) : atE (swapE l i j) k = atE l (if j = k then i else if i = k then j else k) := by
  unfold atE
  rw [swapE_get hi hj]
  split
  · rfl
  · split <;> rfl
theorem DistE.swap {l : List EntM} {i j : Nat} (h : DistE l) (hi : i < l.length) (hj : j < l.length) : DistE (swapE l i j) := by
  intro a b ha hb hab
  rw [swapE_len] at ha hb
  rw [swapE_at hi hj, swapE_at hi hj]
  refine h _ _ ?_ ?_ ?_ <;> (repeat' split) <;> omega
theorem rise_heap (k : Nat) : ∀ (l : List EntM), k < l.length → DistE l → UpE l k → HeapE (riseL l k) := by
  induction k using Nat.strongRecOn with
  | _ k ih =>
    intro l hk hd hu
    rw [riseL]
    split
    · rename_i h0
      exact fun i h1 h2 => hu.1 i h1 h2 (by omega)
    · rename_i h0
      split
      · rename_i hl
        intro i h1 h2
        by_cases e : i = k
        · subst e; exact hl
        · exact hu.1 i h1 h2 e
      · rename_i hl
        obtain ⟨u, hue⟩ : ∃ u, (k - 1) / 2 = u := ⟨_, rfl⟩
        rw [hue] at hl ⊢
        have hul : u < l.length := by omega
        have huk : u < k := by omega
        have hless : lessE (atE l k) (atE l u) = true := lessE_tot (by simpa using hl) (hd u k hul hk (by omega))
        refine ih u huk _ (by rw [swapE_len]; exact hul) (hd.swap hul hk) ⟨fun i h1 h2 h3 => ?_, fun h0 i h1 h2 h3 => ?_⟩
        · rw [swapE_len] at h2
          unfold atE
          rw [swapE_get hul hk, swapE_get hul hk]
          by_cases e1 : k = i
          · subst e1
            rw [hue, if_neg (by omega), if_pos rfl, if_pos rfl]
            exact hless
          · rw [if_neg e1, if_neg (show ¬ u = i by omega)]
            by_cases e2 : k = (i - 1) / 2
            · rw [if_pos e2]
              have := hu.2 (by omega) i h1 h2 e2.symm
              rw [hue] at this
              exact this
            · rw [if_neg e2]
              by_cases e3 : u = (i - 1) / 2
              · rw [if_pos e3]
                have := hu.1 i h1 h2 (by omega)
                rw [← e3] at this
                exact lessE_trans hless this
              · rw [if_neg e3]
                exact hu.1 i h1 h2 (by omega)
        · rw [swapE_len] at h2
          unfold atE
          rw [swapE_get hul hk, swapE_get hul hk, if_neg (by omega), if_neg (by omega)]
          have hp := hu.1 u (by omega) hul (by omega)
          by_cases e1 : k = i
          · rw [if_pos e1]; exact hp
          · rw [if_neg e1, if_neg (by omega)]
            have := hu.1 i h1 h2 (by omega)
            rw [h3] at this
            exact lessE_trans hp this
theorem sink_heap (n : Nat) : ∀ (l : List EntM) (k : Nat), l.length - k ≤ n → DistE l → DownE l k → HeapE (sinkL l k) := by
  induction n with
  | zero =>
    intro l k hn hd hu
    rw [sinkL]
    have := downE_bd l k
    rw [dif_pos (by omega)]
    exact fun i h1 h2 => hu.1 i h1 h2 (by omega)
  | succ n ih =>
    intro l k hn hd hu
    rw [sinkL]
    have hb := downE_bd l k
    split
    · rename_i h0
      exact fun i h1 h2 => hu.1 i h1 h2 (fun e => by
        have : downE l k = 2 * k + 1 ∨ downE l k = 2 * k + 2 := by omega
        unfold downE at h0
        split at h0 <;> omega)
    · rename_i h0
      -- the one below that is ahead is ahead of the other one
      have hmin : ∀ i, 0 < i → i < l.length → (i - 1) / 2 = k → i = downE l k ∨ lessE (atE l (downE l k)) (atE l i) = true := by
        intro i h1 h2 h3
        have hi : i = 2 * k + 1 ∨ i = 2 * k + 2 := by omega
        unfold downE
        by_cases g : 2 * k + 2 < l.length ∧ lessE (l.getD (2 * k + 2) default) (l.getD (2 * k + 1) default) = true
        · rw [if_pos g]
          rcases hi with rfl | rfl
          · exact .inr g.2
          · exact .inl rfl
        · rw [if_neg g]
          rcases hi with rfl | rfl
          · exact .inl rfl
          · refine .inr (lessE_tot ?_ (hd _ _ h2 (by omega) (by omega)))
            cases hc : lessE (atE l (2 * k + 2)) (atE l (2 * k + 1)) with
            | false => rfl
            | true => exact absurd ⟨h2, hc⟩ g
      obtain ⟨d, hde⟩ : ∃ d, downE l k = d := ⟨_, rfl⟩
      rw [hde] at h0 hmin hb ⊢
      have hdl : d < l.length := by omega
      have hkl : k < l.length := by omega
      have hdk : (d - 1) / 2 = k := by omega
      split
      · rename_i hl
        intro i h1 h2
        by_cases e : (i - 1) / 2 = k
        · rcases hmin i h1 h2 e with rfl | g
          · rw [e]; exact hl
          · rw [e]; exact lessE_trans hl g
        · exact hu.1 i h1 h2 e
      · rename_i hl
        have hless : lessE (atE l d) (atE l k) = true := lessE_tot (by simpa using hl) (hd k d hkl hdl (by omega))
        refine ih _ d (by rw [swapE_len]; omega) (hd.swap hkl hdl) ⟨fun i h1 h2 h3 => ?_, fun h0 i h1 h2 h3 => ?_⟩
        · rw [swapE_len] at h2
          unfold atE
          rw [swapE_get hkl hdl, swapE_get hkl hdl, if_neg (fun e => h3 e.symm)]
          by_cases e1 : d = i
          · subst e1
            rw [if_pos hdk.symm, if_pos rfl]
            exact hless
          · rw [if_neg e1]
            by_cases e2 : k = (i - 1) / 2
            · rw [if_pos e2, if_neg (by omega)]
              rcases hmin i h1 h2 e2.symm with g | g
              · exact absurd g.symm e1
              · exact g
            · rw [if_neg e2]
              by_cases e3 : k = i
              · subst e3
                rw [if_pos rfl]
                exact hu.2 h1 d (by omega) hdl hdk
              · rw [if_neg e3]
                exact hu.1 i h1 h2 (fun e => e2 e.symm)
        · rw [swapE_len] at h2
          unfold atE
          rw [swapE_get hkl hdl, swapE_get hkl hdl, hdk, if_neg (by omega), if_pos rfl, if_neg (by omega), if_neg (by omega)]
          have := hu.1 i h1 h2 (by omega)
          rw [h3] at this
          exact this
theorem HeapE.first {l : List EntM} (h : HeapE l) : ∀ i, 0 < i → i < l.length → lessE (atE l 0) (atE l i) = true := by
  intro i
  induction i using Nat.strongRecOn with
  | _ i ih =>
    intro h1 h2
    have := h i h1 h2
    by_cases e : (i - 1) / 2 = 0
    · rw [e] at this; exact this
    · exact lessE_trans (ih ((i - 1) / 2) (by omega) (by omega) (by omega)) this
end Go.Proofs.YtppgameimddimaaGreat
