/- The reference's locks: Grant. -/
import Derived.Test.YtppgameimddimaaGreatSoundM
import Derived.Test.YtppgameimddimaaGreatRlPM
import Derived.Test.YtppgameimddimaaGreatCommD
import Derived.Test.YtppgameimddimaaGreatKLine
namespace Go.Proofs.YtppgameimddimaaGreat
open Go.ChangeShapes Go.WideShapes Go.ChangeAt Go.RowKit Go.Conc
set_option linter.unusedVariables false
set_option linter.unusedSimpArgs false
theorem OwnA.drop_lies {B : Nat} {w : World} {g n c : Nat} {l : List AL} (h : OwnA B w (some ⟨g, 0, none⟩) n c l) (k : Nat) : Lies w.heap.size w (if c = k then some ⟨g, 0, none⟩ else some ⟨g, k * 4, none⟩) (alc (l.drop k)) := by
  by_cases hlt : k < l.length
  · have hne : c ≠ k := by have := h.cap.1; have := h.len; omega
    rw [if_neg hne]
    rcases Lies.of_own h.own with h1 | ⟨b, off, e, hb, hc⟩
    · have := congrArg List.length h1
      rw [alc_len] at this
      simp at this; omega
    · injection e with e
      injection e with e1 e2
      subst e1; subst e2
      refine .inr ⟨g, k * 4, rfl, hb, fun i v hi => ?_⟩
      have := hc (k * 4 + i) v (by rw [← List.getElem?_drop, alc_drop]; exact hi)
      simpa using this
  · left
    rw [List.drop_eq_nil_of_le (by omega)]
    rfl
section
variable {w0 w w' : World} {b c : Nat} {S : SetR} {s : Ls} {A : Option Addr}
/-- what a call makes of the reference's locks -/
def RlPost (w0 w : World) (b : Nat) (S : SetR) (s' : Ls) (w' : World) : Prop := ∃ A' c', Rl w0 w' b S s' A' c' ∧ Turned [b] w w' ∧ ∀ k ∈ fp A', w.heap.size ≤ k
set_option maxHeartbeats 8000000 in
theorem rl_leave (h : Rl w0 w b S s A c) (ho : LsOk s) {t : Int} (hc : leaveC s t = 0) : Calls Tryz.prog 18 #[.pointer (some ⟨b, 0, none⟩), .int .i64 t] w fun e w' => e = .returned (.int .i64 0) ∧ RlPost w0 w b S (leaveS s t) w' := by
  have CA := rl_at h t
  rcases atV_cases s t with ⟨j, hj, e1, e2⟩ | ⟨e1, e2⟩
  · rw [e1] at CA
    have hL := leave_L ho hj (get_mem e2).2
    have h6 : s.L.length ≤ 6 := Nat.le_trans (tasks_le ho) ho.n6
    have HR := hidp h
    have c4 : w.cell? ⟨b, 4, none⟩ = some (.slice A s.L.length c) := h.blk.cell 4
    obtain ⟨g, hg, hg0, hg1⟩ := h.row.at_ (by omega)
    subst hg
    have hcap := h.row.cap
    have hm := hcap.2
    unfold maxLen at hm
    have hs : w.drew.cell? ⟨b, 4, none⟩ = some (.slice (some ⟨g, 0, none⟩) s.L.length c) := c4
    have j0 : (0 : Int) ≤ (j : Int) := by omega
    have jl : (j : Int) ≤ (s.L.length : Int) := by omega
    have wk1 : IntKind.i64.wrap ((j : Int) + 1) = (j : Int) + 1 := IntWalk.i64_in _ (by omega)
    have hw0 : (0 : Int) ≤ (j : Int) + 1 := by omega
    have hw1 : ((j : Int) + 1).toNat = j + 1 := by omega
    have hw2 : (j : Int) + 1 ≤ (s.L.length : Int) := by omega
    have hkc : j ≤ c := by omega
    have hkc1 : j + 1 ≤ c := by omega
    have hkn : j + 1 ≤ s.L.length := by omega
    have HL := hidp hL
    have S1 : Hid (Lies w.heap.size w.drew (some ⟨g, 0, none⟩) (alc (s.L.take j))) := hidp (by rw [← alc_take]; exact ((Lies.of_own h.row.own).take (j * 4)).drew)
    have L1 : Hid ((alc (s.L.take j)).length = j * 4) := hidp (by rw [alc_len, List.length_take, Nat.min_eq_left (Nat.le_of_lt hj)])
    have O1 := hidp (alc_one (s.L.take j))
    have M1 : Hid (0 + j ≤ maxLen) := hidp (by unfold maxLen; omega)
    have N1 : Hid ((0 + j) * 32 ≤ 140737488355328) := hidp (by omega)
    have Sz0 : Hid (w0.heap.size ≤ w.drew.heap.size) := hidp h.below.size
    obtain ⟨A1, hA1, S2⟩ : ∃ A1, Hid ((if c = j + 1 then some (⟨g, 0, none⟩ : Addr) else some ⟨g, (j + 1) * 4, none⟩) = A1) ∧ Hid (Lies w.heap.size w.drew A1 (alc (s.L.drop (j + 1)))) := ⟨_, hidp rfl, hidp (h.row.drop_lies (j + 1)).drew⟩
    have P2 : Hid (A1 = none → s.L.length - (j + 1) = 0 ∧ c - (j + 1) = 0) := hidp fun e => by rw [← hA1.out] at e; split at e <;> cases e
    have L2 : Hid ((alc (s.L.drop (j + 1))).length = (s.L.length - (j + 1)) * 4) := hidp (by rw [alc_len, List.length_drop])
    have O2 := hidp (alc_one (s.L.drop (j + 1)))
    have M2 : Hid (j + (s.L.length - (j + 1)) ≤ maxLen) := hidp (by unfold maxLen; omega)
    have N2 : Hid ((j + (s.L.length - (j + 1))) * 32 ≤ 140737488355328) := hidp (by omega)
    have Hlen : Hid ((leaveS s t).L.length = j + (s.L.length - (j + 1))) := hidp (by rw [hL, List.length_append, List.length_take, List.length_drop, Nat.min_eq_left (Nat.le_of_lt hj)])
    have Hbl : Hid (b < w.heap.size) := hidp h.blk.lt
    clear h hc e1 e2 hL ho
    go_enter Tryz.func18, Tryz.ntmps18
    go_wp2_with fail
    refine CA.mono ?_
    rintro e w' ⟨rfl, rfl⟩
    go_wp2_with fail
    obtain ⟨i0, hi0, hy0, hy1, hy2⟩ := info_parts infoAL
    have hn0 := World.ownsRow_nil w.drew w0.heap.size 84 4
    refine wp_region_last_drew 18 (S := fun w' => w'.cell? ⟨b, 4, none⟩ = some (.slice (some ⟨g, 0, none⟩) s.L.length c)) (by kernel_rfl) (by kernel_rfl) ?_ (fun hHeld => ?_)
    · exact hs
    refine wpAnyH_take (i := 0) (v := ?_) rfl (by kernel_rfl) (by kernel_rfl) (by kernel_rfl) (fun _ _ _ h => h) (Or.inl ⟨by rfl, ?_⟩) (by assumption) ?_
    rotate_left 1
    · ((intro w hSw; (try dsimp only at hSw); go_simp); (try with_reducible rfl))
    simp only [Act.put, List.setIfInBounds_toArray, List.set_cons_zero, List.set_cons_succ, List.getElem_toArray, List.getElem_cons_zero, List.getElem_cons_succ]
    refine wpAnyH_take (i := 1) (v := ?_) rfl (by kernel_rfl) (by kernel_rfl) (by kernel_rfl) (fun _ _ _ h => h) (Or.inl ⟨by rfl, ?_⟩) (by assumption) ?_
    rotate_left 1
    · ((intro w hSw; (try dsimp only at hSw); go_simp); (try with_reducible rfl))
    simp only [Act.put, List.setIfInBounds_toArray, List.set_cons_zero, List.set_cons_succ, List.getElem_toArray, List.getElem_cons_zero, List.getElem_cons_succ]
    refine wpAnyH_take (i := 2) (v := ?_) rfl (by kernel_rfl) (by kernel_rfl) (by kernel_rfl) (fun _ _ _ h => h) (Or.inl ⟨by rfl, ?_⟩) (by assumption) ?_
    rotate_left 1
    · ((intro w hSw; (try dsimp only at hSw); go_simp); (try with_reducible rfl))
    simp only [Act.put, List.setIfInBounds_toArray, List.set_cons_zero, List.set_cons_succ, List.getElem_toArray, List.getElem_cons_zero, List.getElem_cons_succ]
    refine wpAnyH_take (i := 3) (v := ?_) rfl (by kernel_rfl) (by kernel_rfl) (by kernel_rfl) (fun _ _ _ h => h) (Or.inl ⟨by rfl, ?_⟩) (by assumption) ?_
    rotate_left 1
    · ((intro w hSw; (try dsimp only at hSw); go_simp); (try with_reducible rfl))
    simp only [Act.put, List.setIfInBounds_toArray, List.set_cons_zero, List.set_cons_succ, List.getElem_toArray, List.getElem_cons_zero, List.getElem_cons_succ]
    refine wpAnyH_take (i := 4) (v := ?_) rfl (by kernel_rfl) (by kernel_rfl) (by kernel_rfl) (fun _ _ _ h => h) (Or.inl ⟨by rfl, ?_⟩) (by assumption) ?_
    rotate_left 1
    · ((intro w hSw; (try dsimp only at hSw); go_simp); (try with_reducible rfl))
    simp only [Act.put, List.setIfInBounds_toArray, List.set_cons_zero, List.set_cons_succ, List.getElem_toArray, List.getElem_cons_zero, List.getElem_cons_succ]
    refine wpAnyH_take (i := 5) (v := ?_) rfl (by kernel_rfl) (by kernel_rfl) (by kernel_rfl) (fun _ _ _ h => h) (Or.inl ⟨by rfl, ?_⟩) (by assumption) ?_
    rotate_left 1
    · ((intro w hSw; (try dsimp only at hSw); go_simp); (try with_reducible rfl))
    simp only [Act.put, List.setIfInBounds_toArray, List.set_cons_zero, List.set_cons_succ, List.getElem_toArray, List.getElem_cons_zero, List.getElem_cons_succ]
    refine wpAnyH_take (i := 8) (v := ?_) rfl (by kernel_rfl) (by kernel_rfl) (by kernel_rfl) (fun _ _ _ h => h) (Or.inl ⟨by rfl, ?_⟩) (by assumption) ?_
    rotate_left 1
    · ((intro w hSw; (try dsimp only at hSw); go_simp); (try with_reducible rfl))
    simp only [Act.put, List.setIfInBounds_toArray, List.set_cons_zero, List.set_cons_succ, List.getElem_toArray, List.getElem_cons_zero, List.getElem_cons_succ]
    refine wpAnyH_take (i := 9) (v := ?_) rfl (by kernel_rfl) (by kernel_rfl) (by kernel_rfl) (fun _ _ _ h => h) (Or.inl ⟨by rfl, ?_⟩) (by assumption) ?_
    rotate_left 1
    · ((intro w hSw; (try dsimp only at hSw); go_simp); (try with_reducible rfl))
    simp only [Act.put, List.setIfInBounds_toArray, List.set_cons_zero, List.set_cons_succ, List.getElem_toArray, List.getElem_cons_zero, List.getElem_cons_succ]
    refine wpAnyH_take (i := 10) (v := ?_) rfl (by kernel_rfl) (by kernel_rfl) (by kernel_rfl) (fun _ _ _ h => h) (Or.inl ⟨by rfl, ?_⟩) (by assumption) ?_
    rotate_left 1
    · ((intro w hSw; (try dsimp only at hSw); go_simp); (try with_reducible rfl))
    simp only [Act.put, List.setIfInBounds_toArray, List.set_cons_zero, List.set_cons_succ, List.getElem_toArray, List.getElem_cons_zero, List.getElem_cons_succ]
    refine wpAnyH_take (i := 11) (v := ?_) rfl (by kernel_rfl) (by kernel_rfl) (by kernel_rfl) (fun _ _ _ h => h) (Or.inl ⟨by rfl, ?_⟩) (by assumption) ?_
    rotate_left 1
    · ((intro w hSw; (try dsimp only at hSw); go_simp); (try with_reducible rfl))
    simp only [Act.put, List.setIfInBounds_toArray, List.set_cons_zero, List.set_cons_succ, List.getElem_toArray, List.getElem_cons_zero, List.getElem_cons_succ]
    refine wpAnyH_take (i := 12) (v := ?_) rfl (by kernel_rfl) (by kernel_rfl) (by kernel_rfl) (fun _ _ _ h => h) (Or.inl ⟨by rfl, ?_⟩) (by assumption) ?_
    rotate_left 1
    · ((intro w hSw; (try dsimp only at hSw); go_simp); (try with_reducible rfl))
    simp only [Act.put, List.setIfInBounds_toArray, List.set_cons_zero, List.set_cons_succ, List.getElem_toArray, List.getElem_cons_zero, List.getElem_cons_succ]
    refine wpAnyH_take (i := 13) (v := ?_) rfl (by kernel_rfl) (by kernel_rfl) (by kernel_rfl) (fun _ _ _ h => h) (Or.inl ⟨by rfl, ?_⟩) (by assumption) ?_
    rotate_left 1
    · ((intro w hSw; (try dsimp only at hSw); go_simp); (try with_reducible rfl))
    simp only [Act.put, List.setIfInBounds_toArray, List.set_cons_zero, List.set_cons_succ, List.getElem_toArray, List.getElem_cons_zero, List.getElem_cons_succ]
    refine wpAnyH_ready (rs := [6, 14]) (by kernel_rfl) (by simp) ?_
    refine AllReadyH.cons rfl (fun K hK => ?_) (AllReadyH.cons rfl (fun K hK => ?_) AllReadyH.nil)
    · go_simp
      refine hK.out _ _ ?_ (fun hHeld => ?_)
      · exact hs
      clear hK K
      try simp only [Act.put, List.setIfInBounds_toArray, List.set_cons_zero, List.set_cons_succ, List.getElem_toArray, List.getElem_cons_zero, List.getElem_cons_succ]
      refine wpAnyH_ready (rs := [7, 14]) (by kernel_rfl) (by simp) ?_
      refine AllReadyH.cons rfl (fun K hK => ?_) (AllReadyH.cons rfl (fun K hK => ?_) AllReadyH.nil)
      · refine step_app2 w.drew rfl (.const (.slice none 0 0)) (.tmp 17) 78 rfl w0.heap.size 84 i0 _ 4 32 Tryz.underlying78 hi0 hy0 hy1 hy2 rfl (by decide) none 0 0 [] rfl hn0 _ _ j c (alc (s.L.take j)) rfl (by simp) L1.out S1.out O1.out M1.out N1.out Sz0.out ?_
        intro B1 k1 w1 happ
        simp only [Nat.zero_add, List.nil_append] at happ ⊢
        have bb1 := (HR.out.blk.turned ((Turned.refl [] w).drew) (by simp)).turned happ.turned (by simp [fp])
        have hs1 := bb1.cell 4
        simp only [List.getElem?_toArray, List.getElem?_cons_zero, List.getElem?_cons_succ] at hs1
        have S3 := hidp (S2.out.turned (w' := w1) happ.turned (by simp [fp]))
        have Sz : Hid (w0.heap.size ≤ w1.heap.size) := hidp (Nat.le_trans Sz0.out happ.turned.size)
        refine hK.out _ _ ?_ (fun hHeld => ?_)
        · exact hs1
        clear hK K
        try simp only [Act.put, List.setIfInBounds_toArray, List.set_cons_zero, List.set_cons_succ, List.getElem_toArray, List.getElem_cons_zero, List.getElem_cons_succ]
        refine wpAnyH_ready (rs := [14]) (by kernel_rfl) (by simp) ?_
        refine AllReadyH.cons rfl (fun K hK => ?_) AllReadyH.nil
        go_simp
        refine hK.out _ _ ?_ (fun hHeld => ?_)
        · exact hs1
        clear hK K
        try simp only [Act.put, List.setIfInBounds_toArray, List.set_cons_zero, List.set_cons_succ, List.getElem_toArray, List.getElem_cons_zero, List.getElem_cons_succ]
        rw [hA1.out]
        refine wpAnyH_ready (rs := [15]) (by kernel_rfl) (by simp) ?_
        refine AllReadyH.cons rfl (fun K hK => ?_) AllReadyH.nil
        refine step_app2 w1 rfl (.tmp 18) (.tmp 25) 78 rfl w0.heap.size 84 i0 _ 4 32 Tryz.underlying78 hi0 hy0 hy1 hy2 rfl (by decide) B1 j k1 (alc (s.L.take j)) rfl happ.own _ _ (s.L.length - (j + 1)) (c - (j + 1)) (alc (s.L.drop (j + 1))) rfl P2.out L2.out S3.out O2.out M2.out N2.out Sz.out ?_
        intro B2 k2 w2 happ2
        have hf1 : ∀ k ∈ fp B1, w.heap.size ≤ k := fun k hk => by
          rcases happ.fps k hk with h2 | h2
          · simp [fp] at h2
          · simpa using h2
        have hf2 : ∀ k ∈ fp B2, w.heap.size ≤ k := fun k hk => by
          have hz := happ.turned.size
          rcases happ2.fps k hk with h2 | h2
          · exact hf1 k h2
          · simp at hz; omega
        have bb2 := bb1.turned happ2.turned (fun hk => by have := hf1 b hk; have := Hbl.out; omega)
        have hs2 := bb2.cell 4
        have fz := bb2.frozen 4
        simp only [List.getElem?_toArray, List.getElem?_cons_zero, List.getElem?_cons_succ] at hs2
        refine hK.out _ _ ?_ (fun hHeld => ?_)
        · exact hs2
        clear hK K
        try simp only [Act.put, List.setIfInBounds_toArray, List.set_cons_zero, List.set_cons_succ, List.getElem_toArray, List.getElem_cons_zero, List.getElem_cons_succ]
        refine wpAnyH_take (i := 16) (v := ?_) rfl (by kernel_rfl) (by kernel_rfl) (by kernel_rfl) (fun _ _ _ h => h) (Or.inl ⟨by rfl, ?_⟩) (by assumption) ?_
        rotate_left 1
        · ((intro w hSw; (try dsimp only at hSw); go_simp); (try with_reducible rfl))
        simp only [Act.put, List.setIfInBounds_toArray, List.set_cons_zero, List.set_cons_succ, List.getElem_toArray, List.getElem_cons_zero, List.getElem_cons_succ]
        refine wpAnyH_take (i := 17) (v := ?_) rfl (by kernel_rfl) (by kernel_rfl) (by kernel_rfl) (fun _ _ _ h => h) (Or.inl ⟨by rfl, ?_⟩) (by assumption) ?_
        rotate_left 1
        · ((intro w hSw; (try dsimp only at hSw); go_simp); (try with_reducible rfl))
        simp only [Act.put, List.setIfInBounds_toArray, List.set_cons_zero, List.set_cons_succ, List.getElem_toArray, List.getElem_cons_zero, List.getElem_cons_succ]
        refine last_done (by kernel_rfl) ?_ _
        refine wpS_list 18 (L := _) (by simp only [List.drop_succ_cons, List.drop_zero]; rfl) (by rfl) ?_
        go_wp2_with fail
        go_ret
        have TA : Turned [b] w w2 := (((Turned.refl [] w).drew.trans (happ.turned.mono (G := []) (fun k hk => by simp [fp] at hk)) (fun i hi => .inl hi)).trans happ2.turned (fun i hi => .inr (by simpa using hf1 i hi))).mono (fun k hk => by simp at hk)
        have TB := TA.setCell (p := ⟨b, 4, none⟩) (.inl (by simp)) (.slice B2 (j + (s.L.length - (j + 1))) k2)
        have bb3 := bb2.put 4 (.slice B2 (j + (s.L.length - (j + 1))) k2)
        have hbB : b ∉ fp B2 := fun hk => by have := hf2 b hk; have := Hbl.out; omega
        refine ⟨rfl, B2, k2, ⟨?_, ⟨?_, ?_, ?_, ?_⟩, hbB, HR.out.base, HR.out.below.trans (TB.below HR.out.below.size (fun k hk => by simp at hk; subst hk; exact HR.out.base)), HR.out.set, HR.out.rel⟩, TB, hf2⟩
        · rw [Hlen.out]; exact bb3
        · rw [Hlen.out, HL.out, alc_append]; exact own_turned happ2.own ((Turned.refl [b] w2).setCell (p := ⟨b, 4, none⟩) (.inl (by simp)) _) (fun k hk hb => hbB (by simp at hb; subst hb; exact hk))
        · rfl
        · rw [Hlen.out]; exact happ2.cap
        · rw [Hlen.out]; exact happ2.nil
      · go_simp
        refine hK.out _ _ ?_ (fun hHeld => ?_)
        · exact hs
        clear hK K
        try simp only [Act.put, List.setIfInBounds_toArray, List.set_cons_zero, List.set_cons_succ, List.getElem_toArray, List.getElem_cons_zero, List.getElem_cons_succ]
        rw [hA1.out]
        refine wpAnyH_ready (rs := [7]) (by kernel_rfl) (by simp) ?_
        refine AllReadyH.cons rfl (fun K hK => ?_) AllReadyH.nil
        refine step_app2 w.drew rfl (.const (.slice none 0 0)) (.tmp 17) 78 rfl w0.heap.size 84 i0 _ 4 32 Tryz.underlying78 hi0 hy0 hy1 hy2 rfl (by decide) none 0 0 [] rfl hn0 _ _ j c (alc (s.L.take j)) rfl (by simp) L1.out S1.out O1.out M1.out N1.out Sz0.out ?_
        intro B1 k1 w1 happ
        simp only [Nat.zero_add, List.nil_append] at happ ⊢
        have bb1 := (HR.out.blk.turned ((Turned.refl [] w).drew) (by simp)).turned happ.turned (by simp [fp])
        have hs1 := bb1.cell 4
        simp only [List.getElem?_toArray, List.getElem?_cons_zero, List.getElem?_cons_succ] at hs1
        have S3 := hidp (S2.out.turned (w' := w1) happ.turned (by simp [fp]))
        have Sz : Hid (w0.heap.size ≤ w1.heap.size) := hidp (Nat.le_trans Sz0.out happ.turned.size)
        refine hK.out _ _ ?_ (fun hHeld => ?_)
        · exact hs1
        clear hK K
        try simp only [Act.put, List.setIfInBounds_toArray, List.set_cons_zero, List.set_cons_succ, List.getElem_toArray, List.getElem_cons_zero, List.getElem_cons_succ]
        refine wpAnyH_ready (rs := [15]) (by kernel_rfl) (by simp) ?_
        refine AllReadyH.cons rfl (fun K hK => ?_) AllReadyH.nil
        refine step_app2 w1 rfl (.tmp 18) (.tmp 25) 78 rfl w0.heap.size 84 i0 _ 4 32 Tryz.underlying78 hi0 hy0 hy1 hy2 rfl (by decide) B1 j k1 (alc (s.L.take j)) rfl happ.own _ _ (s.L.length - (j + 1)) (c - (j + 1)) (alc (s.L.drop (j + 1))) rfl P2.out L2.out S3.out O2.out M2.out N2.out Sz.out ?_
        intro B2 k2 w2 happ2
        have hf1 : ∀ k ∈ fp B1, w.heap.size ≤ k := fun k hk => by
          rcases happ.fps k hk with h2 | h2
          · simp [fp] at h2
          · simpa using h2
        have hf2 : ∀ k ∈ fp B2, w.heap.size ≤ k := fun k hk => by
          have hz := happ.turned.size
          rcases happ2.fps k hk with h2 | h2
          · exact hf1 k h2
          · simp at hz; omega
        have bb2 := bb1.turned happ2.turned (fun hk => by have := hf1 b hk; have := Hbl.out; omega)
        have hs2 := bb2.cell 4
        have fz := bb2.frozen 4
        simp only [List.getElem?_toArray, List.getElem?_cons_zero, List.getElem?_cons_succ] at hs2
        refine hK.out _ _ ?_ (fun hHeld => ?_)
        · exact hs2
        clear hK K
        try simp only [Act.put, List.setIfInBounds_toArray, List.set_cons_zero, List.set_cons_succ, List.getElem_toArray, List.getElem_cons_zero, List.getElem_cons_succ]
        refine wpAnyH_take (i := 16) (v := ?_) rfl (by kernel_rfl) (by kernel_rfl) (by kernel_rfl) (fun _ _ _ h => h) (Or.inl ⟨by rfl, ?_⟩) (by assumption) ?_
        rotate_left 1
        · ((intro w hSw; (try dsimp only at hSw); go_simp); (try with_reducible rfl))
        simp only [Act.put, List.setIfInBounds_toArray, List.set_cons_zero, List.set_cons_succ, List.getElem_toArray, List.getElem_cons_zero, List.getElem_cons_succ]
        refine wpAnyH_take (i := 17) (v := ?_) rfl (by kernel_rfl) (by kernel_rfl) (by kernel_rfl) (fun _ _ _ h => h) (Or.inl ⟨by rfl, ?_⟩) (by assumption) ?_
        rotate_left 1
        · ((intro w hSw; (try dsimp only at hSw); go_simp); (try with_reducible rfl))
        simp only [Act.put, List.setIfInBounds_toArray, List.set_cons_zero, List.set_cons_succ, List.getElem_toArray, List.getElem_cons_zero, List.getElem_cons_succ]
        refine last_done (by kernel_rfl) ?_ _
        refine wpS_list 18 (L := _) (by simp only [List.drop_succ_cons, List.drop_zero]; rfl) (by rfl) ?_
        go_wp2_with fail
        go_ret
        have TA : Turned [b] w w2 := (((Turned.refl [] w).drew.trans (happ.turned.mono (G := []) (fun k hk => by simp [fp] at hk)) (fun i hi => .inl hi)).trans happ2.turned (fun i hi => .inr (by simpa using hf1 i hi))).mono (fun k hk => by simp at hk)
        have TB := TA.setCell (p := ⟨b, 4, none⟩) (.inl (by simp)) (.slice B2 (j + (s.L.length - (j + 1))) k2)
        have bb3 := bb2.put 4 (.slice B2 (j + (s.L.length - (j + 1))) k2)
        have hbB : b ∉ fp B2 := fun hk => by have := hf2 b hk; have := Hbl.out; omega
        refine ⟨rfl, B2, k2, ⟨?_, ⟨?_, ?_, ?_, ?_⟩, hbB, HR.out.base, HR.out.below.trans (TB.below HR.out.below.size (fun k hk => by simp at hk; subst hk; exact HR.out.base)), HR.out.set, HR.out.rel⟩, TB, hf2⟩
        · rw [Hlen.out]; exact bb3
        · rw [Hlen.out, HL.out, alc_append]; exact own_turned happ2.own ((Turned.refl [b] w2).setCell (p := ⟨b, 4, none⟩) (.inl (by simp)) _) (fun k hk hb => hbB (by simp at hb; subst hb; exact hk))
        · rfl
        · rw [Hlen.out]; exact happ2.cap
        · rw [Hlen.out]; exact happ2.nil
    · go_simp
      refine hK.out _ _ ?_ (fun hHeld => ?_)
      · exact hs
      clear hK K
      try simp only [Act.put, List.setIfInBounds_toArray, List.set_cons_zero, List.set_cons_succ, List.getElem_toArray, List.getElem_cons_zero, List.getElem_cons_succ]
      rw [hA1.out]
      refine wpAnyH_ready (rs := [6]) (by kernel_rfl) (by simp) ?_
      refine AllReadyH.cons rfl (fun K hK => ?_) AllReadyH.nil
      go_simp
      refine hK.out _ _ ?_ (fun hHeld => ?_)
      · exact hs
      clear hK K
      try simp only [Act.put, List.setIfInBounds_toArray, List.set_cons_zero, List.set_cons_succ, List.getElem_toArray, List.getElem_cons_zero, List.getElem_cons_succ]
      refine wpAnyH_ready (rs := [7]) (by kernel_rfl) (by simp) ?_
      refine AllReadyH.cons rfl (fun K hK => ?_) AllReadyH.nil
      refine step_app2 w.drew rfl (.const (.slice none 0 0)) (.tmp 17) 78 rfl w0.heap.size 84 i0 _ 4 32 Tryz.underlying78 hi0 hy0 hy1 hy2 rfl (by decide) none 0 0 [] rfl hn0 _ _ j c (alc (s.L.take j)) rfl (by simp) L1.out S1.out O1.out M1.out N1.out Sz0.out ?_
      intro B1 k1 w1 happ
      simp only [Nat.zero_add, List.nil_append] at happ ⊢
      have bb1 := (HR.out.blk.turned ((Turned.refl [] w).drew) (by simp)).turned happ.turned (by simp [fp])
      have hs1 := bb1.cell 4
      simp only [List.getElem?_toArray, List.getElem?_cons_zero, List.getElem?_cons_succ] at hs1
      have S3 := hidp (S2.out.turned (w' := w1) happ.turned (by simp [fp]))
      have Sz : Hid (w0.heap.size ≤ w1.heap.size) := hidp (Nat.le_trans Sz0.out happ.turned.size)
      refine hK.out _ _ ?_ (fun hHeld => ?_)
      · exact hs1
      clear hK K
      try simp only [Act.put, List.setIfInBounds_toArray, List.set_cons_zero, List.set_cons_succ, List.getElem_toArray, List.getElem_cons_zero, List.getElem_cons_succ]
      refine wpAnyH_ready (rs := [15]) (by kernel_rfl) (by simp) ?_
      refine AllReadyH.cons rfl (fun K hK => ?_) AllReadyH.nil
      refine step_app2 w1 rfl (.tmp 18) (.tmp 25) 78 rfl w0.heap.size 84 i0 _ 4 32 Tryz.underlying78 hi0 hy0 hy1 hy2 rfl (by decide) B1 j k1 (alc (s.L.take j)) rfl happ.own _ _ (s.L.length - (j + 1)) (c - (j + 1)) (alc (s.L.drop (j + 1))) rfl P2.out L2.out S3.out O2.out M2.out N2.out Sz.out ?_
      intro B2 k2 w2 happ2
      have hf1 : ∀ k ∈ fp B1, w.heap.size ≤ k := fun k hk => by
        rcases happ.fps k hk with h2 | h2
        · simp [fp] at h2
        · simpa using h2
      have hf2 : ∀ k ∈ fp B2, w.heap.size ≤ k := fun k hk => by
        have hz := happ.turned.size
        rcases happ2.fps k hk with h2 | h2
        · exact hf1 k h2
        · simp at hz; omega
      have bb2 := bb1.turned happ2.turned (fun hk => by have := hf1 b hk; have := Hbl.out; omega)
      have hs2 := bb2.cell 4
      have fz := bb2.frozen 4
      simp only [List.getElem?_toArray, List.getElem?_cons_zero, List.getElem?_cons_succ] at hs2
      refine hK.out _ _ ?_ (fun hHeld => ?_)
      · exact hs2
      clear hK K
      try simp only [Act.put, List.setIfInBounds_toArray, List.set_cons_zero, List.set_cons_succ, List.getElem_toArray, List.getElem_cons_zero, List.getElem_cons_succ]
      refine wpAnyH_take (i := 16) (v := ?_) rfl (by kernel_rfl) (by kernel_rfl) (by kernel_rfl) (fun _ _ _ h => h) (Or.inl ⟨by rfl, ?_⟩) (by assumption) ?_
      rotate_left 1
      · ((intro w hSw; (try dsimp only at hSw); go_simp); (try with_reducible rfl))
      simp only [Act.put, List.setIfInBounds_toArray, List.set_cons_zero, List.set_cons_succ, List.getElem_toArray, List.getElem_cons_zero, List.getElem_cons_succ]
      refine wpAnyH_take (i := 17) (v := ?_) rfl (by kernel_rfl) (by kernel_rfl) (by kernel_rfl) (fun _ _ _ h => h) (Or.inl ⟨by rfl, ?_⟩) (by assumption) ?_
      rotate_left 1
      · ((intro w hSw; (try dsimp only at hSw); go_simp); (try with_reducible rfl))
      simp only [Act.put, List.setIfInBounds_toArray, List.set_cons_zero, List.set_cons_succ, List.getElem_toArray, List.getElem_cons_zero, List.getElem_cons_succ]
      refine last_done (by kernel_rfl) ?_ _
      refine wpS_list 18 (L := _) (by simp only [List.drop_succ_cons, List.drop_zero]; rfl) (by rfl) ?_
      go_wp2_with fail
      go_ret
      have TA : Turned [b] w w2 := (((Turned.refl [] w).drew.trans (happ.turned.mono (G := []) (fun k hk => by simp [fp] at hk)) (fun i hi => .inl hi)).trans happ2.turned (fun i hi => .inr (by simpa using hf1 i hi))).mono (fun k hk => by simp at hk)
      have TB := TA.setCell (p := ⟨b, 4, none⟩) (.inl (by simp)) (.slice B2 (j + (s.L.length - (j + 1))) k2)
      have bb3 := bb2.put 4 (.slice B2 (j + (s.L.length - (j + 1))) k2)
      have hbB : b ∉ fp B2 := fun hk => by have := hf2 b hk; have := Hbl.out; omega
      refine ⟨rfl, B2, k2, ⟨?_, ⟨?_, ?_, ?_, ?_⟩, hbB, HR.out.base, HR.out.below.trans (TB.below HR.out.below.size (fun k hk => by simp at hk; subst hk; exact HR.out.base)), HR.out.set, HR.out.rel⟩, TB, hf2⟩
      · rw [Hlen.out]; exact bb3
      · rw [Hlen.out, HL.out, alc_append]; exact own_turned happ2.own ((Turned.refl [b] w2).setCell (p := ⟨b, 4, none⟩) (.inl (by simp)) _) (fun k hk hb => hbB (by simp at hb; subst hb; exact hk))
      · rfl
      · rw [Hlen.out]; exact happ2.cap
      · rw [Hlen.out]; exact happ2.nil
  · exact absurd hc (by unfold leaveC; rw [e2]; decide)
end
end Go.Proofs.YtppgameimddimaaGreat

namespace Go.Proofs.YtppgameimddimaaGreat
open Go.ChangeShapes Go.WideShapes Go.ChangeAt Go.RowKit Go.Conc
set_option linter.unusedVariables false
set_option linter.unusedSimpArgs false
theorem cellsNewR (w : World) (cs : List Value) (T : TypeId) : Lies (w.heap.size + 1) (w.alloc (.cells cs.toArray T)) (some ⟨w.heap.size, 0, none⟩) cs := by
  refine .inr ⟨_, 0, rfl, by omega, fun j v hj => ?_⟩
  have := (Bk.new w T cs.toArray).cell j
  rw [Nat.zero_add, this]
  simpa using hj
section
variable {w0 w w' : World} {b c : Nat} {S : SetR} {s : Ls} {A : Option Addr}
set_option maxHeartbeats 8000000 in
theorem rl_ask3 (h : Rl w0 w b S s A c) (ho : LsOk s) {t r : Int} (hc : askC s t r = 0) (hp : s.proto = 3) : Calls Tryz.prog 13 #[.pointer (some ⟨b, 0, none⟩), .int .i64 t, .int .i64 r] w fun e w' => e = .returned (.int .i64 0) ∧ RlPost w0 w b S (askS s t r) w' := by
  have CA := rl_at h t
  obtain ⟨k1, k2, k3⟩ := askC_zero hc
  have c0 : w.cell? ⟨b, 0, none⟩ = some (.int .i64 S.proto) := h.blk.cell 0
  have c2 : w.cell? ⟨b, 2, none⟩ = some (.slice S.ha S.homes.length S.hc) := h.blk.cell 2
  have c3 : w.cell? ⟨b, 3, none⟩ = some (.slice S.ta S.tasks.length S.tc) := h.blk.cell 3
  have c4 : w.cell? ⟨b, 4, none⟩ = some (.slice A s.L.length c) := h.blk.cell 4
  have e2 : (s.prio.length : Int) = (S.tasks.length : Int) := by rw [h.rel.2.1, List.length_map]
  have e5 : (s.homes.length : Int) = (S.homes.length : Int) := by rw [h.rel.2.2.2.2]
  have hp3 : S.proto = 3 := by rw [← h.rel.1]; exact hp
  rcases atV_cases s t with ⟨j, hj, e1, g1⟩ | ⟨e1, g1⟩
  · rw [k3] at g1; cases g1
  · rw [e1] at CA
    have HR := hidp h
    have t0 : decide (t < 0) = false := decide_eq_false (by unfold Ls.has at k1; omega)
    have t1 : decide (t ≥ (S.tasks.length : Int)) = false := decide_eq_false (by unfold Ls.has at k1; omega)
    have t2 : decide ((S.tasks.length : Int) ≤ t) = false := decide_eq_false (by unfold Ls.has at k1; omega)
    have r0 : decide (r < 0) = false := decide_eq_false (by unfold Ls.hasR at k2; omega)
    have r1 : decide (r ≥ (S.homes.length : Int)) = false := decide_eq_false (by unfold Ls.hasR at k2; omega)
    have r2 : decide ((S.homes.length : Int) ≤ r) = false := decide_eq_false (by unfold Ls.hasR at k2; omega)
    have h6 : s.L.length ≤ 6 := Nat.le_trans (tasks_le ho) ho.n6
    have Hs : Hid (askS s t r = { s with L := s.L ++ [⟨t, r, 0, false⟩] }) := hidp (by unfold askS askN; rw [if_pos hc, if_pos hp])
    have hb := (Below.refl w.heap.size w).alloc (Nat.le_refl _) (.cells #[.int .i64 t, .int .i64 r, .int .i64 0, .bool false] 84)
    have bx := Bk.new w 84 #[.int .i64 t, .int .i64 r, .int .i64 0, .bool false]
    have z0 := Keeps.of_below hb _ _ c0
    have z4 := Keeps.of_below hb _ _ c4
    rw [hp3] at c0 z0
    clear h hc hp k1 k2 k3 e1 g1 ho
    go_enter Tryz.func13, Tryz.ntmps13
    go_wp2_with fail
    refine CA.mono ?_
    rintro e w' ⟨rfl, rfl⟩
    go_wp2_with fail
    obtain ⟨i0, hi0, hy0, hy1, hy2⟩ := info_parts infoAL
    have T0 : Turned [] w (w.alloc (.cells #[.int .i64 t, .int .i64 r, .int .i64 0, .bool false] 84)).drew := ((Turned.refl [] w).alloc (.cells #[.int .i64 t, .int .i64 r, .int .i64 0, .bool false] 84)).drew
    have bk0 := HR.out.blk.turned T0 (by simp)
    have bx0 : Bk (w.alloc (.cells #[.int .i64 t, .int .i64 r, .int .i64 0, .bool false] 84)).drew w.heap.size 84 #[.int .i64 t, .int .i64 r, .int .i64 0, .bool false] := bx
    have hs : (w.alloc (.cells #[.int .i64 t, .int .i64 r, .int .i64 0, .bool false] 84)).drew.cell? ⟨b, 4, none⟩ = some (.slice A s.L.length c) ∧ (w.alloc (.cells #[.int .i64 t, .int .i64 r, .int .i64 0, .bool false] 84)).drew.cell? ⟨w.heap.size, 0, none⟩ = some (.int .i64 t) ∧ (w.alloc (.cells #[.int .i64 t, .int .i64 r, .int .i64 0, .bool false] 84)).drew.cell? ⟨w.heap.size, 1, none⟩ = some (.int .i64 r) ∧ (w.alloc (.cells #[.int .i64 t, .int .i64 r, .int .i64 0, .bool false] 84)).drew.cell? ⟨w.heap.size, 2, none⟩ = some (.int .i64 0) ∧ (w.alloc (.cells #[.int .i64 t, .int .i64 r, .int .i64 0, .bool false] 84)).drew.cell? ⟨w.heap.size, 3, none⟩ = some (.bool false) := ⟨bk0.cell 4, bx0.cell 0, bx0.cell 1, bx0.cell 2, bx0.cell 3⟩
    have S1 : Hid (Lies (w.alloc (.cells #[.int .i64 t, .int .i64 r, .int .i64 0, .bool false] 84)).drew.heap.size (w.alloc (.cells #[.int .i64 t, .int .i64 r, .int .i64 0, .bool false] 84)).drew A (alc s.L)) := hidp (Lies.of_own (own_turned HR.out.row.own T0 (by simp)))
    have hz0 : w.heap.size + 1 ≤ (w.alloc (.cells #[.int .i64 t, .int .i64 r, .int .i64 0, .bool false] 84)).drew.heap.size := by simp
    have hn0 := World.ownsRow_nil (w.alloc (.cells #[.int .i64 t, .int .i64 r, .int .i64 0, .bool false] 84)).drew w0.heap.size 84 4
    have Sz0 : Hid (w0.heap.size ≤ (w.alloc (.cells #[.int .i64 t, .int .i64 r, .int .i64 0, .bool false] 84)).drew.heap.size) := hidp (Nat.le_trans HR.out.below.size T0.size)
    have L1 : Hid ((alc s.L).length = s.L.length * 4) := hidp (alc_len _)
    have O1 := hidp (alc_one s.L)
    have M1 : Hid (0 + s.L.length ≤ maxLen) := hidp (by unfold maxLen; omega)
    have N1 : Hid ((0 + s.L.length) * 32 ≤ 140737488355328) := hidp (by omega)
    have Pn : Hid (A = none → s.L.length = 0 ∧ c = 0) := hidp HR.out.row.nil
    have L2 : Hid ((alc [⟨t, r, 0, false⟩]).length = 1 * 4) := hidp rfl
    have O2 := hidp (alc_one [⟨t, r, 0, false⟩])
    have M2 : Hid (s.L.length + 1 ≤ maxLen) := hidp (by unfold maxLen; omega)
    have N2 : Hid ((s.L.length + 1) * 32 ≤ 140737488355328) := hidp (by omega)
    have Hbl : Hid (b < w.heap.size) := hidp HR.out.blk.lt
    refine wp_region_last_drew 11 (S := fun w' => w'.cell? ⟨b, 4, none⟩ = some (.slice A s.L.length c) ∧ w'.cell? ⟨w.heap.size, 0, none⟩ = some (.int .i64 t) ∧ w'.cell? ⟨w.heap.size, 1, none⟩ = some (.int .i64 r) ∧ w'.cell? ⟨w.heap.size, 2, none⟩ = some (.int .i64 0) ∧ w'.cell? ⟨w.heap.size, 3, none⟩ = some (.bool false)) (by kernel_rfl) (by kernel_rfl) ?_ (fun hHeld => ?_)
    · exact hs
    have HT0 := hidp T0
    clear bx z0 z4 hb T0
    generalize (w.alloc (.cells #[.int .i64 t, .int .i64 r, .int .i64 0, .bool false] 84)).drew = u at *
    refine wpAnyH_take (i := 0) (v := ?_) rfl (by kernel_rfl) (by kernel_rfl) (by kernel_rfl) (fun _ _ _ h => h) (Or.inl ⟨by rfl, ?_⟩) (by assumption) ?_
    rotate_left 1
    · ((intro w hSw; (try dsimp only at hSw); go_simp); (try with_reducible rfl))
    simp only [Act.put, List.setIfInBounds_toArray, List.set_cons_zero, List.set_cons_succ, List.getElem_toArray, List.getElem_cons_zero, List.getElem_cons_succ]
    refine wpAnyH_take (i := 1) (v := ?_) rfl (by kernel_rfl) (by kernel_rfl) (by kernel_rfl) (fun _ _ _ h => h) (Or.inl ⟨by rfl, ?_⟩) (by assumption) ?_
    rotate_left 1
    · ((intro w hSw; (try dsimp only at hSw); go_simp); (try with_reducible rfl))
    simp only [Act.put, List.setIfInBounds_toArray, List.set_cons_zero, List.set_cons_succ, List.getElem_toArray, List.getElem_cons_zero, List.getElem_cons_succ]
    refine wpAnyH_take (i := 2) (v := ?_) rfl (by kernel_rfl) (by kernel_rfl) (by kernel_rfl) (fun _ _ _ h => h) (Or.inl ⟨by rfl, ?_⟩) (by assumption) ?_
    rotate_left 1
    · ((intro w hSw; (try dsimp only at hSw); go_simp); (try with_reducible rfl))
    simp only [Act.put, List.setIfInBounds_toArray, List.set_cons_zero, List.set_cons_succ, List.getElem_toArray, List.getElem_cons_zero, List.getElem_cons_succ]
    refine wpAnyH_take (i := 3) (v := ?_) rfl (by kernel_rfl) (by kernel_rfl) (by kernel_rfl) (fun _ _ _ h => h) (Or.inl ⟨by rfl, ?_⟩) (by assumption) ?_
    rotate_left 1
    · ((intro w hSw; (try dsimp only at hSw); go_simp); (try with_reducible rfl))
    simp only [Act.put, List.setIfInBounds_toArray, List.set_cons_zero, List.set_cons_succ, List.getElem_toArray, List.getElem_cons_zero, List.getElem_cons_succ]
    refine wpAnyH_take (i := 4) (v := ?_) rfl (by kernel_rfl) (by kernel_rfl) (by kernel_rfl) (fun _ _ _ h => h) (Or.inl ⟨by rfl, ?_⟩) (by assumption) ?_
    rotate_left 1
    · ((intro w hSw; (try dsimp only at hSw); go_simp); (try with_reducible rfl))
    simp only [Act.put, List.setIfInBounds_toArray, List.set_cons_zero, List.set_cons_succ, List.getElem_toArray, List.getElem_cons_zero, List.getElem_cons_succ]
    refine wpAnyH_take (i := 6) (v := ?_) rfl (by kernel_rfl) (by kernel_rfl) (by kernel_rfl) (fun _ _ _ h => h) (Or.inl ⟨by rfl, ?_⟩) (by assumption) ?_
    rotate_left 1
    · ((intro w hSw; (try dsimp only at hSw); go_simp); (try with_reducible rfl))
    simp only [Act.put, List.setIfInBounds_toArray, List.set_cons_zero, List.set_cons_succ, List.getElem_toArray, List.getElem_cons_zero, List.getElem_cons_succ]
    refine wpAnyH_ready (rs := [5, 7]) (by kernel_rfl) (by simp) ?_
    refine AllReadyH.cons rfl (fun K hK => ?_) (AllReadyH.cons rfl (fun K hK => ?_) AllReadyH.nil)
    · refine step_app2 u rfl (.const (.slice none 0 0)) (.tmp 65) 78 rfl w0.heap.size 84 i0 _ 4 32 Tryz.underlying78 hi0 hy0 hy1 hy2 rfl (by decide) none 0 0 [] rfl hn0 _ _ s.L.length c (alc s.L) rfl Pn.out L1.out S1.out O1.out M1.out N1.out Sz0.out ?_
      intro B1 k1 w1 happ
      simp only [Nat.zero_add, List.nil_append] at happ ⊢
      have bk1 := bk0.turned happ.turned (by simp [fp])
      have bx1 := bx0.turned happ.turned (by simp [fp])
      have hs1 : w1.cell? ⟨b, 4, none⟩ = some (.slice A s.L.length c) ∧ w1.cell? ⟨w.heap.size, 0, none⟩ = some (.int .i64 t) ∧ w1.cell? ⟨w.heap.size, 1, none⟩ = some (.int .i64 r) ∧ w1.cell? ⟨w.heap.size, 2, none⟩ = some (.int .i64 0) ∧ w1.cell? ⟨w.heap.size, 3, none⟩ = some (.bool false) := ⟨bk1.cell 4, bx1.cell 0, bx1.cell 1, bx1.cell 2, bx1.cell 3⟩
      refine hK.out _ _ ?_ (fun hHeld => ?_)
      · exact hs1
      clear hK K
      try simp only [Act.put, List.setIfInBounds_toArray, List.set_cons_zero, List.set_cons_succ, List.getElem_toArray, List.getElem_cons_zero, List.getElem_cons_succ]
      clear hi0 hy0 hy1 hy2 hn0
      refine wpAnyH_ready (rs := [7]) (by kernel_rfl) (by simp) ?_
      refine AllReadyH.cons rfl (fun K hK => ?_) AllReadyH.nil
      go_simp
      have bkq := bk1.alloc (.cells #[.int .i64 t, .int .i64 r, .int .i64 0, .bool false] 84)
      have bxq := bx1.alloc (.cells #[.int .i64 t, .int .i64 r, .int .i64 0, .bool false] 84)
      have TQ := happ.turned.alloc (.cells #[.int .i64 t, .int .i64 r, .int .i64 0, .bool false] 84)
      have oq := happ.own.alloc (.cells #[.int .i64 t, .int .i64 r, .int .i64 0, .bool false] 84)
      have LQ := hidp (cellsNewR w1 (alc [⟨t, r, 0, false⟩]) 84)
      have Szq : Hid (w0.heap.size ≤ (w1.alloc (.cells #[.int .i64 t, .int .i64 r, .int .i64 0, .bool false] 84)).heap.size) := hidp (Nat.le_trans Sz0.out TQ.size)
      have hf1 : ∀ k ∈ fp B1, u.heap.size ≤ k := fun k hk => by
        rcases happ.fps k hk with h2 | h2
        · simp [fp] at h2
        · exact h2
      have hsq : (w1.alloc (.cells #[.int .i64 t, .int .i64 r, .int .i64 0, .bool false] 84)).cell? ⟨b, 4, none⟩ = some (.slice A s.L.length c) ∧ (w1.alloc (.cells #[.int .i64 t, .int .i64 r, .int .i64 0, .bool false] 84)).cell? ⟨w.heap.size, 0, none⟩ = some (.int .i64 t) ∧ (w1.alloc (.cells #[.int .i64 t, .int .i64 r, .int .i64 0, .bool false] 84)).cell? ⟨w.heap.size, 1, none⟩ = some (.int .i64 r) ∧ (w1.alloc (.cells #[.int .i64 t, .int .i64 r, .int .i64 0, .bool false] 84)).cell? ⟨w.heap.size, 2, none⟩ = some (.int .i64 0) ∧ (w1.alloc (.cells #[.int .i64 t, .int .i64 r, .int .i64 0, .bool false] 84)).cell? ⟨w.heap.size, 3, none⟩ = some (.bool false) := ⟨bkq.cell 4, bxq.cell 0, bxq.cell 1, bxq.cell 2, bxq.cell 3⟩
      refine hK.out _ _ ?_ (fun hHeld => ?_)
      · exact hsq
      clear hK K
      try simp only [Act.put, List.setIfInBounds_toArray, List.set_cons_zero, List.set_cons_succ, List.getElem_toArray, List.getElem_cons_zero, List.getElem_cons_succ]
      refine wpAnyH_ready (rs := [8]) (by kernel_rfl) (by simp) ?_
      refine AllReadyH.cons rfl (fun K hK => ?_) AllReadyH.nil
      obtain ⟨i0, hi0, hy0, hy1, hy2⟩ := info_parts infoAL
      refine step_app2 _ rfl (.tmp 66) (.tmp 68) 78 rfl w0.heap.size 84 i0 _ 4 32 Tryz.underlying78 hi0 hy0 hy1 hy2 rfl (by decide) B1 s.L.length k1 (alc s.L) rfl oq _ _ 1 1 (alc [⟨t, r, 0, false⟩]) rfl (by simp) L2.out LQ.out O2.out M2.out N2.out Szq.out ?_
      intro B2 k2 w2 happ2
      have hf2 : ∀ k ∈ fp B2, u.heap.size ≤ k := fun k hk => by
        have hz := TQ.size
        rcases happ2.fps k hk with h2 | h2
        · exact hf1 k h2
        · omega
      have hne : ∀ q, q < u.heap.size → q ∉ fp B1 := fun q hq hk => by have := hf1 q hk; omega
      have bk2 := bkq.turned happ2.turned (hne b (by have := Hbl.out; omega))
      have bx2 := bxq.turned happ2.turned (hne w.heap.size (by omega))
      have hs2 : w2.cell? ⟨b, 4, none⟩ = some (.slice A s.L.length c) ∧ w2.cell? ⟨w.heap.size, 0, none⟩ = some (.int .i64 t) ∧ w2.cell? ⟨w.heap.size, 1, none⟩ = some (.int .i64 r) ∧ w2.cell? ⟨w.heap.size, 2, none⟩ = some (.int .i64 0) ∧ w2.cell? ⟨w.heap.size, 3, none⟩ = some (.bool false) := ⟨bk2.cell 4, bx2.cell 0, bx2.cell 1, bx2.cell 2, bx2.cell 3⟩
      have fz := bk2.frozen 4
      have d4 := bk2.cell 4
      simp only [List.getElem?_toArray, List.getElem?_cons_zero, List.getElem?_cons_succ] at d4
      refine hK.out _ _ ?_ (fun hHeld => ?_)
      · exact hs2
      clear hK K
      try simp only [Act.put, List.setIfInBounds_toArray, List.set_cons_zero, List.set_cons_succ, List.getElem_toArray, List.getElem_cons_zero, List.getElem_cons_succ]
      clear hi0 hy0 hy1 hy2
      refine wpAnyH_take (i := 9) (v := ?_) rfl (by kernel_rfl) (by kernel_rfl) (by kernel_rfl) (fun _ _ _ h => h) (Or.inl ⟨by rfl, ?_⟩) (by assumption) ?_
      rotate_left 1
      · ((intro w hSw; (try dsimp only at hSw); go_simp); (try with_reducible rfl))
      simp only [Act.put, List.setIfInBounds_toArray, List.set_cons_zero, List.set_cons_succ, List.getElem_toArray, List.getElem_cons_zero, List.getElem_cons_succ]
      refine wpAnyH_take (i := 10) (v := ?_) rfl (by kernel_rfl) (by kernel_rfl) (by kernel_rfl) (fun _ _ _ h => h) (Or.inl ⟨by rfl, ?_⟩) (by assumption) ?_
      rotate_left 1
      · ((intro w hSw; (try dsimp only at hSw); go_simp); (try with_reducible rfl))
      simp only [Act.put, List.setIfInBounds_toArray, List.set_cons_zero, List.set_cons_succ, List.getElem_toArray, List.getElem_cons_zero, List.getElem_cons_succ]
      refine last_done (by kernel_rfl) ?_ _
      refine wpS_list 11 (L := _) (by simp only [List.drop_succ_cons, List.drop_zero]; rfl) (by rfl) ?_
      go_wp2_with fail
      go_ret
      have TA : Turned [b] w w2 := ((HT0.out.trans TQ (fun i hi => .inl hi)).trans happ2.turned (fun i hi => .inr (by have := hf1 i hi; omega))).mono (fun k hk => by simp at hk)
      have TB := TA.setCell (p := ⟨b, 4, none⟩) (.inl (by simp)) (.slice B2 (s.L.length + 1) k2)
      have bb3 := bk2.put 4 (.slice B2 (s.L.length + 1) k2)
      have hbB : b ∉ fp B2 := fun hk => by have := hf2 b hk; have := Hbl.out; omega
      refine ⟨rfl, ?_⟩
      rw [Hs.out]
      refine ⟨B2, k2, ⟨?_, ⟨?_, ?_, ?_, ?_⟩, hbB, HR.out.base, HR.out.below.trans (TB.below HR.out.below.size (fun k hk => by simp at hk; subst hk; exact HR.out.base)), HR.out.set, HR.out.rel⟩, TB, fun k hk => by have := hf2 k hk; omega⟩
      · dsimp only; rw [List.length_append]; exact bb3
      · dsimp only; rw [List.length_append, alc_append]; exact own_turned happ2.own ((Turned.refl [b] w2).setCell (p := ⟨b, 4, none⟩) (.inl (by simp)) _) (fun k hk hb => hbB (by simp at hb; subst hb; exact hk))
      · rfl
      · dsimp only; rw [List.length_append]; exact happ2.cap
      · dsimp only; rw [List.length_append]; exact happ2.nil
    · clear hi0 hy0 hy1 hy2 hn0
      go_simp
      have Ta := (Turned.refl [] u).alloc (.cells #[.int .i64 t, .int .i64 r, .int .i64 0, .bool false] 84)
      have bka := bk0.alloc (.cells #[.int .i64 t, .int .i64 r, .int .i64 0, .bool false] 84)
      have bxa := bx0.alloc (.cells #[.int .i64 t, .int .i64 r, .int .i64 0, .bool false] 84)
      have hsa : (u.alloc (.cells #[.int .i64 t, .int .i64 r, .int .i64 0, .bool false] 84)).cell? ⟨b, 4, none⟩ = some (.slice A s.L.length c) ∧ (u.alloc (.cells #[.int .i64 t, .int .i64 r, .int .i64 0, .bool false] 84)).cell? ⟨w.heap.size, 0, none⟩ = some (.int .i64 t) ∧ (u.alloc (.cells #[.int .i64 t, .int .i64 r, .int .i64 0, .bool false] 84)).cell? ⟨w.heap.size, 1, none⟩ = some (.int .i64 r) ∧ (u.alloc (.cells #[.int .i64 t, .int .i64 r, .int .i64 0, .bool false] 84)).cell? ⟨w.heap.size, 2, none⟩ = some (.int .i64 0) ∧ (u.alloc (.cells #[.int .i64 t, .int .i64 r, .int .i64 0, .bool false] 84)).cell? ⟨w.heap.size, 3, none⟩ = some (.bool false) := ⟨bka.cell 4, bxa.cell 0, bxa.cell 1, bxa.cell 2, bxa.cell 3⟩
      have La := hidp (cellsNewR u (alc [⟨t, r, 0, false⟩]) 84)
      have Sa := hidp (S1.out.turned (w' := u.alloc (.cells #[.int .i64 t, .int .i64 r, .int .i64 0, .bool false] 84)) Ta (by simp))
      refine hK.out _ _ ?_ (fun hHeld => ?_)
      · exact hsa
      clear hK K
      try simp only [Act.put, List.setIfInBounds_toArray, List.set_cons_zero, List.set_cons_succ, List.getElem_toArray, List.getElem_cons_zero, List.getElem_cons_succ]
      obtain ⟨i0, hi0, hy0, hy1, hy2⟩ := info_parts infoAL
      have hn0 := World.ownsRow_nil (u.alloc (.cells #[.int .i64 t, .int .i64 r, .int .i64 0, .bool false] 84)) w0.heap.size 84 4
      refine wpAnyH_ready (rs := [5]) (by kernel_rfl) (by simp) ?_
      refine AllReadyH.cons rfl (fun K hK => ?_) AllReadyH.nil
      refine step_app2 _ rfl (.const (.slice none 0 0)) (.tmp 65) 78 rfl w0.heap.size 84 i0 _ 4 32 Tryz.underlying78 hi0 hy0 hy1 hy2 rfl (by decide) none 0 0 [] rfl hn0 _ _ s.L.length c (alc s.L) rfl Pn.out L1.out Sa.out O1.out M1.out N1.out (Nat.le_trans Sz0.out Ta.size) ?_
      intro B1 k1 w1 happ
      simp only [Nat.zero_add, List.nil_append] at happ ⊢
      have bkq := bka.turned happ.turned (by simp [fp])
      have bxq := bxa.turned happ.turned (by simp [fp])
      have TQ := Ta.trans (happ.turned.mono (G := []) (fun k hk => by simp [fp] at hk)) (fun i hi => .inl hi)
      have oq := happ.own
      have LQ := hidp (La.out.turned (w' := w1) happ.turned (by simp [fp]))
      have Szq : Hid (w0.heap.size ≤ w1.heap.size) := hidp (Nat.le_trans Sz0.out TQ.size)
      have hf1 : ∀ k ∈ fp B1, u.heap.size ≤ k := fun k hk => by
        rcases happ.fps k hk with h2 | h2
        · simp [fp] at h2
        · exact Nat.le_trans Ta.size h2
      have hsq : w1.cell? ⟨b, 4, none⟩ = some (.slice A s.L.length c) ∧ w1.cell? ⟨w.heap.size, 0, none⟩ = some (.int .i64 t) ∧ w1.cell? ⟨w.heap.size, 1, none⟩ = some (.int .i64 r) ∧ w1.cell? ⟨w.heap.size, 2, none⟩ = some (.int .i64 0) ∧ w1.cell? ⟨w.heap.size, 3, none⟩ = some (.bool false) := ⟨bkq.cell 4, bxq.cell 0, bxq.cell 1, bxq.cell 2, bxq.cell 3⟩
      refine hK.out _ _ ?_ (fun hHeld => ?_)
      · exact hsq
      clear hK K
      try simp only [Act.put, List.setIfInBounds_toArray, List.set_cons_zero, List.set_cons_succ, List.getElem_toArray, List.getElem_cons_zero, List.getElem_cons_succ]
      clear hi0 hy0 hy1 hy2 hn0
      refine wpAnyH_ready (rs := [8]) (by kernel_rfl) (by simp) ?_
      refine AllReadyH.cons rfl (fun K hK => ?_) AllReadyH.nil
      obtain ⟨i0, hi0, hy0, hy1, hy2⟩ := info_parts infoAL
      refine step_app2 _ rfl (.tmp 66) (.tmp 68) 78 rfl w0.heap.size 84 i0 _ 4 32 Tryz.underlying78 hi0 hy0 hy1 hy2 rfl (by decide) B1 s.L.length k1 (alc s.L) rfl oq _ _ 1 1 (alc [⟨t, r, 0, false⟩]) rfl (by simp) L2.out LQ.out O2.out M2.out N2.out Szq.out ?_
      intro B2 k2 w2 happ2
      have hf2 : ∀ k ∈ fp B2, u.heap.size ≤ k := fun k hk => by
        have hz := TQ.size
        rcases happ2.fps k hk with h2 | h2
        · exact hf1 k h2
        · omega
      have hne : ∀ q, q < u.heap.size → q ∉ fp B1 := fun q hq hk => by have := hf1 q hk; omega
      have bk2 := bkq.turned happ2.turned (hne b (by have := Hbl.out; omega))
      have bx2 := bxq.turned happ2.turned (hne w.heap.size (by omega))
      have hs2 : w2.cell? ⟨b, 4, none⟩ = some (.slice A s.L.length c) ∧ w2.cell? ⟨w.heap.size, 0, none⟩ = some (.int .i64 t) ∧ w2.cell? ⟨w.heap.size, 1, none⟩ = some (.int .i64 r) ∧ w2.cell? ⟨w.heap.size, 2, none⟩ = some (.int .i64 0) ∧ w2.cell? ⟨w.heap.size, 3, none⟩ = some (.bool false) := ⟨bk2.cell 4, bx2.cell 0, bx2.cell 1, bx2.cell 2, bx2.cell 3⟩
      have fz := bk2.frozen 4
      have d4 := bk2.cell 4
      simp only [List.getElem?_toArray, List.getElem?_cons_zero, List.getElem?_cons_succ] at d4
      refine hK.out _ _ ?_ (fun hHeld => ?_)
      · exact hs2
      clear hK K
      try simp only [Act.put, List.setIfInBounds_toArray, List.set_cons_zero, List.set_cons_succ, List.getElem_toArray, List.getElem_cons_zero, List.getElem_cons_succ]
      clear hi0 hy0 hy1 hy2
      refine wpAnyH_take (i := 9) (v := ?_) rfl (by kernel_rfl) (by kernel_rfl) (by kernel_rfl) (fun _ _ _ h => h) (Or.inl ⟨by rfl, ?_⟩) (by assumption) ?_
      rotate_left 1
      · ((intro w hSw; (try dsimp only at hSw); go_simp); (try with_reducible rfl))
      simp only [Act.put, List.setIfInBounds_toArray, List.set_cons_zero, List.set_cons_succ, List.getElem_toArray, List.getElem_cons_zero, List.getElem_cons_succ]
      refine wpAnyH_take (i := 10) (v := ?_) rfl (by kernel_rfl) (by kernel_rfl) (by kernel_rfl) (fun _ _ _ h => h) (Or.inl ⟨by rfl, ?_⟩) (by assumption) ?_
      rotate_left 1
      · ((intro w hSw; (try dsimp only at hSw); go_simp); (try with_reducible rfl))
      simp only [Act.put, List.setIfInBounds_toArray, List.set_cons_zero, List.set_cons_succ, List.getElem_toArray, List.getElem_cons_zero, List.getElem_cons_succ]
      refine last_done (by kernel_rfl) ?_ _
      refine wpS_list 11 (L := _) (by simp only [List.drop_succ_cons, List.drop_zero]; rfl) (by rfl) ?_
      go_wp2_with fail
      go_ret
      have TA : Turned [b] w w2 := ((HT0.out.trans TQ (fun i hi => .inl hi)).trans happ2.turned (fun i hi => .inr (by have := hf1 i hi; omega))).mono (fun k hk => by simp at hk)
      have TB := TA.setCell (p := ⟨b, 4, none⟩) (.inl (by simp)) (.slice B2 (s.L.length + 1) k2)
      have bb3 := bk2.put 4 (.slice B2 (s.L.length + 1) k2)
      have hbB : b ∉ fp B2 := fun hk => by have := hf2 b hk; have := Hbl.out; omega
      refine ⟨rfl, ?_⟩
      rw [Hs.out]
      refine ⟨B2, k2, ⟨?_, ⟨?_, ?_, ?_, ?_⟩, hbB, HR.out.base, HR.out.below.trans (TB.below HR.out.below.size (fun k hk => by simp at hk; subst hk; exact HR.out.base)), HR.out.set, HR.out.rel⟩, TB, fun k hk => by have := hf2 k hk; omega⟩
      · dsimp only; rw [List.length_append]; exact bb3
      · dsimp only; rw [List.length_append, alc_append]; exact own_turned happ2.own ((Turned.refl [b] w2).setCell (p := ⟨b, 4, none⟩) (.inl (by simp)) _) (fun k hk hb => hbB (by simp at hb; subst hb; exact hk))
      · rfl
      · dsimp only; rw [List.length_append]; exact happ2.cap
      · dsimp only; rw [List.length_append]; exact happ2.nil
end
end Go.Proofs.YtppgameimddimaaGreat

namespace Go.Proofs.YtppgameimddimaaGreat
open Go.ChangeShapes Go.WideShapes Go.ChangeAt Go.RowKit Go.Conc
set_option linter.unusedVariables false
set_option linter.unusedSimpArgs false
section
variable {w0 w w' : World} {b c : Nat} {S : SetR} {s : Ls} {A : Option Addr}
set_option maxHeartbeats 8000000 in
theorem rl_ask1 (h : Rl w0 w b S s A c) (ho : LsOk s) {t r : Int} (hc : askC s t r = 0) (hp : ¬ s.proto = 3) (h8 : s.count < 800000) : Calls Tryz.prog 13 #[.pointer (some ⟨b, 0, none⟩), .int .i64 t, .int .i64 r] w fun e w' => e = .returned (.int .i64 0) ∧ RlPost w0 w b S (askS s t r) w' := by
  have CA := rl_at h t
  obtain ⟨k1, k2, k3⟩ := askC_zero hc
  have c0 : w.cell? ⟨b, 0, none⟩ = some (.int .i64 S.proto) := h.blk.cell 0
  have c2 : w.cell? ⟨b, 2, none⟩ = some (.slice S.ha S.homes.length S.hc) := h.blk.cell 2
  have c3 : w.cell? ⟨b, 3, none⟩ = some (.slice S.ta S.tasks.length S.tc) := h.blk.cell 3
  have c4 : w.cell? ⟨b, 4, none⟩ = some (.slice A s.L.length c) := h.blk.cell 4
  have e2 : (s.prio.length : Int) = (S.tasks.length : Int) := by rw [h.rel.2.1, List.length_map]
  have e5 : (s.homes.length : Int) = (S.homes.length : Int) := by rw [h.rel.2.2.2.2]
  have hp3 : (S.proto == 3) = false := by have := h.rel.1; simpa [← this] using hp
  have c5 : w.cell? ⟨b, 5, none⟩ = some (.int .i64 s.count) := h.blk.cell 5
  have hq0 := ho.c0
  have wkc : IntKind.i64.wrap (s.count + 1) = s.count + 1 := IntWalk.i64_in _ (by omega)
  rcases atV_cases s t with ⟨j, hj, e1, g1⟩ | ⟨e1, g1⟩
  · rw [k3] at g1; cases g1
  · rw [e1] at CA
    have HR := hidp h
    have t0 : decide (t < 0) = false := decide_eq_false (by unfold Ls.has at k1; omega)
    have t1 : decide (t ≥ (S.tasks.length : Int)) = false := decide_eq_false (by unfold Ls.has at k1; omega)
    have t2 : decide ((S.tasks.length : Int) ≤ t) = false := decide_eq_false (by unfold Ls.has at k1; omega)
    have r0 : decide (r < 0) = false := decide_eq_false (by unfold Ls.hasR at k2; omega)
    have r1 : decide (r ≥ (S.homes.length : Int)) = false := decide_eq_false (by unfold Ls.hasR at k2; omega)
    have r2 : decide ((S.homes.length : Int) ≤ r) = false := decide_eq_false (by unfold Ls.hasR at k2; omega)
    have h6 : s.L.length ≤ 6 := Nat.le_trans (tasks_le ho) ho.n6
    have Hs : Hid (askS s t r = { s with L := s.L ++ [⟨t, r, s.count + 1, false⟩], count := s.count + 1 }) := hidp (by unfold askS askN; rw [if_pos hc, if_neg hp])
    have hb := (Below.refl w.heap.size w).alloc (Nat.le_refl _) (.cells #[.int .i64 t, .int .i64 r, .int .i64 0, .bool false] 84)
    have bx := Bk.new w 84 #[.int .i64 t, .int .i64 r, .int .i64 0, .bool false]
    have z0 := Keeps.of_below hb _ _ c0
    have z4 := Keeps.of_below hb _ _ c4
    have z5 := Keeps.of_below hb _ _ c5
    have f5 := (HR.out.blk.alloc (.cells #[.int .i64 t, .int .i64 r, .int .i64 0, .bool false] 84)).frozen 5
    have f2 := bx.frozen 2
    have b0x := bx.cell 0
    have hbne : b ≠ w.heap.size := by have := HR.out.blk.lt; omega
    clear h hc hp k1 k2 k3 e1 g1 ho
    go_enter Tryz.func13, Tryz.ntmps13
    go_wp2_with fail
    refine CA.mono ?_
    rintro e w' ⟨rfl, rfl⟩
    go_wp2_with fail
    obtain ⟨i0, hi0, hy0, hy1, hy2⟩ := info_parts infoAL
    have T0 : Turned [b] w (((w.alloc (.cells #[.int .i64 t, .int .i64 r, .int .i64 0, .bool false] 84)).setCell ⟨b, 5, none⟩ (.int .i64 (s.count + 1))).setCell ⟨w.heap.size, 2, none⟩ (.int .i64 (s.count + 1))).drew := ((((Turned.refl [b] w).alloc (.cells #[.int .i64 t, .int .i64 r, .int .i64 0, .bool false] 84)).setCell (p := ⟨b, 5, none⟩) (.inl (by simp)) (.int .i64 (s.count + 1))).setCell (p := ⟨w.heap.size, 2, none⟩) (.inr (Nat.le_refl _)) (.int .i64 (s.count + 1))).drew
    have bk0 := ((HR.out.blk.alloc (.cells #[.int .i64 t, .int .i64 r, .int .i64 0, .bool false] 84)).put 5 (.int .i64 (s.count + 1))).far (p := ⟨w.heap.size, 2, none⟩) hbne (.int .i64 (s.count + 1))
    have bx0 := (bx.far (p := ⟨b, 5, none⟩) (fun e => hbne e.symm) (.int .i64 (s.count + 1))).put 2 (.int .i64 (s.count + 1))
    replace bk0 : Bk (((w.alloc (.cells #[.int .i64 t, .int .i64 r, .int .i64 0, .bool false] 84)).setCell ⟨b, 5, none⟩ (.int .i64 (s.count + 1))).setCell ⟨w.heap.size, 2, none⟩ (.int .i64 (s.count + 1))).drew b 80 #[.int .i64 S.proto, .slice S.ca S.cores.length S.cc, .slice S.ha S.homes.length S.hc, .slice S.ta S.tasks.length S.tc, .slice A s.L.length c, .int .i64 (s.count + 1)] := bk0
    replace bx0 : Bk (((w.alloc (.cells #[.int .i64 t, .int .i64 r, .int .i64 0, .bool false] 84)).setCell ⟨b, 5, none⟩ (.int .i64 (s.count + 1))).setCell ⟨w.heap.size, 2, none⟩ (.int .i64 (s.count + 1))).drew w.heap.size 84 #[.int .i64 t, .int .i64 r, .int .i64 (s.count + 1), .bool false] := bx0
    have hs : (((w.alloc (.cells #[.int .i64 t, .int .i64 r, .int .i64 0, .bool false] 84)).setCell ⟨b, 5, none⟩ (.int .i64 (s.count + 1))).setCell ⟨w.heap.size, 2, none⟩ (.int .i64 (s.count + 1))).drew.cell? ⟨b, 4, none⟩ = some (.slice A s.L.length c) ∧ (((w.alloc (.cells #[.int .i64 t, .int .i64 r, .int .i64 0, .bool false] 84)).setCell ⟨b, 5, none⟩ (.int .i64 (s.count + 1))).setCell ⟨w.heap.size, 2, none⟩ (.int .i64 (s.count + 1))).drew.cell? ⟨w.heap.size, 0, none⟩ = some (.int .i64 t) ∧ (((w.alloc (.cells #[.int .i64 t, .int .i64 r, .int .i64 0, .bool false] 84)).setCell ⟨b, 5, none⟩ (.int .i64 (s.count + 1))).setCell ⟨w.heap.size, 2, none⟩ (.int .i64 (s.count + 1))).drew.cell? ⟨w.heap.size, 1, none⟩ = some (.int .i64 r) ∧ (((w.alloc (.cells #[.int .i64 t, .int .i64 r, .int .i64 0, .bool false] 84)).setCell ⟨b, 5, none⟩ (.int .i64 (s.count + 1))).setCell ⟨w.heap.size, 2, none⟩ (.int .i64 (s.count + 1))).drew.cell? ⟨w.heap.size, 2, none⟩ = some (.int .i64 (s.count + 1)) ∧ (((w.alloc (.cells #[.int .i64 t, .int .i64 r, .int .i64 0, .bool false] 84)).setCell ⟨b, 5, none⟩ (.int .i64 (s.count + 1))).setCell ⟨w.heap.size, 2, none⟩ (.int .i64 (s.count + 1))).drew.cell? ⟨w.heap.size, 3, none⟩ = some (.bool false) := ⟨bk0.cell 4, bx0.cell 0, bx0.cell 1, bx0.cell 2, bx0.cell 3⟩
    have S1 : Hid (Lies (((w.alloc (.cells #[.int .i64 t, .int .i64 r, .int .i64 0, .bool false] 84)).setCell ⟨b, 5, none⟩ (.int .i64 (s.count + 1))).setCell ⟨w.heap.size, 2, none⟩ (.int .i64 (s.count + 1))).drew.heap.size (((w.alloc (.cells #[.int .i64 t, .int .i64 r, .int .i64 0, .bool false] 84)).setCell ⟨b, 5, none⟩ (.int .i64 (s.count + 1))).setCell ⟨w.heap.size, 2, none⟩ (.int .i64 (s.count + 1))).drew A (alc s.L)) := hidp (Lies.of_own (own_turned HR.out.row.own T0 (fun k hk hb => HR.out.ne (by simp at hb; subst hb; exact hk))))
    have hz0 : w.heap.size + 1 ≤ (((w.alloc (.cells #[.int .i64 t, .int .i64 r, .int .i64 0, .bool false] 84)).setCell ⟨b, 5, none⟩ (.int .i64 (s.count + 1))).setCell ⟨w.heap.size, 2, none⟩ (.int .i64 (s.count + 1))).drew.heap.size := by simp
    have hn0 := World.ownsRow_nil (((w.alloc (.cells #[.int .i64 t, .int .i64 r, .int .i64 0, .bool false] 84)).setCell ⟨b, 5, none⟩ (.int .i64 (s.count + 1))).setCell ⟨w.heap.size, 2, none⟩ (.int .i64 (s.count + 1))).drew w0.heap.size 84 4
    have Sz0 : Hid (w0.heap.size ≤ (((w.alloc (.cells #[.int .i64 t, .int .i64 r, .int .i64 0, .bool false] 84)).setCell ⟨b, 5, none⟩ (.int .i64 (s.count + 1))).setCell ⟨w.heap.size, 2, none⟩ (.int .i64 (s.count + 1))).drew.heap.size) := hidp (Nat.le_trans HR.out.below.size T0.size)
    have L1 : Hid ((alc s.L).length = s.L.length * 4) := hidp (alc_len _)
    have O1 := hidp (alc_one s.L)
    have M1 : Hid (0 + s.L.length ≤ maxLen) := hidp (by unfold maxLen; omega)
    have N1 : Hid ((0 + s.L.length) * 32 ≤ 140737488355328) := hidp (by omega)
    have Pn : Hid (A = none → s.L.length = 0 ∧ c = 0) := hidp HR.out.row.nil
    have L2 : Hid ((alc [⟨t, r, s.count + 1, false⟩]).length = 1 * 4) := hidp rfl
    have O2 := hidp (alc_one [⟨t, r, s.count + 1, false⟩])
    have M2 : Hid (s.L.length + 1 ≤ maxLen) := hidp (by unfold maxLen; omega)
    have N2 : Hid ((s.L.length + 1) * 32 ≤ 140737488355328) := hidp (by omega)
    have Hbl : Hid (b < w.heap.size) := hidp HR.out.blk.lt
    refine wp_region_last_drew 11 (S := fun w' => w'.cell? ⟨b, 4, none⟩ = some (.slice A s.L.length c) ∧ w'.cell? ⟨w.heap.size, 0, none⟩ = some (.int .i64 t) ∧ w'.cell? ⟨w.heap.size, 1, none⟩ = some (.int .i64 r) ∧ w'.cell? ⟨w.heap.size, 2, none⟩ = some (.int .i64 (s.count + 1)) ∧ w'.cell? ⟨w.heap.size, 3, none⟩ = some (.bool false)) (by kernel_rfl) (by kernel_rfl) ?_ (fun hHeld => ?_)
    · exact hs
    have HT0 := hidp T0
    clear bx z0 z4 z5 f5 f2 b0x hb T0
    generalize (((w.alloc (.cells #[.int .i64 t, .int .i64 r, .int .i64 0, .bool false] 84)).setCell ⟨b, 5, none⟩ (.int .i64 (s.count + 1))).setCell ⟨w.heap.size, 2, none⟩ (.int .i64 (s.count + 1))).drew = u at *
    refine wpAnyH_take (i := 0) (v := ?_) rfl (by kernel_rfl) (by kernel_rfl) (by kernel_rfl) (fun _ _ _ h => h) (Or.inl ⟨by rfl, ?_⟩) (by assumption) ?_
    rotate_left 1
    · ((intro w hSw; (try dsimp only at hSw); go_simp); (try with_reducible rfl))
    simp only [Act.put, List.setIfInBounds_toArray, List.set_cons_zero, List.set_cons_succ, List.getElem_toArray, List.getElem_cons_zero, List.getElem_cons_succ]
    refine wpAnyH_take (i := 1) (v := ?_) rfl (by kernel_rfl) (by kernel_rfl) (by kernel_rfl) (fun _ _ _ h => h) (Or.inl ⟨by rfl, ?_⟩) (by assumption) ?_
    rotate_left 1
    · ((intro w hSw; (try dsimp only at hSw); go_simp); (try with_reducible rfl))
    simp only [Act.put, List.setIfInBounds_toArray, List.set_cons_zero, List.set_cons_succ, List.getElem_toArray, List.getElem_cons_zero, List.getElem_cons_succ]
    refine wpAnyH_take (i := 2) (v := ?_) rfl (by kernel_rfl) (by kernel_rfl) (by kernel_rfl) (fun _ _ _ h => h) (Or.inl ⟨by rfl, ?_⟩) (by assumption) ?_
    rotate_left 1
    · ((intro w hSw; (try dsimp only at hSw); go_simp); (try with_reducible rfl))
    simp only [Act.put, List.setIfInBounds_toArray, List.set_cons_zero, List.set_cons_succ, List.getElem_toArray, List.getElem_cons_zero, List.getElem_cons_succ]
    refine wpAnyH_take (i := 3) (v := ?_) rfl (by kernel_rfl) (by kernel_rfl) (by kernel_rfl) (fun _ _ _ h => h) (Or.inl ⟨by rfl, ?_⟩) (by assumption) ?_
    rotate_left 1
    · ((intro w hSw; (try dsimp only at hSw); go_simp); (try with_reducible rfl))
    simp only [Act.put, List.setIfInBounds_toArray, List.set_cons_zero, List.set_cons_succ, List.getElem_toArray, List.getElem_cons_zero, List.getElem_cons_succ]
    refine wpAnyH_take (i := 4) (v := ?_) rfl (by kernel_rfl) (by kernel_rfl) (by kernel_rfl) (fun _ _ _ h => h) (Or.inl ⟨by rfl, ?_⟩) (by assumption) ?_
    rotate_left 1
    · ((intro w hSw; (try dsimp only at hSw); go_simp); (try with_reducible rfl))
    simp only [Act.put, List.setIfInBounds_toArray, List.set_cons_zero, List.set_cons_succ, List.getElem_toArray, List.getElem_cons_zero, List.getElem_cons_succ]
    refine wpAnyH_take (i := 6) (v := ?_) rfl (by kernel_rfl) (by kernel_rfl) (by kernel_rfl) (fun _ _ _ h => h) (Or.inl ⟨by rfl, ?_⟩) (by assumption) ?_
    rotate_left 1
    · ((intro w hSw; (try dsimp only at hSw); go_simp); (try with_reducible rfl))
    simp only [Act.put, List.setIfInBounds_toArray, List.set_cons_zero, List.set_cons_succ, List.getElem_toArray, List.getElem_cons_zero, List.getElem_cons_succ]
    refine wpAnyH_ready (rs := [5, 7]) (by kernel_rfl) (by simp) ?_
    refine AllReadyH.cons rfl (fun K hK => ?_) (AllReadyH.cons rfl (fun K hK => ?_) AllReadyH.nil)
    · refine step_app2 u rfl (.const (.slice none 0 0)) (.tmp 65) 78 rfl w0.heap.size 84 i0 _ 4 32 Tryz.underlying78 hi0 hy0 hy1 hy2 rfl (by decide) none 0 0 [] rfl hn0 _ _ s.L.length c (alc s.L) rfl Pn.out L1.out S1.out O1.out M1.out N1.out Sz0.out ?_
      intro B1 k1 w1 happ
      simp only [Nat.zero_add, List.nil_append] at happ ⊢
      have bk1 := bk0.turned happ.turned (by simp [fp])
      have bx1 := bx0.turned happ.turned (by simp [fp])
      have hs1 : w1.cell? ⟨b, 4, none⟩ = some (.slice A s.L.length c) ∧ w1.cell? ⟨w.heap.size, 0, none⟩ = some (.int .i64 t) ∧ w1.cell? ⟨w.heap.size, 1, none⟩ = some (.int .i64 r) ∧ w1.cell? ⟨w.heap.size, 2, none⟩ = some (.int .i64 (s.count + 1)) ∧ w1.cell? ⟨w.heap.size, 3, none⟩ = some (.bool false) := ⟨bk1.cell 4, bx1.cell 0, bx1.cell 1, bx1.cell 2, bx1.cell 3⟩
      refine hK.out _ _ ?_ (fun hHeld => ?_)
      · exact hs1
      clear hK K
      try simp only [Act.put, List.setIfInBounds_toArray, List.set_cons_zero, List.set_cons_succ, List.getElem_toArray, List.getElem_cons_zero, List.getElem_cons_succ]
      clear hi0 hy0 hy1 hy2 hn0
      refine wpAnyH_ready (rs := [7]) (by kernel_rfl) (by simp) ?_
      refine AllReadyH.cons rfl (fun K hK => ?_) AllReadyH.nil
      go_simp
      have bkq := bk1.alloc (.cells #[.int .i64 t, .int .i64 r, .int .i64 (s.count + 1), .bool false] 84)
      have bxq := bx1.alloc (.cells #[.int .i64 t, .int .i64 r, .int .i64 (s.count + 1), .bool false] 84)
      have TQ := happ.turned.alloc (.cells #[.int .i64 t, .int .i64 r, .int .i64 (s.count + 1), .bool false] 84)
      have oq := happ.own.alloc (.cells #[.int .i64 t, .int .i64 r, .int .i64 (s.count + 1), .bool false] 84)
      have LQ := hidp (cellsNewR w1 (alc [⟨t, r, s.count + 1, false⟩]) 84)
      have Szq : Hid (w0.heap.size ≤ (w1.alloc (.cells #[.int .i64 t, .int .i64 r, .int .i64 (s.count + 1), .bool false] 84)).heap.size) := hidp (Nat.le_trans Sz0.out TQ.size)
      have hf1 : ∀ k ∈ fp B1, u.heap.size ≤ k := fun k hk => by
        rcases happ.fps k hk with h2 | h2
        · simp [fp] at h2
        · exact h2
      have hsq : (w1.alloc (.cells #[.int .i64 t, .int .i64 r, .int .i64 (s.count + 1), .bool false] 84)).cell? ⟨b, 4, none⟩ = some (.slice A s.L.length c) ∧ (w1.alloc (.cells #[.int .i64 t, .int .i64 r, .int .i64 (s.count + 1), .bool false] 84)).cell? ⟨w.heap.size, 0, none⟩ = some (.int .i64 t) ∧ (w1.alloc (.cells #[.int .i64 t, .int .i64 r, .int .i64 (s.count + 1), .bool false] 84)).cell? ⟨w.heap.size, 1, none⟩ = some (.int .i64 r) ∧ (w1.alloc (.cells #[.int .i64 t, .int .i64 r, .int .i64 (s.count + 1), .bool false] 84)).cell? ⟨w.heap.size, 2, none⟩ = some (.int .i64 (s.count + 1)) ∧ (w1.alloc (.cells #[.int .i64 t, .int .i64 r, .int .i64 (s.count + 1), .bool false] 84)).cell? ⟨w.heap.size, 3, none⟩ = some (.bool false) := ⟨bkq.cell 4, bxq.cell 0, bxq.cell 1, bxq.cell 2, bxq.cell 3⟩
      refine hK.out _ _ ?_ (fun hHeld => ?_)
      · exact hsq
      clear hK K
      try simp only [Act.put, List.setIfInBounds_toArray, List.set_cons_zero, List.set_cons_succ, List.getElem_toArray, List.getElem_cons_zero, List.getElem_cons_succ]
      refine wpAnyH_ready (rs := [8]) (by kernel_rfl) (by simp) ?_
      refine AllReadyH.cons rfl (fun K hK => ?_) AllReadyH.nil
      obtain ⟨i0, hi0, hy0, hy1, hy2⟩ := info_parts infoAL
      refine step_app2 _ rfl (.tmp 66) (.tmp 68) 78 rfl w0.heap.size 84 i0 _ 4 32 Tryz.underlying78 hi0 hy0 hy1 hy2 rfl (by decide) B1 s.L.length k1 (alc s.L) rfl oq _ _ 1 1 (alc [⟨t, r, s.count + 1, false⟩]) rfl (by simp) L2.out LQ.out O2.out M2.out N2.out Szq.out ?_
      intro B2 k2 w2 happ2
      have hf2 : ∀ k ∈ fp B2, u.heap.size ≤ k := fun k hk => by
        have hz := TQ.size
        rcases happ2.fps k hk with h2 | h2
        · exact hf1 k h2
        · omega
      have hne : ∀ q, q < u.heap.size → q ∉ fp B1 := fun q hq hk => by have := hf1 q hk; omega
      have bk2 := bkq.turned happ2.turned (hne b (by have := Hbl.out; omega))
      have bx2 := bxq.turned happ2.turned (hne w.heap.size (by omega))
      have hs2 : w2.cell? ⟨b, 4, none⟩ = some (.slice A s.L.length c) ∧ w2.cell? ⟨w.heap.size, 0, none⟩ = some (.int .i64 t) ∧ w2.cell? ⟨w.heap.size, 1, none⟩ = some (.int .i64 r) ∧ w2.cell? ⟨w.heap.size, 2, none⟩ = some (.int .i64 (s.count + 1)) ∧ w2.cell? ⟨w.heap.size, 3, none⟩ = some (.bool false) := ⟨bk2.cell 4, bx2.cell 0, bx2.cell 1, bx2.cell 2, bx2.cell 3⟩
      have fz := bk2.frozen 4
      have d4 := bk2.cell 4
      simp only [List.getElem?_toArray, List.getElem?_cons_zero, List.getElem?_cons_succ] at d4
      refine hK.out _ _ ?_ (fun hHeld => ?_)
      · exact hs2
      clear hK K
      try simp only [Act.put, List.setIfInBounds_toArray, List.set_cons_zero, List.set_cons_succ, List.getElem_toArray, List.getElem_cons_zero, List.getElem_cons_succ]
      clear hi0 hy0 hy1 hy2
      refine wpAnyH_take (i := 9) (v := ?_) rfl (by kernel_rfl) (by kernel_rfl) (by kernel_rfl) (fun _ _ _ h => h) (Or.inl ⟨by rfl, ?_⟩) (by assumption) ?_
      rotate_left 1
      · ((intro w hSw; (try dsimp only at hSw); go_simp); (try with_reducible rfl))
      simp only [Act.put, List.setIfInBounds_toArray, List.set_cons_zero, List.set_cons_succ, List.getElem_toArray, List.getElem_cons_zero, List.getElem_cons_succ]
      refine wpAnyH_take (i := 10) (v := ?_) rfl (by kernel_rfl) (by kernel_rfl) (by kernel_rfl) (fun _ _ _ h => h) (Or.inl ⟨by rfl, ?_⟩) (by assumption) ?_
      rotate_left 1
      · ((intro w hSw; (try dsimp only at hSw); go_simp); (try with_reducible rfl))
      simp only [Act.put, List.setIfInBounds_toArray, List.set_cons_zero, List.set_cons_succ, List.getElem_toArray, List.getElem_cons_zero, List.getElem_cons_succ]
      refine last_done (by kernel_rfl) ?_ _
      refine wpS_list 11 (L := _) (by simp only [List.drop_succ_cons, List.drop_zero]; rfl) (by rfl) ?_
      go_wp2_with fail
      go_ret
      have TA : Turned [b] w w2 := ((HT0.out.trans TQ (fun i hi => by simp [fp] at hi)).trans happ2.turned (fun i hi => .inr (by have := hf1 i hi; omega))).mono (fun k hk => .inl hk)
      have TB := TA.setCell (p := ⟨b, 4, none⟩) (.inl (by simp)) (.slice B2 (s.L.length + 1) k2)
      have bb3 := bk2.put 4 (.slice B2 (s.L.length + 1) k2)
      have hbB : b ∉ fp B2 := fun hk => by have := hf2 b hk; have := Hbl.out; omega
      refine ⟨rfl, ?_⟩
      rw [Hs.out]
      refine ⟨B2, k2, ⟨?_, ⟨?_, ?_, ?_, ?_⟩, hbB, HR.out.base, HR.out.below.trans (TB.below HR.out.below.size (fun k hk => by simp at hk; subst hk; exact HR.out.base)), HR.out.set, HR.out.rel⟩, TB, fun k hk => by have := hf2 k hk; omega⟩
      · dsimp only; rw [List.length_append]; exact bb3
      · dsimp only; rw [List.length_append, alc_append]; exact own_turned happ2.own ((Turned.refl [b] w2).setCell (p := ⟨b, 4, none⟩) (.inl (by simp)) _) (fun k hk hb => hbB (by simp at hb; subst hb; exact hk))
      · rfl
      · dsimp only; rw [List.length_append]; exact happ2.cap
      · dsimp only; rw [List.length_append]; exact happ2.nil
    · clear hi0 hy0 hy1 hy2 hn0
      go_simp
      have Ta := (Turned.refl [] u).alloc (.cells #[.int .i64 t, .int .i64 r, .int .i64 (s.count + 1), .bool false] 84)
      have bka := bk0.alloc (.cells #[.int .i64 t, .int .i64 r, .int .i64 (s.count + 1), .bool false] 84)
      have bxa := bx0.alloc (.cells #[.int .i64 t, .int .i64 r, .int .i64 (s.count + 1), .bool false] 84)
      have hsa : (u.alloc (.cells #[.int .i64 t, .int .i64 r, .int .i64 (s.count + 1), .bool false] 84)).cell? ⟨b, 4, none⟩ = some (.slice A s.L.length c) ∧ (u.alloc (.cells #[.int .i64 t, .int .i64 r, .int .i64 (s.count + 1), .bool false] 84)).cell? ⟨w.heap.size, 0, none⟩ = some (.int .i64 t) ∧ (u.alloc (.cells #[.int .i64 t, .int .i64 r, .int .i64 (s.count + 1), .bool false] 84)).cell? ⟨w.heap.size, 1, none⟩ = some (.int .i64 r) ∧ (u.alloc (.cells #[.int .i64 t, .int .i64 r, .int .i64 (s.count + 1), .bool false] 84)).cell? ⟨w.heap.size, 2, none⟩ = some (.int .i64 (s.count + 1)) ∧ (u.alloc (.cells #[.int .i64 t, .int .i64 r, .int .i64 (s.count + 1), .bool false] 84)).cell? ⟨w.heap.size, 3, none⟩ = some (.bool false) := ⟨bka.cell 4, bxa.cell 0, bxa.cell 1, bxa.cell 2, bxa.cell 3⟩
      have La := hidp (cellsNewR u (alc [⟨t, r, s.count + 1, false⟩]) 84)
      have Sa := hidp (S1.out.turned (w' := u.alloc (.cells #[.int .i64 t, .int .i64 r, .int .i64 (s.count + 1), .bool false] 84)) Ta (by simp))
      refine hK.out _ _ ?_ (fun hHeld => ?_)
      · exact hsa
      clear hK K
      try simp only [Act.put, List.setIfInBounds_toArray, List.set_cons_zero, List.set_cons_succ, List.getElem_toArray, List.getElem_cons_zero, List.getElem_cons_succ]
      obtain ⟨i0, hi0, hy0, hy1, hy2⟩ := info_parts infoAL
      have hn0 := World.ownsRow_nil (u.alloc (.cells #[.int .i64 t, .int .i64 r, .int .i64 (s.count + 1), .bool false] 84)) w0.heap.size 84 4
      refine wpAnyH_ready (rs := [5]) (by kernel_rfl) (by simp) ?_
      refine AllReadyH.cons rfl (fun K hK => ?_) AllReadyH.nil
      refine step_app2 _ rfl (.const (.slice none 0 0)) (.tmp 65) 78 rfl w0.heap.size 84 i0 _ 4 32 Tryz.underlying78 hi0 hy0 hy1 hy2 rfl (by decide) none 0 0 [] rfl hn0 _ _ s.L.length c (alc s.L) rfl Pn.out L1.out Sa.out O1.out M1.out N1.out (Nat.le_trans Sz0.out Ta.size) ?_
      intro B1 k1 w1 happ
      simp only [Nat.zero_add, List.nil_append] at happ ⊢
      have bkq := bka.turned happ.turned (by simp [fp])
      have bxq := bxa.turned happ.turned (by simp [fp])
      have TQ := Ta.trans (happ.turned.mono (G := []) (fun k hk => by simp [fp] at hk)) (fun i hi => .inl hi)
      have oq := happ.own
      have LQ := hidp (La.out.turned (w' := w1) happ.turned (by simp [fp]))
      have Szq : Hid (w0.heap.size ≤ w1.heap.size) := hidp (Nat.le_trans Sz0.out TQ.size)
      have hf1 : ∀ k ∈ fp B1, u.heap.size ≤ k := fun k hk => by
        rcases happ.fps k hk with h2 | h2
        · simp [fp] at h2
        · exact Nat.le_trans Ta.size h2
      have hsq : w1.cell? ⟨b, 4, none⟩ = some (.slice A s.L.length c) ∧ w1.cell? ⟨w.heap.size, 0, none⟩ = some (.int .i64 t) ∧ w1.cell? ⟨w.heap.size, 1, none⟩ = some (.int .i64 r) ∧ w1.cell? ⟨w.heap.size, 2, none⟩ = some (.int .i64 (s.count + 1)) ∧ w1.cell? ⟨w.heap.size, 3, none⟩ = some (.bool false) := ⟨bkq.cell 4, bxq.cell 0, bxq.cell 1, bxq.cell 2, bxq.cell 3⟩
      refine hK.out _ _ ?_ (fun hHeld => ?_)
      · exact hsq
      clear hK K
      try simp only [Act.put, List.setIfInBounds_toArray, List.set_cons_zero, List.set_cons_succ, List.getElem_toArray, List.getElem_cons_zero, List.getElem_cons_succ]
      clear hi0 hy0 hy1 hy2 hn0
      refine wpAnyH_ready (rs := [8]) (by kernel_rfl) (by simp) ?_
      refine AllReadyH.cons rfl (fun K hK => ?_) AllReadyH.nil
      obtain ⟨i0, hi0, hy0, hy1, hy2⟩ := info_parts infoAL
      refine step_app2 _ rfl (.tmp 66) (.tmp 68) 78 rfl w0.heap.size 84 i0 _ 4 32 Tryz.underlying78 hi0 hy0 hy1 hy2 rfl (by decide) B1 s.L.length k1 (alc s.L) rfl oq _ _ 1 1 (alc [⟨t, r, s.count + 1, false⟩]) rfl (by simp) L2.out LQ.out O2.out M2.out N2.out Szq.out ?_
      intro B2 k2 w2 happ2
      have hf2 : ∀ k ∈ fp B2, u.heap.size ≤ k := fun k hk => by
        have hz := TQ.size
        rcases happ2.fps k hk with h2 | h2
        · exact hf1 k h2
        · omega
      have hne : ∀ q, q < u.heap.size → q ∉ fp B1 := fun q hq hk => by have := hf1 q hk; omega
      have bk2 := bkq.turned happ2.turned (hne b (by have := Hbl.out; omega))
      have bx2 := bxq.turned happ2.turned (hne w.heap.size (by omega))
      have hs2 : w2.cell? ⟨b, 4, none⟩ = some (.slice A s.L.length c) ∧ w2.cell? ⟨w.heap.size, 0, none⟩ = some (.int .i64 t) ∧ w2.cell? ⟨w.heap.size, 1, none⟩ = some (.int .i64 r) ∧ w2.cell? ⟨w.heap.size, 2, none⟩ = some (.int .i64 (s.count + 1)) ∧ w2.cell? ⟨w.heap.size, 3, none⟩ = some (.bool false) := ⟨bk2.cell 4, bx2.cell 0, bx2.cell 1, bx2.cell 2, bx2.cell 3⟩
      have fz := bk2.frozen 4
      have d4 := bk2.cell 4
      simp only [List.getElem?_toArray, List.getElem?_cons_zero, List.getElem?_cons_succ] at d4
      refine hK.out _ _ ?_ (fun hHeld => ?_)
      · exact hs2
      clear hK K
      try simp only [Act.put, List.setIfInBounds_toArray, List.set_cons_zero, List.set_cons_succ, List.getElem_toArray, List.getElem_cons_zero, List.getElem_cons_succ]
      clear hi0 hy0 hy1 hy2
      refine wpAnyH_take (i := 9) (v := ?_) rfl (by kernel_rfl) (by kernel_rfl) (by kernel_rfl) (fun _ _ _ h => h) (Or.inl ⟨by rfl, ?_⟩) (by assumption) ?_
      rotate_left 1
      · ((intro w hSw; (try dsimp only at hSw); go_simp); (try with_reducible rfl))
      simp only [Act.put, List.setIfInBounds_toArray, List.set_cons_zero, List.set_cons_succ, List.getElem_toArray, List.getElem_cons_zero, List.getElem_cons_succ]
      refine wpAnyH_take (i := 10) (v := ?_) rfl (by kernel_rfl) (by kernel_rfl) (by kernel_rfl) (fun _ _ _ h => h) (Or.inl ⟨by rfl, ?_⟩) (by assumption) ?_
      rotate_left 1
      · ((intro w hSw; (try dsimp only at hSw); go_simp); (try with_reducible rfl))
      simp only [Act.put, List.setIfInBounds_toArray, List.set_cons_zero, List.set_cons_succ, List.getElem_toArray, List.getElem_cons_zero, List.getElem_cons_succ]
      refine last_done (by kernel_rfl) ?_ _
      refine wpS_list 11 (L := _) (by simp only [List.drop_succ_cons, List.drop_zero]; rfl) (by rfl) ?_
      go_wp2_with fail
      go_ret
      have TA : Turned [b] w w2 := ((HT0.out.trans TQ (fun i hi => by simp [fp] at hi)).trans happ2.turned (fun i hi => .inr (by have := hf1 i hi; omega))).mono (fun k hk => .inl hk)
      have TB := TA.setCell (p := ⟨b, 4, none⟩) (.inl (by simp)) (.slice B2 (s.L.length + 1) k2)
      have bb3 := bk2.put 4 (.slice B2 (s.L.length + 1) k2)
      have hbB : b ∉ fp B2 := fun hk => by have := hf2 b hk; have := Hbl.out; omega
      refine ⟨rfl, ?_⟩
      rw [Hs.out]
      refine ⟨B2, k2, ⟨?_, ⟨?_, ?_, ?_, ?_⟩, hbB, HR.out.base, HR.out.below.trans (TB.below HR.out.below.size (fun k hk => by simp at hk; subst hk; exact HR.out.base)), HR.out.set, HR.out.rel⟩, TB, fun k hk => by have := hf2 k hk; omega⟩
      · dsimp only; rw [List.length_append]; exact bb3
      · dsimp only; rw [List.length_append, alc_append]; exact own_turned happ2.own ((Turned.refl [b] w2).setCell (p := ⟨b, 4, none⟩) (.inl (by simp)) _) (fun k hk hb => hbB (by simp at hb; subst hb; exact hk))
      · rfl
      · dsimp only; rw [List.length_append]; exact happ2.cap
      · dsimp only; rw [List.length_append]; exact happ2.nil
end
end Go.Proofs.YtppgameimddimaaGreat

namespace Go.Proofs.YtppgameimddimaaGreat
open Go.ChangeShapes Go.WideShapes Go.ChangeAt Go.RowKit Go.Conc
set_option linter.unusedVariables false
set_option linter.unusedSimpArgs false
/-- those of the first k asks that are in at c -/
def insUp (s : Ls) (k : Nat) (c : Int) : Nat := ((s.L.take k).filter (AL.inAt s c)).length
/-- those of the first k asks that wait outside at c -/
def outsUp (s : Ls) (k : Nat) (c : Int) : List Int := ((s.L.take k).filter (AL.outAt s c)).map AL.task
/-- how many may come in at c -/
def roomS (s : Ls) (c : Nat) : Nat := (s.cores.getD c 0 - (insS s c).length).toNat
/-- how many are in at c, once the first k were looked at -/
def inK (s : Ls) (k c : Nat) : Nat := (insS s c).length + min (roomS s c) (outsUp s k c).length
/-- let in among the first k -/
def newK (s : Ls) (k : Nat) (t : Nat) : Bool := ((outsUp s k (s.cls t)).take (roomS s (s.cls t).toNat)).contains (t : Int)
theorem take_next {L : List AL} {k : Nat} (hk : k < L.length) : L.take (k + 1) = L.take k ++ [L.getD k default] := by
  rw [List.take_add_one]
  simp [List.getD, hk]
theorem insUp_zero (s : Ls) (c : Int) : insUp s 0 c = 0 := rfl
theorem insUp_next {s : Ls} {k : Nat} (hk : k < s.L.length) (c : Int) : insUp s (k + 1) c = insUp s k c + if AL.inAt s c (s.L.getD k default) = true then 1 else 0 := by
  unfold insUp
  rw [take_next hk, List.filter_append, List.length_append]
  by_cases h : AL.inAt s c (s.L.getD k default) = true
  · rw [List.filter_cons_of_pos h, if_pos h]; rfl
  · rw [List.filter_cons_of_neg h, if_neg h]; rfl
theorem insUp_end (s : Ls) (c : Int) : insUp s s.L.length c = (insS s c).length := by
  unfold insUp insS
  rw [List.take_length, List.length_map]
theorem insUp_le (s : Ls) (k : Nat) (c : Int) : insUp s k c ≤ s.L.length := by
  unfold insUp
  exact Nat.le_trans (List.length_filter_le _ _) (by rw [List.length_take]; omega)
theorem outsUp_next {s : Ls} {k : Nat} (hk : k < s.L.length) (c : Int) : outsUp s (k + 1) c = outsUp s k c ++ if AL.outAt s c (s.L.getD k default) = true then [(s.L.getD k default).task] else [] := by
  unfold outsUp
  rw [take_next hk, List.filter_append, List.map_append]
  by_cases h : AL.outAt s c (s.L.getD k default) = true
  · rw [List.filter_cons_of_pos h, if_pos h]; rfl
  · rw [List.filter_cons_of_neg h, if_neg h]; rfl
theorem outsUp_end (s : Ls) (c : Int) : outsUp s s.L.length c = outsS s c := by
  unfold outsUp outsS
  rw [List.take_length]
theorem inK_zero (s : Ls) (c : Nat) : inK s 0 c = (insS s c).length := by
  unfold inK
  have : outsUp s 0 (c : Nat) = [] := rfl
  rw [this]
  simp
theorem newK_zero (s : Ls) (t : Nat) : newK s 0 t = false := by
  unfold newK
  have : outsUp s 0 (s.cls t) = [] := rfl
  rw [this]
  simp
/-- an ask that isn't outside, or finds no room, changes nothing -/
theorem inK_skip {s : Ls} {k : Nat} (hk : k < s.L.length) (h : ∀ c : Nat, AL.outAt s c (s.L.getD k default) = true → roomS s c ≤ (outsUp s k c).length) (c : Nat) : inK s (k + 1) c = inK s k c := by
  unfold inK
  rw [outsUp_next hk, List.length_append]
  split
  · rename_i h1
    have := h c h1
    simp; omega
  · simp
theorem newK_skip {s : Ls} {k : Nat} (hk : k < s.L.length) (ho : LsOk s) (h : ∀ c : Nat, AL.outAt s c (s.L.getD k default) = true → roomS s c ≤ (outsUp s k c).length) {t : Nat} (ht : s.has t) : newK s (k + 1) t = newK s k t := by
  unfold newK
  have hc := ho.clo _ ht
  obtain ⟨c, hcc⟩ : ∃ c : Nat, s.cls t = c := ⟨(s.cls t).toNat, by omega⟩
  rw [hcc, outsUp_next hk]
  split
  · rename_i h1
    have := h c h1
    rw [Int.toNat_natCast, List.take_append_of_le_length this]
  · rw [List.append_nil]
/-- an ask outside that finds room -/
theorem room_iff {s : Ls} (k c : Nat) : (inK s k c : Int) < s.cores.getD c 0 ↔ (outsUp s k c).length < roomS s c := by
  unfold inK roomS
  omega
theorem out_at {s : Ls} {a : AL} {c d : Nat} (h : AL.outAt s c a = true) : AL.outAt s d a = decide (d = c) := by
  unfold AL.outAt at *
  simp only [Bool.and_eq_true, decide_eq_true_eq, beq_iff_eq] at h
  rw [h.1, h.2]
  by_cases e : d = c
  · subst e; simp
  · have : ((c : Int) == (d : Int)) = false := by simp; omega
    rw [this]; simp [e]
theorem inK_in {s : Ls} {k c : Nat} (hk : k < s.L.length) (h : AL.outAt s c (s.L.getD k default) = true) (hr : (outsUp s k c).length < roomS s c) (d : Nat) : inK s (k + 1) d = inK s k d + if d = c then 1 else 0 := by
  unfold inK
  rw [outsUp_next hk, List.length_append, out_at h]
  by_cases e : d = c
  · subst e
    simp
    omega
  · simp [e]
theorem newK_in {s : Ls} {k c : Nat} (ho : LsOk s) (hk : k < s.L.length) (h : AL.outAt s c (s.L.getD k default) = true) (hr : (outsUp s k c).length < roomS s c) {t : Nat} (ht : s.has t) : newK s (k + 1) t = (newK s k t || decide ((t : Int) = (s.L.getD k default).task)) := by
  unfold newK
  have hc := ho.clo _ ht
  obtain ⟨d, hd⟩ : ∃ d : Nat, s.cls t = d := ⟨(s.cls t).toNat, by omega⟩
  have hcl : s.cls (s.L.getD k default).task = (c : Int) := by
    unfold AL.outAt at h
    simp only [Bool.and_eq_true, decide_eq_true_eq, beq_iff_eq] at h
    exact h.2
  rw [hd, outsUp_next hk, out_at h, Int.toNat_natCast]
  by_cases e : d = c
  · subst e
    simp only [decide_true, if_true]
    rw [List.take_append, List.contains_append]
    have h2 : roomS s d - (outsUp s k d).length ≠ 0 := by omega
    obtain ⟨m, hm⟩ := Nat.exists_eq_succ_of_ne_zero h2
    rw [hm, List.take_succ_cons]
    congr 1
    simp
  · have : ¬ ((t : Int) = (s.L.getD k default).task) := fun e2 => by rw [← e2, hd] at hcl; omega
    rw [if_neg (by simp [e]), List.append_nil, decide_eq_false this, Bool.or_false]
theorem newK_end {s : Ls} (ho : LsOk s) {t : Nat} (ht : s.has t) : newK s s.L.length t = (newS s).contains (t : Int) := by
  have hc := ho.clo _ ht
  obtain ⟨c, hcc⟩ : ∃ c : Nat, s.cls t = c := ⟨(s.cls t).toNat, by omega⟩
  have hcl : c < s.cores.length := by omega
  unfold newK
  rw [outsUp_end, hcc, Int.toNat_natCast]
  have h1 := newS_at (s := s) (x := (t : Int)) hcl hcc
  have h2 : (outsS s (c : Nat)).take (roomS s c) = (outsS s (c : Nat)).take (numS s c) := by
    unfold numS roomS
    rw [← List.take_take, List.take_length]
  rw [h2]
  rw [Bool.eq_iff_iff, List.contains_iff_mem, List.contains_iff_mem]
  exact h1.symm
theorem newK_not {s : Ls} (ho : LsOk s) {k t : Nat} (h : ¬ s.has t) : newK s k t = false := by
  unfold newK
  rw [Bool.eq_false_iff]
  intro hc
  have h1 := List.mem_of_mem_take (List.contains_iff_mem.1 hc)
  unfold outsUp at h1
  obtain ⟨a, ha, he⟩ := List.mem_map.1 h1
  have h2 := List.mem_of_mem_take (List.mem_filter.1 ha).1
  exact h (he ▸ ho.tk a h2)
theorem newK_same {s : Ls} {k : Nat} (hk : k < s.L.length) (ho : LsOk s) (h : ∀ c : Nat, AL.outAt s c (s.L.getD k default) = true → roomS s c ≤ (outsUp s k c).length) (t : Nat) : newK s (k + 1) t = newK s k t := by
  by_cases ht : s.has t
  · exact newK_skip hk ho h ht
  · rw [newK_not ho ht, newK_not ho ht]
theorem newK_more {s : Ls} {k c : Nat} (ho : LsOk s) (hk : k < s.L.length) (h : AL.outAt s c (s.L.getD k default) = true) (hr : (outsUp s k c).length < roomS s c) (t : Nat) : newK s (k + 1) t = (newK s k t || decide ((t : Int) = (s.L.getD k default).task)) := by
  by_cases ht : s.has t
  · exact newK_in ho hk h hr ht
  · rw [newK_not ho ht, newK_not ho ht]
    have : ¬ ((t : Int) = (s.L.getD k default).task) := fun e => ht (by rw [e]; exact ho.tk _ (by simp [List.getD, hk]))
    rw [decide_eq_false this, Bool.false_or]
/-- three counters -/
def triA (f : Nat → Nat) : Array Value := #[.int .i64 (f 0 : Nat), .int .i64 (f 1 : Nat), .int .i64 (f 2 : Nat)]
theorem triA_put {f g : Nat → Nat} {m : Nat} (hm : m < 3) (h : ∀ d, g d = f d + if d = m then 1 else 0) : (triA f).setIfInBounds m (.int .i64 ((f m : Nat) + 1 : Int)) = triA g := by
  unfold triA
  rw [h 0, h 1, h 2]
  have : m = 0 ∨ m = 1 ∨ m = 2 := by omega
  rcases this with rfl | rfl | rfl <;> simp
theorem triA_same {f g : Nat → Nat} (h : ∀ d, g d = f d) : triA g = triA f := by
  unfold triA
  rw [h 0, h 1, h 2]
theorem triA_at {w : World} {g : Nat} {T : TypeId} {f : Nat → Nat} {m : Nat} (h : Bk w g T (triA f)) (hm : m < 3) : w.cell? ⟨g, m, none⟩ = some (.int .i64 (f m : Nat)) := by
  rw [h.cell m]
  have : m = 0 ∨ m = 1 ∨ m = 2 := by omega
  rcases this with rfl | rfl | rfl <;> rfl
/-- six marks -/
def sixB (f : Nat → Bool) : Array Value := #[.bool (f 0), .bool (f 1), .bool (f 2), .bool (f 3), .bool (f 4), .bool (f 5)]
theorem sixB_put {f g : Nat → Bool} {m : Nat} (hm : m < 6) (h : ∀ d, g d = (f d || decide (d = m))) : (sixB f).setIfInBounds m (.bool true) = sixB g := by
  unfold sixB
  rw [h 0, h 1, h 2, h 3, h 4, h 5]
  have : m = 0 ∨ m = 1 ∨ m = 2 ∨ m = 3 ∨ m = 4 ∨ m = 5 := by omega
  rcases this with rfl | rfl | rfl | rfl | rfl | rfl <;> simp
theorem sixB_same {f g : Nat → Bool} (h : ∀ d, g d = f d) : sixB g = sixB f := by
  unfold sixB
  rw [h 0, h 1, h 2, h 3, h 4, h 5]
theorem sixB_at {w : World} {g : Nat} {T : TypeId} {f : Nat → Bool} {m : Nat} (h : Bk w g T (sixB f)) (hm : m < 6) : w.cell? ⟨g, m, none⟩ = some (.bool (f m)) := by
  rw [h.cell m]
  have : m = 0 ∨ m = 1 ∨ m = 2 ∨ m = 3 ∨ m = 4 ∨ m = 5 := by omega
  rcases this with rfl | rfl | rfl | rfl | rfl | rfl <;> rfl
/-- two rows in order with the same numbers in them -/
theorem lt_same : ∀ {l m : List Int}, l.Pairwise (· < ·) → m.Pairwise (· < ·) → (∀ x, x ∈ l ↔ x ∈ m) → l = m
  | [], [], _, _, _ => rfl
  | [], b :: m, _, _, h => absurd ((h b).2 (by simp)) (by simp)
  | a :: l, [], _, _, h => absurd ((h a).1 (by simp)) (by simp)
  | a :: l, b :: m, hl, hm, h => by
    have hl' := List.pairwise_cons.1 hl
    have hm' := List.pairwise_cons.1 hm
    have e : a = b := by
      have h1 := (h a).1 (by simp)
      have h2 := (h b).2 (by simp)
      rcases List.mem_cons.1 h1 with h1 | h1
      · exact h1
      · rcases List.mem_cons.1 h2 with h2 | h2
        · exact h2.symm
        · have := hl'.1 b h2
          have := hm'.1 a h1
          omega
    subst e
    congr 1
    refine lt_same hl'.2 hm'.2 fun x => ?_
    have hx := h x
    constructor
    · intro hxl
      have h1 := hl'.1 x hxl
      rcases List.mem_cons.1 (hx.1 (List.mem_cons_of_mem _ hxl)) with h2 | h2
      · omega
      · exact h2
    · intro hxm
      have h1 := hm'.1 x hxm
      rcases List.mem_cons.1 (hx.2 (List.mem_cons_of_mem _ hxm)) with h2 | h2
      · omega
      · exact h2
theorem sort_lt {l : List Int} (hn : l.Nodup) : (l.mergeSort fun x y => decide (x ≤ y)).Pairwise (· < ·) := by
  have h1 := List.pairwise_mergeSort (le := fun x y : Int => decide (x ≤ y)) (fun a b c h1 h2 => by simp at *; omega) (fun a b => by simp; omega) l
  have h2 := (List.mergeSort_perm l fun x y : Int => decide (x ≤ y)).nodup_iff.2 hn
  exact (h1.and h2).imp fun {a b} h => by have h3 := h.1; have h4 := h.2; simp at h3; omega
/-- those of the first k that f tells -/
def pickL (f : Nat → Bool) (k : Nat) : List Int := ((List.range k).filter f).map fun i : Nat => (i : Int)
theorem pickL_next (f : Nat → Bool) (k : Nat) : pickL f (k + 1) = pickL f k ++ if f k = true then [(k : Int)] else [] := by
  unfold pickL
  rw [List.range_succ, List.filter_append, List.map_append]
  by_cases h : f k = true
  · rw [List.filter_cons_of_pos h, if_pos h]; rfl
  · rw [List.filter_cons_of_neg h, if_neg h]; rfl
theorem pickL_mem {f : Nat → Bool} {k : Nat} {x : Int} : x ∈ pickL f k ↔ ∃ i : Nat, i < k ∧ f i = true ∧ x = (i : Int) := by
  unfold pickL
  simp only [List.mem_map, List.mem_filter, List.mem_range]
  constructor
  · rintro ⟨i, ⟨h1, h2⟩, rfl⟩; exact ⟨i, h1, h2, rfl⟩
  · rintro ⟨i, h1, h2, rfl⟩; exact ⟨i, ⟨h1, h2⟩, rfl⟩
theorem pickL_lt (f : Nat → Bool) (k : Nat) : (pickL f k).Pairwise (· < ·) := by
  unfold pickL
  rw [List.pairwise_map]
  exact (List.pairwise_lt_range.sublist List.filter_sublist).imp fun {a b} h => by omega
theorem pickL_len (f : Nat → Bool) (k : Nat) : (pickL f k).length ≤ k := by
  unfold pickL
  rw [List.length_map]
  exact Nat.le_trans (List.length_filter_le _ _) (by simp)
/-- whoever is in a sorted row, told in order -/
theorem sort_pick {l : List Int} {f : Nat → Bool} (hn : l.Nodup) (h6 : ∀ x ∈ l, 0 ≤ x ∧ x < 6) (hf : ∀ t : Nat, t < 6 → f t = l.contains (t : Int)) : pickL f 6 = l.mergeSort fun x y => decide (x ≤ y) := by
  refine lt_same (pickL_lt f 6) (sort_lt hn) fun x => ?_
  rw [pickL_mem, (List.mergeSort_perm l _).mem_iff]
  constructor
  · rintro ⟨i, hi, h1, rfl⟩
    rw [hf i hi] at h1
    exact List.contains_iff_mem.1 h1
  · intro hx
    have := h6 x hx
    refine ⟨x.toNat, by omega, ?_, by omega⟩
    rw [hf _ (by omega), List.contains_iff_mem, Int.toNat_of_nonneg this.1]
    exact hx
theorem newS_pick {s : Ls} (ho : LsOk s) : pickL (newK s s.L.length) 6 = newS s := by
  have hm : ∀ x, x ∈ newS s → s.has x := fun x hx => by
    obtain ⟨a, ha, rfl, _⟩ := newS_out hx
    exact ho.tk a ha
  have e : newS s = (newS s).mergeSort fun x y => decide (x ≤ y) := by
    refine lt_same ?_ (sort_lt (newS_nd ho)) fun x => (List.mergeSort_perm _ _).mem_iff.symm
    unfold newS
    refine sort_lt ?_
    have := newS_nd ho
    unfold newS at this
    exact (List.mergeSort_perm _ _).nodup_iff.1 this
  rw [e]
  have h6 := ho.n6
  refine sort_pick (newS_nd ho) (fun x hx => by have := hm x hx; unfold Ls.has at this; omega) fun t ht => ?_
  by_cases hh : s.has t
  · rw [newK_end ho hh]
  · rw [newK_not ho hh]
    symm
    rw [Bool.eq_false_iff]
    intro h
    exact hh (hm _ (List.contains_iff_mem.1 h))
/-- a map over one ask alone -/
theorem map_set : ∀ {L : List AL} {i : Nat} {g : AL → AL} {t : Int}, (L.map AL.task).Nodup → i < L.length → (L.getD i default).task = t → (∀ a, a.task ≠ t → g a = a) → L.map g = L.set i (g (L.getD i default))
  | [], i, _, _, _, h, _, _ => by simp at h
  | a :: L, 0, g, t, hn, _, ht, hg => by
    simp only [List.map_cons, List.nodup_cons] at hn
    simp only [List.getD_cons_zero] at ht
    rw [List.map_cons, List.set_cons_zero, List.getD_cons_zero]
    congr 1
    refine (List.map_congr_left fun b hb => ?_).trans (List.map_id _)
    exact hg b fun e => hn.1 (by rw [ht, ← e]; exact List.mem_map_of_mem hb)
  | a :: L, i + 1, g, t, hn, hi, ht, hg => by
    simp only [List.map_cons, List.nodup_cons] at hn
    simp only [List.getD_cons_succ] at ht
    have hi' : i < L.length := by simpa using hi
    rw [List.map_cons, List.set_cons_succ, List.getD_cons_succ, map_set hn.2 hi' ht hg]
    congr 1
    refine hg a fun e => hn.1 ?_
    rw [e, ← ht]
    have : L.getD i default = L[i] := by simp [List.getD, hi']
    rw [this]
    exact List.mem_map_of_mem (List.getElem_mem hi')
theorem placeS_set {s : Ls} (ho : LsOk s) {i : Nat} {t : Int} (hi : i < s.L.length) (ht : (s.L.getD i default).task = t) : (placeS s t).L = s.L.set i { s.L.getD i default with place := s.count + 1 } := by
  unfold placeS
  dsimp only
  rw [map_set ho.nd hi ht (fun a ha => by unfold placeF; rw [if_neg ha])]
  congr 1
  unfold placeF
  rw [if_pos ht]
theorem holdS_set {s : Ls} (ho : LsOk s) {i : Nat} {t : Int} (hi : i < s.L.length) (ht : (s.L.getD i default).task = t) : (holdS s t).L = s.L.set i { s.L.getD i default with holds := true } := by
  unfold holdS
  dsimp only
  rw [map_set ho.nd hi ht (fun a ha => by unfold holdF; rw [if_neg ha])]
  congr 1
  unfold holdF
  rw [if_pos ht]
end Go.Proofs.YtppgameimddimaaGreat

namespace Go.Proofs.YtppgameimddimaaGreat
open Go.ChangeShapes Go.WideShapes Go.ChangeAt Go.RowKit Go.Conc
set_option linter.unusedVariables false
set_option linter.unusedSimpArgs false
theorem fold_tasks (xs : List Int) : ∀ s : Ls, (xs.foldl placeS s).L.map AL.task = s.L.map AL.task := by
  induction xs with
  | nil => exact fun _ => rfl
  | cons x xs ih => exact fun s => (ih (placeS s x)).trans (tasks_map (placeF_task x _))
section
variable {w0 w w' : World} {b c g : Nat} {S : SetR} {s : Ls} {A : Option Addr}
theorem Rl.place (h : Rl w0 w b S s (some ⟨g, 0, none⟩) c) (ho : LsOk s) {j : Nat} {t : Int} (hj : j < s.L.length) (ht : (s.L.getD j default).task = t) :
    Rl w0 ((w.setCell ⟨b, 5, none⟩ (.int .i64 (s.count + 1))).drew.setCell ⟨g, j * 4 + 2, none⟩ (.int .i64 (s.count + 1))) b S (placeS s t) (some ⟨g, 0, none⟩) c := by
  have hne : b ≠ g := by have := h.ne; simpa [fp] using this
  have hg0 : w0.heap.size ≤ g := by
    obtain ⟨g', e, h1, _⟩ := h.row.at_ (by omega)
    injection e with e
    injection e with e1 e2
    omega
  have T1 : Turned [b] w (w.setCell ⟨b, 5, none⟩ (.int .i64 (s.count + 1))).drew := ((Turned.refl [b] w).setCell (.inl (by simp)) _).drew
  have T2 : Turned [b, g] w ((w.setCell ⟨b, 5, none⟩ (.int .i64 (s.count + 1))).drew.setCell ⟨g, j * 4 + 2, none⟩ (.int .i64 (s.count + 1))) := (T1.mono (by simp)).setCell (.inl (by simp)) _
  have hr : OwnA w0.heap.size (w.setCell ⟨b, 5, none⟩ (.int .i64 (s.count + 1))).drew (some ⟨g, 0, none⟩) s.L.length c s.L := h.row.turned T1 (fun k hk hb => by simp [fp] at hk hb; omega)
  have hr2 := hr.put (i := j) (f := 2) (v := .int .i64 (s.count + 1)) (x := { s.L.getD j default with place := s.count + 1 }) hj (by decide) (by simp [AL.blk])
  have hL := placeS_set ho hj ht
  have hlen : (placeS s t).L.length = s.L.length := by rw [hL, List.length_set]
  refine ⟨?_, ?_, h.ne, h.base, h.below.trans (T2.below h.below.size (fun k hk => by simp at hk; rcases hk with rfl | rfl; exact h.base; exact hg0)), h.set, h.rel⟩
  · have h1 := (h.blk.put 5 (.int .i64 (s.count + 1)))
    have h2 : Bk (w.setCell ⟨b, 5, none⟩ (.int .i64 (s.count + 1))).drew b 80 _ := h1
    have h3 := h2.turned ((Turned.refl [g] _).setCell (p := ⟨g, j * 4 + 2, none⟩) (.inl (by simp)) (.int .i64 (s.count + 1))) (by simpa using hne)
    rw [hlen]
    exact h3
  · rw [hlen, hL]
    exact hr2
theorem Rl.cnt (h : Rl w0 w b S s A c) (n : Int) : Rl w0 (w.setCell ⟨b, 5, none⟩ (.int .i64 n)) b S { s with count := n } A c := by
  have T1 : Turned [b] w (w.setCell ⟨b, 5, none⟩ (.int .i64 n)) := (Turned.refl [b] w).setCell (.inl (by simp)) _
  refine ⟨?_, h.row.turned T1 (fun k hk hb => by simp at hb; subst hb; exact h.ne hk), h.ne, h.base, h.below.trans (T1.below h.below.size (fun k hk => by simp at hk; subst hk; exact h.base)), h.set, h.rel⟩
  exact h.blk.put 5 (.int .i64 n)
set_option maxHeartbeats 8000000 in
set_option maxRecDepth 100000 in
theorem rl_lets (h : Rl w0 w b S s A c) (ho : LsOk s) (hp : s.proto = 3) (h8 : s.count < 900000) : Calls Tryz.prog 41 #[.pointer (some ⟨b, 0, none⟩)] w fun e w' => e = .returned (.tuple #[]) ∧ Rl w0 w' b S (letS s) A c ∧ Turned (b :: fp A) w w' := by
  have h6 : s.L.length ≤ 6 := Nat.le_trans (tasks_le ho) ho.n6
  have c3 := ho.c3
  have hcs : s.cores = S.cores := h.rel.2.2.2.1
  have hbl := h.blk.lt
  have hAl : ∀ k ∈ fp A, k < w.heap.size := fun k hk => (own_fp h.row.own k hk).2
  have hb := ((Below.refl w.heap.size w).alloc (Nat.le_refl _) (.cells #[.int .i64 0, .int .i64 0, .int .i64 0] 91)).alloc (by simp) (.cells #[.bool false, .bool false, .bool false, .bool false, .bool false, .bool false] 49)
  have HB1 : Hid (Bk ((w.alloc (.cells #[.int .i64 0, .int .i64 0, .int .i64 0] 91)).alloc (.cells #[.bool false, .bool false, .bool false, .bool false, .bool false, .bool false] 49)) w.heap.size 91 (triA fun d => insUp s 0 (d : Nat))) := hidp ((Bk.new w 91 #[.int .i64 0, .int .i64 0, .int .i64 0]).alloc _)
  have HB2 : Hid (Bk ((w.alloc (.cells #[.int .i64 0, .int .i64 0, .int .i64 0] 91)).alloc (.cells #[.bool false, .bool false, .bool false, .bool false, .bool false, .bool false] 49)) (w.heap.size + 1) 49 (sixB fun _ => false)) := hidp (by
    have := Bk.new (w.alloc (.cells #[.int .i64 0, .int .i64 0, .int .i64 0] 91)) 49 #[.bool false, .bool false, .bool false, .bool false, .bool false, .bool false]
    simpa [sixB] using this)
  have HR0 := hidp (h.over hb)
  have HT0 : Hid (Turned (b :: fp A) w ((w.alloc (.cells #[.int .i64 0, .int .i64 0, .int .i64 0] 91)).alloc (.cells #[.bool false, .bool false, .bool false, .bool false, .bool false, .bool false] 49))) := hidp (((Turned.refl _ w).alloc _).alloc _)
  have HO := hidp ho
  have HA := hidp hAl
  have Hcs := hidp hcs
  have Hp := hidp hp
  have Hb0 : Hid (w0.heap.size ≤ w.heap.size) := hidp h.below.size
  have hco : ∀ k, k < s.L.length → s.has (s.L.getD k default).task := fun k hk => ho.tk _ (by simp [List.getD, hk])
  have Hco := hidp hco
  clear h ho hcs hb hAl hp hco
  go_enter Tryz.func41, Tryz.ntmps41
  go_wp2
  go_loopg [4] s.L.length (fun gg i wr => ∃ k : Nat, k + gg = s.L.length ∧ i = .int .i64 k ∧ Hid (Bk wr w.heap.size 91 (triA fun d => insUp s k (d : Nat))) ∧ Hid (Bk wr (w.heap.size + 1) 49 (sixB fun _ => false)) ∧ Hid (Rl w0 wr b S s A c) ∧ Hid (Turned (b :: fp A) w wr))
  case atStart => exact ⟨0, by omega, rfl, HB1, HB2, HR0, HT0⟩
  case round =>
    clear HB1 HB2 HR0 HT0
    obtain ⟨k, hk, rfl, B1, B2, HR, HT⟩ := hrel
    have Hk := hidp hk
    have c4 : wr.cell? ⟨b, 4, none⟩ = some (.slice A s.L.length c) := HR.out.blk.cell 4
    by_cases hlt : k < s.L.length
    · obtain ⟨g, hg, hac⟩ := HR.out.at_ hlt
      have Hg := hidp hg
      rw [hg] at c4
      obtain ⟨a, Ha⟩ : ∃ a, Hid (s.L.getD k default = a) := ⟨_, hidp rfl⟩
      rw [Ha.out] at hac
      obtain ⟨x0, x1, x2, x3⟩ := hac
      obtain ⟨q, hq⟩ : ∃ q : Nat, a.task = (q : Int) := ⟨a.task.toNat, by have := Hco.out k hlt; rw [Ha.out] at this; unfold Ls.has at this; omega⟩
      have hhas : s.has (q : Int) := by have := Hco.out k hlt; rw [Ha.out, hq] at this; exact this
      obtain ⟨hq2, _, hcl, tg, tof, hta, hl1, hl2, _, y4⟩ := HR.out.task hhas
      have hcl2 := HO.out.clo _ hhas
      rw [hcl] at hcl2
      obtain ⟨m, hm⟩ : ∃ m : Nat, (S.tasks.getD q default).cl = (m : Int) := ⟨((S.tasks.getD q default).cl).toNat, by omega⟩
      rw [hm] at y4 hcl hcl2
      have hm3 : m < 3 := by omega
      have cT : wr.cell? ⟨b, 3, none⟩ = some (.slice S.ta S.tasks.length S.tc) := HR.out.blk.cell 3
      rw [hta] at cT
      rw [hq] at x0
      have cI := triA_at B1.out hm3
      obtain ⟨n, hn⟩ : ∃ n, insUp s k (m : Nat) = n := ⟨_, rfl⟩
      have hn6 : n ≤ 6 := by have := insUp_le s k (m : Nat); omega
      rw [hn] at cI
      have Hn := hidp hn
      have fz := B1.out.frozen m
      have wk1 : IntKind.i64.wrap ((k : Int) + 1) = (k : Int) + 1 := IntWalk.i64_in _ (by omega)
      have wn1 : IntKind.i64.wrap ((n : Int) + 1) = (n : Int) + 1 := IntWalk.i64_in _ (by omega)
      have kI : (k : Int) < (s.L.length : Int) := by omega
      have k0 : (0 : Int) ≤ (k : Int) := by omega
      have d3 : decide (s.L.length ≤ k) = false := decide_eq_false (by omega)
      have qI : (q : Int) < (S.tasks.length : Int) := by omega
      have q0 : (0 : Int) ≤ (q : Int) := by omega
      have dq : decide (S.tasks.length ≤ q) = false := decide_eq_false (by omega)
      have m0 : (0 : Int) ≤ (m : Int) := by omega
      have mI : (m : Int) < 3 := by omega
      have dm : decide (3 ≤ m) = false := decide_eq_false (by omega)
      unfold maxLen at hl2
      obtain ⟨pl, hpl⟩ : ∃ pl, a.place = pl := ⟨_, rfl⟩
      rw [hpl] at x2
      have Hpl := hidp hpl
      have Hq := hidp hq
      have Hcl := hidp hcl
      have Hm3 := hidp hm3
      clear hq hcl hcl2 hm hta hhas x1 x3 hn hpl hg hm3
      by_cases hpp : 0 < pl
      · have Hin : Hid (∀ d : Nat, insUp s (k + 1) (d : Nat) = insUp s k (d : Nat) + if d = m then 1 else 0) := hidp (fun d => by
          rw [insUp_next hlt, Ha.out]
          unfold AL.inAt
          rw [Hpl.out, Hq.out, Hcl.out]
          by_cases e : d = m
          · subst e; simp [hpp]
          · have : ((m : Int) == (d : Int)) = false := by simp; omega
            simp [e, this])
        have Hpp := hidp hpp
        go_wp2_with fail
        go_quiet (fail)
        go_wp2_with fail
        have tz : Turned [w.heap.size] wr ((wr.drewN nq).setCell ⟨w.heap.size, m, none⟩ (.int .i64 ((n : Int) + 1))) := ((Turned.refl [w.heap.size] wr).drewN nq).setCell (.inl (by simp)) _
        have hnb : b ≠ w.heap.size := by omega
        have hng : ∀ q ∈ fp A, q ≠ w.heap.size := fun q hq => by have := HA.out q hq; omega
        have B1a : Hid (Bk ((wr.drewN nq).setCell ⟨w.heap.size, m, none⟩ (.int .i64 ((n : Int) + 1))) w.heap.size 91 (triA fun d => insUp s (k + 1) (d : Nat))) := hidp (by
          have h9 := (B1.out.drewN nq).put m (.int .i64 ((n : Int) + 1))
          rw [← Hn.out] at h9 ⊢
          rw [triA_put (f := fun d => insUp s k (d : Nat)) (g := fun d => insUp s (k + 1) (d : Nat)) Hm3.out Hin.out] at h9
          exact h9)
        have B2a := hidp (B2.out.turned tz (by simp))
        have HRa := hidp (HR.out.turned tz (by simpa using hnb) (fun q hq hm => hng q hq (by simpa using hm)) (fun q hq => by simp at hq; subst hq; exact Hb0.out))
        have HTa := hidp (HT.out.trans tz (fun i hi => by simp at hi; subst hi; right; exact Nat.le_refl _))
        go_roundg (s.L.length - k - 1)
        case measure => have := Hk.out; omega
        case rel => exact ⟨k + 1, by have := Hk.out; omega, by go_num, B1a, B2a, HRa, HTa⟩
      · have Hin : Hid (∀ d : Nat, insUp s (k + 1) (d : Nat) = insUp s k (d : Nat)) := hidp (fun d => by
          rw [insUp_next hlt, Ha.out]
          unfold AL.inAt
          rw [Hpl.out]
          simp [hpp])
        have npp : decide (0 < pl) = false := decide_eq_false hpp
        have B1a : Hid (Bk wr w.heap.size 91 (triA fun d => insUp s (k + 1) (d : Nat))) := hidp (by rw [triA_same Hin.out]; exact B1.out)
        clear hpp
        go_wp2_with fail
        go_roundg (s.L.length - k - 1)
        case measure => have := Hk.out; omega
        case rel => exact ⟨k + 1, by have := Hk.out; omega, by go_num, B1a, B2, HR, HT⟩
    · obtain rfl : k = s.L.length := by omega
      have B1s : Hid (Bk wr w.heap.size 91 (triA fun d => inK s 0 d)) := hidp (by
        rw [triA_same (f := fun d => insUp s s.L.length (d : Nat)) (fun d => by rw [inK_zero, insUp_end])]; exact B1.out)
      have B2s : Hid (Bk wr (w.heap.size + 1) 49 (sixB fun t => newK s 0 t)) := hidp (by
        rw [sixB_same (f := fun _ => false) (fun t => newK_zero s t)]; exact B2.out)
      clear B1 B2 Hk hk
      go_wp2
      go_loopg [6] s.L.length (fun gg i wr => ∃ k : Nat, k + gg = s.L.length ∧ i = .int .i64 k ∧ Hid (Bk wr w.heap.size 91 (triA fun d => inK s k d)) ∧ Hid (Bk wr (w.heap.size + 1) 49 (sixB fun t => newK s k t)) ∧ Hid (Rl w0 wr b S s A c) ∧ Hid (Turned (b :: fp A) w wr))
      case atStart => exact ⟨0, by omega, rfl, B1s, B2s, HR, HT⟩
      case round =>
        clear B1s B2s HR HT
        obtain ⟨k, hk, rfl, B1, B2, HR, HT⟩ := hrel
        have Hk := hidp hk
        have c4 : wr.cell? ⟨b, 4, none⟩ = some (.slice A s.L.length c) := HR.out.blk.cell 4
        by_cases hlt : k < s.L.length
        · obtain ⟨g, hg, hac⟩ := HR.out.at_ hlt
          have Hg := hidp hg
          rw [hg] at c4
          obtain ⟨a, Ha⟩ : ∃ a, Hid (s.L.getD k default = a) := ⟨_, hidp rfl⟩
          rw [Ha.out] at hac
          obtain ⟨x0, x1, x2, x3⟩ := hac
          obtain ⟨q, hq⟩ : ∃ q : Nat, a.task = (q : Int) := ⟨a.task.toNat, by have := Hco.out k hlt; rw [Ha.out] at this; unfold Ls.has at this; omega⟩
          have hhas : s.has (q : Int) := by have := Hco.out k hlt; rw [Ha.out, hq] at this; exact this
          have hq6 : q < 6 := by have := HO.out.n6; unfold Ls.has at hhas; omega
          obtain ⟨hq2, _, hcl, tg, tof, hta, hl1, hl2, _, y4⟩ := HR.out.task hhas
          have hcl2 := HO.out.clo _ hhas
          rw [hcl] at hcl2
          obtain ⟨m, hm⟩ : ∃ m : Nat, (S.tasks.getD q default).cl = (m : Int) := ⟨((S.tasks.getD q default).cl).toNat, by omega⟩
          rw [hm] at y4 hcl hcl2
          have hm3 : m < 3 := by omega
          have hmc : m < S.cores.length := by have := hcl2.2; rw [Hcs.out] at this; omega
          obtain ⟨cg, co, hca, hcc⟩ := HR.out.set.cores.at_.resolve_left (by intro e; rw [e] at hmc; simp at hmc)
          have cC0 := Keeps.of_below HR.out.below _ _ (hcc m hmc)
          have hcsl := HR.out.set.cores.sl
          obtain ⟨cm, hcm⟩ : ∃ cm, S.cores.getD m 0 = cm := ⟨_, rfl⟩
          rw [hcm] at cC0
          have Hcm := hidp hcm
          have cT : wr.cell? ⟨b, 3, none⟩ = some (.slice S.ta S.tasks.length S.tc) := HR.out.blk.cell 3
          have cC : wr.cell? ⟨b, 1, none⟩ = some (.slice S.ca S.cores.length S.cc) := HR.out.blk.cell 1
          rw [hta] at cT
          rw [hca] at cC
          rw [hq] at x0
          have cI := triA_at B1.out hm3
          obtain ⟨n, hn⟩ : ∃ n, inK s k m = n := ⟨_, rfl⟩
          rw [hn] at cI
          have Hn := hidp hn
          have Hroom := hidp (room_iff (s := s) k m)
          have hn12 : n ≤ 12 := by
            have h1 : (insS s (m : Nat)).length ≤ 6 := by unfold insS; rw [List.length_map]; exact Nat.le_trans (List.length_filter_le _ _) h6
            have h2 : (outsUp s k (m : Nat)).length ≤ 6 := by unfold outsUp; rw [List.length_map]; exact Nat.le_trans (List.length_filter_le _ _) (by rw [List.length_take]; omega)
            unfold inK at hn; omega
          have fz := B1.out.frozen m
          have fy := B2.out.frozen q
          obtain ⟨nb, cQ⟩ : ∃ nb, wr.cell? ⟨w.heap.size + 1, q, none⟩ = some (.bool nb) := ⟨_, sixB_at B2.out hq6⟩
          have wk1 : IntKind.i64.wrap ((k : Int) + 1) = (k : Int) + 1 := IntWalk.i64_in _ (by omega)
          have wn1 : IntKind.i64.wrap ((n : Int) + 1) = (n : Int) + 1 := IntWalk.i64_in _ (by omega)
          have kI : (k : Int) < (s.L.length : Int) := by omega
          have k0 : (0 : Int) ≤ (k : Int) := by omega
          have d3 : decide (s.L.length ≤ k) = false := decide_eq_false (by omega)
          have qI : (q : Int) < (S.tasks.length : Int) := by omega
          have q0 : (0 : Int) ≤ (q : Int) := by omega
          have q6I : (q : Int) < 6 := by omega
          have dq : decide (S.tasks.length ≤ q) = false := decide_eq_false (by omega)
          have dq6 : decide (6 ≤ q) = false := decide_eq_false (by omega)
          have m0 : (0 : Int) ≤ (m : Int) := by omega
          have mI : (m : Int) < 3 := by omega
          have mcI : (m : Int) < (S.cores.length : Int) := by omega
          have dm : decide (3 ≤ m) = false := decide_eq_false (by omega)
          have dmc : decide (S.cores.length ≤ m) = false := decide_eq_false (by omega)
          unfold maxLen at hl2
          obtain ⟨pl, hpl⟩ : ∃ pl, a.place = pl := ⟨_, rfl⟩
          rw [hpl] at x2
          have Hpl := hidp hpl
          have Hq := hidp hq
          have Hcl := hidp hcl
          have Hm3 := hidp hm3
          have Hq6 := hidp hq6
          clear hq hcl hcl2 hm hta hhas x1 x3 hn hpl hg hm3 hcc hca hcm
          by_cases hpp : pl = 0
          · have Hout : Hid (AL.outAt s (m : Nat) (s.L.getD k default) = true) := hidp (by rw [Ha.out]; unfold AL.outAt; rw [Hpl.out, Hq.out, Hcl.out, hpp]; simp)
            have e0 : (pl == 0) = true := by simp [hpp]
            have Hpp := hidp hpp
            clear hpp
            by_cases hin : (n : Int) < cm
            · have Hr : Hid ((outsUp s k (m : Nat)).length < roomS s m) := hidp (by rw [← Hroom.out, Hn.out, Hcs.out, Hcm.out]; exact hin)
              have din : decide ((n : Int) < cm) = true := decide_eq_true hin
              go_wp2_with fail
              go_quiet (fail)
              revert nq
              intro n1
              go_wp2_with fail
              go_quiet (fail)
              have hnb : b ≠ w.heap.size := by omega
              have hnb2 : b ≠ w.heap.size + 1 := by omega
              have tz1 : Turned [w.heap.size] wr ((wr.drewN (n1 + nq)).setCell ⟨w.heap.size, m, none⟩ (.int .i64 ((n : Int) + 1))) := ((Turned.refl [w.heap.size] wr).drewN (n1 + nq)).setCell (.inl (by simp)) _
              have HR1 := hidp (HR.out.turned tz1 (by simpa using hnb) (fun q hq hm => by have := HA.out q hq; simp at hm; omega) (fun q hq => by simp at hq; subst hq; exact Hb0.out))
              have B21 := hidp (B2.out.turned tz1 (by simp))
              have B11 : Hid (Bk ((wr.drewN (n1 + nq)).setCell ⟨w.heap.size, m, none⟩ (.int .i64 ((n : Int) + 1))) w.heap.size 91 (triA fun d => inK s (k + 1) d)) := hidp (by
                have h9 := (B1.out.drewN (n1 + nq)).put m (.int .i64 ((n : Int) + 1))
                rw [← Hn.out] at h9 ⊢
                rw [triA_put (f := fun d => inK s k d) (g := fun d => inK s (k + 1) d) Hm3.out (inK_in hlt Hout.out Hr.out)] at h9
                exact h9)
              have c41 : ((wr.drewN (n1 + nq)).setCell ⟨w.heap.size, m, none⟩ (.int .i64 ((n : Int) + 1))).cell? ⟨b, 4, none⟩ = some (.slice (some ⟨g, 0, none⟩) s.L.length c) := by rw [← Hg.out]; exact HR1.out.blk.cell 4
              have x01 : ((wr.drewN (n1 + nq)).setCell ⟨w.heap.size, m, none⟩ (.int .i64 ((n : Int) + 1))).cell? ⟨g, k * 4, none⟩ = some (.int .i64 (q : Int)) := by
                obtain ⟨g', hg', hac'⟩ := HR1.out.at_ hlt
                have := hg'.symm.trans Hg.out
                injection this with this
                injection this with this
                subst this
                rw [Ha.out] at hac'
                rw [← Hq.out]
                exact hac'.1
              have fy1 := B21.out.frozen q
              go_wp2_with fail
              have tz2 : Turned [w.heap.size + 1] ((wr.drewN (n1 + nq)).setCell ⟨w.heap.size, m, none⟩ (.int .i64 ((n : Int) + 1))) (((wr.drewN (n1 + nq)).setCell ⟨w.heap.size, m, none⟩ (.int .i64 ((n : Int) + 1))).setCell ⟨w.heap.size + 1, q, none⟩ (.bool true)) := (Turned.refl [w.heap.size + 1] _).setCell (.inl (by simp)) _
              have HR2 := hidp (HR1.out.turned tz2 (by simpa using hnb2) (fun q hq hm => by have := HA.out q hq; simp at hm; omega) (fun q hq => by simp at hq; subst hq; have := Hb0.out; omega))
              have B12 := hidp (B11.out.turned tz2 (by simp))
              have B22 : Hid (Bk (((wr.drewN (n1 + nq)).setCell ⟨w.heap.size, m, none⟩ (.int .i64 ((n : Int) + 1))).setCell ⟨w.heap.size + 1, q, none⟩ (.bool true)) (w.heap.size + 1) 49 (sixB fun t => newK s (k + 1) t)) := hidp (by
                have h9 := B21.out.put q (.bool true)
                rw [sixB_put (f := fun t => newK s k t) (g := fun t => newK s (k + 1) t) Hq6.out (fun t => by
                  rw [newK_more HO.out hlt Hout.out Hr.out, Ha.out, Hq.out]
                  rw [decide_eq_decide.2 (show ((t : Int) = (q : Int)) ↔ t = q by omega)])] at h9
                exact h9)
              have HTa := hidp ((HT.out.trans tz1 (fun i hi => by simp at hi; subst hi; right; exact Nat.le_refl _)).trans tz2 (fun i hi => by simp at hi; subst hi; right; omega))
              go_roundg (s.L.length - k - 1)
              case measure => have := Hk.out; omega
              case rel => exact ⟨k + 1, by have := Hk.out; omega, by go_num, B12, B22, HR2, HTa⟩
            · have Hr : Hid (∀ d : Nat, AL.outAt s d (s.L.getD k default) = true → roomS s d ≤ (outsUp s k d).length) := hidp (fun d hd => by
                have h1 := out_at (d := m) hd
                rw [Hout.out] at h1
                have h2 : m = d := by simpa using h1.symm
                subst h2
                have h3 := (not_congr Hroom.out).1 (by rw [Hn.out, Hcs.out, Hcm.out]; exact hin)
                omega)
              have din : decide ((n : Int) < cm) = false := decide_eq_false hin
              have B1a : Hid (Bk wr w.heap.size 91 (triA fun d => inK s (k + 1) d)) := hidp (by rw [triA_same (fun d => inK_skip hlt Hr.out d)]; exact B1.out)
              have B2a : Hid (Bk wr (w.heap.size + 1) 49 (sixB fun t => newK s (k + 1) t)) := hidp (by rw [sixB_same (fun t => newK_same hlt HO.out Hr.out t)]; exact B2.out)
              clear hin
              go_wp2_with fail
              go_quiet (fail)
              revert nq
              intro n1
              go_wp2_with fail
              go_quiet (fail)
              go_wp2_with fail
              go_roundg (s.L.length - k - 1)
              case measure => have := Hk.out; omega
              case rel => exact ⟨k + 1, by have := Hk.out; omega, by go_num, hidp (B1a.out.drewN _), hidp (B2a.out.drewN _), hidp (HR.out.turned ((Turned.refl [] wr).drewN _) (by simp) (by simp) (by simp)), hidp (HT.out.drewN _)⟩
          · have e0 : (pl == 0) = false := by simpa using hpp
            have Hr : Hid (∀ d : Nat, AL.outAt s d (s.L.getD k default) = true → roomS s d ≤ (outsUp s k d).length) := hidp (fun d hd => by
              rw [Ha.out] at hd
              unfold AL.outAt at hd
              rw [Hpl.out] at hd
              simp [hpp] at hd)
            have B1a : Hid (Bk wr w.heap.size 91 (triA fun d => inK s (k + 1) d)) := hidp (by rw [triA_same (fun d => inK_skip hlt Hr.out d)]; exact B1.out)
            have B2a : Hid (Bk wr (w.heap.size + 1) 49 (sixB fun t => newK s (k + 1) t)) := hidp (by rw [sixB_same (fun t => newK_same hlt HO.out Hr.out t)]; exact B2.out)
            clear hpp
            go_wp2_with fail
            go_quiet (fail)
            revert nq
            intro n1
            go_wp2_with fail
            go_quiet (fail)
            go_wp2_with fail
            go_roundg (s.L.length - k - 1)
            case measure => have := Hk.out; omega
            case rel => exact ⟨k + 1, by have := Hk.out; omega, by go_num, hidp (B1a.out.drewN _), hidp (B2a.out.drewN _), hidp (HR.out.turned ((Turned.refl [] wr).drewN _) (by simp) (by simp) (by simp)), hidp (HT.out.drewN _)⟩
        · obtain rfl : k = s.L.length := by omega
          have Hpk := hidp (newS_pick HO.out)
          obtain ⟨f, Hf⟩ : ∃ f, Hid (newK s s.L.length = f) := ⟨_, hidp rfl⟩
          have B2s : Hid (Bk wr (w.heap.size + 1) 49 (sixB f)) := hidp (by rw [← Hf.out]; exact B2.out)
          have Hpk2 : Hid (pickL f 6 = newS s) := hidp (by rw [← Hf.out]; exact Hpk.out)
          have h8' : s.count ≤ 900000 := by omega
          clear B1 B2 Hk hk
          go_wp2
          go_loopg [8] 6 (fun gg i wr => ∃ (k : Nat) (sk : Ls), k + gg = 6 ∧ i = .int .i64 k ∧ Hid ((pickL f k).foldl placeS s = sk) ∧ Hid (LsOk sk ∧ sk.proto = 3) ∧ Hid (Bk wr (w.heap.size + 1) 49 (sixB f)) ∧ Hid (Rl w0 wr b S sk A c) ∧ Hid (Turned (b :: fp A) w wr) ∧ sk.count ≤ s.count + k)
          case atStart => exact ⟨0, s, by omega, rfl, hidp rfl, hidp ⟨HO.out, Hp.out⟩, B2s, HR, HT, by omega⟩
          case round =>
            clear B2s HR HT
            obtain ⟨k, sk, hk, rfl, Hsk, HOk, B2, HR, HT, hcnt⟩ := hrel
            have Hk := hidp hk
            by_cases hlt : k < 6
            · have cF := sixB_at B2.out hlt
              have wk1 : IntKind.i64.wrap ((k : Int) + 1) = (k : Int) + 1 := IntWalk.i64_in _ (by omega)
              have kI : (k : Int) < 6 := by omega
              have k0 : (0 : Int) ≤ (k : Int) := by omega
              have d6 : decide (6 ≤ k) = false := decide_eq_false (by omega)
              cases hf : f k with
              | false =>
                rw [hf] at cF
                have Hsk2 : Hid ((pickL f (k + 1)).foldl placeS s = sk) := hidp (by rw [pickL_next, hf]; simpa using Hsk.out)
                clear hf
                go_wp2_with fail
                go_roundg (6 - k - 1)
                case measure => have := Hk.out; omega
                case rel => exact ⟨k + 1, sk, by have := Hk.out; omega, by go_num, Hsk2, HOk, B2, HR, HT, by omega⟩
              | true =>
                rw [hf] at cF
                have Hsk2 : Hid ((pickL f (k + 1)).foldl placeS s = placeS sk (k : Int)) := hidp (by rw [pickL_next, hf, if_pos rfl, List.foldl_append, Hsk.out]; rfl)
                have hin : (k : Int) ∈ newS s := by rw [← Hpk2.out, pickL_mem]; exact ⟨k, hlt, hf, rfl⟩
                have htk : sk.L.map AL.task = s.L.map AL.task := by rw [← Hsk.out]; exact fold_tasks _ s
                have hget : ∃ j, j < sk.L.length ∧ atV sk (k : Int) = j ∧ (sk.L.getD j default).task = (k : Int) := by
                  rcases atV_cases sk (k : Int) with ⟨j, hj, e1, e2⟩ | ⟨e1, e2⟩
                  · exact ⟨j, hj, e1, (get_mem e2).2⟩
                  · obtain ⟨a, ha, hat, _⟩ := newS_out hin
                    have : (k : Int) ∈ sk.L.map AL.task := by rw [htk, ← hat]; exact List.mem_map_of_mem ha
                    obtain ⟨a', ha', e'⟩ := List.mem_map.1 this
                    exact absurd e' (get_none.1 e2 a' ha')
                obtain ⟨j, hj, e1, e2⟩ := hget
                obtain ⟨g, hg, _⟩ := HR.out.at_ hj
                have Hg := hidp hg
                subst hg
                have HRc := hidp (HR.out.cnt (sk.count + 1))
                have CA := rl_at (HRc.out.turned ((Turned.refl [] _).drew) (by simp) (by simp) (by simp)) (k : Int)
                have e1' : atV { sk with count := sk.count + 1 } (k : Int) = j := e1
                rw [e1'] at CA
                have c5 : wr.cell? ⟨b, 5, none⟩ = some (.int .i64 sk.count) := HR.out.blk.cell 5
                have f5 := HR.out.blk.frozen 5
                have z4 : (wr.setCell ⟨b, 5, none⟩ (.int .i64 (sk.count + 1))).drew.cell? ⟨b, 4, none⟩ = some (.slice (some ⟨g, 0, none⟩) sk.L.length c) := HRc.out.blk.cell 4
                have z5 : (wr.setCell ⟨b, 5, none⟩ (.int .i64 (sk.count + 1))).drew.cell? ⟨b, 5, none⟩ = some (.int .i64 (sk.count + 1)) := HRc.out.blk.cell 5
                have fg : (wr.setCell ⟨b, 5, none⟩ (.int .i64 (sk.count + 1))).drew.frozen? ⟨g, j * 4 + 2, none⟩ = false := ownE_frozen HRc.out.row.own (j * 4 + 2)
                have x2 : (wr.setCell ⟨b, 5, none⟩ (.int .i64 (sk.count + 1))).drew.cell? ⟨g, j * 4 + 2, none⟩ = some (.int .i64 ((sk.L.getD j default).place)) := (HRc.out.row.cells hj).2.2.1
                have hs := And.intro z4 z5
                have c0k := HOk.out.1.c0
                have wc1 : IntKind.i64.wrap (sk.count + 1) = sk.count + 1 := IntWalk.i64_in _ (by omega)
                have jI : (j : Int) < (sk.L.length : Int) := by omega
                have j0 : (0 : Int) ≤ (j : Int) := by omega
                have dj : decide (sk.L.length ≤ j) = false := decide_eq_false (by omega)
                have hcap := HR.out.row.cap
                have hm := hcap.2
                unfold maxLen at hm
                have HPl := hidp (HR.out.place HOk.out.1 hj e2)
                have HTa : Hid (Turned (b :: fp (some ⟨g, 0, none⟩)) w ((wr.setCell ⟨b, 5, none⟩ (.int .i64 (sk.count + 1))).drew.setCell ⟨g, j * 4 + 2, none⟩ (.int .i64 (sk.count + 1)))) := hidp (((HT.out.setCell (.inl (by simp)) _).drew).setCell (.inl (by simp [fp])) _)
                have HOk2 : Hid (LsOk (placeS sk (k : Int)) ∧ (placeS sk (k : Int)).proto = 3) := hidp ⟨HOk.out.1.place _ HOk.out.2, HOk.out.2⟩
                clear hf hin htk e1 e2 e1' HRc HR HT
                go_wp2_with fail
                refine wp_region_last_drew 13 (S := fun w' => w'.cell? ⟨b, 4, none⟩ = some (.slice (some ⟨g, 0, none⟩) sk.L.length c) ∧ w'.cell? ⟨b, 5, none⟩ = some (.int .i64 (sk.count + 1))) (by kernel_rfl) (by kernel_rfl) ?_ (fun hHeld => ?_)
                · exact hs
                refine wpAnyH_take (i := 0) (v := ?_) rfl (by kernel_rfl) (by kernel_rfl) (by kernel_rfl) (fun _ _ _ h => h) (Or.inl ⟨by rfl, ?_⟩) (by assumption) ?_
                rotate_left 1
                · ((intro w hSw; (try dsimp only at hSw); go_simp); (try with_reducible rfl))
                simp only [Act.put, List.setIfInBounds_toArray, List.set_cons_zero, List.set_cons_succ, List.getElem_toArray, List.getElem_cons_zero, List.getElem_cons_succ]
                refine wpAnyH_take (i := 1) (v := ?_) rfl (by kernel_rfl) (by kernel_rfl) (by kernel_rfl) (fun _ _ _ h => h) (Or.inl ⟨by rfl, ?_⟩) (by assumption) ?_
                rotate_left 1
                · ((intro w hSw; (try dsimp only at hSw); go_simp); (try with_reducible rfl))
                simp only [Act.put, List.setIfInBounds_toArray, List.set_cons_zero, List.set_cons_succ, List.getElem_toArray, List.getElem_cons_zero, List.getElem_cons_succ]
                refine wpAnyH_take (i := 2) (v := ?_) rfl (by kernel_rfl) (by kernel_rfl) (by kernel_rfl) (fun _ _ _ h => h) (Or.inl ⟨by rfl, ?_⟩) (by assumption) ?_
                rotate_left 1
                · ((intro w hSw; (try dsimp only at hSw); go_simp); (try with_reducible rfl))
                simp only [Act.put, List.setIfInBounds_toArray, List.set_cons_zero, List.set_cons_succ, List.getElem_toArray, List.getElem_cons_zero, List.getElem_cons_succ]
                refine wpAnyH_take (i := 3) (v := ?_) rfl (by kernel_rfl) (by kernel_rfl) (by kernel_rfl) (fun _ _ _ h => h) (Or.inl ⟨by rfl, ?_⟩) (by assumption) ?_
                rotate_left 1
                · ((intro w hSw; (try dsimp only at hSw); go_simp); (try with_reducible rfl))
                simp only [Act.put, List.setIfInBounds_toArray, List.set_cons_zero, List.set_cons_succ, List.getElem_toArray, List.getElem_cons_zero, List.getElem_cons_succ]
                refine wpAnyH_take (i := 4) (v := ?_) rfl (by kernel_rfl) (by kernel_rfl) (by kernel_rfl) (fun _ _ _ h => h) (Or.inl ⟨by rfl, ?_⟩) (by assumption) ?_
                rotate_left 1
                · ((intro w hSw; (try dsimp only at hSw); go_simp); (try with_reducible rfl))
                simp only [Act.put, List.setIfInBounds_toArray, List.set_cons_zero, List.set_cons_succ, List.getElem_toArray, List.getElem_cons_zero, List.getElem_cons_succ]
                refine wpAnyH_take (i := 5) (v := ?_) rfl (by kernel_rfl) (by kernel_rfl) (by kernel_rfl) (fun _ _ _ h => h) (Or.inl ⟨by rfl, ?_⟩) (by assumption) ?_
                rotate_left 1
                · ((intro w hSw; (try dsimp only at hSw); go_simp); (try with_reducible rfl))
                simp only [Act.put, List.setIfInBounds_toArray, List.set_cons_zero, List.set_cons_succ, List.getElem_toArray, List.getElem_cons_zero, List.getElem_cons_succ]
                refine wpAnyH_take (i := 7) (v := ?_) rfl (by kernel_rfl) (by kernel_rfl) (by kernel_rfl) (fun _ _ _ h => h) (Or.inl ⟨by rfl, ?_⟩) (by assumption) ?_
                rotate_left 1
                · ((intro w hSw; (try dsimp only at hSw); go_simp); (try with_reducible rfl))
                simp only [Act.put, List.setIfInBounds_toArray, List.set_cons_zero, List.set_cons_succ, List.getElem_toArray, List.getElem_cons_zero, List.getElem_cons_succ]
                refine wpAnyH_take (i := 8) (v := ?_) rfl (by kernel_rfl) (by kernel_rfl) (by kernel_rfl) (fun _ _ _ h => h) (Or.inl ⟨by rfl, ?_⟩) (by assumption) ?_
                rotate_left 1
                · ((intro w hSw; (try dsimp only at hSw); go_simp); (try with_reducible rfl))
                simp only [Act.put, List.setIfInBounds_toArray, List.set_cons_zero, List.set_cons_succ, List.getElem_toArray, List.getElem_cons_zero, List.getElem_cons_succ]
                refine wpAnyH_take (i := 9) (v := ?_) rfl (by kernel_rfl) (by kernel_rfl) (by kernel_rfl) (fun _ _ _ h => h) (Or.inl ⟨by rfl, ?_⟩) (by assumption) ?_
                rotate_left 1
                · ((intro w hSw; (try dsimp only at hSw); go_simp); (try with_reducible rfl))
                simp only [Act.put, List.setIfInBounds_toArray, List.set_cons_zero, List.set_cons_succ, List.getElem_toArray, List.getElem_cons_zero, List.getElem_cons_succ]
                refine wpAnyH_take (i := 10) (v := ?_) rfl (by kernel_rfl) (by kernel_rfl) (by kernel_rfl) (fun _ _ _ h => h) (Or.inl ⟨by rfl, ?_⟩) (by assumption) ?_
                rotate_left 1
                · ((intro w hSw; (try dsimp only at hSw); go_simp); (try with_reducible rfl))
                simp only [Act.put, List.setIfInBounds_toArray, List.set_cons_zero, List.set_cons_succ, List.getElem_toArray, List.getElem_cons_zero, List.getElem_cons_succ]
                refine wpAnyH_ready (rs := [6]) (by kernel_rfl) (by simp) ?_
                refine AllReadyH.cons rfl (fun K hK => ?_) AllReadyH.nil
                go_simp
                refine CA.mono ?_
                rintro e w' ⟨rfl, rfl⟩
                refine hK.out _ _ ?_ (fun hHeld => ?_)
                · exact hs
                clear hK K
                try simp only [Act.put, List.setIfInBounds_toArray, List.set_cons_zero, List.set_cons_succ, List.getElem_toArray, List.getElem_cons_zero, List.getElem_cons_succ]
                refine wpAnyH_take (i := 11) (v := ?_) rfl (by kernel_rfl) (by kernel_rfl) (by kernel_rfl) (fun _ _ _ h => h) (Or.inl ⟨by rfl, ?_⟩) (by assumption) ?_
                rotate_left 1
                · ((intro w hSw; (try dsimp only at hSw); go_simp); (try with_reducible rfl))
                simp only [Act.put, List.setIfInBounds_toArray, List.set_cons_zero, List.set_cons_succ, List.getElem_toArray, List.getElem_cons_zero, List.getElem_cons_succ]
                refine wpAnyH_take (i := 12) (v := ?_) rfl (by kernel_rfl) (by kernel_rfl) (by kernel_rfl) (fun _ _ _ h => h) (Or.inl ⟨by rfl, ?_⟩) (by assumption) ?_
                rotate_left 1
                · ((intro w hSw; (try dsimp only at hSw); go_simp); (try with_reducible rfl))
                simp only [Act.put, List.setIfInBounds_toArray, List.set_cons_zero, List.set_cons_succ, List.getElem_toArray, List.getElem_cons_zero, List.getElem_cons_succ]
                refine last_done (by kernel_rfl) ?_ _
                refine wpS_list 13 (L := _) (by simp only [List.drop_succ_cons, List.drop_zero]; rfl) (by rfl) ?_
                go_wp2_with fail
                go_roundg (6 - k - 1)
                case measure => have := Hk.out; omega
                case rel => exact ⟨k + 1, placeS sk (k : Int), by have := Hk.out; omega, by go_num, Hsk2, HOk2, hidp (B2.out.turned (((((Turned.refl [b, g] wr).setCell (.inl (by simp)) _).drew).setCell (.inl (by simp)) _)) (by have := HA.out g (by simp [fp]); simp; omega)), HPl, HTa, by show sk.count + 1 ≤ _; omega⟩
            · obtain rfl : k = 6 := by omega
              have Hend : Hid (sk = letS s) := hidp (by rw [← Hsk.out, Hpk2.out]; rfl)
              go_wp2
              go_end0
              exact ⟨rfl, by rw [← Hend.out]; exact HR.out, HT.out⟩
end
end Go.Proofs.YtppgameimddimaaGreat

namespace Go.Proofs.YtppgameimddimaaGreat
open Go.ChangeShapes Go.WideShapes Go.ChangeAt Go.RowKit Go.Conc
set_option linter.unusedVariables false
set_option linter.unusedSimpArgs false
/-- who was granted up to now -/
def OutOk (s : Ls) (out : List Int) : Prop := out.Nodup ∧ ∀ x ∈ out, (0 ≤ x ∧ x < 6) ∧ holdsS s x = true
theorem OutOk.nil (s : Ls) : OutOk s [] := ⟨List.nodup_nil, fun x hx => by simp at hx⟩
theorem holdsS_hold {s : Ls} (ho : LsOk s) {a : AL} (ha : a ∈ s.L) (x : Int) : holdsS (holdS s a.task) x = (holdsS s x || decide (x = a.task)) := by
  unfold holdsS
  rw [get_hold]
  by_cases e : x = a.task
  · subst e
    rw [ho.get_of ha]
    simp [holdF]
  · rw [decide_eq_false e, Bool.or_false]
    cases hg : s.get x with
    | none => rfl
    | some b =>
      have : ¬ b.task = a.task := fun h => e ((get_mem hg).2.symm.trans h)
      show (holdF a.task b).holds = b.holds
      unfold holdF
      rw [if_neg this]
theorem OutOk.next {s : Ls} {out : List Int} (h : OutOk s out) (ho : LsOk s) {a : AL} (ha : a ∈ s.L) (hh : a.holds = false) : OutOk (holdS s a.task) (out ++ [a.task]) := by
  have hn : holdsS s a.task = false := by unfold holdsS; rw [ho.get_of ha]; exact hh
  have ht := ho.tk a ha
  have h6 := ho.n6
  unfold Ls.has at ht
  refine ⟨?_, fun x hx => ?_⟩
  · rw [List.nodup_append]
    refine ⟨h.1, by simp, fun x hx y hy e => ?_⟩
    simp at hy
    have := (h.2 x hx).2
    rw [e, hy, hn] at this
    cases this
  · rw [holdsS_hold ho ha]
    rcases List.mem_append.1 hx with h1 | h1
    · rw [(h.2 x h1).2]; exact ⟨(h.2 x h1).1, rfl⟩
    · simp at h1; subst h1; exact ⟨by omega, by simp⟩
section
variable {w0 w w' : World} {b c g : Nat} {S : SetR} {s : Ls} {A : Option Addr}
theorem Rl.hold (h : Rl w0 w b S s (some ⟨g, 0, none⟩) c) (ho : LsOk s) {j : Nat} {t : Int} (hj : j < s.L.length) (ht : (s.L.getD j default).task = t) :
    Rl w0 (w.setCell ⟨g, j * 4 + 3, none⟩ (.bool true)) b S (holdS s t) (some ⟨g, 0, none⟩) c := by
  have hne : b ≠ g := by have := h.ne; simpa [fp] using this
  have hg0 : w0.heap.size ≤ g := by
    obtain ⟨g', e, h1, _⟩ := h.row.at_ (by omega)
    injection e with e
    injection e with e1 e2
    omega
  have T1 : Turned [g] w (w.setCell ⟨g, j * 4 + 3, none⟩ (.bool true)) := (Turned.refl [g] w).setCell (.inl (by simp)) _
  have hr2 := h.row.put (i := j) (f := 3) (v := .bool true) (x := { s.L.getD j default with holds := true }) hj (by decide) (by simp [AL.blk])
  have hL := holdS_set ho hj ht
  have hlen : (holdS s t).L.length = s.L.length := by rw [hL, List.length_set]
  refine ⟨?_, ?_, h.ne, h.base, h.below.trans (T1.below h.below.size (fun k hk => by simp at hk; subst hk; exact hg0)), h.set, h.rel⟩
  · rw [hlen]
    exact h.blk.turned T1 (by simpa using hne)
  · rw [hlen, hL]
    exact hr2
set_option maxHeartbeats 8000000 in
set_option maxRecDepth 100000 in
theorem rl_grant (h : Rl w0 w b S s A c) (ho : LsOk s) (h8 : s.count < 900000) : Calls Tryz.prog 16 #[.pointer (some ⟨b, 0, none⟩)] w fun e w' => ∃ B n k, e = .returned (.slice B n k) ∧ OwnInts w.heap.size w' B n k (grantL s) ∧ RlPost w0 w b S (grantS s) w' := by
  have h6 : s.L.length ≤ 6 := Nat.le_trans (tasks_le ho) ho.n6
  have c4 : w.cell? ⟨b, 4, none⟩ = some (.slice A s.L.length c) := h.blk.cell 4
  have hcap := h.row.cap
  have hm := hcap.2
  unfold maxLen at hm
  have hbl := h.blk.lt
  have HR0 := hidp h
  have HO := hidp ho
  have S1 : Hid (Lies w.heap.size w A (alc s.L)) := hidp (Lies.of_own h.row.own)
  have L1 : Hid ((alc s.L).length = s.L.length * 4) := hidp (alc_len _)
  have O1 := hidp (alc_one s.L)
  have M1 : Hid (0 + s.L.length ≤ maxLen) := hidp (by unfold maxLen; omega)
  have N1 : Hid ((0 + s.L.length) * 32 ≤ 140737488355328) := hidp (by omega)
  have Pn : Hid (A = none → s.L.length = 0 ∧ c = 0) := hidp h.row.nil
  have Sz0 : Hid (w0.heap.size ≤ w.heap.size) := hidp h.below.size
  obtain ⟨i0, hi0, hy0, hy1, hy2⟩ := info_parts infoAL
  obtain ⟨j0, hj0, hk0, hk1, hk2⟩ := info_parts infoInt
  have hn0 := World.ownsRow_nil w w0.heap.size 84 4
  have Hpr : Hid (s.proto = S.proto) := hidp h.rel.1
  have f4 := h.blk.frozen 4
  have HS1 := hidp (letS_all ho).1
  clear h ho
  by_cases hp : S.proto = 3
  · have hp1 : (S.proto == 3) = true := by simp [hp]
    go_enter Tryz.func16, Tryz.ntmps16
    go_wp2_with (at_builtin; refine wpList_app2 w rfl (.const (.slice none 0 0)) (.tmp 11) 78 rfl w0.heap.size 84 i0 _ 4 32 Tryz.underlying78 hi0 hy0 hy1 hy2 rfl (by decide) none 0 0 [] rfl hn0 _ _ s.L.length c (alc s.L) rfl Pn.out L1.out S1.out O1.out M1.out N1.out Sz0.out ?_; intro B1 k1 w1 happ; have d4 : w1.cell? ⟨b, 4, none⟩ = some (.slice A s.L.length c) := (HR0.out.blk.turned happ.turned (by simp [fp])).cell 4; have g4 := (HR0.out.blk.turned happ.turned (by simp [fp])).frozen 4; have d0 : w1.cell? ⟨b, 0, none⟩ = some (.int .i64 S.proto) := (HR0.out.blk.turned happ.turned (by simp [fp])).cell 0)
    simp only [Nat.zero_add, List.nil_append] at happ
    have hB1 : ∀ k ∈ fp B1, w.heap.size ≤ k := fun k hk => by
      rcases happ.fps k hk with h2 | h2
      · simp [fp] at h2
      · exact h2
    have hbB : b ∉ fp B1 := fun hk => by have := hB1 b hk; omega
    have TB : Turned [b] w (w1.setCell ⟨b, 4, none⟩ (.slice B1 s.L.length k1)) := (happ.turned.mono (fun k hk => by simp [fp] at hk)).setCell (.inl (by simp)) _
    have HRb : Hid (Rl w0 (w1.setCell ⟨b, 4, none⟩ (.slice B1 s.L.length k1)) b S s B1 k1) := hidp (by
      have hr := HR0.out
      refine ⟨(hr.blk.turned happ.turned (by simp [fp])).put 4 _, ⟨?_, rfl, happ.cap, happ.nil⟩, hbB, hr.base, hr.below.trans (TB.below hr.below.size (fun k hk => by simp at hk; subst hk; exact hr.base)), hr.set, hr.rel⟩
      exact own_turned happ.own ((Turned.refl [b] w1).setCell (p := ⟨b, 4, none⟩) (.inl (by simp)) _) (fun k hk hb => hbB (by simp at hb; subst hb; exact hk)))
    have CL := rl_lets HRb.out HO.out (by rw [Hpr.out]; exact hp) h8
    refine CL.mono ?_
    rintro e w2 ⟨rfl, hr2, ht2⟩
    have HR2 := hidp hr2
    have HT2 : Hid (Turned [b] w w2) := hidp (TB.trans ht2 (fun i hi => by
      rcases List.mem_cons.1 hi with h1 | h1
      · exact .inl (by simp [h1])
      · exact .inr (hB1 i h1)))
    clear CL hr2 ht2
    go_wp2_with fail
    have hz2 : w.heap.size ≤ w2.heap.size := HT2.out.size
    have hz2b : b < w2.heap.size := HR2.out.blk.lt
    have HB1z : Hid (∀ k ∈ fp B1, k < w2.heap.size) := hidp (fun k hk => (own_fp HR2.out.row.own k hk).2)
    have hb3 := (Below.refl w2.heap.size w2).alloc (Nat.le_refl _) (.cells #[.bool false, .bool false, .bool false, .bool false, .bool false, .bool false] 49)
    have HR3 := hidp (HR2.out.over hb3)
    have HT3 : Hid (Turned [b] w (w2.alloc (.cells #[.bool false, .bool false, .bool false, .bool false, .bool false, .bool false] 49))) := hidp (HT2.out.alloc _)
    have BG3 : Hid (Bk (w2.alloc (.cells #[.bool false, .bool false, .bool false, .bool false, .bool false, .bool false] 49)) (w2.heap.size) 49 (sixB fun t => ([] : List Int).contains (t : Int))) := hidp (by
      have := Bk.new w2 49 #[.bool false, .bool false, .bool false, .bool false, .bool false, .bool false]
      simpa [sixB] using this)
    have CB := rl_best HR3.out HS1.out
    have Hgp : Hid ((candS (letS s)).foldl try1 (letS s, []) = grantP s) := hidp rfl
    have HSC := hidp (scan_start HS1.out)
    refine CB.mono ?_
    rintro e w3 ⟨v, rfl, hv3, hb4⟩
    have HV3 := hidp hv3
    have HR4 := hidp (HR3.out.over hb4)
    have HT4 : Hid (Turned [b] w w3) := hidp (HT3.out.trans (Turned.of_below hb4 []) (by simp))
    have BG4 := hidp (BG3.out.turned (Turned.of_below hb4 []) (by simp))
    replace hz2 : w.heap.size ≤ w2.heap.size := by simpa using hz2
    replace hz2b : b < w2.heap.size := by simpa using hz2b
    replace HB1z : Hid (∀ k ∈ fp B1, k < w2.heap.size) := hidp (by simpa using HB1z.out)
    clear CB hv3 hb4 hb3 HR3 HT3 BG3 HT2 HR2 happ d4 g4 d0 TB HRb c4 f4 hn0 hi0 hy0 hy1 hy2
    go_wp2
    go_loopg [4] (candS (letS s)).length (fun gg bv wr => ∃ (sj : Ls) (out : List Int) (C : List AL) (v : Int), C.length = gg ∧ bv = .int .i64 v ∧ Hid (BestUp sj sj.L.length v) ∧ Hid (Scan sj C) ∧ Hid (C.foldl try1 (sj, out) = grantP s) ∧ Hid (OutOk sj out) ∧ Hid (Bk wr (w2.heap.size) 49 (sixB fun t => out.contains (t : Int))) ∧ Hid (Rl w0 wr b S sj B1 k1) ∧ Hid (Turned [b] w wr))
    case atStart => exact ⟨letS s, [], candS (letS s), v, rfl, rfl, HV3, HSC, Hgp, hidp (OutOk.nil _), BG4, HR4, HT4⟩
    case round =>
      clear HV3 HR4 HT4 BG4 HSC Hgp
      obtain ⟨sj, out, C, v, hC, rfl, HV, HSc, HF, HU, BG, HR, HT⟩ := hrel
      have HC := hidp hC
      have HVE := hidp HV.out.end_
      clear hC
      rcases HVE.out with ⟨hv, hall⟩ | ⟨m, hm, hv, hbest⟩
      · subst hv
        have HE : Hid (grantP s = (sj, out)) := hidp (by rw [← HF.out]; exact HSc.out.none hall out)
        obtain ⟨f, Hf⟩ : ∃ f : Nat → Bool, Hid ((fun t : Nat => out.contains (t : Int)) = f) := ⟨_, hidp rfl⟩
        have BG2 : Hid (Bk wr (w2.heap.size) 49 (sixB f)) := hidp (by rw [← Hf.out]; exact BG.out)
        have HP : Hid (pickL f 6 = grantL s) := hidp (by
          unfold grantL
          rw [HE.out]
          exact sort_pick HU.out.1 (fun x hx => (HU.out.2 x hx).1) (fun t _ => by rw [← Hf.out]))
        have HG : Hid (sj = grantS s) := hidp (by unfold grantS; rw [HE.out])
        have n0 : ((-1 : Int) ≥ 0) = False := by simp
        have n0' : decide ((-1 : Int) ≥ 0) = false := rfl
        have hwz : w.heap.size ≤ wr.heap.size := HT.out.size
        have Hn1z : Hid ((w2.heap.size) < wr.heap.size) := hidp BG.out.lt
        clear hall BG
        rename World => wz
        go_wp2
        go_loopg [5, 6] 6 (fun gg a i w5 => ∃ (k n : Nat) (A : Option Addr) (c : Nat), k + gg = 6 ∧ i = .int .i64 k ∧ a = .slice A n c ∧ n ≤ k ∧ Hid (OwnInts wz.heap.size w5 A n c (pickL f k)) ∧ Hid (Below wz.heap.size wz w5))
        case atStart => exact ⟨0, 0, none, 0, by omega, rfl, rfl, by omega, hidp ⟨World.ownsRow_nil _ _ _ _, rfl, Nat.le_refl _, by decide, fun _ => ⟨rfl, rfl⟩⟩, hidp (Below.refl _ _)⟩
        case round =>
          obtain ⟨k, n, A5, c5, hk, rfl, rfl, hn5, HO5, HB5⟩ := hrel
          have Hk := hidp hk
          by_cases hlt : k < 6
          · have cF := Keeps.of_below HB5.out _ _ (sixB_at BG2.out hlt)
            have wk1 : IntKind.i64.wrap ((k : Int) + 1) = (k : Int) + 1 := IntWalk.i64_in _ (by omega)
            have kI : (k : Int) < 6 := by omega
            have k0 : (0 : Int) ≤ (k : Int) := by omega
            have d6 : decide (6 ≤ k) = false := decide_eq_false (by omega)
            cases hf : f k with
            | false =>
              rw [hf] at cF
              have HP2 : Hid (pickL f (k + 1) = pickL f k) := hidp (by rw [pickL_next, hf]; simp)
              clear hf hk
              go_wp2_with fail
              go_roundg (6 - k - 1)
              case measure => have := Hk.out; omega
              case rel => exact ⟨k + 1, n, A5, c5, by have := Hk.out; omega, by go_num, rfl, by omega, by rw [HP2.out]; exact HO5, HB5⟩
            | true =>
              rw [hf] at cF
              have HP2 : Hid (pickL f (k + 1) = pickL f k ++ [(k : Int)]) := hidp (by rw [pickL_next, hf]; rfl)
              have LN := hidp (Lies.new1 wr (.int .i64 (k : Int)) 3)
              have hown2 := HO5.out.1.alloc (.cells #[.int .i64 (k : Int)] 3)
              have Hwn := hidp HO5.out.2.1
              have K1 : Hid (∀ u ∈ [Value.int .i64 (k : Int)], u.oneCell' = true) := hidp (by simp; rfl)
              have K5 : Hid (n + 1 ≤ maxLen) := hidp (by unfold maxLen; omega)
              have K6 : Hid ((n + 1) * 8 ≤ 140737488355328) := hidp (by omega)
              have Hsz : Hid (wz.heap.size ≤ (wr.alloc (.cells #[.int .i64 (k : Int)] 3)).heap.size) := hidp (by have := HB5.out.size; simp at this ⊢; omega)
              clear hf hk
              go_wp2_with (at_builtin; refine wpList_app2 _ rfl (.tmp 52) (.tmp 54) 22 rfl wz.heap.size 3 j0 (.int .i64 0) 1 8 Tryz.underlying22 hj0 hk0 hk1 hk2 rfl (by decide) A5 n c5 _ rfl hown2 _ _ 1 1 [.int .i64 (k : Int)] rfl (by simp) rfl LN.out K1.out K5.out K6.out Hsz.out ?_; intro A' c' w6 happ)
              go_roundg (6 - k - 1)
              case measure => have := Hk.out; omega
              case rel =>
                refine ⟨k + 1, n + 1, A', c', by have := Hk.out; omega, by go_num, rfl, by omega, hidp ⟨?_, ?_, happ.cap.1, happ.cap.2, happ.nil⟩, hidp ?_⟩
                · rw [HP2.out]; simpa using happ.own
                · rw [HP2.out]; simp; exact Hwn.out
                · exact (HB5.out.alloc HB5.out.size _).trans (happ.turned.below Hsz.out (fun j hj => (own_fp HO5.out.1 j hj).1))
          · obtain rfl : k = 6 := by omega
            clear hk
            go_wp2
            try rw [Exit.noGoto_ret]
            go_ret
            refine ⟨A5, n, c5, rfl, ⟨?_, ?_, HO5.out.2.2.1, HO5.out.2.2.2.1, HO5.out.2.2.2.2⟩, B1, k1, ?_, HT.out.trans (Turned.of_below HB5.out []) (by simp), hB1⟩
            · rw [← HP.out]
              exact own_base HO5.out.1 (fun q hq => Nat.le_trans hwz (own_fp HO5.out.1 q (by cases A5 with
                | none => simp [Value.ownBlock] at hq
                | some a => simpa [Value.ownBlock, fp] using hq.symm)).1)
            · rw [← HP.out]; exact HO5.out.2.1
            · rw [← HG.out]; exact HR.out.over HB5.out
      · have hok := HSc.out.ok
        obtain ⟨g, hg, hac⟩ := HR.out.at_ hm
        have Hg := hidp hg
        subst hg
        obtain ⟨C', hl, hs2, hf2⟩ := Scan.next hbest HSc.out
        obtain ⟨hma, hmh, hmp⟩ := mem_waitG.1 hbest.1
        obtain ⟨q, hq⟩ : ∃ q : Nat, (sj.L.getD m default).task = (q : Int) := ⟨((sj.L.getD m default).task).toNat, by have := hok.tk _ hma; unfold Ls.has at this; omega⟩
        have hq6 : q < 6 := by have h1 := hok.tk _ hma; have h2 := hok.n6; rw [hq] at h1; unfold Ls.has at h1; omega
        obtain ⟨x0, _, _, x3⟩ := id hac
        rw [hq] at x0
        rw [hmh] at x3
        have c4 : wr.cell? ⟨b, 4, none⟩ = some (.slice (some ⟨g, 0, none⟩) sj.L.length k1) := HR.out.blk.cell 4
        have fg : wr.frozen? ⟨g, m * 4 + 3, none⟩ = false := ownE_frozen HR.out.row.own (m * 4 + 3)
        have hgB : g ∈ fp (some (⟨g, 0, none⟩ : Addr)) := by simp [fp]
        have hgz := HB1z.out g hgB
        have hgw := hB1 g hgB
        have hcap3 := HR.out.row.cap
        have hm3 := hcap3.2
        unfold maxLen at hm3
        have HR1 := hidp (HR.out.hold hok hm hq)
        have T1 : Turned [g] wr (wr.setCell ⟨g, m * 4 + 3, none⟩ (.bool true)) := (Turned.refl [g] wr).setCell (.inl (by simp)) _
        have BG1 := hidp (BG.out.turned T1 (by simp; omega))
        have c41 : (wr.setCell ⟨g, m * 4 + 3, none⟩ (.bool true)).cell? ⟨b, 4, none⟩ = some (.slice (some ⟨g, 0, none⟩) sj.L.length k1) := (HR.out.blk.turned T1 (by have := HR.out.ne; simpa [fp] using this)).cell 4
        have x01 : (wr.setCell ⟨g, m * 4 + 3, none⟩ (.bool true)).cell? ⟨g, m * 4, none⟩ = some (.int .i64 (q : Int)) := by
          obtain ⟨g', hg', hac'⟩ := HR1.out.at_ (k := m) (by rw [holdS_set hok hm hq, List.length_set]; exact hm)
          injection hg' with hg'
          injection hg' with hg'
          subst hg'
          have := hac'.1
          rw [holdS_set hok hm hq] at this
          simp only [List.getD, List.getElem?_set_self hm, Option.getD_some] at this
          rw [← hq]
          exact this
        have fy := BG1.out.frozen q
        obtain ⟨nb, cQ⟩ : ∃ nb, (wr.setCell ⟨g, m * 4 + 3, none⟩ (.bool true)).cell? ⟨(w2.heap.size), q, none⟩ = some (.bool nb) := ⟨_, sixB_at BG1.out hq6⟩
        obtain ⟨nb0, cQ0⟩ : ∃ nb, wr.cell? ⟨(w2.heap.size), q, none⟩ = some (.bool nb) := ⟨_, sixB_at BG.out hq6⟩
        have T2 : Turned [(w2.heap.size)] (wr.setCell ⟨g, m * 4 + 3, none⟩ (.bool true)) ((wr.setCell ⟨g, m * 4 + 3, none⟩ (.bool true)).setCell ⟨(w2.heap.size), q, none⟩ (.bool true)) := (Turned.refl [(w2.heap.size)] _).setCell (.inl (by simp)) _
        have HR2 := hidp (HR1.out.turned T2 (by simp; omega) (fun k hk hm => by have := HB1z.out k hk; simp at hm; omega) (fun k hk => by simp at hk; subst hk; have := Sz0.out; omega))
        have BG2 : Hid (Bk ((wr.setCell ⟨g, m * 4 + 3, none⟩ (.bool true)).setCell ⟨(w2.heap.size), q, none⟩ (.bool true)) (w2.heap.size) 49 (sixB fun t => (out ++ [(q : Int)]).contains (t : Int))) := hidp (by
          have h9 := BG1.out.put q (.bool true)
          rw [sixB_put (f := fun t => out.contains (t : Int)) (g := fun t => (out ++ [(q : Int)]).contains (t : Int)) hq6 (fun t => by
            rw [List.contains_append]
            congr 1
            by_cases e : t = q
            · subst e; simp
            · have e2 : ¬ ((t : Int) = (q : Int)) := by omega
              simp [e, e2])] at h9
          exact h9)
        have HT2 : Hid (Turned [b] w ((wr.setCell ⟨g, m * 4 + 3, none⟩ (.bool true)).setCell ⟨(w2.heap.size), q, none⟩ (.bool true))) := hidp ((HT.out.trans T1 (fun i hi => by simp at hi; subst hi; exact .inr hgw)).trans T2 (fun i hi => by simp at hi; subst hi; exact .inr hz2))
        rw [hq] at hs2 hf2
        have HS2 := hidp hs2
        have HF2 : Hid (C'.foldl try1 (holdS sj (q : Int), out ++ [(q : Int)]) = grantP s) := hidp (by rw [← hf2]; exact HF.out)
        have HU2 : Hid (OutOk (holdS sj (q : Int)) (out ++ [(q : Int)])) := hidp (by have := HU.out.next hok hma hmh; rw [hq] at this; exact this)
        have Hl : Hid (C'.length < gk) := hidp (by rw [← HC.out]; exact hl)
        have CB2 := rl_best HR2.out HS2.out.ok
        have mI : (m : Int) < (sj.L.length : Int) := by omega
        have m0 : (0 : Int) ≤ (m : Int) := by omega
        have dm : decide (sj.L.length ≤ m) = false := decide_eq_false (by omega)
        have q0 : (0 : Int) ≤ (q : Int) := by omega
        have qI : (q : Int) < 6 := by omega
        have dq : decide (6 ≤ q) = false := decide_eq_false (by omega)
        subst hv
        clear hbest hl hs2 hf2 hma hmh hmp hq hac hok HVE
        go_wp2_with fail
        refine CB2.mono ?_
        rintro e w7 ⟨v7, rfl, hv7, hb7⟩
        have HV7 := hidp hv7
        have HR7 := hidp (HR2.out.over hb7)
        have HT7 : Hid (Turned [b] w w7) := hidp (HT2.out.trans (Turned.of_below hb7 []) (by simp))
        have BG7 := hidp (BG2.out.turned (Turned.of_below hb7 []) (by simp))
        clear CB2 hv7 hb7
        go_wp2_with fail
        go_roundg C'.length
        case measure => exact Hl.out
        case rel => exact ⟨holdS sj (q : Int), out ++ [(q : Int)], C', v7, rfl, rfl, HV7, HS2, HF2, HU2, BG7, HR7, HT7⟩
  · have hp1 : (S.proto == 3) = false := by simpa using hp
    go_enter Tryz.func16, Tryz.ntmps16
    go_wp2_with (at_builtin; refine wpList_app2 w rfl (.const (.slice none 0 0)) (.tmp 11) 78 rfl w0.heap.size 84 i0 _ 4 32 Tryz.underlying78 hi0 hy0 hy1 hy2 rfl (by decide) none 0 0 [] rfl hn0 _ _ s.L.length c (alc s.L) rfl Pn.out L1.out S1.out O1.out M1.out N1.out Sz0.out ?_; intro B1 k1 w1 happ; have d4 : w1.cell? ⟨b, 4, none⟩ = some (.slice A s.L.length c) := (HR0.out.blk.turned happ.turned (by simp [fp])).cell 4; have g4 := (HR0.out.blk.turned happ.turned (by simp [fp])).frozen 4; have d0 : w1.cell? ⟨b, 0, none⟩ = some (.int .i64 S.proto) := (HR0.out.blk.turned happ.turned (by simp [fp])).cell 0)
    simp only [Nat.zero_add, List.nil_append] at happ
    have hB1 : ∀ k ∈ fp B1, w.heap.size ≤ k := fun k hk => by
      rcases happ.fps k hk with h2 | h2
      · simp [fp] at h2
      · exact h2
    have hbB : b ∉ fp B1 := fun hk => by have := hB1 b hk; omega
    have TB : Turned [b] w (w1.setCell ⟨b, 4, none⟩ (.slice B1 s.L.length k1)) := (happ.turned.mono (fun k hk => by simp [fp] at hk)).setCell (.inl (by simp)) _
    have HRb : Hid (Rl w0 (w1.setCell ⟨b, 4, none⟩ (.slice B1 s.L.length k1)) b S s B1 k1) := hidp (by
      have hr := HR0.out
      refine ⟨(hr.blk.turned happ.turned (by simp [fp])).put 4 _, ⟨?_, rfl, happ.cap, happ.nil⟩, hbB, hr.base, hr.below.trans (TB.below hr.below.size (fun k hk => by simp at hk; subst hk; exact hr.base)), hr.set, hr.rel⟩
      exact own_turned happ.own ((Turned.refl [b] w1).setCell (p := ⟨b, 4, none⟩) (.inl (by simp)) _) (fun k hk hb => hbB (by simp at hb; subst hb; exact hk)))
    have hls : letS s = s := by unfold letS; rw [newS_nil HO.out (by rw [Hpr.out]; exact hp)]; rfl
    have HR2 : Hid (Rl w0 (w1.setCell ⟨b, 4, none⟩ (.slice B1 s.L.length k1)) b S (letS s) B1 k1) := hidp (by rw [hls]; exact HRb.out)
    have HT2 := hidp TB
    clear hls
    have hz2 : w.heap.size ≤ (w1.setCell ⟨b, 4, none⟩ (.slice B1 s.L.length k1)).heap.size := HT2.out.size
    have hz2b : b < (w1.setCell ⟨b, 4, none⟩ (.slice B1 s.L.length k1)).heap.size := HR2.out.blk.lt
    have HB1z : Hid (∀ k ∈ fp B1, k < (w1.setCell ⟨b, 4, none⟩ (.slice B1 s.L.length k1)).heap.size) := hidp (fun k hk => (own_fp HR2.out.row.own k hk).2)
    have hb3 := (Below.refl (w1.setCell ⟨b, 4, none⟩ (.slice B1 s.L.length k1)).heap.size (w1.setCell ⟨b, 4, none⟩ (.slice B1 s.L.length k1))).alloc (Nat.le_refl _) (.cells #[.bool false, .bool false, .bool false, .bool false, .bool false, .bool false] 49)
    have HR3 := hidp (HR2.out.over hb3)
    have HT3 : Hid (Turned [b] w ((w1.setCell ⟨b, 4, none⟩ (.slice B1 s.L.length k1)).alloc (.cells #[.bool false, .bool false, .bool false, .bool false, .bool false, .bool false] 49))) := hidp (HT2.out.alloc _)
    have BG3 : Hid (Bk ((w1.setCell ⟨b, 4, none⟩ (.slice B1 s.L.length k1)).alloc (.cells #[.bool false, .bool false, .bool false, .bool false, .bool false, .bool false] 49)) (w1.heap.size) 49 (sixB fun t => ([] : List Int).contains (t : Int))) := hidp (by
      have := Bk.new (w1.setCell ⟨b, 4, none⟩ (.slice B1 s.L.length k1)) 49 #[.bool false, .bool false, .bool false, .bool false, .bool false, .bool false]
      simpa [sixB] using this)
    have CB := rl_best HR3.out HS1.out
    have Hgp : Hid ((candS (letS s)).foldl try1 (letS s, []) = grantP s) := hidp rfl
    have HSC := hidp (scan_start HS1.out)
    refine CB.mono ?_
    rintro e w3 ⟨v, rfl, hv3, hb4⟩
    have HV3 := hidp hv3
    have HR4 := hidp (HR3.out.over hb4)
    have HT4 : Hid (Turned [b] w w3) := hidp (HT3.out.trans (Turned.of_below hb4 []) (by simp))
    have BG4 := hidp (BG3.out.turned (Turned.of_below hb4 []) (by simp))
    replace hz2 : w.heap.size ≤ w1.heap.size := by simpa using hz2
    replace hz2b : b < w1.heap.size := by simpa using hz2b
    replace HB1z : Hid (∀ k ∈ fp B1, k < w1.heap.size) := hidp (by simpa using HB1z.out)
    clear CB hv3 hb4 hb3 HR3 HT3 BG3 HT2 HR2 happ d4 g4 d0 TB HRb c4 f4 hn0 hi0 hy0 hy1 hy2
    go_wp2
    go_loopg [4] (candS (letS s)).length (fun gg bv wr => ∃ (sj : Ls) (out : List Int) (C : List AL) (v : Int), C.length = gg ∧ bv = .int .i64 v ∧ Hid (BestUp sj sj.L.length v) ∧ Hid (Scan sj C) ∧ Hid (C.foldl try1 (sj, out) = grantP s) ∧ Hid (OutOk sj out) ∧ Hid (Bk wr (w1.heap.size) 49 (sixB fun t => out.contains (t : Int))) ∧ Hid (Rl w0 wr b S sj B1 k1) ∧ Hid (Turned [b] w wr))
    case atStart => exact ⟨letS s, [], candS (letS s), v, rfl, rfl, HV3, HSC, Hgp, hidp (OutOk.nil _), BG4, HR4, HT4⟩
    case round =>
      clear HV3 HR4 HT4 BG4 HSC Hgp
      obtain ⟨sj, out, C, v, hC, rfl, HV, HSc, HF, HU, BG, HR, HT⟩ := hrel
      have HC := hidp hC
      have HVE := hidp HV.out.end_
      clear hC
      rcases HVE.out with ⟨hv, hall⟩ | ⟨m, hm, hv, hbest⟩
      · subst hv
        have HE : Hid (grantP s = (sj, out)) := hidp (by rw [← HF.out]; exact HSc.out.none hall out)
        obtain ⟨f, Hf⟩ : ∃ f : Nat → Bool, Hid ((fun t : Nat => out.contains (t : Int)) = f) := ⟨_, hidp rfl⟩
        have BG2 : Hid (Bk wr (w1.heap.size) 49 (sixB f)) := hidp (by rw [← Hf.out]; exact BG.out)
        have HP : Hid (pickL f 6 = grantL s) := hidp (by
          unfold grantL
          rw [HE.out]
          exact sort_pick HU.out.1 (fun x hx => (HU.out.2 x hx).1) (fun t _ => by rw [← Hf.out]))
        have HG : Hid (sj = grantS s) := hidp (by unfold grantS; rw [HE.out])
        have n0 : ((-1 : Int) ≥ 0) = False := by simp
        have n0' : decide ((-1 : Int) ≥ 0) = false := rfl
        have hwz : w.heap.size ≤ wr.heap.size := HT.out.size
        have Hn1z : Hid ((w1.heap.size) < wr.heap.size) := hidp BG.out.lt
        clear hall BG
        rename World => wz
        go_wp2
        go_loopg [5, 6] 6 (fun gg a i w5 => ∃ (k n : Nat) (A : Option Addr) (c : Nat), k + gg = 6 ∧ i = .int .i64 k ∧ a = .slice A n c ∧ n ≤ k ∧ Hid (OwnInts wz.heap.size w5 A n c (pickL f k)) ∧ Hid (Below wz.heap.size wz w5))
        case atStart => exact ⟨0, 0, none, 0, by omega, rfl, rfl, by omega, hidp ⟨World.ownsRow_nil _ _ _ _, rfl, Nat.le_refl _, by decide, fun _ => ⟨rfl, rfl⟩⟩, hidp (Below.refl _ _)⟩
        case round =>
          obtain ⟨k, n, A5, c5, hk, rfl, rfl, hn5, HO5, HB5⟩ := hrel
          have Hk := hidp hk
          by_cases hlt : k < 6
          · have cF := Keeps.of_below HB5.out _ _ (sixB_at BG2.out hlt)
            have wk1 : IntKind.i64.wrap ((k : Int) + 1) = (k : Int) + 1 := IntWalk.i64_in _ (by omega)
            have kI : (k : Int) < 6 := by omega
            have k0 : (0 : Int) ≤ (k : Int) := by omega
            have d6 : decide (6 ≤ k) = false := decide_eq_false (by omega)
            cases hf : f k with
            | false =>
              rw [hf] at cF
              have HP2 : Hid (pickL f (k + 1) = pickL f k) := hidp (by rw [pickL_next, hf]; simp)
              clear hf hk
              go_wp2_with fail
              go_roundg (6 - k - 1)
              case measure => have := Hk.out; omega
              case rel => exact ⟨k + 1, n, A5, c5, by have := Hk.out; omega, by go_num, rfl, by omega, by rw [HP2.out]; exact HO5, HB5⟩
            | true =>
              rw [hf] at cF
              have HP2 : Hid (pickL f (k + 1) = pickL f k ++ [(k : Int)]) := hidp (by rw [pickL_next, hf]; rfl)
              have LN := hidp (Lies.new1 wr (.int .i64 (k : Int)) 3)
              have hown2 := HO5.out.1.alloc (.cells #[.int .i64 (k : Int)] 3)
              have Hwn := hidp HO5.out.2.1
              have K1 : Hid (∀ u ∈ [Value.int .i64 (k : Int)], u.oneCell' = true) := hidp (by simp; rfl)
              have K5 : Hid (n + 1 ≤ maxLen) := hidp (by unfold maxLen; omega)
              have K6 : Hid ((n + 1) * 8 ≤ 140737488355328) := hidp (by omega)
              have Hsz : Hid (wz.heap.size ≤ (wr.alloc (.cells #[.int .i64 (k : Int)] 3)).heap.size) := hidp (by have := HB5.out.size; simp at this ⊢; omega)
              clear hf hk
              go_wp2_with (at_builtin; refine wpList_app2 _ rfl (.tmp 52) (.tmp 54) 22 rfl wz.heap.size 3 j0 (.int .i64 0) 1 8 Tryz.underlying22 hj0 hk0 hk1 hk2 rfl (by decide) A5 n c5 _ rfl hown2 _ _ 1 1 [.int .i64 (k : Int)] rfl (by simp) rfl LN.out K1.out K5.out K6.out Hsz.out ?_; intro A' c' w6 happ)
              go_roundg (6 - k - 1)
              case measure => have := Hk.out; omega
              case rel =>
                refine ⟨k + 1, n + 1, A', c', by have := Hk.out; omega, by go_num, rfl, by omega, hidp ⟨?_, ?_, happ.cap.1, happ.cap.2, happ.nil⟩, hidp ?_⟩
                · rw [HP2.out]; simpa using happ.own
                · rw [HP2.out]; simp; exact Hwn.out
                · exact (HB5.out.alloc HB5.out.size _).trans (happ.turned.below Hsz.out (fun j hj => (own_fp HO5.out.1 j hj).1))
          · obtain rfl : k = 6 := by omega
            clear hk
            go_wp2
            try rw [Exit.noGoto_ret]
            go_ret
            refine ⟨A5, n, c5, rfl, ⟨?_, ?_, HO5.out.2.2.1, HO5.out.2.2.2.1, HO5.out.2.2.2.2⟩, B1, k1, ?_, HT.out.trans (Turned.of_below HB5.out []) (by simp), hB1⟩
            · rw [← HP.out]
              exact own_base HO5.out.1 (fun q hq => Nat.le_trans hwz (own_fp HO5.out.1 q (by cases A5 with
                | none => simp [Value.ownBlock] at hq
                | some a => simpa [Value.ownBlock, fp] using hq.symm)).1)
            · rw [← HP.out]; exact HO5.out.2.1
            · rw [← HG.out]; exact HR.out.over HB5.out
      · have hok := HSc.out.ok
        obtain ⟨g, hg, hac⟩ := HR.out.at_ hm
        have Hg := hidp hg
        subst hg
        obtain ⟨C', hl, hs2, hf2⟩ := Scan.next hbest HSc.out
        obtain ⟨hma, hmh, hmp⟩ := mem_waitG.1 hbest.1
        obtain ⟨q, hq⟩ : ∃ q : Nat, (sj.L.getD m default).task = (q : Int) := ⟨((sj.L.getD m default).task).toNat, by have := hok.tk _ hma; unfold Ls.has at this; omega⟩
        have hq6 : q < 6 := by have h1 := hok.tk _ hma; have h2 := hok.n6; rw [hq] at h1; unfold Ls.has at h1; omega
        obtain ⟨x0, _, _, x3⟩ := id hac
        rw [hq] at x0
        rw [hmh] at x3
        have c4 : wr.cell? ⟨b, 4, none⟩ = some (.slice (some ⟨g, 0, none⟩) sj.L.length k1) := HR.out.blk.cell 4
        have fg : wr.frozen? ⟨g, m * 4 + 3, none⟩ = false := ownE_frozen HR.out.row.own (m * 4 + 3)
        have hgB : g ∈ fp (some (⟨g, 0, none⟩ : Addr)) := by simp [fp]
        have hgz := HB1z.out g hgB
        have hgw := hB1 g hgB
        have hcap3 := HR.out.row.cap
        have hm3 := hcap3.2
        unfold maxLen at hm3
        have HR1 := hidp (HR.out.hold hok hm hq)
        have T1 : Turned [g] wr (wr.setCell ⟨g, m * 4 + 3, none⟩ (.bool true)) := (Turned.refl [g] wr).setCell (.inl (by simp)) _
        have BG1 := hidp (BG.out.turned T1 (by simp; omega))
        have c41 : (wr.setCell ⟨g, m * 4 + 3, none⟩ (.bool true)).cell? ⟨b, 4, none⟩ = some (.slice (some ⟨g, 0, none⟩) sj.L.length k1) := (HR.out.blk.turned T1 (by have := HR.out.ne; simpa [fp] using this)).cell 4
        have x01 : (wr.setCell ⟨g, m * 4 + 3, none⟩ (.bool true)).cell? ⟨g, m * 4, none⟩ = some (.int .i64 (q : Int)) := by
          obtain ⟨g', hg', hac'⟩ := HR1.out.at_ (k := m) (by rw [holdS_set hok hm hq, List.length_set]; exact hm)
          injection hg' with hg'
          injection hg' with hg'
          subst hg'
          have := hac'.1
          rw [holdS_set hok hm hq] at this
          simp only [List.getD, List.getElem?_set_self hm, Option.getD_some] at this
          rw [← hq]
          exact this
        have fy := BG1.out.frozen q
        obtain ⟨nb, cQ⟩ : ∃ nb, (wr.setCell ⟨g, m * 4 + 3, none⟩ (.bool true)).cell? ⟨(w1.heap.size), q, none⟩ = some (.bool nb) := ⟨_, sixB_at BG1.out hq6⟩
        obtain ⟨nb0, cQ0⟩ : ∃ nb, wr.cell? ⟨(w1.heap.size), q, none⟩ = some (.bool nb) := ⟨_, sixB_at BG.out hq6⟩
        have T2 : Turned [(w1.heap.size)] (wr.setCell ⟨g, m * 4 + 3, none⟩ (.bool true)) ((wr.setCell ⟨g, m * 4 + 3, none⟩ (.bool true)).setCell ⟨(w1.heap.size), q, none⟩ (.bool true)) := (Turned.refl [(w1.heap.size)] _).setCell (.inl (by simp)) _
        have HR2 := hidp (HR1.out.turned T2 (by simp; omega) (fun k hk hm => by have := HB1z.out k hk; simp at hm; omega) (fun k hk => by simp at hk; subst hk; have := Sz0.out; omega))
        have BG2 : Hid (Bk ((wr.setCell ⟨g, m * 4 + 3, none⟩ (.bool true)).setCell ⟨(w1.heap.size), q, none⟩ (.bool true)) (w1.heap.size) 49 (sixB fun t => (out ++ [(q : Int)]).contains (t : Int))) := hidp (by
          have h9 := BG1.out.put q (.bool true)
          rw [sixB_put (f := fun t => out.contains (t : Int)) (g := fun t => (out ++ [(q : Int)]).contains (t : Int)) hq6 (fun t => by
            rw [List.contains_append]
            congr 1
            by_cases e : t = q
            · subst e; simp
            · have e2 : ¬ ((t : Int) = (q : Int)) := by omega
              simp [e, e2])] at h9
          exact h9)
        have HT2 : Hid (Turned [b] w ((wr.setCell ⟨g, m * 4 + 3, none⟩ (.bool true)).setCell ⟨(w1.heap.size), q, none⟩ (.bool true))) := hidp ((HT.out.trans T1 (fun i hi => by simp at hi; subst hi; exact .inr hgw)).trans T2 (fun i hi => by simp at hi; subst hi; exact .inr hz2))
        rw [hq] at hs2 hf2
        have HS2 := hidp hs2
        have HF2 : Hid (C'.foldl try1 (holdS sj (q : Int), out ++ [(q : Int)]) = grantP s) := hidp (by rw [← hf2]; exact HF.out)
        have HU2 : Hid (OutOk (holdS sj (q : Int)) (out ++ [(q : Int)])) := hidp (by have := HU.out.next hok hma hmh; rw [hq] at this; exact this)
        have Hl : Hid (C'.length < gk) := hidp (by rw [← HC.out]; exact hl)
        have CB2 := rl_best HR2.out HS2.out.ok
        have mI : (m : Int) < (sj.L.length : Int) := by omega
        have m0 : (0 : Int) ≤ (m : Int) := by omega
        have dm : decide (sj.L.length ≤ m) = false := decide_eq_false (by omega)
        have q0 : (0 : Int) ≤ (q : Int) := by omega
        have qI : (q : Int) < 6 := by omega
        have dq : decide (6 ≤ q) = false := decide_eq_false (by omega)
        subst hv
        clear hbest hl hs2 hf2 hma hmh hmp hq hac hok HVE
        go_wp2_with fail
        refine CB2.mono ?_
        rintro e w7 ⟨v7, rfl, hv7, hb7⟩
        have HV7 := hidp hv7
        have HR7 := hidp (HR2.out.over hb7)
        have HT7 : Hid (Turned [b] w w7) := hidp (HT2.out.trans (Turned.of_below hb7 []) (by simp))
        have BG7 := hidp (BG2.out.turned (Turned.of_below hb7 []) (by simp))
        clear CB2 hv7 hb7
        go_wp2_with fail
        go_roundg C'.length
        case measure => exact Hl.out
        case rel => exact ⟨holdS sj (q : Int), out ++ [(q : Int)], C', v7, rfl, rfl, HV7, HS2, HF2, HU2, BG7, HR7, HT7⟩
end
end Go.Proofs.YtppgameimddimaaGreat
