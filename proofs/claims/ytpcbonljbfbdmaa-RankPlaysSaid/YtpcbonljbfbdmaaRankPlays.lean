/- RankPlays: a rank answers, and holds, what the document's rank does, whatever is put, taken, dropped. No condition. -/
import Derived.Test.YtpcbonljbfbdmaaKnown4
import Derived.Test.YtpcbonljbfbdmaaPlayTwo
import Derived.Test.YtpcbonljbfbdmaaTrips
import Derived.Test.YtpcbonljbfbdmaaReg
import Derived.Deep.RegionHeld3
import Derived.BigQuiet
set_option maxHeartbeats 4000000
set_option maxRecDepth 100000
set_option linter.unusedSimpArgs false
namespace Go.Proofs.Ytpcbonljbfbdmaa.rankPlays
open Go.ChangeShapes Go.WideShapes Go.ChangeAt Go.RowKit
open Go.ChangeMaps (open_string shut_string)
set_option linter.unusedVariables false

/-- THE WALK: the Go text returns true, and writes nothing that was there. -/
theorem walk (a0 : Int) (a1 : Option Addr) (len1 cap1 : Nat) (z1 : List (Int × Int × Int)) (w : World) (w0 : (Lit.int .i64 a0).wf = true) (w1 : IsTrips w a1 len1 cap1 z1) :
    Calls Try.prog 3 #[.int .i64 a0, .slice a1 len1 cap1] w fun e w' => e = .returned (.bool true) ∧ Below w.heap.size w w' := by
  obtain ⟨hl, hcap, hc, hfit⟩ := w1
  subst hl
  have h0 := i64_of w0
  have HF := hidp hfit
  have HC := hidp hc
  clear w0 hfit hc hcap
  obtain ⟨R, HR⟩ : ∃ R, Hid (roomR a0 = R) := ⟨_, hidp rfl⟩
  by_cases h100 : 100 < z1.length
  · go_enter Try.func3, Try.ntmps3
    go_wp2_with fail
    refine (known4_any _).mono ?_
    rintro e u1 ⟨rfl, hb1⟩
    go_wp2_with fail
    go_ret
    exact ⟨rfl, hb1⟩
  · go_enter Try.func3, Try.ntmps3
    go_wp2_with fail
    refine (known4_any _).mono ?_
    rintro e u1 ⟨rfl, hb1⟩
    go_wp2_with fail
    refine (rnew_any a0 _ h0).mono ?_
    rintro e u2 ⟨rfl, rfl⟩
    go_wp2_with fail
    refine (fnew_any a0 _ h0).mono ?_
    rintro e u3 ⟨rfl, rfl⟩
    have h := TwoR.new_ hb1 a0
    go_wp2_with fail
    rw [HR.out] at h ⊢
    generalize hu : ((u1.alloc (.cells #[.int .i64 R, .int .i64 0, .slice none 0 0] 53)).alloc (.cells #[.slice none 0 0, .int .i64 R] 56)) = u at h ⊢
    clear hu hb1
    generalize u1.heap.size + 1 = d at h ⊢
    generalize u1.heap.size = b at h ⊢
    go_loopg [7] z1.length (fun gg i wr => ∃ (k : Nat) (P : Int) (l es : List EntM) (A : Option Addr) (c : Nat) (E : Option Addr) (f : Nat), k + gg = z1.length ∧ i = .int .i64 k ∧ 0 ≤ P ∧ P ≤ k ∧ Hid (PlI P l es) ∧ TwoR w wr b R P l A c d (rowK es) E f)
    case atStart => exact ⟨0, 0, [], [], none, 0, none, 0, by omega, rfl, by omega, by omega, hidp PlI.nil, h⟩
    case round =>
      clear h
      obtain ⟨k, P, l, es, A, c, E, f, hk, rfl, hP0, hP1, HPl0, h⟩ := hrel
      by_cases hlt : k < z1.length
      · obtain ⟨g, off, hA, hcl⟩ := HC.out.resolve_left (by intro e; rw [e] at hlt; simp at hlt)
        subst hA
        have hfk := HF.out (z1.getD k (0, 0, 0)) (by simp [List.getD, hlt])
        obtain ⟨x, Hx⟩ : ∃ x, Hid ((z1.getD k (0, 0, 0)).1 = x) := ⟨_, hidp rfl⟩
        obtain ⟨y, Hy⟩ : ∃ x, Hid ((z1.getD k (0, 0, 0)).2.1 = x) := ⟨_, hidp rfl⟩
        obtain ⟨v, Hv⟩ : ∃ x, Hid ((z1.getD k (0, 0, 0)).2.2 = x) := ⟨_, hidp rfl⟩
        have hc2 := hcl k hlt
        rw [Hx.out, Hy.out, Hv.out] at hc2 hfk
        obtain ⟨fx, fy, fv⟩ := hfk
        have cx : wr.cell? ⟨g, off + k * 3, none⟩ = some (.int .i64 x) := h.up.old hc2.1
        have cy : wr.cell? ⟨g, off + k * 3 + 1, none⟩ = some (.int .i64 y) := h.up.old hc2.2.1
        have cv : wr.cell? ⟨g, off + k * 3 + 2, none⟩ = some (.int .i64 v) := h.up.old hc2.2.2
        have hRl := h.rf.len
        rw [rowK_len, HPl0.out.perm.length_eq] at hRl
        have HRl : Hid ((l.length : Int) ≤ R) := hidp hRl.1
        have Hl0 : Hid (l.length ≤ 64) := hidp (by omega)
        have Hle : Hid (es.length = l.length) := hidp HPl0.out.perm.length_eq
        have h' := h.over ((Below.refl _ _).alloc (Nat.le_refl _) (.cells #[.int .i64 x, .int .i64 y, .int .i64 v] 29))
        have b0 : (wr.alloc (.cells #[.int .i64 x, .int .i64 y, .int .i64 v] 29)).cell? ⟨wr.heap.size, 0, none⟩ = some (.int .i64 x) := by simp
        have b1 : (wr.alloc (.cells #[.int .i64 x, .int .i64 y, .int .i64 v] 29)).cell? ⟨wr.heap.size, 1, none⟩ = some (.int .i64 y) := by simp
        have b2 : (wr.alloc (.cells #[.int .i64 x, .int .i64 y, .int .i64 v] 29)).cell? ⟨wr.heap.size, 2, none⟩ = some (.int .i64 v) := by simp
        have e0 : (0 : Int) ≤ (k : Int) := by omega
        have e1 : (k : Int) < (z1.length : Int) := by omega
        have HFr : Hid (wr.heap.size ∉ b :: fp A ∧ wr.heap.size ∉ [d]) := hidp ⟨fun hk => by have := h.up.lts _ hk; omega, fun hk => by simp at hk; have := h.rf.blk.lt; omega⟩
        clear hcl hc2 h hRl
        obtain ⟨p, hp⟩ : ∃ p, wr.heap.size = p := ⟨_, rfl⟩
        rw [hp] at b0 b1 b2 HFr
        obtain ⟨pe, Hpe⟩ : ∃ x, Hid (putE R l.length = x) := ⟨_, hidp rfl⟩
        have Hpe2 : Hid (putE R es.length = pe) := hidp (by rw [Hle.out]; exact Hpe.out)
        by_cases q1 : x ≤ 4
        · go_wp2_with fail
          try rw [hp]
          obtain ⟨u1, hu1⟩ : ∃ u, wr.alloc (.cells #[.int .i64 x, .int .i64 y, .int .i64 v] 29) = u := ⟨_, rfl⟩
          rw [hu1] at h' b0 b1 b2 ⊢
          clear hu1 hp cx cy cv
          refine wp_region_held_drew (S := fun w' => w'.cell? ⟨p, 1, none⟩ = some (.int .i64 y) ∧ w'.cell? ⟨p, 2, none⟩ = some (.int .i64 v)) (by kernel_rfl) ?_ (fun hHeld => ?_)
          · exact ⟨b1, b2⟩
          replace h' := h'.over ((Below.refl u1.heap.size u1).drew)
          have s1 : u1.drew.cell? ⟨p, 1, none⟩ = some (.int .i64 y) := b1
          have s1b : u1.drew.cell? ⟨p, 2, none⟩ = some (.int .i64 v) := b2
          clear b0 b1 b2
          refine wpAnyH_take (i := 0) (v := ?_) rfl (by kernel_rfl) (by kernel_rfl) (by kernel_rfl) (fun _ _ _ h => h) (Or.inl ⟨by rfl, ?_⟩) (by assumption) ?_
          rotate_left 1
          · ((intro w hSw; (try dsimp only at hSw); go_simp); (try with_reducible rfl))
          simp only [Act.put, List.setIfInBounds_toArray, List.set_cons_zero, List.set_cons_succ, List.getElem_toArray, List.getElem_cons_zero, List.getElem_cons_succ]
          refine wpAnyH_take (i := 1) (v := ?_) rfl (by kernel_rfl) (by kernel_rfl) (by kernel_rfl) (fun _ _ _ h => h) (Or.inl ⟨by rfl, ?_⟩) (by assumption) ?_
          rotate_left 1
          · ((intro w hSw; (try dsimp only at hSw); go_simp); (try with_reducible rfl))
          simp only [Act.put, List.setIfInBounds_toArray, List.set_cons_zero, List.set_cons_succ, List.getElem_toArray, List.getElem_cons_zero, List.getElem_cons_succ]
          refine wpAnyH_take (i := 2) (v := ?_) rfl (by kernel_rfl) (by kernel_rfl) (by kernel_rfl) (fun _ _ _ h => h) (Or.inl ⟨by rfl, ?_⟩) (by assumption) ?_
          rotate_left 1
          · ((intro w hSw; (try dsimp only at hSw); go_simp); (try with_reducible rfl))
          simp only [Act.put, List.setIfInBounds_toArray, List.set_cons_zero, List.set_cons_succ, List.getElem_toArray, List.getElem_cons_zero, List.getElem_cons_succ]
          refine wpAnyH_take (i := 3) (v := ?_) rfl (by kernel_rfl) (by kernel_rfl) (by kernel_rfl) (fun _ _ _ h => h) (Or.inl ⟨by rfl, ?_⟩) (by assumption) ?_
          rotate_left 1
          · ((intro w hSw; (try dsimp only at hSw); go_simp); (try with_reducible rfl))
          simp only [Act.put, List.setIfInBounds_toArray, List.set_cons_zero, List.set_cons_succ, List.getElem_toArray, List.getElem_cons_zero, List.getElem_cons_succ]
          refine wpAnyH_take (i := 4) (v := ?_) rfl (by kernel_rfl) (by kernel_rfl) (by kernel_rfl) (fun _ _ _ h => h) (Or.inl ⟨by rfl, ?_⟩) (by assumption) ?_
          rotate_left 1
          · ((intro w hSw; (try dsimp only at hSw); go_simp); (try with_reducible rfl))
          simp only [Act.put, List.setIfInBounds_toArray, List.set_cons_zero, List.set_cons_succ, List.getElem_toArray, List.getElem_cons_zero, List.getElem_cons_succ]
          refine wpAnyH_take (i := 6) (v := ?_) rfl (by kernel_rfl) (by kernel_rfl) (by kernel_rfl) (fun _ _ _ h => h) (Or.inl ⟨by rfl, ?_⟩) (by assumption) ?_
          rotate_left 1
          · ((intro w hSw; (try dsimp only at hSw); go_simp); (try with_reducible rfl))
          simp only [Act.put, List.setIfInBounds_toArray, List.set_cons_zero, List.set_cons_succ, List.getElem_toArray, List.getElem_cons_zero, List.getElem_cons_succ]
          refine wpAnyH_take (i := 7) (v := ?_) rfl (by kernel_rfl) (by kernel_rfl) (by kernel_rfl) (fun _ _ _ h => h) (Or.inl ⟨by rfl, ?_⟩) (by assumption) ?_
          rotate_left 1
          · ((intro w hSw; (try dsimp only at hSw); go_simp); (try with_reducible rfl))
          simp only [Act.put, List.setIfInBounds_toArray, List.set_cons_zero, List.set_cons_succ, List.getElem_toArray, List.getElem_cons_zero, List.getElem_cons_succ]
          refine wpAnyH_take (i := 8) (v := ?_) rfl (by kernel_rfl) (by kernel_rfl) (by kernel_rfl) (fun _ _ _ h => h) (Or.inl ⟨by rfl, ?_⟩) (by assumption) ?_
          rotate_left 1
          · ((intro w hSw; (try dsimp only at hSw); go_simp); (try with_reducible rfl))
          simp only [Act.put, List.setIfInBounds_toArray, List.set_cons_zero, List.set_cons_succ, List.getElem_toArray, List.getElem_cons_zero, List.getElem_cons_succ]
          refine wpAnyH_take (i := 9) (v := ?_) rfl (by kernel_rfl) (by kernel_rfl) (by kernel_rfl) (fun _ _ _ h => h) (Or.inl ⟨by rfl, ?_⟩) (by assumption) ?_
          rotate_left 1
          · ((intro w hSw; (try dsimp only at hSw); go_simp); (try with_reducible rfl))
          simp only [Act.put, List.setIfInBounds_toArray, List.set_cons_zero, List.set_cons_succ, List.getElem_toArray, List.getElem_cons_zero, List.getElem_cons_succ]
          refine wpAnyH_take (i := 10) (v := ?_) rfl (by kernel_rfl) (by kernel_rfl) (by kernel_rfl) (fun _ _ _ h => h) (Or.inl ⟨by rfl, ?_⟩) (by assumption) ?_
          rotate_left 1
          · ((intro w hSw; (try dsimp only at hSw); go_simp); (try with_reducible rfl))
          simp only [Act.put, List.setIfInBounds_toArray, List.set_cons_zero, List.set_cons_succ, List.getElem_toArray, List.getElem_cons_zero, List.getElem_cons_succ]
          refine wpAnyH_ready (rs := [5]) (by kernel_rfl) (by simp) ?_
          refine AllReadyH.cons rfl (fun K hK => ?_) AllReadyH.nil
          go_simp
          (with_reducible refine (px_any (k := y) (i := v) h' HRl.out ⟨hP0, by omega⟩).mono ?_)
          rintro e u2 ⟨rfl, ht2, A2, c2, h2⟩
          rw [Hpe.out]
          have s2 := ht2.cell s1 HFr.out.1
          have s2b := ht2.cell s1b HFr.out.1
          clear hHeld h' ht2
          go_wp2_with fail
          refine hK.out _ _ ?_ (fun hHeld => ?_)
          · exact ⟨s2, s2b⟩
          clear hK K
          try simp only [Act.put, List.setIfInBounds_toArray, List.set_cons_zero, List.set_cons_succ, List.getElem_toArray, List.getElem_cons_zero, List.getElem_cons_succ]
          refine wpAnyH_ready (rs := [11]) (by kernel_rfl) (by simp) ?_
          refine AllReadyH.cons rfl (fun K hK => ?_) AllReadyH.nil
          go_simp
          (with_reducible refine (fx_any (k := y) (i := v) (Q := P) h2 fy fv).mono ?_)
          rintro e u3 ⟨rfl, ht3, E3, f3, h3⟩
          rw [Hpe2.out]
          have s3 := ht3.cell s2 HFr.out.2
          have s3b := ht3.cell s2b HFr.out.2
          clear hHeld h2 ht3 s1 s1b
          go_wp2_with fail
          refine hK.out _ _ ?_ (fun hHeld => ?_)
          · exact ⟨s3, s3b⟩
          clear hK K
          try simp only [Act.put, List.setIfInBounds_toArray, List.set_cons_zero, List.set_cons_succ, List.getElem_toArray, List.getElem_cons_zero, List.getElem_cons_succ]
          refine wpAnyH_take (i := 12) (v := ?_) rfl (by kernel_rfl) (by kernel_rfl) (by kernel_rfl) (fun _ _ _ h => h) (Or.inl ⟨by rfl, ?_⟩) (by assumption) ?_
          rotate_left 1
          · ((intro w hSw; (try dsimp only at hSw); go_simp); (try with_reducible rfl))
          simp only [Act.put, List.setIfInBounds_toArray, List.set_cons_zero, List.set_cons_succ, List.getElem_toArray, List.getElem_cons_zero, List.getElem_cons_succ]
          refine wpAnyH_take (i := 13) (v := ?_) rfl (by kernel_rfl) (by kernel_rfl) (by kernel_rfl) (fun _ _ _ h => h) (Or.inl ⟨by rfl, ?_⟩) (by assumption) ?_
          rotate_left 1
          · ((intro w hSw; (try dsimp only at hSw); go_simp); (try with_reducible rfl))
          simp only [Act.put, List.setIfInBounds_toArray, List.set_cons_zero, List.set_cons_succ, List.getElem_toArray, List.getElem_cons_zero, List.getElem_cons_succ]
          refine wpAnyH_done (by kernel_rfl) ?_ _
          clear hHeld s2 s2b s3 s3b
          have HPl := hidp (HPl0.out.putx R y v)
          obtain ⟨es2, Hes2⟩ : ∃ ys, Hid (putU R P es y v = ys) := ⟨_, hidp rfl⟩
          obtain ⟨l2, Hl2⟩ : ∃ ys, Hid (putL R P l y v = ys) := ⟨_, hidp rfl⟩
          have hP2 : 0 ≤ putP R P l.length ∧ putP R P l.length ≤ (k : Int) + 1 := by unfold putP; split <;> omega
          obtain ⟨P2, HP2⟩ : ∃ ys, Hid (putP R P l.length = ys) := ⟨_, hidp rfl⟩
          rw [Hes2.out, Hl2.out, HP2.out] at HPl
          rw [Hes2.out, Hl2.out, HP2.out] at h3
          rw [HP2.out] at hP2
          obtain ⟨hP2a, hP2b⟩ := hP2
          obtain ⟨n, Hn⟩ : ∃ n, Hid (es2.length = n) := ⟨_, hidp rfl⟩
          obtain ⟨fd, Hfd⟩ : ∃ x, Hid (headI es2 = x) := ⟨_, hidp rfl⟩
          have hR := h3.rf.len
          rw [rowK_len, Hn.out] at hR
          have n64 : n ≤ 64 := by omega
          have hPl := HPl.out.perm.length_eq
          rw [Hn.out] at hPl
          have Hl64 : Hid (l2.length ≤ 64) := hidp (by omega)
          have HZ : Hid (n = (es2.map EntM.id).length) := hidp (by rw [List.length_map, Hn.out])
          have HZ1 : Hid ((es2.map EntM.id).length ≤ 1000) := hidp (by rw [List.length_map, Hn.out]; omega)
          clear hR hPl
          go_wp2_with fail
          refine (fallx_any h3).mono ?_
          rintro e u4 ⟨A7, c7, rfl, n7, hb⟩
          rw [Hn.out] at n7 ⊢
          have h4 := h3.over hb
          clear h3 hb
          go_wp2_with fail
          refine (firstx_any h4 HPl.out).mono ?_
          rintro e u5 ⟨rfl, rfl⟩
          rw [Hfd.out]
          by_cases hn : 0 < n
          · have hdn : decide (0 < n) = true := by simpa using hn
            have hdI : decide ((0 : Int) < (n : Int)) = true := by simpa using hn
            have Hsb : Hid (someB es2 = true) := hidp (by have := Hn.out; cases h : es2 with | nil => rw [h] at this; simp at this; omega | cons y T => rfl)
            have Hid0 : Hid ((es2.map EntM.id).getD 0 0 = fd) := hidp (by have := Hfd.out; cases h : es2 with | nil => rw [h] at this; exact this | cons y T => rw [h] at this; exact this)
            obtain ⟨ge, oe, hE, ce⟩ := n7.cell (k := 0) (by rw [← HZ.out]; exact hn)
            rw [Hid0.out, Nat.add_zero] at ce
            subst hE
            rw [Hsb.out]
            go_wp2_with fail
            refine (allx_any h4 HPl.out Hl64.out).mono ?_
            rintro e u6 ⟨A8, c8, rfl, r8, hb⟩
            rw [Hn.out]
            have h5 := h4.over hb
            have r7 := (over7 n7 hb).rowI
            clear h4 hb n7 ce
            go_wp2_with fail
            refine (fsame_yes r8 r7 HZ.out HZ.out HZ1.out).mono ?_
            rintro e u7 ⟨rfl, hq⟩
            have h6 := h5.over (hq.below (Below.refl _ _))
            clear h5 hq r8 r7
            go_wp2_with fail
            refine (lenx_any h6 HPl.out).mono ?_
            rintro e u8 ⟨rfl, rfl⟩
            rw [Hn.out]
            clear hdn hdI hn
            go_wp2_with fail
            go_roundg (gk - 1)
            case measure => omega
            case rel => exact ⟨k + 1, _, _, _, _, _, _, _, by omega, by go_num, by omega, by omega, HPl, h6⟩
          · have hdn : decide (0 < n) = false := by simpa using hn
            have hdI : decide ((0 : Int) < (n : Int)) = false := by simpa using hn
            have Hsb : Hid (someB es2 = false) := hidp (by have := Hn.out; cases h : es2 with | nil => rfl | cons y T => rw [h] at this; simp at this; omega)
            obtain rfl : fd = 0 := by
              have := Hn.out; have h2 := Hfd.out
              cases h : es2 with
              | nil => rw [h] at h2; exact h2.symm
              | cons y T => rw [h] at this; simp at this; omega
            rw [Hsb.out]
            go_wp2_with fail
            refine (allx_any h4 HPl.out Hl64.out).mono ?_
            rintro e u6 ⟨A8, c8, rfl, r8, hb⟩
            rw [Hn.out]
            have h5 := h4.over hb
            have r7 := (over7 n7 hb).rowI
            clear h4 hb n7
            go_wp2_with fail
            refine (fsame_yes r8 r7 HZ.out HZ.out HZ1.out).mono ?_
            rintro e u7 ⟨rfl, hq⟩
            have h6 := h5.over (hq.below (Below.refl _ _))
            clear h5 hq r8 r7
            go_wp2_with fail
            refine (lenx_any h6 HPl.out).mono ?_
            rintro e u8 ⟨rfl, rfl⟩
            rw [Hn.out]
            clear hdn hdI hn
            go_wp2_with fail
            go_roundg (gk - 1)
            case measure => omega
            case rel => exact ⟨k + 1, _, _, _, _, _, _, _, by omega, by go_num, by omega, by omega, HPl, h6⟩
        · by_cases q2 : x ≤ 6
          · go_wp2_with fail
            try rw [hp]
            obtain ⟨u1, hu1⟩ : ∃ u, wr.alloc (.cells #[.int .i64 x, .int .i64 y, .int .i64 v] 29) = u := ⟨_, rfl⟩
            rw [hu1] at h' b0 b1 b2 ⊢
            clear hu1 hp cx cy cv b0 b1 b2
            obtain ⟨hd, Hhd⟩ : ∃ x, Hid (headI es = x) := ⟨_, hidp rfl⟩
            obtain ⟨te, Hte⟩ : ∃ x, Hid (noneE es = x) := ⟨_, hidp rfl⟩
            refine (tx_any h' HPl0.out Hl0.out).mono ?_
            rintro e u2 ⟨rfl, l2, hpl, h2⟩
            rw [Hhd.out, Hte.out]
            clear h'
            go_wp2_with fail
            refine (ft_any h2).mono ?_
            rintro e u3 ⟨rfl, E3, f3, h3⟩
            rw [Hhd.out, Hte.out]
            clear h2
            have HPl := hidp hpl
            clear hpl
            obtain ⟨es2, Hes2⟩ : ∃ ys, Hid (es.tail = ys) := ⟨_, hidp rfl⟩
            rw [Hes2.out] at HPl h3
            have hP2b : P ≤ (k : Int) + 1 := by omega
            obtain ⟨n, Hn⟩ : ∃ n, Hid (es2.length = n) := ⟨_, hidp rfl⟩
            obtain ⟨fd, Hfd⟩ : ∃ x, Hid (headI es2 = x) := ⟨_, hidp rfl⟩
            have hR := h3.rf.len
            rw [rowK_len, Hn.out] at hR
            have n64 : n ≤ 64 := by omega
            have hPl := HPl.out.perm.length_eq
            rw [Hn.out] at hPl
            have Hl64 : Hid (l2.length ≤ 64) := hidp (by omega)
            have HZ : Hid (n = (es2.map EntM.id).length) := hidp (by rw [List.length_map, Hn.out])
            have HZ1 : Hid ((es2.map EntM.id).length ≤ 1000) := hidp (by rw [List.length_map, Hn.out]; omega)
            clear hR hPl
            go_wp2_with fail
            refine (fallx_any h3).mono ?_
            rintro e u4 ⟨A7, c7, rfl, n7, hb⟩
            rw [Hn.out] at n7 ⊢
            have h4 := h3.over hb
            clear h3 hb
            go_wp2_with fail
            refine (firstx_any h4 HPl.out).mono ?_
            rintro e u5 ⟨rfl, rfl⟩
            rw [Hfd.out]
            by_cases hn : 0 < n
            · have hdn : decide (0 < n) = true := by simpa using hn
              have hdI : decide ((0 : Int) < (n : Int)) = true := by simpa using hn
              have Hsb : Hid (someB es2 = true) := hidp (by have := Hn.out; cases h : es2 with | nil => rw [h] at this; simp at this; omega | cons y T => rfl)
              have Hid0 : Hid ((es2.map EntM.id).getD 0 0 = fd) := hidp (by have := Hfd.out; cases h : es2 with | nil => rw [h] at this; exact this | cons y T => rw [h] at this; exact this)
              obtain ⟨ge, oe, hE, ce⟩ := n7.cell (k := 0) (by rw [← HZ.out]; exact hn)
              rw [Hid0.out, Nat.add_zero] at ce
              subst hE
              rw [Hsb.out]
              go_wp2_with fail
              refine (allx_any h4 HPl.out Hl64.out).mono ?_
              rintro e u6 ⟨A8, c8, rfl, r8, hb⟩
              rw [Hn.out]
              have h5 := h4.over hb
              have r7 := (over7 n7 hb).rowI
              clear h4 hb n7 ce
              go_wp2_with fail
              refine (fsame_yes r8 r7 HZ.out HZ.out HZ1.out).mono ?_
              rintro e u7 ⟨rfl, hq⟩
              have h6 := h5.over (hq.below (Below.refl _ _))
              clear h5 hq r8 r7
              go_wp2_with fail
              refine (lenx_any h6 HPl.out).mono ?_
              rintro e u8 ⟨rfl, rfl⟩
              rw [Hn.out]
              clear hdn hdI hn
              go_wp2_with fail
              go_roundg (gk - 1)
              case measure => omega
              case rel => exact ⟨k + 1, _, _, _, _, _, _, _, by omega, by go_num, by omega, by omega, HPl, h6⟩
            · have hdn : decide (0 < n) = false := by simpa using hn
              have hdI : decide ((0 : Int) < (n : Int)) = false := by simpa using hn
              have Hsb : Hid (someB es2 = false) := hidp (by have := Hn.out; cases h : es2 with | nil => rfl | cons y T => rw [h] at this; simp at this; omega)
              obtain rfl : fd = 0 := by
                have := Hn.out; have h2 := Hfd.out
                cases h : es2 with
                | nil => rw [h] at h2; exact h2.symm
                | cons y T => rw [h] at this; simp at this; omega
              rw [Hsb.out]
              go_wp2_with fail
              refine (allx_any h4 HPl.out Hl64.out).mono ?_
              rintro e u6 ⟨A8, c8, rfl, r8, hb⟩
              rw [Hn.out]
              have h5 := h4.over hb
              have r7 := (over7 n7 hb).rowI
              clear h4 hb n7
              go_wp2_with fail
              refine (fsame_yes r8 r7 HZ.out HZ.out HZ1.out).mono ?_
              rintro e u7 ⟨rfl, hq⟩
              have h6 := h5.over (hq.below (Below.refl _ _))
              clear h5 hq r8 r7
              go_wp2_with fail
              refine (lenx_any h6 HPl.out).mono ?_
              rintro e u8 ⟨rfl, rfl⟩
              rw [Hn.out]
              clear hdn hdI hn
              go_wp2_with fail
              go_roundg (gk - 1)
              case measure => omega
              case rel => exact ⟨k + 1, _, _, _, _, _, _, _, by omega, by go_num, by omega, by omega, HPl, h6⟩
          · go_wp2_with fail
            try rw [hp]
            obtain ⟨u1, hu1⟩ : ∃ u, wr.alloc (.cells #[.int .i64 x, .int .i64 y, .int .i64 v] 29) = u := ⟨_, rfl⟩
            rw [hu1] at h' b0 b1 b2 ⊢
            clear hu1 hp cx cy cv
            refine wp_region_held_drew (S := fun w' => w'.cell? ⟨p, 2, none⟩ = some (.int .i64 v)) (by kernel_rfl) ?_ (fun hHeld => ?_)
            · exact b2
            replace h' := h'.over ((Below.refl u1.heap.size u1).drew)
            have s1 : u1.drew.cell? ⟨p, 2, none⟩ = some (.int .i64 v) := b2
            clear b0 b1 b2
            obtain ⟨dk, Hdk⟩ : ∃ x, Hid ((bestE l v l.length).isSome = x) := ⟨_, hidp rfl⟩
            refine wpAnyH_take (i := 0) (v := ?_) rfl (by kernel_rfl) (by kernel_rfl) (by kernel_rfl) (fun _ _ _ h => h) (Or.inl ⟨by rfl, ?_⟩) (by assumption) ?_
            rotate_left 1
            · ((intro w hSw; (try dsimp only at hSw); go_simp); (try with_reducible rfl))
            simp only [Act.put, List.setIfInBounds_toArray, List.set_cons_zero, List.set_cons_succ, List.getElem_toArray, List.getElem_cons_zero, List.getElem_cons_succ]
            refine wpAnyH_take (i := 1) (v := ?_) rfl (by kernel_rfl) (by kernel_rfl) (by kernel_rfl) (fun _ _ _ h => h) (Or.inl ⟨by rfl, ?_⟩) (by assumption) ?_
            rotate_left 1
            · ((intro w hSw; (try dsimp only at hSw); go_simp); (try with_reducible rfl))
            simp only [Act.put, List.setIfInBounds_toArray, List.set_cons_zero, List.set_cons_succ, List.getElem_toArray, List.getElem_cons_zero, List.getElem_cons_succ]
            refine wpAnyH_take (i := 2) (v := ?_) rfl (by kernel_rfl) (by kernel_rfl) (by kernel_rfl) (fun _ _ _ h => h) (Or.inl ⟨by rfl, ?_⟩) (by assumption) ?_
            rotate_left 1
            · ((intro w hSw; (try dsimp only at hSw); go_simp); (try with_reducible rfl))
            simp only [Act.put, List.setIfInBounds_toArray, List.set_cons_zero, List.set_cons_succ, List.getElem_toArray, List.getElem_cons_zero, List.getElem_cons_succ]
            refine wpAnyH_take (i := 4) (v := ?_) rfl (by kernel_rfl) (by kernel_rfl) (by kernel_rfl) (fun _ _ _ h => h) (Or.inl ⟨by rfl, ?_⟩) (by assumption) ?_
            rotate_left 1
            · ((intro w hSw; (try dsimp only at hSw); go_simp); (try with_reducible rfl))
            simp only [Act.put, List.setIfInBounds_toArray, List.set_cons_zero, List.set_cons_succ, List.getElem_toArray, List.getElem_cons_zero, List.getElem_cons_succ]
            refine wpAnyH_take (i := 5) (v := ?_) rfl (by kernel_rfl) (by kernel_rfl) (by kernel_rfl) (fun _ _ _ h => h) (Or.inl ⟨by rfl, ?_⟩) (by assumption) ?_
            rotate_left 1
            · ((intro w hSw; (try dsimp only at hSw); go_simp); (try with_reducible rfl))
            simp only [Act.put, List.setIfInBounds_toArray, List.set_cons_zero, List.set_cons_succ, List.getElem_toArray, List.getElem_cons_zero, List.getElem_cons_succ]
            refine wpAnyH_take (i := 6) (v := ?_) rfl (by kernel_rfl) (by kernel_rfl) (by kernel_rfl) (fun _ _ _ h => h) (Or.inl ⟨by rfl, ?_⟩) (by assumption) ?_
            rotate_left 1
            · ((intro w hSw; (try dsimp only at hSw); go_simp); (try with_reducible rfl))
            simp only [Act.put, List.setIfInBounds_toArray, List.set_cons_zero, List.set_cons_succ, List.getElem_toArray, List.getElem_cons_zero, List.getElem_cons_succ]
            refine wpAnyH_ready (rs := [3]) (by kernel_rfl) (by simp) ?_
            refine AllReadyH.cons rfl (fun K hK => ?_) AllReadyH.nil
            go_simp
            (with_reducible refine (dx_any (id := v) h' Hl0.out).mono ?_)
            rintro e u2 ⟨rfl, ht2, h2⟩
            rw [Hdk.out]
            have s2 := ht2.cell s1 HFr.out.1
            clear hHeld h' ht2
            go_wp2_with fail
            refine hK.out _ _ ?_ (fun hHeld => ?_)
            · exact s2
            clear hK K
            try simp only [Act.put, List.setIfInBounds_toArray, List.set_cons_zero, List.set_cons_succ, List.getElem_toArray, List.getElem_cons_zero, List.getElem_cons_succ]
            refine wpAnyH_ready (rs := [7]) (by kernel_rfl) (by simp) ?_
            refine AllReadyH.cons rfl (fun K hK => ?_) AllReadyH.nil
            go_simp
            (with_reducible refine (fd_any (id := v) h2 HPl0.out).mono ?_)
            rintro e u3 ⟨rfl, ht3, es2, E3, f3, hpl, _, h3⟩
            rw [Hdk.out]
            have s3 := ht3.cell s2 HFr.out.2
            clear hHeld h2 ht3 s1
            go_wp2_with fail
            refine hK.out _ _ ?_ (fun hHeld => ?_)
            · exact s3
            clear hK K
            try simp only [Act.put, List.setIfInBounds_toArray, List.set_cons_zero, List.set_cons_succ, List.getElem_toArray, List.getElem_cons_zero, List.getElem_cons_succ]
            refine wpAnyH_take (i := 8) (v := ?_) rfl (by kernel_rfl) (by kernel_rfl) (by kernel_rfl) (fun _ _ _ h => h) (Or.inl ⟨by rfl, ?_⟩) (by assumption) ?_
            rotate_left 1
            · ((intro w hSw; (try dsimp only at hSw); go_simp); (try with_reducible rfl))
            simp only [Act.put, List.setIfInBounds_toArray, List.set_cons_zero, List.set_cons_succ, List.getElem_toArray, List.getElem_cons_zero, List.getElem_cons_succ]
            refine wpAnyH_take (i := 9) (v := ?_) rfl (by kernel_rfl) (by kernel_rfl) (by kernel_rfl) (fun _ _ _ h => h) (Or.inl ⟨by rfl, ?_⟩) (by assumption) ?_
            rotate_left 1
            · ((intro w hSw; (try dsimp only at hSw); go_simp); (try with_reducible rfl))
            simp only [Act.put, List.setIfInBounds_toArray, List.set_cons_zero, List.set_cons_succ, List.getElem_toArray, List.getElem_cons_zero, List.getElem_cons_succ]
            refine wpAnyH_done (by kernel_rfl) ?_ _
            clear hHeld s2 s3
            have HPl := hidp hpl
            clear hpl
            obtain ⟨l2, Hl2⟩ : ∃ ys, Hid (dropL l v = ys) := ⟨_, hidp rfl⟩
            rw [Hl2.out] at HPl h3
            have hP2b : P ≤ (k : Int) + 1 := by omega
            obtain ⟨n, Hn⟩ : ∃ n, Hid (es2.length = n) := ⟨_, hidp rfl⟩
            obtain ⟨fd, Hfd⟩ : ∃ x, Hid (headI es2 = x) := ⟨_, hidp rfl⟩
            have hR := h3.rf.len
            rw [rowK_len, Hn.out] at hR
            have n64 : n ≤ 64 := by omega
            have hPl := HPl.out.perm.length_eq
            rw [Hn.out] at hPl
            have Hl64 : Hid (l2.length ≤ 64) := hidp (by omega)
            have HZ : Hid (n = (es2.map EntM.id).length) := hidp (by rw [List.length_map, Hn.out])
            have HZ1 : Hid ((es2.map EntM.id).length ≤ 1000) := hidp (by rw [List.length_map, Hn.out]; omega)
            clear hR hPl
            go_wp2_with fail
            refine (fallx_any h3).mono ?_
            rintro e u4 ⟨A7, c7, rfl, n7, hb⟩
            rw [Hn.out] at n7 ⊢
            have h4 := h3.over hb
            clear h3 hb
            go_wp2_with fail
            refine (firstx_any h4 HPl.out).mono ?_
            rintro e u5 ⟨rfl, rfl⟩
            rw [Hfd.out]
            by_cases hn : 0 < n
            · have hdn : decide (0 < n) = true := by simpa using hn
              have hdI : decide ((0 : Int) < (n : Int)) = true := by simpa using hn
              have Hsb : Hid (someB es2 = true) := hidp (by have := Hn.out; cases h : es2 with | nil => rw [h] at this; simp at this; omega | cons y T => rfl)
              have Hid0 : Hid ((es2.map EntM.id).getD 0 0 = fd) := hidp (by have := Hfd.out; cases h : es2 with | nil => rw [h] at this; exact this | cons y T => rw [h] at this; exact this)
              obtain ⟨ge, oe, hE, ce⟩ := n7.cell (k := 0) (by rw [← HZ.out]; exact hn)
              rw [Hid0.out, Nat.add_zero] at ce
              subst hE
              rw [Hsb.out]
              go_wp2_with fail
              refine (allx_any h4 HPl.out Hl64.out).mono ?_
              rintro e u6 ⟨A8, c8, rfl, r8, hb⟩
              rw [Hn.out]
              have h5 := h4.over hb
              have r7 := (over7 n7 hb).rowI
              clear h4 hb n7 ce
              go_wp2_with fail
              refine (fsame_yes r8 r7 HZ.out HZ.out HZ1.out).mono ?_
              rintro e u7 ⟨rfl, hq⟩
              have h6 := h5.over (hq.below (Below.refl _ _))
              clear h5 hq r8 r7
              go_wp2_with fail
              refine (lenx_any h6 HPl.out).mono ?_
              rintro e u8 ⟨rfl, rfl⟩
              rw [Hn.out]
              clear hdn hdI hn
              go_wp2_with fail
              go_roundg (gk - 1)
              case measure => omega
              case rel => exact ⟨k + 1, _, _, _, _, _, _, _, by omega, by go_num, by omega, by omega, HPl, h6⟩
            · have hdn : decide (0 < n) = false := by simpa using hn
              have hdI : decide ((0 : Int) < (n : Int)) = false := by simpa using hn
              have Hsb : Hid (someB es2 = false) := hidp (by have := Hn.out; cases h : es2 with | nil => rfl | cons y T => rw [h] at this; simp at this; omega)
              obtain rfl : fd = 0 := by
                have := Hn.out; have h2 := Hfd.out
                cases h : es2 with
                | nil => rw [h] at h2; exact h2.symm
                | cons y T => rw [h] at this; simp at this; omega
              rw [Hsb.out]
              go_wp2_with fail
              refine (allx_any h4 HPl.out Hl64.out).mono ?_
              rintro e u6 ⟨A8, c8, rfl, r8, hb⟩
              rw [Hn.out]
              have h5 := h4.over hb
              have r7 := (over7 n7 hb).rowI
              clear h4 hb n7
              go_wp2_with fail
              refine (fsame_yes r8 r7 HZ.out HZ.out HZ1.out).mono ?_
              rintro e u7 ⟨rfl, hq⟩
              have h6 := h5.over (hq.below (Below.refl _ _))
              clear h5 hq r8 r7
              go_wp2_with fail
              refine (lenx_any h6 HPl.out).mono ?_
              rintro e u8 ⟨rfl, rfl⟩
              rw [Hn.out]
              clear hdn hdI hn
              go_wp2_with fail
              go_roundg (gk - 1)
              case measure => omega
              case rel => exact ⟨k + 1, _, _, _, _, _, _, _, by omega, by go_num, by omega, by omega, HPl, h6⟩
      · obtain rfl : k = z1.length := by omega
        have hb := h.up.up.below
        clear h
        go_wp2_with fail
        go_ret
        exact ⟨rfl, hb⟩

theorem own : ownKnob Try.prog.godebug = none := by kernel_rfl
theorem laidOut : laidOutB Try.prog = true := by kernel_rfl

/-! THE ROW's STEP -/
set_option maxRecDepth 100000 in
theorem lifted (os : Os) (started : os.Started) (H : Type) (enc : TypeId × Value → H) :
    ReturnsInHanded {} Try.checked os 3 .any (Rows.rankPlaysSpec.pre6 enc Try.prog Try.f3 Rows.rankPlaysRow.domain false) (Rows.rankPlaysSpec.post enc Try.prog Try.f3 false true false false) := by
  refine returnsInHanded_of_change (C := Try.checked) own started (by kernel_rfl) Try.func3
    (ChangeSpec.witness6 (enc := enc) (C := Try.checked) false ⟨#[], #[.int .i64 0, .slice none 0 0], []⟩ 8 (by kernel_rfl) (by kernel_rfl) (by kernel_rfl) (by kernel_rfl)) ?_
  intro W base args ds gs before hval0 hW hcnd _
  have hval : ∀ (j : Nat) t v, Try.f3.params[j]? = some t → args[j]? = some v → Value.okWide Try.prog W .any base t v := hval0
  have hW' := hW
  obtain ⟨p, q, hA0, hV, rfl, hfz, hnd⟩ := hW
  have hA : DataW.TrodAll enc Try.prog W 0 (fun _ => true) true Try.f3.params.toList args.toList ds p := hA0
  rw [Try.params3] at hA hval
  obtain ⟨v0, vs0, d0, ds0, p0, q0, hargs, rfl, rfl, h0, r0⟩ := trodAll_cons hA
  obtain ⟨v1, vs1, d1, ds1, p1, q1, rfl, rfl, rfl, h1, r1⟩ := trodAll_cons r0
  obtain ⟨rfl, rfl, rfl⟩ := trodAll_nil r1
  obtain rfl : args = #[v0, v1] := by cases args; simp_all
  obtain ⟨rfl, rfl⟩ := trodVars_none hV
  obtain ⟨a0, rfl, rfl, rfl, w0⟩ := open_int Try.underlying3 (hval 0 3 v0 rfl rfl) h0
  obtain ⟨a1, len1, cap1, rfl⟩ := okWide_slice Try.underlying22 (hval 1 22 v1 rfl rfl)
  have k1 := h1
  have lt1 : ∀ x ∈ p1, x.block < W.heap.size := by obtain ⟨m, hm⟩ := k1; exact DataW.trod_lt m _ _ _ hm
  obtain ⟨z1, w1⟩ : ∃ zs, IsTrips W a1 len1 cap1 zs := by
    obtain ⟨fuel, hf⟩ := h1
    obtain ⟨x1, x2, x3, zs, hcs, hz⟩ := open_trips Try.underlying22 Try.underlying29 (by kernel_rfl) (by kernel_rfl) Try.underlying3 Try.underlying3 Try.underlying3 hf
    simp [Value.cells] at hcs
    obtain ⟨rfl, rfl, rfl⟩ := hcs
    exact ⟨zs, hz⟩
  clear hA0 hval0
  refine (walk a0 a1 len1 cap1 z1 W w0 w1).mono fun e W' ⟨he, bel⟩ => ?_
  subst he
  exact ⟨_, rfl, _, _, _, [], _, [], hW', trodAll_mk1 (shut_bool Try.underlying4 _), (trodAll_cons_mk (shut_int Try.underlying3 w0) (trodAll_cons_mk (Below.trod laidOut (by kernel_rfl) (of_decide_eq_true (by kernel_rfl)) k1 bel lt1) trodAll_mk0)), rfl, bel.frame _, fun h => by cases h⟩

theorem over : Rows.rankPlaysRow.holds Try.pinned (OpenSpec.ofChange Rows.rankPlaysSpec) :=
  OpenClaim.holds_of_wide 3 Try.f3 rfl rfl rfl rfl rfl rfl rfl ⟨rfl, rfl, rfl, rfl, rfl⟩ rfl rfl rfl rfl rfl (by kernel_rfl) Try.func3 (by kernel_rfl)
    (of_decide_eq_true (by kernel_rfl)) (by unfold Func.isWrapper; first | (rw [if_pos (by decide +kernel)]; kernel_rfl) | (rw [if_neg (by decide +kernel)]; exact ⟨rfl, rfl⟩))
    (fun os started H enc _ => lifted os started H enc)

/-- THE STATEMENT -/
theorem proved : Rows.RankPlaysSaid := over
#print axioms proved
end Go.Proofs.Ytpcbonljbfbdmaa.rankPlays

