/- LinePlays: a line answers, and holds, what the document's line does, whatever is put, taken, dropped. No condition. -/
import Derived.Test.YtlejnbepldpmmaaLineBoth
import Derived.Test.YtlejnbepldpmmaaPairs
import Derived.Test.YtlejnbepldpmmaaReg
import Derived.Deep.RegionHeld3
import Derived.BigQuiet
set_option linter.unusedSimpArgs false
namespace Go.Proofs.Ytlejnbepldpmmaa
open Go.ChangeShapes Go.WideShapes Go.ChangeAt Go.RowKit
theorem keep2 {w w1 : World} {p q : Addr} {u v : Value} (hb : Below w.heap.size w w1) (h : w.cell? p = some u ∧ w.cell? q = some v) : w1.cell? p = some u ∧ w1.cell? q = some v :=
  ⟨(hb.cell (cell_lt h.1)).trans h.1, (hb.cell (cell_lt h.2)).trans h.2⟩
theorem qb {w w' : World} (h : Qt w w') : Below w.heap.size w w' := h.below (Below.refl _ _)
end Go.Proofs.Ytlejnbepldpmmaa
set_option maxHeartbeats 4000000
set_option maxRecDepth 100000
namespace Go.Proofs.Ytlejnbepldpmmaa.linePlays
open Go.ChangeShapes Go.WideShapes Go.ChangeAt Go.RowKit
open Go.ChangeMaps (open_string shut_string)
set_option linter.unusedVariables false

/-- THE WALK: the Go text returns true, and writes nothing that was there. -/
theorem walk (a0 : Int) (a1 : Option Addr) (len1 cap1 : Nat) (z1 : List (Int × Int)) (w : World) (w0 : (Lit.int .i64 a0).wf = true) (w1 : IsPairs w a1 len1 cap1 z1) :
    Calls Try.prog 4 #[.int .i64 a0, .slice a1 len1 cap1] w fun e w' => e = .returned (.bool true) ∧ Below w.heap.size w w' := by
  obtain ⟨hl, hcap, hm, hfit, _, hc⟩ := w1.row
  have h0 := i64_of w0
  unfold maxLen at hm
  have HF := hidp hfit
  have HC := hidp hc
  have HL := hidp hl
  clear w0 w1 hfit hc hl
  obtain ⟨R, HR⟩ : ∃ R, Hid (heldR a0 = R) := ⟨_, hidp rfl⟩
  by_cases h100 : 100 < len1
  · go_enter Try.func4, Try.ntmps4
    go_wp2_with fail
    refine (known3_any _).mono ?_
    rintro e u1 ⟨rfl, hb1⟩
    go_wp2_with fail
    go_ret
    exact ⟨rfl, hb1⟩
  · go_enter Try.func4, Try.ntmps4
    go_wp2_with fail
    refine (known3_any _).mono ?_
    rintro e u1 ⟨rfl, hb1⟩
    go_wp2_with fail
    refine (new_any a0 _ h0).mono ?_
    rintro e u2 ⟨rfl, rfl⟩
    go_wp2_with fail
    refine (newline_any a0 _ h0).mono ?_
    rintro e u3 ⟨rfl, rfl⟩
    have h := LR.new hb1 a0
    go_wp2_with fail
    rw [HR.out] at h ⊢
    generalize hu : ((u1.alloc (.cells #[.int .i64 R, .slice none 0 0] 94)).alloc (.cells #[.slice none 0 0, .int .i64 R] 48)) = u at h ⊢
    clear hu hb1
    generalize u1.heap.size + 1 = d at h ⊢
    generalize u1.heap.size = b at h ⊢
    go_loopg [7] len1 (fun gg i wr => ∃ (k : Nat) (zs : List Int) (cs : Array Value) (A : Option Addr) (c : Nat) (E : Option Addr) (f : Nat), k + gg = len1 ∧ i = .int .i64 k ∧ LR w.heap.size w wr b d R zs zs cs A c E f)
    case atStart => exact ⟨0, [], _, none, 0, none, 0, by omega, rfl, h⟩
    case round =>
      clear h
      obtain ⟨k, zs, cs, A, c, E, f, hk, rfl, h⟩ := hrel
      by_cases hlt : k < len1
      · have hkz : k < z1.length := by rw [HL.out]; exact hlt
        obtain ⟨g, off, hA, hcl⟩ := HC.out.resolve_left (by intro e; rw [e] at hkz; simp at hkz)
        subst hA
        have hfk := HF.out (z1.getD k (0, 0)) (by simp [List.getD, hkz])
        obtain ⟨x, Hx⟩ : ∃ x, Hid ((z1.getD k (0, 0)).1 = x) := ⟨_, hidp rfl⟩
        obtain ⟨y, Hy⟩ : ∃ x, Hid ((z1.getD k (0, 0)).2 = x) := ⟨_, hidp rfl⟩
        have hc2 := hcl k hkz
        rw [Hx.out, Hy.out] at hc2 hfk
        obtain ⟨fx, fy⟩ := hfk
        have Hcl := hidp hc2
        have cx : wr.cell? ⟨g, off + k * 2, none⟩ = some (.int .i64 x) := (h.below.cell (cell_lt Hcl.out.1)).trans Hcl.out.1
        have cy : wr.cell? ⟨g, off + k * 2 + 1, none⟩ = some (.int .i64 y) := (h.below.cell (cell_lt Hcl.out.2)).trans Hcl.out.2
        obtain ⟨pe, Hpe⟩ : ∃ x, Hid (putE R zs = x) := ⟨_, hidp rfl⟩
        obtain ⟨te, Hte⟩ : ∃ x, Hid (takE zs = x) := ⟨_, hidp rfl⟩
        obtain ⟨hd, Hhd⟩ : ∃ x, Hid (zs.headD 0 = x) := ⟨_, hidp rfl⟩
        obtain ⟨pk, Hpk⟩ : ∃ x, Hid (plK zs y = x) := ⟨_, hidp rfl⟩
        obtain ⟨fr1, fr2⟩ := h.fresh rfl
        have h' := h.over ((Below.refl _ _).alloc (Nat.le_refl _) (.cells #[.int .i64 x, .int .i64 y] 35))
        have bs : (wr.alloc (.cells #[.int .i64 x, .int .i64 y] 35)).cell? ⟨wr.heap.size, 0, none⟩ = some (.int .i64 x) ∧ (wr.alloc (.cells #[.int .i64 x, .int .i64 y] 35)).cell? ⟨wr.heap.size, 1, none⟩ = some (.int .i64 y) := ⟨by simp, by simp⟩
        have e0 : (0 : Int) ≤ (k : Int) := by omega
        have e1 : (k : Int) < (len1 : Int) := by omega
        clear hcl hc2 h
        have HFr := hidp (And.intro fr1 fr2)
        clear fr1 fr2
        obtain ⟨p, hp⟩ : ∃ p, wr.heap.size = p := ⟨_, rfl⟩
        rw [hp] at bs HFr
        by_cases q1 : x ≤ 3
        · go_wp2_with fail
          try rw [hp]
          obtain ⟨u1, hu1⟩ : ∃ u, wr.alloc (.cells #[.int .i64 x, .int .i64 y] 35) = u := ⟨_, rfl⟩
          rw [hu1] at h' bs ⊢
          clear hu1 hp cx cy
          refine wp_region_held_drew (S := fun w' => w'.cell? ⟨p, 1, none⟩ = some (.int .i64 y)) (by kernel_rfl) ?_ (fun hHeld => ?_)
          · exact bs.2
          replace h' := h'.drew
          have s1 : u1.drew.cell? ⟨p, 1, none⟩ = some (.int .i64 y) := bs.2
          clear bs
          refine wpAnyH_take (i := 0) (v := ?_) rfl (by kernel_rfl) (by kernel_rfl) (by kernel_rfl) (fun _ _ _ h => h) (Or.inl ⟨by rfl, ?_⟩) (by assumption) ?_
          rotate_left 1
          · ((intro w hSw; (try dsimp only at hSw); go_simp); (try with_reducible rfl))
          simp only [Act.put, List.setIfInBounds_toArray, List.set_cons_zero, List.set_cons_succ, List.getElem_toArray, List.getElem_cons_zero, List.getElem_cons_succ]
          refine wpAnyH_take (i := 1) (v := ?_) rfl (by kernel_rfl) (by kernel_rfl) (by kernel_rfl) (fun _ _ _ h => h) (Or.inl ⟨by rfl, ?_⟩) (by assumption) ?_
          rotate_left 1
          · ((intro w hSw; (try dsimp only at hSw); go_simp); (try with_reducible rfl))
          simp only [Act.put, List.setIfInBounds_toArray, List.set_cons_zero, List.set_cons_succ, List.getElem_toArray, List.getElem_cons_zero, List.getElem_cons_succ]
          refine wpAnyH_take (i := 2) (v := ?_) rfl (by kernel_rfl) (by kernel_rfl) (by kernel_rfl) (fun _ _ _ h => h) (Or.inl ⟨by rfl, ?_⟩) (by assumption) ?_
          rotate_left 1
          · ((intro w hSw; (try dsimp only at hSw); go_simp); (try with_reducible rfl))
          simp only [Act.put, List.setIfInBounds_toArray, List.set_cons_zero, List.set_cons_succ, List.getElem_toArray, List.getElem_cons_zero, List.getElem_cons_succ]
          refine wpAnyH_take (i := 4) (v := ?_) rfl (by kernel_rfl) (by kernel_rfl) (by kernel_rfl) (fun _ _ _ h => h) (Or.inl ⟨by rfl, ?_⟩) (by assumption) ?_
          rotate_left 1
          · ((intro w hSw; (try dsimp only at hSw); go_simp); (try with_reducible rfl))
          simp only [Act.put, List.setIfInBounds_toArray, List.set_cons_zero, List.set_cons_succ, List.getElem_toArray, List.getElem_cons_zero, List.getElem_cons_succ]
          refine wpAnyH_take (i := 5) (v := ?_) rfl (by kernel_rfl) (by kernel_rfl) (by kernel_rfl) (fun _ _ _ h => h) (Or.inl ⟨by rfl, ?_⟩) (by assumption) ?_
          rotate_left 1
          · ((intro w hSw; (try dsimp only at hSw); go_simp); (try with_reducible rfl))
          simp only [Act.put, List.setIfInBounds_toArray, List.set_cons_zero, List.set_cons_succ, List.getElem_toArray, List.getElem_cons_zero, List.getElem_cons_succ]
          refine wpAnyH_take (i := 6) (v := ?_) rfl (by kernel_rfl) (by kernel_rfl) (by kernel_rfl) (fun _ _ _ h => h) (Or.inl ⟨by rfl, ?_⟩) (by assumption) ?_
          rotate_left 1
          · ((intro w hSw; (try dsimp only at hSw); go_simp); (try with_reducible rfl))
          simp only [Act.put, List.setIfInBounds_toArray, List.set_cons_zero, List.set_cons_succ, List.getElem_toArray, List.getElem_cons_zero, List.getElem_cons_succ]
          refine wpAnyH_ready (rs := [3]) (by kernel_rfl) (by simp) ?_
          refine AllReadyH.cons rfl (fun K hK => ?_) AllReadyH.nil
          go_simp
          (with_reducible refine (put_x (id := y) h'.ln fy).mono ?_)
          intro e u2 hp2
          rw [Hpe.out] at hp2
          obtain ⟨rfl, ht2, cs2, A2, c2, h2⟩ := h'.lnp hp2
          have s2 := ht2.cell' HFr.out.1 s1
          clear hHeld h' hp2 ht2
          go_wp2_with fail
          refine hK.out _ _ ?_ (fun hHeld => ?_)
          · exact s2
          clear hK K
          try simp only [Act.put, List.setIfInBounds_toArray, List.set_cons_zero, List.set_cons_succ, List.getElem_toArray, List.getElem_cons_zero, List.getElem_cons_succ]
          refine wpAnyH_ready (rs := [7]) (by kernel_rfl) (by simp) ?_
          refine AllReadyH.cons rfl (fun K hK => ?_) AllReadyH.nil
          go_simp
          (with_reducible refine (rput_x (id := y) h2.rf fy).mono ?_)
          intro e u3 hp3
          rw [Hpe.out] at hp3
          obtain ⟨rfl, ht3, E3, f3, h3⟩ := h2.rfp hp3
          have s3 := ht3.cell' HFr.out.2 s2
          clear hHeld h2 hp3 ht3 s1
          go_wp2_with fail
          refine hK.out _ _ ?_ (fun hHeld => ?_)
          · exact s3
          clear hK K
          try simp only [Act.put, List.setIfInBounds_toArray, List.set_cons_zero, List.set_cons_succ, List.getElem_toArray, List.getElem_cons_zero, List.getElem_cons_succ]
          refine wpAnyH_take (i := 8) (v := ?_) rfl (by kernel_rfl) (by kernel_rfl) (by kernel_rfl) (fun _ _ _ h => h) (Or.inl ⟨by rfl, ?_⟩) (by assumption) ?_
          rotate_left 1
          · ((intro w hSw; (try dsimp only at hSw); go_simp); (try with_reducible rfl))
          simp only [Act.put, List.setIfInBounds_toArray, List.set_cons_zero, List.set_cons_succ, List.getElem_toArray, List.getElem_cons_zero, List.getElem_cons_succ]
          refine wpAnyH_take (i := 9) (v := ?_) rfl (by kernel_rfl) (by kernel_rfl) (by kernel_rfl) (fun _ _ _ h => h) (Or.inl ⟨by rfl, ?_⟩) (by assumption) ?_
          rotate_left 1
          · ((intro w hSw; (try dsimp only at hSw); go_simp); (try with_reducible rfl))
          simp only [Act.put, List.setIfInBounds_toArray, List.set_cons_zero, List.set_cons_succ, List.getElem_toArray, List.getElem_cons_zero, List.getElem_cons_succ]
          refine wpAnyH_done (by kernel_rfl) ?_ _
          clear hHeld s2 s3
          obtain ⟨ys, Hys⟩ : ∃ ys, Hid (putZ R zs y = ys) := ⟨_, hidp rfl⟩
          rw [Hys.out] at h3
          go_wp2_with fail
          obtain ⟨n, Hn⟩ : ∃ n, Hid (ys.length = n) := ⟨_, hidp rfl⟩
          obtain ⟨fd, Hfd⟩ : ∃ x, Hid (ys.headD 0 = x) := ⟨_, hidp rfl⟩
          obtain ⟨qk, Hqk⟩ : ∃ x, Hid (plK ys y = x) := ⟨_, hidp rfl⟩
          obtain ⟨av, Hav⟩ : ∃ x, Hid (atR ys y = x) := ⟨_, hidp rfl⟩
          have hav : decide ((0 : Int) ≤ av) = qk := by
            rw [← Hav.out, ← Hqk.out]
            cases hq : plK ys y
            · rw [atR_no hq]; rfl
            · rw [atR_yes hq]; simp
          have n64 : n ≤ 64 := by rw [← Hn.out]; have := h3.rf.len; omega
          have HnI : Hid (((ys.length : Nat) : Int) = (n : Int)) := hidp (by rw [Hn.out])
          have HnS : Hid (n = ys.length) := hidp Hn.out.symm
          have H1000 : Hid (ys.length ≤ 1000) := hidp (by have := Hn.out; omega)
          have d0 : u3.cell? ⟨d, 0, none⟩ = some (.slice E3 n f3) := by have := h3.rf.blk.cell 0; rw [Hn.out] at this; exact this
          refine (first_x h3.ln).mono ?_
          rintro e u4 ⟨rfl, rfl⟩
          rw [Hfd.out, Hn.out]
          by_cases hn : 0 < n
          · have hdn : decide (0 < n) = true := by simpa using hn
            have hdI : decide ((0 : Int) < (n : Int)) = true := by simpa using hn
            obtain ⟨ge, oe, hE, hce⟩ := h3.rf.rd.r.resolve_left (by intro e; rw [e] at Hn; have := Hn.out; simp at this; omega)
            have ce := hce 0 (by have := Hn.out; omega)
            rw [show ys.getD 0 0 = fd by rw [← Hfd.out]; cases ys <;> rfl, Nat.add_zero] at ce
            subst hE
            clear hce
            go_wp2_with fail
            clear ce hdn hdI
            have cy3 : u3.cell? ⟨g, off + k * 2 + 1, none⟩ = some (.int .i64 y) := (h3.below.cell (cell_lt Hcl.out.2)).trans Hcl.out.2
            have hs : u3.drew.cell? ⟨d, 0, none⟩ = some (.slice (some ⟨ge, oe, none⟩) n f3) ∧ u3.drew.cell? ⟨g, off + k * 2 + 1, none⟩ = some (.int .i64 y) := ⟨d0, cy3⟩
            replace h3 := h3.drew
            clear d0 cy3
            go_region_held3 (fun w' => w'.cell? ⟨d, 0, none⟩ = some (.slice (some ⟨ge, oe, none⟩) n f3) ∧ w'.cell? ⟨g, off + k * 2 + 1, none⟩ = some (.int .i64 y)) (exact hs)
              (first
                | (go_at_call 24; refine (all_any h3.ln).mono ?_; rintro e u ⟨A7, c7, rfl, o7, hb⟩; rw [Hn.out]; have r7 := (Rd.of_own o7 h3.ln.fit).r; have h3 := h3.over hb; have hs := keep2 hb hs)
                | (go_at_call 23; refine (same_yes r7 h3.rf.rd.r HnS.out HnS.out H1000.out).mono ?_; rintro e u ⟨rfl, hq⟩; have hb := qb hq; have h3 := h3.over hb; have hs := keep2 hb hs)
                | (go_at_call 25; refine (len_eq (n := (n : Int)) h3.ln HnI.out).mono ?_; rintro e u ⟨rfl, rfl⟩)
                | (go_at_call 26; refine (has_eq h3.ln Hqk.out).mono ?_; rintro e u ⟨rfl, rfl⟩)
                | (go_at_call 27; refine (at_any (id := y) h3.rf.rd.r HnS.out H1000.out).mono ?_; rintro e u ⟨rfl, rfl⟩; rw [Hav.out]))
            clear hav
            go_wp2_with fail
            go_roundg (gk - 1)
            case measure => omega
            case rel => exact ⟨k + 1, ys, cs2, A2, c2, (some ⟨ge, oe, none⟩), f3, by omega, by go_num, h3⟩
          · have hdn : decide (0 < n) = false := by simpa using hn
            have hdI : decide ((0 : Int) < (n : Int)) = false := by simpa using hn
            obtain rfl : fd = 0 := by
              have h1 := Hn.out; have h2 := Hfd.out
              cases ys with
              | nil => exact h2.symm
              | cons a l => simp at h1; omega
            go_wp2_with fail
            clear hdn hdI
            have cy3 : u3.cell? ⟨g, off + k * 2 + 1, none⟩ = some (.int .i64 y) := (h3.below.cell (cell_lt Hcl.out.2)).trans Hcl.out.2
            have hs : u3.drew.cell? ⟨d, 0, none⟩ = some (.slice E3 n f3) ∧ u3.drew.cell? ⟨g, off + k * 2 + 1, none⟩ = some (.int .i64 y) := ⟨d0, cy3⟩
            replace h3 := h3.drew
            clear d0 cy3
            go_region_held3 (fun w' => w'.cell? ⟨d, 0, none⟩ = some (.slice E3 n f3) ∧ w'.cell? ⟨g, off + k * 2 + 1, none⟩ = some (.int .i64 y)) (exact hs)
              (first
                | (go_at_call 24; refine (all_any h3.ln).mono ?_; rintro e u ⟨A7, c7, rfl, o7, hb⟩; rw [Hn.out]; have r7 := (Rd.of_own o7 h3.ln.fit).r; have h3 := h3.over hb; have hs := keep2 hb hs)
                | (go_at_call 23; refine (same_yes r7 h3.rf.rd.r HnS.out HnS.out H1000.out).mono ?_; rintro e u ⟨rfl, hq⟩; have hb := qb hq; have h3 := h3.over hb; have hs := keep2 hb hs)
                | (go_at_call 25; refine (len_eq (n := (n : Int)) h3.ln HnI.out).mono ?_; rintro e u ⟨rfl, rfl⟩)
                | (go_at_call 26; refine (has_eq h3.ln Hqk.out).mono ?_; rintro e u ⟨rfl, rfl⟩)
                | (go_at_call 27; refine (at_any (id := y) h3.rf.rd.r HnS.out H1000.out).mono ?_; rintro e u ⟨rfl, rfl⟩; rw [Hav.out]))
            clear hav
            go_wp2_with fail
            go_roundg (gk - 1)
            case measure => omega
            case rel => exact ⟨k + 1, ys, cs2, A2, c2, E3, f3, by omega, by go_num, h3⟩
        · by_cases q2 : x ≤ 5
          · go_wp2_with fail
            try rw [hp]
            obtain ⟨u1, hu1⟩ : ∃ u, wr.alloc (.cells #[.int .i64 x, .int .i64 y] 35) = u := ⟨_, rfl⟩
            rw [hu1] at h' bs ⊢
            clear hu1 hp cx cy
            refine (take_x h'.ln).mono ?_
            intro e u2 hp2
            rw [Hhd.out, Hte.out] at hp2
            obtain ⟨rfl, ht2, cs2, A2, c2, h2⟩ := h'.lnp hp2
            clear h' hp2 ht2 bs
            go_wp2_with fail
            refine (rtake_x h2.rf).mono ?_
            intro e u3 hp3
            rw [Hhd.out, Hte.out] at hp3
            obtain ⟨rfl, ht3, E3, f3, h3⟩ := h2.rfp hp3
            clear h2 hp3 ht3
            obtain ⟨ys, Hys⟩ : ∃ ys, Hid (zs.tail = ys) := ⟨_, hidp rfl⟩
            rw [Hys.out] at h3
            go_wp2_with fail
            obtain ⟨n, Hn⟩ : ∃ n, Hid (ys.length = n) := ⟨_, hidp rfl⟩
            obtain ⟨fd, Hfd⟩ : ∃ x, Hid (ys.headD 0 = x) := ⟨_, hidp rfl⟩
            obtain ⟨qk, Hqk⟩ : ∃ x, Hid (plK ys y = x) := ⟨_, hidp rfl⟩
            obtain ⟨av, Hav⟩ : ∃ x, Hid (atR ys y = x) := ⟨_, hidp rfl⟩
            have hav : decide ((0 : Int) ≤ av) = qk := by
              rw [← Hav.out, ← Hqk.out]
              cases hq : plK ys y
              · rw [atR_no hq]; rfl
              · rw [atR_yes hq]; simp
            have n64 : n ≤ 64 := by rw [← Hn.out]; have := h3.rf.len; omega
            have HnI : Hid (((ys.length : Nat) : Int) = (n : Int)) := hidp (by rw [Hn.out])
            have HnS : Hid (n = ys.length) := hidp Hn.out.symm
            have H1000 : Hid (ys.length ≤ 1000) := hidp (by have := Hn.out; omega)
            have d0 : u3.cell? ⟨d, 0, none⟩ = some (.slice E3 n f3) := by have := h3.rf.blk.cell 0; rw [Hn.out] at this; exact this
            refine (first_x h3.ln).mono ?_
            rintro e u4 ⟨rfl, rfl⟩
            rw [Hfd.out, Hn.out]
            by_cases hn : 0 < n
            · have hdn : decide (0 < n) = true := by simpa using hn
              have hdI : decide ((0 : Int) < (n : Int)) = true := by simpa using hn
              obtain ⟨ge, oe, hE, hce⟩ := h3.rf.rd.r.resolve_left (by intro e; rw [e] at Hn; have := Hn.out; simp at this; omega)
              have ce := hce 0 (by have := Hn.out; omega)
              rw [show ys.getD 0 0 = fd by rw [← Hfd.out]; cases ys <;> rfl, Nat.add_zero] at ce
              subst hE
              clear hce
              go_wp2_with fail
              clear ce hdn hdI
              have cy3 : u3.cell? ⟨g, off + k * 2 + 1, none⟩ = some (.int .i64 y) := (h3.below.cell (cell_lt Hcl.out.2)).trans Hcl.out.2
              have hs : u3.drew.cell? ⟨d, 0, none⟩ = some (.slice (some ⟨ge, oe, none⟩) n f3) ∧ u3.drew.cell? ⟨g, off + k * 2 + 1, none⟩ = some (.int .i64 y) := ⟨d0, cy3⟩
              replace h3 := h3.drew
              clear d0 cy3
              go_region_held3 (fun w' => w'.cell? ⟨d, 0, none⟩ = some (.slice (some ⟨ge, oe, none⟩) n f3) ∧ w'.cell? ⟨g, off + k * 2 + 1, none⟩ = some (.int .i64 y)) (exact hs)
                (first
                  | (go_at_call 24; refine (all_any h3.ln).mono ?_; rintro e u ⟨A7, c7, rfl, o7, hb⟩; rw [Hn.out]; have r7 := (Rd.of_own o7 h3.ln.fit).r; have h3 := h3.over hb; have hs := keep2 hb hs)
                  | (go_at_call 23; refine (same_yes r7 h3.rf.rd.r HnS.out HnS.out H1000.out).mono ?_; rintro e u ⟨rfl, hq⟩; have hb := qb hq; have h3 := h3.over hb; have hs := keep2 hb hs)
                  | (go_at_call 25; refine (len_eq (n := (n : Int)) h3.ln HnI.out).mono ?_; rintro e u ⟨rfl, rfl⟩)
                  | (go_at_call 26; refine (has_eq h3.ln Hqk.out).mono ?_; rintro e u ⟨rfl, rfl⟩)
                  | (go_at_call 27; refine (at_any (id := y) h3.rf.rd.r HnS.out H1000.out).mono ?_; rintro e u ⟨rfl, rfl⟩; rw [Hav.out]))
              clear hav
              go_wp2_with fail
              go_roundg (gk - 1)
              case measure => omega
              case rel => exact ⟨k + 1, ys, cs2, A2, c2, (some ⟨ge, oe, none⟩), f3, by omega, by go_num, h3⟩
            · have hdn : decide (0 < n) = false := by simpa using hn
              have hdI : decide ((0 : Int) < (n : Int)) = false := by simpa using hn
              obtain rfl : fd = 0 := by
                have h1 := Hn.out; have h2 := Hfd.out
                cases ys with
                | nil => exact h2.symm
                | cons a l => simp at h1; omega
              go_wp2_with fail
              clear hdn hdI
              have cy3 : u3.cell? ⟨g, off + k * 2 + 1, none⟩ = some (.int .i64 y) := (h3.below.cell (cell_lt Hcl.out.2)).trans Hcl.out.2
              have hs : u3.drew.cell? ⟨d, 0, none⟩ = some (.slice E3 n f3) ∧ u3.drew.cell? ⟨g, off + k * 2 + 1, none⟩ = some (.int .i64 y) := ⟨d0, cy3⟩
              replace h3 := h3.drew
              clear d0 cy3
              go_region_held3 (fun w' => w'.cell? ⟨d, 0, none⟩ = some (.slice E3 n f3) ∧ w'.cell? ⟨g, off + k * 2 + 1, none⟩ = some (.int .i64 y)) (exact hs)
                (first
                  | (go_at_call 24; refine (all_any h3.ln).mono ?_; rintro e u ⟨A7, c7, rfl, o7, hb⟩; rw [Hn.out]; have r7 := (Rd.of_own o7 h3.ln.fit).r; have h3 := h3.over hb; have hs := keep2 hb hs)
                  | (go_at_call 23; refine (same_yes r7 h3.rf.rd.r HnS.out HnS.out H1000.out).mono ?_; rintro e u ⟨rfl, hq⟩; have hb := qb hq; have h3 := h3.over hb; have hs := keep2 hb hs)
                  | (go_at_call 25; refine (len_eq (n := (n : Int)) h3.ln HnI.out).mono ?_; rintro e u ⟨rfl, rfl⟩)
                  | (go_at_call 26; refine (has_eq h3.ln Hqk.out).mono ?_; rintro e u ⟨rfl, rfl⟩)
                  | (go_at_call 27; refine (at_any (id := y) h3.rf.rd.r HnS.out H1000.out).mono ?_; rintro e u ⟨rfl, rfl⟩; rw [Hav.out]))
              clear hav
              go_wp2_with fail
              go_roundg (gk - 1)
              case measure => omega
              case rel => exact ⟨k + 1, ys, cs2, A2, c2, E3, f3, by omega, by go_num, h3⟩
          · go_wp2_with fail
            try rw [hp]
            obtain ⟨u1, hu1⟩ : ∃ u, wr.alloc (.cells #[.int .i64 x, .int .i64 y] 35) = u := ⟨_, rfl⟩
            rw [hu1] at h' bs ⊢
            clear hu1 hp cx cy
            refine wp_region_held_drew (S := fun w' => w'.cell? ⟨p, 1, none⟩ = some (.int .i64 y)) (by kernel_rfl) ?_ (fun hHeld => ?_)
            · exact bs.2
            replace h' := h'.drew
            have s1 : u1.drew.cell? ⟨p, 1, none⟩ = some (.int .i64 y) := bs.2
            clear bs
            refine wpAnyH_take (i := 0) (v := ?_) rfl (by kernel_rfl) (by kernel_rfl) (by kernel_rfl) (fun _ _ _ h => h) (Or.inl ⟨by rfl, ?_⟩) (by assumption) ?_
            rotate_left 1
            · ((intro w hSw; (try dsimp only at hSw); go_simp); (try with_reducible rfl))
            simp only [Act.put, List.setIfInBounds_toArray, List.set_cons_zero, List.set_cons_succ, List.getElem_toArray, List.getElem_cons_zero, List.getElem_cons_succ]
            refine wpAnyH_take (i := 1) (v := ?_) rfl (by kernel_rfl) (by kernel_rfl) (by kernel_rfl) (fun _ _ _ h => h) (Or.inl ⟨by rfl, ?_⟩) (by assumption) ?_
            rotate_left 1
            · ((intro w hSw; (try dsimp only at hSw); go_simp); (try with_reducible rfl))
            simp only [Act.put, List.setIfInBounds_toArray, List.set_cons_zero, List.set_cons_succ, List.getElem_toArray, List.getElem_cons_zero, List.getElem_cons_succ]
            refine wpAnyH_take (i := 2) (v := ?_) rfl (by kernel_rfl) (by kernel_rfl) (by kernel_rfl) (fun _ _ _ h => h) (Or.inl ⟨by rfl, ?_⟩) (by assumption) ?_
            rotate_left 1
            · ((intro w hSw; (try dsimp only at hSw); go_simp); (try with_reducible rfl))
            simp only [Act.put, List.setIfInBounds_toArray, List.set_cons_zero, List.set_cons_succ, List.getElem_toArray, List.getElem_cons_zero, List.getElem_cons_succ]
            refine wpAnyH_take (i := 4) (v := ?_) rfl (by kernel_rfl) (by kernel_rfl) (by kernel_rfl) (fun _ _ _ h => h) (Or.inl ⟨by rfl, ?_⟩) (by assumption) ?_
            rotate_left 1
            · ((intro w hSw; (try dsimp only at hSw); go_simp); (try with_reducible rfl))
            simp only [Act.put, List.setIfInBounds_toArray, List.set_cons_zero, List.set_cons_succ, List.getElem_toArray, List.getElem_cons_zero, List.getElem_cons_succ]
            refine wpAnyH_take (i := 5) (v := ?_) rfl (by kernel_rfl) (by kernel_rfl) (by kernel_rfl) (fun _ _ _ h => h) (Or.inl ⟨by rfl, ?_⟩) (by assumption) ?_
            rotate_left 1
            · ((intro w hSw; (try dsimp only at hSw); go_simp); (try with_reducible rfl))
            simp only [Act.put, List.setIfInBounds_toArray, List.set_cons_zero, List.set_cons_succ, List.getElem_toArray, List.getElem_cons_zero, List.getElem_cons_succ]
            refine wpAnyH_take (i := 6) (v := ?_) rfl (by kernel_rfl) (by kernel_rfl) (by kernel_rfl) (fun _ _ _ h => h) (Or.inl ⟨by rfl, ?_⟩) (by assumption) ?_
            rotate_left 1
            · ((intro w hSw; (try dsimp only at hSw); go_simp); (try with_reducible rfl))
            simp only [Act.put, List.setIfInBounds_toArray, List.set_cons_zero, List.set_cons_succ, List.getElem_toArray, List.getElem_cons_zero, List.getElem_cons_succ]
            refine wpAnyH_ready (rs := [3]) (by kernel_rfl) (by simp) ?_
            refine AllReadyH.cons rfl (fun K hK => ?_) AllReadyH.nil
            go_simp
            (with_reducible refine (drop_x (id := y) h'.ln).mono ?_)
            intro e u2 hp2
            rw [Hpk.out] at hp2
            obtain ⟨rfl, ht2, cs2, A2, c2, h2⟩ := h'.lnp hp2
            have s2 := ht2.cell' HFr.out.1 s1
            clear hHeld h' hp2 ht2
            go_wp2_with fail
            refine hK.out _ _ ?_ (fun hHeld => ?_)
            · exact s2
            clear hK K
            try simp only [Act.put, List.setIfInBounds_toArray, List.set_cons_zero, List.set_cons_succ, List.getElem_toArray, List.getElem_cons_zero, List.getElem_cons_succ]
            refine wpAnyH_ready (rs := [7]) (by kernel_rfl) (by simp) ?_
            refine AllReadyH.cons rfl (fun K hK => ?_) AllReadyH.nil
            go_simp
            (with_reducible refine (rdrop_x (id := y) h2.rf).mono ?_)
            intro e u3 hp3
            rw [Hpk.out] at hp3
            obtain ⟨rfl, ht3, E3, f3, h3⟩ := h2.rfp hp3
            have s3 := ht3.cell' HFr.out.2 s2
            clear hHeld h2 hp3 ht3 s1
            go_wp2_with fail
            refine hK.out _ _ ?_ (fun hHeld => ?_)
            · exact s3
            clear hK K
            try simp only [Act.put, List.setIfInBounds_toArray, List.set_cons_zero, List.set_cons_succ, List.getElem_toArray, List.getElem_cons_zero, List.getElem_cons_succ]
            refine wpAnyH_take (i := 8) (v := ?_) rfl (by kernel_rfl) (by kernel_rfl) (by kernel_rfl) (fun _ _ _ h => h) (Or.inl ⟨by rfl, ?_⟩) (by assumption) ?_
            rotate_left 1
            · ((intro w hSw; (try dsimp only at hSw); go_simp); (try with_reducible rfl))
            simp only [Act.put, List.setIfInBounds_toArray, List.set_cons_zero, List.set_cons_succ, List.getElem_toArray, List.getElem_cons_zero, List.getElem_cons_succ]
            refine wpAnyH_take (i := 9) (v := ?_) rfl (by kernel_rfl) (by kernel_rfl) (by kernel_rfl) (fun _ _ _ h => h) (Or.inl ⟨by rfl, ?_⟩) (by assumption) ?_
            rotate_left 1
            · ((intro w hSw; (try dsimp only at hSw); go_simp); (try with_reducible rfl))
            simp only [Act.put, List.setIfInBounds_toArray, List.set_cons_zero, List.set_cons_succ, List.getElem_toArray, List.getElem_cons_zero, List.getElem_cons_succ]
            refine wpAnyH_done (by kernel_rfl) ?_ _
            clear hHeld s2 s3
            obtain ⟨ys, Hys⟩ : ∃ ys, Hid (drpZ zs y = ys) := ⟨_, hidp rfl⟩
            rw [Hys.out] at h3
            go_wp2_with fail
            obtain ⟨n, Hn⟩ : ∃ n, Hid (ys.length = n) := ⟨_, hidp rfl⟩
            obtain ⟨fd, Hfd⟩ : ∃ x, Hid (ys.headD 0 = x) := ⟨_, hidp rfl⟩
            obtain ⟨qk, Hqk⟩ : ∃ x, Hid (plK ys y = x) := ⟨_, hidp rfl⟩
            obtain ⟨av, Hav⟩ : ∃ x, Hid (atR ys y = x) := ⟨_, hidp rfl⟩
            have hav : decide ((0 : Int) ≤ av) = qk := by
              rw [← Hav.out, ← Hqk.out]
              cases hq : plK ys y
              · rw [atR_no hq]; rfl
              · rw [atR_yes hq]; simp
            have n64 : n ≤ 64 := by rw [← Hn.out]; have := h3.rf.len; omega
            have HnI : Hid (((ys.length : Nat) : Int) = (n : Int)) := hidp (by rw [Hn.out])
            have HnS : Hid (n = ys.length) := hidp Hn.out.symm
            have H1000 : Hid (ys.length ≤ 1000) := hidp (by have := Hn.out; omega)
            have d0 : u3.cell? ⟨d, 0, none⟩ = some (.slice E3 n f3) := by have := h3.rf.blk.cell 0; rw [Hn.out] at this; exact this
            refine (first_x h3.ln).mono ?_
            rintro e u4 ⟨rfl, rfl⟩
            rw [Hfd.out, Hn.out]
            by_cases hn : 0 < n
            · have hdn : decide (0 < n) = true := by simpa using hn
              have hdI : decide ((0 : Int) < (n : Int)) = true := by simpa using hn
              obtain ⟨ge, oe, hE, hce⟩ := h3.rf.rd.r.resolve_left (by intro e; rw [e] at Hn; have := Hn.out; simp at this; omega)
              have ce := hce 0 (by have := Hn.out; omega)
              rw [show ys.getD 0 0 = fd by rw [← Hfd.out]; cases ys <;> rfl, Nat.add_zero] at ce
              subst hE
              clear hce
              go_wp2_with fail
              clear ce hdn hdI
              have cy3 : u3.cell? ⟨g, off + k * 2 + 1, none⟩ = some (.int .i64 y) := (h3.below.cell (cell_lt Hcl.out.2)).trans Hcl.out.2
              have hs : u3.drew.cell? ⟨d, 0, none⟩ = some (.slice (some ⟨ge, oe, none⟩) n f3) ∧ u3.drew.cell? ⟨g, off + k * 2 + 1, none⟩ = some (.int .i64 y) := ⟨d0, cy3⟩
              replace h3 := h3.drew
              clear d0 cy3
              go_region_held3 (fun w' => w'.cell? ⟨d, 0, none⟩ = some (.slice (some ⟨ge, oe, none⟩) n f3) ∧ w'.cell? ⟨g, off + k * 2 + 1, none⟩ = some (.int .i64 y)) (exact hs)
                (first
                  | (go_at_call 24; refine (all_any h3.ln).mono ?_; rintro e u ⟨A7, c7, rfl, o7, hb⟩; rw [Hn.out]; have r7 := (Rd.of_own o7 h3.ln.fit).r; have h3 := h3.over hb; have hs := keep2 hb hs)
                  | (go_at_call 23; refine (same_yes r7 h3.rf.rd.r HnS.out HnS.out H1000.out).mono ?_; rintro e u ⟨rfl, hq⟩; have hb := qb hq; have h3 := h3.over hb; have hs := keep2 hb hs)
                  | (go_at_call 25; refine (len_eq (n := (n : Int)) h3.ln HnI.out).mono ?_; rintro e u ⟨rfl, rfl⟩)
                  | (go_at_call 26; refine (has_eq h3.ln Hqk.out).mono ?_; rintro e u ⟨rfl, rfl⟩)
                  | (go_at_call 27; refine (at_any (id := y) h3.rf.rd.r HnS.out H1000.out).mono ?_; rintro e u ⟨rfl, rfl⟩; rw [Hav.out]))
              clear hav
              go_wp2_with fail
              go_roundg (gk - 1)
              case measure => omega
              case rel => exact ⟨k + 1, ys, cs2, A2, c2, (some ⟨ge, oe, none⟩), f3, by omega, by go_num, h3⟩
            · have hdn : decide (0 < n) = false := by simpa using hn
              have hdI : decide ((0 : Int) < (n : Int)) = false := by simpa using hn
              obtain rfl : fd = 0 := by
                have h1 := Hn.out; have h2 := Hfd.out
                cases ys with
                | nil => exact h2.symm
                | cons a l => simp at h1; omega
              go_wp2_with fail
              clear hdn hdI
              have cy3 : u3.cell? ⟨g, off + k * 2 + 1, none⟩ = some (.int .i64 y) := (h3.below.cell (cell_lt Hcl.out.2)).trans Hcl.out.2
              have hs : u3.drew.cell? ⟨d, 0, none⟩ = some (.slice E3 n f3) ∧ u3.drew.cell? ⟨g, off + k * 2 + 1, none⟩ = some (.int .i64 y) := ⟨d0, cy3⟩
              replace h3 := h3.drew
              clear d0 cy3
              go_region_held3 (fun w' => w'.cell? ⟨d, 0, none⟩ = some (.slice E3 n f3) ∧ w'.cell? ⟨g, off + k * 2 + 1, none⟩ = some (.int .i64 y)) (exact hs)
                (first
                  | (go_at_call 24; refine (all_any h3.ln).mono ?_; rintro e u ⟨A7, c7, rfl, o7, hb⟩; rw [Hn.out]; have r7 := (Rd.of_own o7 h3.ln.fit).r; have h3 := h3.over hb; have hs := keep2 hb hs)
                  | (go_at_call 23; refine (same_yes r7 h3.rf.rd.r HnS.out HnS.out H1000.out).mono ?_; rintro e u ⟨rfl, hq⟩; have hb := qb hq; have h3 := h3.over hb; have hs := keep2 hb hs)
                  | (go_at_call 25; refine (len_eq (n := (n : Int)) h3.ln HnI.out).mono ?_; rintro e u ⟨rfl, rfl⟩)
                  | (go_at_call 26; refine (has_eq h3.ln Hqk.out).mono ?_; rintro e u ⟨rfl, rfl⟩)
                  | (go_at_call 27; refine (at_any (id := y) h3.rf.rd.r HnS.out H1000.out).mono ?_; rintro e u ⟨rfl, rfl⟩; rw [Hav.out]))
              clear hav
              go_wp2_with fail
              go_roundg (gk - 1)
              case measure => omega
              case rel => exact ⟨k + 1, ys, cs2, A2, c2, E3, f3, by omega, by go_num, h3⟩
      · obtain rfl : k = len1 := by omega
        go_wp2_with fail
        go_ret
        exact ⟨rfl, h.below⟩

theorem own : ownKnob Try.prog.godebug = none := by kernel_rfl
theorem laidOut : laidOutB Try.prog = true := by kernel_rfl

/-! THE ROW's STEP -/
set_option maxRecDepth 100000 in
theorem lifted (os : Os) (started : os.Started) (H : Type) (enc : TypeId × Value → H) :
    ReturnsInHanded {} Try.checked os 4 .any (Rows.linePlaysSpec.pre6 enc Try.prog Try.f4 Rows.linePlaysRow.domain false) (Rows.linePlaysSpec.post enc Try.prog Try.f4 false true false false) := by
  refine returnsInHanded_of_change (C := Try.checked) own started (by kernel_rfl) Try.func4
    (ChangeSpec.witness6 (enc := enc) (C := Try.checked) false ⟨#[], #[.int .i64 0, .slice none 0 0], []⟩ 8 (by kernel_rfl) (by kernel_rfl) (by kernel_rfl) (by kernel_rfl)) ?_
  intro W base args ds gs before hval0 hW hcnd _
  have hval : ∀ (j : Nat) t v, Try.f4.params[j]? = some t → args[j]? = some v → Value.okWide Try.prog W .any base t v := hval0
  have hW' := hW
  obtain ⟨p, q, hA0, hV, rfl, hfz, hnd⟩ := hW
  have hA : DataW.TrodAll enc Try.prog W 0 (fun _ => true) true Try.f4.params.toList args.toList ds p := hA0
  rw [Try.params4] at hA hval
  obtain ⟨v0, vs0, d0, ds0, p0, q0, hargs, rfl, rfl, h0, r0⟩ := trodAll_cons hA
  obtain ⟨v1, vs1, d1, ds1, p1, q1, rfl, rfl, rfl, h1, r1⟩ := trodAll_cons r0
  obtain ⟨rfl, rfl, rfl⟩ := trodAll_nil r1
  obtain rfl : args = #[v0, v1] := by cases args; simp_all
  obtain ⟨rfl, rfl⟩ := trodVars_none hV
  obtain ⟨a0, rfl, rfl, rfl, w0⟩ := open_int Try.underlying3 (hval 0 3 v0 rfl rfl) h0
  obtain ⟨a1, len1, cap1, rfl⟩ := okWide_slice Try.underlying29 (hval 1 29 v1 rfl rfl)
  have k1 := h1
  have lt1 : ∀ x ∈ p1, x.block < W.heap.size := by obtain ⟨m, hm⟩ := k1; exact DataW.trod_lt m _ _ _ hm
  obtain ⟨z1, w1⟩ : ∃ zs, IsPairs W a1 len1 cap1 zs := by
    obtain ⟨fuel, hf⟩ := h1
    obtain ⟨x1, x2, x3, zs, hcs, hz⟩ := open_pairs Try.underlying29 Try.underlying35 (by kernel_rfl) rfl rfl (by kernel_rfl) (by kernel_rfl) Try.underlying3 Try.underlying3 hf
    simp [Value.cells] at hcs
    obtain ⟨rfl, rfl, rfl⟩ := hcs
    exact ⟨zs, hz⟩
  clear hA0 hval0
  refine (walk a0 a1 len1 cap1 z1 W w0 w1).mono fun e W' ⟨he, bel⟩ => ?_
  subst he
  exact ⟨_, rfl, _, _, _, [], _, [], hW', trodAll_mk1 (shut_bool Try.underlying4 _), (trodAll_cons_mk (shut_int Try.underlying3 w0) (trodAll_cons_mk (Below.trod laidOut (by kernel_rfl) (of_decide_eq_true (by kernel_rfl)) k1 bel lt1) trodAll_mk0)), rfl, bel.frame _, fun h => by cases h⟩

theorem over : Rows.linePlaysRow.holds Try.pinned (OpenSpec.ofChange Rows.linePlaysSpec) :=
  OpenClaim.holds_of_wide 4 Try.f4 rfl rfl rfl rfl rfl rfl rfl ⟨rfl, rfl, rfl, rfl, rfl⟩ rfl rfl rfl rfl rfl (by kernel_rfl) Try.func4 (by kernel_rfl)
    (of_decide_eq_true (by kernel_rfl)) (by unfold Func.isWrapper; first | (rw [if_pos (by decide +kernel)]; kernel_rfl) | (rw [if_neg (by decide +kernel)]; exact ⟨rfl, rfl⟩))
    (fun os started H enc _ => lifted os started H enc)

/-- THE STATEMENT -/
theorem proved : Rows.LinePlaysSaid := over
#print axioms proved
end Go.Proofs.Ytlejnbepldpmmaa.linePlays

