/- GatePlays: a gate answers, and holds, what the document's gate does, whoever asks and leaves. No condition. -/
import Derived.Test.YtlejnbepldpmmaaGateBoth
import Derived.Test.YtlejnbepldpmmaaPairs
import Derived.Deep.RegionWith
import Derived.Deep.RegionHeld3
import Derived.BigQuiet
set_option linter.unusedSimpArgs false
namespace Go.Proofs.Ytlejnbepldpmmaa
open Go.ChangeShapes Go.WideShapes Go.ChangeAt Go.RowKit
theorem keep3 {w w1 : World} {p q r : Addr} {u v x : Value} (hb : Below w.heap.size w w1) (h : w.cell? p = some u ∧ w.cell? q = some v ∧ w.cell? r = some x) : w1.cell? p = some u ∧ w1.cell? q = some v ∧ w1.cell? r = some x :=
  ⟨(hb.cell (cell_lt h.1)).trans h.1, (hb.cell (cell_lt h.2.1)).trans h.2.1, (hb.cell (cell_lt h.2.2)).trans h.2.2⟩
theorem qb {w w' : World} (h : Qt w w') : Below w.heap.size w w' := h.below (Below.refl _ _)
end Go.Proofs.Ytlejnbepldpmmaa
set_option maxHeartbeats 4000000
set_option maxRecDepth 100000
namespace Go.Proofs.Ytlejnbepldpmmaa.gatePlays
open Go.ChangeShapes Go.WideShapes Go.ChangeAt Go.RowKit
open Go.ChangeMaps (open_string shut_string)
set_option linter.unusedVariables false

/-- THE WALK: the Go text returns true, and writes nothing that was there. -/
theorem walk (a0 : Int) (a1 : Option Addr) (len1 cap1 : Nat) (z1 : List (Int × Int)) (w : World) (w0 : (Lit.int .i64 a0).wf = true) (w1 : IsPairs w a1 len1 cap1 z1) :
    Calls Try.prog 5 #[.int .i64 a0, .slice a1 len1 cap1] w fun e w' => e = .returned (.bool true) ∧ Below w.heap.size w w' := by
  obtain ⟨hl, hcap, hm, hfit, _, hc⟩ := w1.row
  have h0 := i64_of w0
  unfold maxLen at hm
  have HF := hidp hfit
  have HC := hidp hc
  have HL := hidp hl
  clear w0 w1 hfit hc hl
  obtain ⟨M, HM⟩ : ∃ R, Hid (held1 a0 = R) := ⟨_, hidp rfl⟩
  by_cases h120 : 120 < len1
  · go_enter Try.func5, Try.ntmps5
    go_wp2_with fail
    refine (known6_any _).mono ?_
    rintro e u1 ⟨rfl, hb1⟩
    go_wp2_with fail
    go_ret
    exact ⟨rfl, hb1⟩
  · go_enter Try.func5, Try.ntmps5
    go_wp2_with fail
    refine (known6_any _).mono ?_
    rintro e u1 ⟨rfl, hb1⟩
    go_wp2_with fail
    refine (gnew_any a0 _ h0).mono ?_
    rintro e u2 ⟨b, F, rfl, hg, hu⟩
    go_wp2_with fail
    refine (rgnew_any a0 _ h0).mono ?_
    rintro e u3 ⟨rfl, hr, hb3, -⟩
    have h : GG w.heap.size w u3 b u2.heap.size M [] [] [] [] F [u2.heap.size] := by
      have h1 := hb1.size
      have h2 := hu.below.size
      refine ⟨HM.out ▸ hg.over hb3, HM.out ▸ hr, fun k hk hm => ?_, fun k hk => Nat.le_trans h1 (hu.blocks k hk), fun k hk => ?_, hb1.trans ((hu.below.trans (hb3.mono h2)).mono h1), Nat.le_refl _⟩
      · simp at hm; subst hm; exact Nat.lt_irrefl _ (hg.lt _ hk)
      · simp at hk; omega
    clear hg hu hr hb3 hb1
    go_wp2_with fail
    generalize u2.heap.size = d at h ⊢
    go_loopg [7] len1 (fun gg i wr => ∃ (k : Nat) (is qs : List Int) (F G : List Nat), k + gg = len1 ∧ i = .int .i64 k ∧ Hid ((is ++ qs).Nodup) ∧ GG w.heap.size w wr b d M is qs is qs F G)
    case atStart => exact ⟨0, [], [], F, _, by omega, rfl, hidp (by simp), h⟩
    case round =>
      clear h
      obtain ⟨k, is, qs, F, G, hk, rfl, HN, h⟩ := hrel
      by_cases hlt : k < len1
      · have hkz : k < z1.length := by rw [HL.out]; exact hlt
        obtain ⟨g, off, hA, hcl⟩ := HC.out.resolve_left (by intro e; rw [e] at hkz; simp at hkz)
        subst hA
        have hfk := HF.out (z1.getD k (0, 0)) (by simp [List.getD, hkz])
        obtain ⟨x, Hx⟩ : ∃ x, Hid ((z1.getD k (0, 0)).1 = x) := ⟨_, hidp rfl⟩
        obtain ⟨y, Hy⟩ : ∃ x, Hid ((z1.getD k (0, 0)).2 = x) := ⟨_, hidp rfl⟩
        have hc2 := hcl k hkz
        rw [Hx.out, Hy.out] at hc2 hfk
        obtain ⟨fx, fy⟩ := hfk
        have cx : wr.cell? ⟨g, off + k * 2, none⟩ = some (.int .i64 x) := (h.below.cell (cell_lt hc2.1)).trans hc2.1
        have cy : wr.cell? ⟨g, off + k * 2 + 1, none⟩ = some (.int .i64 y) := (h.below.cell (cell_lt hc2.2)).trans hc2.2
        have HFr := hidp (h.fresh rfl)
        have e0 : (0 : Int) ≤ (k : Int) := by omega
        have e1 : (k : Int) < (len1 : Int) := by omega
        obtain ⟨A1, c1, A2, c2, hrg, hG⟩ := id h.rg
        obtain ⟨n, Hn⟩ : ∃ n, Hid (is.length = n) := ⟨_, hidp rfl⟩
        obtain ⟨hd, Hhd⟩ : ∃ n, Hid (is.headD 0 = n) := ⟨_, hidp rfl⟩
        have d1 : wr.cell? ⟨d, 1, none⟩ = some (.slice A1 n c1) := by have := hrg.blk.cell 1; rw [← Hn.out]; exact this
        have n64 : n ≤ 64 := by rw [← Hn.out]; have := hrg.len; omega
        have Hd := hidp d1
        have Hrow := hidp hrg.row1
        have Hfit := hidp hrg.fit
        clear hcl hc2 hG hrg
        obtain ⟨p, hp⟩ : ∃ p, wr.heap.size = p := ⟨_, rfl⟩
        have hdp : d < p := by have := cell_lt d1; dsimp only at this; omega
        rw [hp] at HFr
        have h' : ∀ z, GG w.heap.size w (wr.alloc (.cells #[.int .i64 x, .int .i64 z] 59)) b d M is qs is qs F G := fun z => h.over ((Below.refl _ _).alloc (Nat.le_refl _) (.cells #[.int .i64 x, .int .i64 z] 59))
        have bs : ∀ z, (wr.alloc (.cells #[.int .i64 x, .int .i64 z] 59)).cell? ⟨p, 1, none⟩ = some (.int .i64 z) := fun z => by subst hp; simp
        have H' := hidp h'
        have BS := hidp bs
        clear h h' bs
        by_cases q9 : 9 ≤ x
        · have q4 : ¬ x ≤ 4 := by omega
          by_cases hn : 0 < n
          · obtain ⟨g1, o1, hE, hce⟩ := Hrow.out.resolve_left (by intro e; rw [e] at Hn; have := Hn.out; simp at this; omega)
            have ce := hce 0 (by have := Hn.out; omega)
            rw [show is.getD 0 0 = hd by rw [← Hhd.out]; cases is <;> rfl, Nat.add_zero] at ce
            have fh : I64 hd := by rw [← Hhd.out]; exact Hfit.out _ (by have := Hn.out; cases is; (simp at this; omega); simp)
            subst hE
            have hgp : g1 < p := by have := cell_lt ce; dsimp only at this; omega
            clear hce
            go_wp2_with fail
            obtain ⟨u1, hu1⟩ : ∃ u, wr.alloc (.cells #[.int .i64 x, .int .i64 hd] 59) = u := ⟨_, rfl⟩
            have h := H'.out hd
            have s1 := BS.out hd
            rw [hu1] at h s1 ⊢
            clear hu1 hp cx cy d1 hdp
            obtain ⟨lx, Hlx⟩ : ∃ x, Hid (leaX is qs hd = x) := ⟨_, hidp rfl⟩
            obtain ⟨lb, Hlb⟩ : ∃ x, Hid (leaB is qs hd = x) := ⟨_, hidp rfl⟩
            obtain ⟨le, Hle⟩ : ∃ x, Hid (leaE is hd = x) := ⟨_, hidp rfl⟩
            obtain ⟨is2, His⟩ : ∃ x, Hid (leaI is qs hd = x) := ⟨_, hidp rfl⟩
            obtain ⟨qs2, Hqs⟩ : ∃ x, Hid (leaQ is qs hd = x) := ⟨_, hidp rfl⟩
            have HN2 : Hid ((is2 ++ qs2).Nodup) := hidp (by rw [← His.out, ← Hqs.out]; exact lea_nodup HN.out)
            have HNi : Hid is.Nodup := hidp (List.nodup_append.1 HN.out).1
            have CA := glea_x (id := hd) h.gt fh HNi.out
            rw [Hlx.out, Hlb.out, Hle.out, His.out, Hqs.out] at CA
            refine CA.mono ?_
            clear CA
            intro e u2 hp2
            obtain ⟨rfl, ht2, F2, h2⟩ := h.gp hp2
            have s2 := ht2.cell s1 HFr.out.1
            clear hp2 ht2 s1 h
            go_wp2_with fail
            have CA := rlea_x (id := hd) h2.rg
            rw [Hlx.out, Hlb.out, Hle.out, His.out, Hqs.out] at CA
            refine CA.mono ?_
            clear CA
            intro e u3 hp3
            obtain ⟨rfl, ht3, G3, h3⟩ := h2.rp hp3
            have s3 := ht3.cell s2 HFr.out.2
            clear hp3 ht3 s2 h2
            go_wp2_with fail
            have FZ : I64 hd := fh
            obtain ⟨B1, k1, B2, k2, hrg, hGe⟩ := id h3.rg
            obtain ⟨m1, Hm1⟩ : ∃ n, Hid (is2.length = n) := ⟨_, hidp rfl⟩
            obtain ⟨m2, Hm2⟩ : ∃ n, Hid (qs2.length = n) := ⟨_, hidp rfl⟩
            obtain ⟨qk, Hqk⟩ : ∃ x, Hid (plK is2 hd = x) := ⟨_, hidp rfl⟩
            obtain ⟨av, Hav⟩ : ∃ x, Hid (atR is2 hd = x) := ⟨_, hidp rfl⟩
            have hav : decide ((0 : Int) ≤ av) = qk := by
              rw [← Hav.out, ← Hqk.out]
              cases hq : plK is2 hd
              · rw [atR_no hq]; rfl
              · rw [atR_yes hq]; simp
            have HnS : Hid (m1 = is2.length) := hidp Hm1.out.symm
            have HmS : Hid (m2 = qs2.length) := hidp Hm2.out.symm
            have H1000 : Hid (is2.length ≤ 1000) := hidp (by have := hrg.len; omega)
            have H1001 : Hid (qs2.length ≤ 1000) := hidp (by have := hrg.len; omega)
            have q1 : u3.cell? ⟨d, 1, none⟩ = some (.slice B1 m1 k1) := by have := hrg.blk.cell 1; rw [← Hm1.out]; exact this
            have q2 : u3.cell? ⟨d, 2, none⟩ = some (.slice B2 m2 k2) := by have := hrg.blk.cell 2; rw [← Hm2.out]; exact this
            have hs : u3.drew.cell? ⟨d, 1, none⟩ = some (.slice B1 m1 k1) ∧ u3.drew.cell? ⟨d, 2, none⟩ = some (.slice B2 m2 k2) ∧ u3.drew.cell? ⟨p, 1, none⟩ = some (.int .i64 hd) := ⟨q1, q2, s3⟩
            have ra : Row u3.drew .i64 B1 is2 := hrg.row1
            have rb : Row u3.drew .i64 B2 qs2 := hrg.rd2.r
            have ff := h3.gt.fit
            obtain ⟨-, -, -, -, fi, fq⟩ := ff
            have Fi := hidp fi
            have Fq := hidp fq
            replace h3 := h3.drew
            clear q1 q2 s3 hrg hGe fi fq
            go_region_held3 (fun w' => w'.cell? ⟨d, 1, none⟩ = some (.slice B1 m1 k1) ∧ w'.cell? ⟨d, 2, none⟩ = some (.slice B2 m2 k2) ∧ w'.cell? ⟨p, 1, none⟩ = some (.int .i64 hd)) (exact hs)
              (first
                | (go_at_call 35; refine (gin_eq h3.gt).mono ?_; rintro e u ⟨A7, c7, rfl, o7, hb⟩; rw [Hm1.out]; have r7 := (Rd.of_own o7 Fi.out).r; have h3 := h3.over hb; have ra := ra.below hb; have rb := rb.below hb; have hs := keep3 hb hs)
                | (go_at_call 36; refine (gline_eq h3.gt).mono ?_; rintro e u ⟨A8, c8, rfl, o8, hb⟩; rw [Hm2.out]; have r8 := (Rd.of_own o8 Fq.out).r; have h3 := h3.over hb; have ra := ra.below hb; have rb := rb.below hb; have hs := keep3 hb hs)
                | (go_at_call 23; (first | (refine (same_yes r8 rb HmS.out HmS.out H1001.out).mono ?_; rintro e u ⟨rfl, hq⟩; have hb := qb hq; have h3 := h3.over hb; have ra := ra.below hb; have rb := rb.below hb; have hs := keep3 hb hs) | (refine (same_yes r7 ra HnS.out HnS.out H1000.out).mono ?_; rintro e u ⟨rfl, hq⟩; have hb := qb hq; have h3 := h3.over hb; have ra := ra.below hb; have rb := rb.below hb; have hs := keep3 hb hs)))
                | (go_at_call 37; refine (ghas_eq h3.gt FZ Hqk.out).mono ?_; rintro e u ⟨rfl, hb⟩; have h3 := h3.over hb; have ra := ra.below hb; have rb := rb.below hb; have hs := keep3 hb hs)
                | (go_at_call 27; refine (at_any (id := hd) ra HnS.out H1000.out).mono ?_; rintro e u ⟨rfl, rfl⟩; rw [Hav.out]))
            clear hav
            go_wp2_with fail
            go_roundg (gk - 1)
            case measure => omega
            case rel => exact ⟨k + 1, is2, qs2, F2, G3, by omega, by go_num, HN2, h3⟩
          · go_wp2_with fail
            obtain ⟨u1, hu1⟩ : ∃ u, wr.alloc (.cells #[.int .i64 x, .int .i64 y] 59) = u := ⟨_, rfl⟩
            have h := H'.out y
            have s1 := BS.out y
            rw [hu1] at h s1 ⊢
            clear hu1 hp cx cy d1 hdp
            obtain ⟨lx, Hlx⟩ : ∃ x, Hid (leaX is qs y = x) := ⟨_, hidp rfl⟩
            obtain ⟨lb, Hlb⟩ : ∃ x, Hid (leaB is qs y = x) := ⟨_, hidp rfl⟩
            obtain ⟨le, Hle⟩ : ∃ x, Hid (leaE is y = x) := ⟨_, hidp rfl⟩
            obtain ⟨is2, His⟩ : ∃ x, Hid (leaI is qs y = x) := ⟨_, hidp rfl⟩
            obtain ⟨qs2, Hqs⟩ : ∃ x, Hid (leaQ is qs y = x) := ⟨_, hidp rfl⟩
            have HN2 : Hid ((is2 ++ qs2).Nodup) := hidp (by rw [← His.out, ← Hqs.out]; exact lea_nodup HN.out)
            have HNi : Hid is.Nodup := hidp (List.nodup_append.1 HN.out).1
            have CA := glea_x (id := y) h.gt fy HNi.out
            rw [Hlx.out, Hlb.out, Hle.out, His.out, Hqs.out] at CA
            refine CA.mono ?_
            clear CA
            intro e u2 hp2
            obtain ⟨rfl, ht2, F2, h2⟩ := h.gp hp2
            have s2 := ht2.cell s1 HFr.out.1
            clear hp2 ht2 s1 h
            go_wp2_with fail
            have CA := rlea_x (id := y) h2.rg
            rw [Hlx.out, Hlb.out, Hle.out, His.out, Hqs.out] at CA
            refine CA.mono ?_
            clear CA
            intro e u3 hp3
            obtain ⟨rfl, ht3, G3, h3⟩ := h2.rp hp3
            have s3 := ht3.cell s2 HFr.out.2
            clear hp3 ht3 s2 h2
            go_wp2_with fail
            have FZ : I64 y := fy
            obtain ⟨B1, k1, B2, k2, hrg, hGe⟩ := id h3.rg
            obtain ⟨m1, Hm1⟩ : ∃ n, Hid (is2.length = n) := ⟨_, hidp rfl⟩
            obtain ⟨m2, Hm2⟩ : ∃ n, Hid (qs2.length = n) := ⟨_, hidp rfl⟩
            obtain ⟨qk, Hqk⟩ : ∃ x, Hid (plK is2 y = x) := ⟨_, hidp rfl⟩
            obtain ⟨av, Hav⟩ : ∃ x, Hid (atR is2 y = x) := ⟨_, hidp rfl⟩
            have hav : decide ((0 : Int) ≤ av) = qk := by
              rw [← Hav.out, ← Hqk.out]
              cases hq : plK is2 y
              · rw [atR_no hq]; rfl
              · rw [atR_yes hq]; simp
            have HnS : Hid (m1 = is2.length) := hidp Hm1.out.symm
            have HmS : Hid (m2 = qs2.length) := hidp Hm2.out.symm
            have H1000 : Hid (is2.length ≤ 1000) := hidp (by have := hrg.len; omega)
            have H1001 : Hid (qs2.length ≤ 1000) := hidp (by have := hrg.len; omega)
            have q1 : u3.cell? ⟨d, 1, none⟩ = some (.slice B1 m1 k1) := by have := hrg.blk.cell 1; rw [← Hm1.out]; exact this
            have q2 : u3.cell? ⟨d, 2, none⟩ = some (.slice B2 m2 k2) := by have := hrg.blk.cell 2; rw [← Hm2.out]; exact this
            have hs : u3.drew.cell? ⟨d, 1, none⟩ = some (.slice B1 m1 k1) ∧ u3.drew.cell? ⟨d, 2, none⟩ = some (.slice B2 m2 k2) ∧ u3.drew.cell? ⟨p, 1, none⟩ = some (.int .i64 y) := ⟨q1, q2, s3⟩
            have ra : Row u3.drew .i64 B1 is2 := hrg.row1
            have rb : Row u3.drew .i64 B2 qs2 := hrg.rd2.r
            have ff := h3.gt.fit
            obtain ⟨-, -, -, -, fi, fq⟩ := ff
            have Fi := hidp fi
            have Fq := hidp fq
            replace h3 := h3.drew
            clear q1 q2 s3 hrg hGe fi fq
            go_region_held3 (fun w' => w'.cell? ⟨d, 1, none⟩ = some (.slice B1 m1 k1) ∧ w'.cell? ⟨d, 2, none⟩ = some (.slice B2 m2 k2) ∧ w'.cell? ⟨p, 1, none⟩ = some (.int .i64 y)) (exact hs)
              (first
                | (go_at_call 35; refine (gin_eq h3.gt).mono ?_; rintro e u ⟨A7, c7, rfl, o7, hb⟩; rw [Hm1.out]; have r7 := (Rd.of_own o7 Fi.out).r; have h3 := h3.over hb; have ra := ra.below hb; have rb := rb.below hb; have hs := keep3 hb hs)
                | (go_at_call 36; refine (gline_eq h3.gt).mono ?_; rintro e u ⟨A8, c8, rfl, o8, hb⟩; rw [Hm2.out]; have r8 := (Rd.of_own o8 Fq.out).r; have h3 := h3.over hb; have ra := ra.below hb; have rb := rb.below hb; have hs := keep3 hb hs)
                | (go_at_call 23; (first | (refine (same_yes r8 rb HmS.out HmS.out H1001.out).mono ?_; rintro e u ⟨rfl, hq⟩; have hb := qb hq; have h3 := h3.over hb; have ra := ra.below hb; have rb := rb.below hb; have hs := keep3 hb hs) | (refine (same_yes r7 ra HnS.out HnS.out H1000.out).mono ?_; rintro e u ⟨rfl, hq⟩; have hb := qb hq; have h3 := h3.over hb; have ra := ra.below hb; have rb := rb.below hb; have hs := keep3 hb hs)))
                | (go_at_call 37; refine (ghas_eq h3.gt FZ Hqk.out).mono ?_; rintro e u ⟨rfl, hb⟩; have h3 := h3.over hb; have ra := ra.below hb; have rb := rb.below hb; have hs := keep3 hb hs)
                | (go_at_call 27; refine (at_any (id := y) ra HnS.out H1000.out).mono ?_; rintro e u ⟨rfl, rfl⟩; rw [Hav.out]))
            clear hav
            go_wp2_with fail
            go_roundg (gk - 1)
            case measure => omega
            case rel => exact ⟨k + 1, is2, qs2, F2, G3, by omega, by go_num, HN2, h3⟩
        · by_cases q4 : x ≤ 4
          · go_wp2_with fail
            obtain ⟨u1, hu1⟩ : ∃ u, wr.alloc (.cells #[.int .i64 x, .int .i64 y] 59) = u := ⟨_, rfl⟩
            have h := H'.out y
            have s1 := BS.out y
            rw [hu1] at h s1 ⊢
            clear hu1 hp cx cy d1 hdp
            obtain ⟨ab, Hab⟩ : ∃ x, Hid (askB M is qs y = x) := ⟨_, hidp rfl⟩
            obtain ⟨ae, Hae⟩ : ∃ x, Hid (askE M is qs y = x) := ⟨_, hidp rfl⟩
            obtain ⟨is2, His⟩ : ∃ x, Hid (askI M is qs y = x) := ⟨_, hidp rfl⟩
            obtain ⟨qs2, Hqs⟩ : ∃ x, Hid (askQ M is qs y = x) := ⟨_, hidp rfl⟩
            have HN2 : Hid ((is2 ++ qs2).Nodup) := hidp (by rw [← His.out, ← Hqs.out]; exact ask_nodup HN.out)
            have CA := gask_x (id := y) h.gt fy
            rw [Hab.out, Hae.out, His.out, Hqs.out] at CA
            refine CA.mono ?_
            clear CA
            intro e u2 hp2
            obtain ⟨rfl, ht2, F2, h2⟩ := h.gp hp2
            have s2 := ht2.cell s1 HFr.out.1
            clear hp2 ht2 s1 h
            go_wp2_with fail
            have CA := rask_x (id := y) h2.rg fy
            rw [Hab.out, Hae.out, His.out, Hqs.out] at CA
            refine CA.mono ?_
            clear CA
            intro e u3 hp3
            obtain ⟨rfl, ht3, G3, h3⟩ := h2.rp hp3
            have s3 := ht3.cell s2 HFr.out.2
            clear hp3 ht3 s2 h2
            go_wp2_with fail
            have FZ : I64 y := fy
            obtain ⟨B1, k1, B2, k2, hrg, hGe⟩ := id h3.rg
            obtain ⟨m1, Hm1⟩ : ∃ n, Hid (is2.length = n) := ⟨_, hidp rfl⟩
            obtain ⟨m2, Hm2⟩ : ∃ n, Hid (qs2.length = n) := ⟨_, hidp rfl⟩
            obtain ⟨qk, Hqk⟩ : ∃ x, Hid (plK is2 y = x) := ⟨_, hidp rfl⟩
            obtain ⟨av, Hav⟩ : ∃ x, Hid (atR is2 y = x) := ⟨_, hidp rfl⟩
            have hav : decide ((0 : Int) ≤ av) = qk := by
              rw [← Hav.out, ← Hqk.out]
              cases hq : plK is2 y
              · rw [atR_no hq]; rfl
              · rw [atR_yes hq]; simp
            have HnS : Hid (m1 = is2.length) := hidp Hm1.out.symm
            have HmS : Hid (m2 = qs2.length) := hidp Hm2.out.symm
            have H1000 : Hid (is2.length ≤ 1000) := hidp (by have := hrg.len; omega)
            have H1001 : Hid (qs2.length ≤ 1000) := hidp (by have := hrg.len; omega)
            have q1 : u3.cell? ⟨d, 1, none⟩ = some (.slice B1 m1 k1) := by have := hrg.blk.cell 1; rw [← Hm1.out]; exact this
            have q2 : u3.cell? ⟨d, 2, none⟩ = some (.slice B2 m2 k2) := by have := hrg.blk.cell 2; rw [← Hm2.out]; exact this
            have hs : u3.drew.cell? ⟨d, 1, none⟩ = some (.slice B1 m1 k1) ∧ u3.drew.cell? ⟨d, 2, none⟩ = some (.slice B2 m2 k2) ∧ u3.drew.cell? ⟨p, 1, none⟩ = some (.int .i64 y) := ⟨q1, q2, s3⟩
            have ra : Row u3.drew .i64 B1 is2 := hrg.row1
            have rb : Row u3.drew .i64 B2 qs2 := hrg.rd2.r
            have ff := h3.gt.fit
            obtain ⟨-, -, -, -, fi, fq⟩ := ff
            have Fi := hidp fi
            have Fq := hidp fq
            replace h3 := h3.drew
            clear q1 q2 s3 hrg hGe fi fq
            go_region_held3 (fun w' => w'.cell? ⟨d, 1, none⟩ = some (.slice B1 m1 k1) ∧ w'.cell? ⟨d, 2, none⟩ = some (.slice B2 m2 k2) ∧ w'.cell? ⟨p, 1, none⟩ = some (.int .i64 y)) (exact hs)
              (first
                | (go_at_call 35; refine (gin_eq h3.gt).mono ?_; rintro e u ⟨A7, c7, rfl, o7, hb⟩; rw [Hm1.out]; have r7 := (Rd.of_own o7 Fi.out).r; have h3 := h3.over hb; have ra := ra.below hb; have rb := rb.below hb; have hs := keep3 hb hs)
                | (go_at_call 36; refine (gline_eq h3.gt).mono ?_; rintro e u ⟨A8, c8, rfl, o8, hb⟩; rw [Hm2.out]; have r8 := (Rd.of_own o8 Fq.out).r; have h3 := h3.over hb; have ra := ra.below hb; have rb := rb.below hb; have hs := keep3 hb hs)
                | (go_at_call 23; (first | (refine (same_yes r8 rb HmS.out HmS.out H1001.out).mono ?_; rintro e u ⟨rfl, hq⟩; have hb := qb hq; have h3 := h3.over hb; have ra := ra.below hb; have rb := rb.below hb; have hs := keep3 hb hs) | (refine (same_yes r7 ra HnS.out HnS.out H1000.out).mono ?_; rintro e u ⟨rfl, hq⟩; have hb := qb hq; have h3 := h3.over hb; have ra := ra.below hb; have rb := rb.below hb; have hs := keep3 hb hs)))
                | (go_at_call 37; refine (ghas_eq h3.gt FZ Hqk.out).mono ?_; rintro e u ⟨rfl, hb⟩; have h3 := h3.over hb; have ra := ra.below hb; have rb := rb.below hb; have hs := keep3 hb hs)
                | (go_at_call 27; refine (at_any (id := y) ra HnS.out H1000.out).mono ?_; rintro e u ⟨rfl, rfl⟩; rw [Hav.out]))
            clear hav
            go_wp2_with fail
            go_roundg (gk - 1)
            case measure => omega
            case rel => exact ⟨k + 1, is2, qs2, F2, G3, by omega, by go_num, HN2, h3⟩
          · go_wp2_with fail
            obtain ⟨u1, hu1⟩ : ∃ u, wr.alloc (.cells #[.int .i64 x, .int .i64 y] 59) = u := ⟨_, rfl⟩
            have h := H'.out y
            have s1 := BS.out y
            rw [hu1] at h s1 ⊢
            clear hu1 hp cx cy d1 hdp
            obtain ⟨lx, Hlx⟩ : ∃ x, Hid (leaX is qs y = x) := ⟨_, hidp rfl⟩
            obtain ⟨lb, Hlb⟩ : ∃ x, Hid (leaB is qs y = x) := ⟨_, hidp rfl⟩
            obtain ⟨le, Hle⟩ : ∃ x, Hid (leaE is y = x) := ⟨_, hidp rfl⟩
            obtain ⟨is2, His⟩ : ∃ x, Hid (leaI is qs y = x) := ⟨_, hidp rfl⟩
            obtain ⟨qs2, Hqs⟩ : ∃ x, Hid (leaQ is qs y = x) := ⟨_, hidp rfl⟩
            have HN2 : Hid ((is2 ++ qs2).Nodup) := hidp (by rw [← His.out, ← Hqs.out]; exact lea_nodup HN.out)
            have HNi : Hid is.Nodup := hidp (List.nodup_append.1 HN.out).1
            have CA := glea_x (id := y) h.gt fy HNi.out
            rw [Hlx.out, Hlb.out, Hle.out, His.out, Hqs.out] at CA
            refine CA.mono ?_
            clear CA
            intro e u2 hp2
            obtain ⟨rfl, ht2, F2, h2⟩ := h.gp hp2
            have s2 := ht2.cell s1 HFr.out.1
            clear hp2 ht2 s1 h
            go_wp2_with fail
            have CA := rlea_x (id := y) h2.rg
            rw [Hlx.out, Hlb.out, Hle.out, His.out, Hqs.out] at CA
            refine CA.mono ?_
            clear CA
            intro e u3 hp3
            obtain ⟨rfl, ht3, G3, h3⟩ := h2.rp hp3
            have s3 := ht3.cell s2 HFr.out.2
            clear hp3 ht3 s2 h2
            go_wp2_with fail
            have FZ : I64 y := fy
            obtain ⟨B1, k1, B2, k2, hrg, hGe⟩ := id h3.rg
            obtain ⟨m1, Hm1⟩ : ∃ n, Hid (is2.length = n) := ⟨_, hidp rfl⟩
            obtain ⟨m2, Hm2⟩ : ∃ n, Hid (qs2.length = n) := ⟨_, hidp rfl⟩
            obtain ⟨qk, Hqk⟩ : ∃ x, Hid (plK is2 y = x) := ⟨_, hidp rfl⟩
            obtain ⟨av, Hav⟩ : ∃ x, Hid (atR is2 y = x) := ⟨_, hidp rfl⟩
            have hav : decide ((0 : Int) ≤ av) = qk := by
              rw [← Hav.out, ← Hqk.out]
              cases hq : plK is2 y
              · rw [atR_no hq]; rfl
              · rw [atR_yes hq]; simp
            have HnS : Hid (m1 = is2.length) := hidp Hm1.out.symm
            have HmS : Hid (m2 = qs2.length) := hidp Hm2.out.symm
            have H1000 : Hid (is2.length ≤ 1000) := hidp (by have := hrg.len; omega)
            have H1001 : Hid (qs2.length ≤ 1000) := hidp (by have := hrg.len; omega)
            have q1 : u3.cell? ⟨d, 1, none⟩ = some (.slice B1 m1 k1) := by have := hrg.blk.cell 1; rw [← Hm1.out]; exact this
            have q2 : u3.cell? ⟨d, 2, none⟩ = some (.slice B2 m2 k2) := by have := hrg.blk.cell 2; rw [← Hm2.out]; exact this
            have hs : u3.drew.cell? ⟨d, 1, none⟩ = some (.slice B1 m1 k1) ∧ u3.drew.cell? ⟨d, 2, none⟩ = some (.slice B2 m2 k2) ∧ u3.drew.cell? ⟨p, 1, none⟩ = some (.int .i64 y) := ⟨q1, q2, s3⟩
            have ra : Row u3.drew .i64 B1 is2 := hrg.row1
            have rb : Row u3.drew .i64 B2 qs2 := hrg.rd2.r
            have ff := h3.gt.fit
            obtain ⟨-, -, -, -, fi, fq⟩ := ff
            have Fi := hidp fi
            have Fq := hidp fq
            replace h3 := h3.drew
            clear q1 q2 s3 hrg hGe fi fq
            go_region_held3 (fun w' => w'.cell? ⟨d, 1, none⟩ = some (.slice B1 m1 k1) ∧ w'.cell? ⟨d, 2, none⟩ = some (.slice B2 m2 k2) ∧ w'.cell? ⟨p, 1, none⟩ = some (.int .i64 y)) (exact hs)
              (first
                | (go_at_call 35; refine (gin_eq h3.gt).mono ?_; rintro e u ⟨A7, c7, rfl, o7, hb⟩; rw [Hm1.out]; have r7 := (Rd.of_own o7 Fi.out).r; have h3 := h3.over hb; have ra := ra.below hb; have rb := rb.below hb; have hs := keep3 hb hs)
                | (go_at_call 36; refine (gline_eq h3.gt).mono ?_; rintro e u ⟨A8, c8, rfl, o8, hb⟩; rw [Hm2.out]; have r8 := (Rd.of_own o8 Fq.out).r; have h3 := h3.over hb; have ra := ra.below hb; have rb := rb.below hb; have hs := keep3 hb hs)
                | (go_at_call 23; (first | (refine (same_yes r8 rb HmS.out HmS.out H1001.out).mono ?_; rintro e u ⟨rfl, hq⟩; have hb := qb hq; have h3 := h3.over hb; have ra := ra.below hb; have rb := rb.below hb; have hs := keep3 hb hs) | (refine (same_yes r7 ra HnS.out HnS.out H1000.out).mono ?_; rintro e u ⟨rfl, hq⟩; have hb := qb hq; have h3 := h3.over hb; have ra := ra.below hb; have rb := rb.below hb; have hs := keep3 hb hs)))
                | (go_at_call 37; refine (ghas_eq h3.gt FZ Hqk.out).mono ?_; rintro e u ⟨rfl, hb⟩; have h3 := h3.over hb; have ra := ra.below hb; have rb := rb.below hb; have hs := keep3 hb hs)
                | (go_at_call 27; refine (at_any (id := y) ra HnS.out H1000.out).mono ?_; rintro e u ⟨rfl, rfl⟩; rw [Hav.out]))
            clear hav
            go_wp2_with fail
            go_roundg (gk - 1)
            case measure => omega
            case rel => exact ⟨k + 1, is2, qs2, F2, G3, by omega, by go_num, HN2, h3⟩
      · obtain rfl : k = len1 := by omega
        go_wp2_with fail
        go_ret
        exact ⟨rfl, h.below⟩

theorem own : ownKnob Try.prog.godebug = none := by kernel_rfl
theorem laidOut : laidOutB Try.prog = true := by kernel_rfl

/-! THE ROW's STEP -/
set_option maxRecDepth 100000 in
theorem lifted (os : Os) (started : os.Started) (H : Type) (enc : TypeId × Value → H) :
    ReturnsInHanded {} Try.checked os 5 .any (Rows.gatePlaysSpec.pre6 enc Try.prog Try.f5 Rows.gatePlaysRow.domain false) (Rows.gatePlaysSpec.post enc Try.prog Try.f5 false true false false) := by
  refine returnsInHanded_of_change (C := Try.checked) own started (by kernel_rfl) Try.func5
    (ChangeSpec.witness6 (enc := enc) (C := Try.checked) false ⟨#[], #[.int .i64 0, .slice none 0 0], []⟩ 8 (by kernel_rfl) (by kernel_rfl) (by kernel_rfl) (by kernel_rfl)) ?_
  intro W base args ds gs before hval0 hW hcnd _
  have hval : ∀ (j : Nat) t v, Try.f5.params[j]? = some t → args[j]? = some v → Value.okWide Try.prog W .any base t v := hval0
  have hW' := hW
  obtain ⟨p, q, hA0, hV, rfl, hfz, hnd⟩ := hW
  have hA : DataW.TrodAll enc Try.prog W 0 (fun _ => true) true Try.f5.params.toList args.toList ds p := hA0
  rw [Try.params5] at hA hval
  obtain ⟨v0, vs0, d0, ds0, p0, q0, hargs, rfl, rfl, h0, r0⟩ := trodAll_cons hA
  obtain ⟨v1, vs1, d1, ds1, p1, q1, rfl, rfl, rfl, h1, r1⟩ := trodAll_cons r0
  obtain ⟨rfl, rfl, rfl⟩ := trodAll_nil r1
  obtain rfl : args = #[v0, v1] := by cases args; simp_all
  obtain ⟨rfl, rfl⟩ := trodVars_none hV
  obtain ⟨a0, rfl, rfl, rfl, w0⟩ := open_int Try.underlying3 (hval 0 3 v0 rfl rfl) h0
  obtain ⟨a1, len1, cap1, rfl⟩ := okWide_slice Try.underlying54 (hval 1 54 v1 rfl rfl)
  have k1 := h1
  have lt1 : ∀ x ∈ p1, x.block < W.heap.size := by obtain ⟨m, hm⟩ := k1; exact DataW.trod_lt m _ _ _ hm
  obtain ⟨z1, w1⟩ : ∃ zs, IsPairs W a1 len1 cap1 zs := by
    obtain ⟨fuel, hf⟩ := h1
    obtain ⟨x1, x2, x3, zs, hcs, hz⟩ := open_pairs Try.underlying54 Try.underlying59 (by kernel_rfl) rfl rfl (by kernel_rfl) (by kernel_rfl) Try.underlying3 Try.underlying3 hf
    simp [Value.cells] at hcs
    obtain ⟨rfl, rfl, rfl⟩ := hcs
    exact ⟨zs, hz⟩
  clear hA0 hval0
  refine (walk a0 a1 len1 cap1 z1 W w0 w1).mono fun e W' ⟨he, bel⟩ => ?_
  subst he
  exact ⟨_, rfl, _, _, _, [], _, [], hW', trodAll_mk1 (shut_bool Try.underlying4 _), (trodAll_cons_mk (shut_int Try.underlying3 w0) (trodAll_cons_mk (Below.trod laidOut (by kernel_rfl) (of_decide_eq_true (by kernel_rfl)) k1 bel lt1) trodAll_mk0)), rfl, bel.frame _, fun h => by cases h⟩

theorem over : Rows.gatePlaysRow.holds Try.pinned (OpenSpec.ofChange Rows.gatePlaysSpec) :=
  OpenClaim.holds_of_wide 5 Try.f5 rfl rfl rfl rfl rfl rfl rfl ⟨rfl, rfl, rfl, rfl, rfl⟩ rfl rfl rfl rfl rfl (by kernel_rfl) Try.func5 (by kernel_rfl)
    (of_decide_eq_true (by kernel_rfl)) (by unfold Func.isWrapper; first | (rw [if_pos (by decide +kernel)]; kernel_rfl) | (rw [if_neg (by decide +kernel)]; exact ⟨rfl, rfl⟩))
    (fun os started H enc _ => lifted os started H enc)

/-- THE STATEMENT -/
theorem proved : Rows.GatePlaysSaid := over
#print axioms proved
end Go.Proofs.Ytlejnbepldpmmaa.gatePlays

