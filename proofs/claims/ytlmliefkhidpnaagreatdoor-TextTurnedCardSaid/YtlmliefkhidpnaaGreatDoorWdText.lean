/- words.Text, and the document's: a number's text. -/
import Derived.Test.YtlmliefkhidpnaaGreatDoorWdM
import Derived.Test.YtlmliefkhidpnaaGreatDoorShelf
import Derived.Test.YtlmliefkhidpnaaGreatDoorReg
import Derived.Lib.ItoaMem
import Derived.Lib.ItoaLen
import Derived.Deep.Cut
namespace Go.Proofs.YtlmliefkhidpnaaGreatDoor
open Go.ChangeShapes Go.WideShapes Go.ChangeAt Go.RowKit
set_option linter.unusedVariables false
set_option linter.unusedSimpArgs false
def textV (n : Int) : ByteArray := if n < 0 ∨ 9999999 < n then ⟨#[]⟩ else mkB (Lib.decDigits n.toNat)
theorem textV_no {n : Int} (h : n < 0 ∨ 9999999 < n) : textV n = ⟨#[]⟩ := by unfold textV; rw [if_pos h]
theorem textV_yes {n : Int} (h : ¬ (n < 0 ∨ 9999999 < n)) : textV n = mkB (Lib.decDigits n.toNat) := by unfold textV; rw [if_neg h]
theorem below_grow {w : World} (k : Nat) (os : Array Obj) : Below w.heap.size w (Sort.grow (w.drewN k) os) :=
  ⟨rfl, rfl, rfl, by simp, fun i hi => by rw [Sort.heap_grow_old _ _ (by simpa using hi)]; rfl⟩
set_option maxHeartbeats 1000000 in
theorem text_any (n : Int) (w : World) (hn : I64 n) (ht : Lib.TabIs Tryz.prog w "internal/strconv.uint64pow10" .u64 Lib.pow10Tab) : Calls Tryz.prog 45 #[.int .i64 n] w fun e w' => e = .returned (.string (textV n)) ∧ Below w.heap.size w w' := by
  unfold I64 at hn
  by_cases h0 : n < 0
  · have H := hidp (textV_no (n := n) (.inl h0))
    have f1 : decide (n < 0) = true := by simpa using h0
    go_enter Tryz.func45, Tryz.ntmps45
    go_wp2
    go_ret
    exact ⟨by rw [H.out]; rfl, Below.refl _ _⟩
  by_cases h1 : 9999999 < n
  · have H := hidp (textV_no (n := n) (.inr h1))
    have f1 : decide (n < 0) = false := by simpa using h0
    have f2 : decide (9999999 < n) = true := by simpa using h1
    go_enter Tryz.func45, Tryz.ntmps45
    go_wp2
    go_ret
    exact ⟨by rw [H.out]; rfl, Below.refl _ _⟩
  have H := hidp (textV_yes (n := n) (by omega))
  have f1 : decide (n < 0) = false := by simpa using h0
  have f2 : decide (9999999 < n) = false := by simpa using h1
  have C := Tryz.strconv_Itoa n (by omega) (by omega) w ht
  have e1 : Lib.itoa n = Lib.decDigits n.toNat := by unfold Lib.itoa; rw [if_neg h0]
  rw [e1] at C
  have HC := hidp C
  clear C e1 ht
  go_enter Tryz.func45, Tryz.ntmps45
  go_wp2_with fail
  refine HC.out.mono ?_
  rintro e w' ⟨rfl, k, os, rfl⟩
  go_wp2
  go_ret
  exact ⟨by rw [H.out]; rfl, below_grow k os⟩
theorem dig_bytes (r : Nat) (hr : r < 10) (w : World) (T : TypeId) : ∀ j (hj : j < [UInt8.ofNat (48 + r)].length), (w.alloc (.cells #[.int .u8 (48 + (r : Int))] T)).cell? ((⟨w.heap.size, 0, none⟩ : Addr).add j) = some (.int .u8 ([UInt8.ofNat (48 + r)][j].toNat : Int)) := by
  intro j hj
  have hj0 : j = 0 := by simpa using hj
  subst hj0
  have := (Bk.new w T #[.int .u8 (48 + (r : Int))]).cell 0
  have e : ((⟨w.heap.size, 0, none⟩ : Addr).add 0) = ⟨w.heap.size, 0, none⟩ := by unfold Addr.add; rw [if_pos rfl]
  rw [e, this]
  have h : r = 0 ∨ r = 1 ∨ r = 2 ∨ r = 3 ∨ r = 4 ∨ r = 5 ∨ r = 6 ∨ r = 7 ∨ r = 8 ∨ r = 9 := by omega
  rcases h with rfl | rfl | rfl | rfl | rfl | rfl | rfl | rfl | rfl | rfl <;> rfl
theorem conv_dig (r : Nat) (hr : r < 10) (w : World) : (convert 37 9 (.slice (some ⟨w.heap.size, 0, none⟩) 1 1)).run Tryz.prog (w.alloc (.cells #[.int .u8 (48 + (r : Int))] 5)) = .ok (.string (mkB [UInt8.ofNat (48 + r)])) (w.alloc (.cells #[.int .u8 (48 + (r : Int))] 5)) :=
  run_convert_bytes_back (P := Tryz.prog) (w.alloc (.cells #[.int .u8 (48 + (r : Int))] 5)) 37 9 5 ⟨w.heap.size, 0, none⟩ 1 [UInt8.ofNat (48 + r)] Tryz.underlying37 Tryz.underlying5 Tryz.underlying9 (dig_bytes r hr w 5)
theorem conv_dig2 (r : Nat) (hr : r < 10) (w v : World) (hb : Below (w.heap.size + 1) (w.alloc (.cells #[.int .u8 (48 + (r : Int))] 5)) v) : (convert 37 9 (.slice (some ⟨w.heap.size, 0, none⟩) 1 1)).run Tryz.prog v = .ok (.string (mkB [UInt8.ofNat (48 + r)])) v :=
  run_convert_bytes_back (P := Tryz.prog) v 37 9 5 ⟨w.heap.size, 0, none⟩ 1 [UInt8.ofNat (48 + r)] Tryz.underlying37 Tryz.underlying5 Tryz.underlying9 (fun j hj => by
    have hj0 : j = 0 := by simpa using hj
    subst hj0
    have e : ((⟨w.heap.size, 0, none⟩ : Addr).add 0) = ⟨w.heap.size, 0, none⟩ := by unfold Addr.add; rw [if_pos rfl]
    have h := dig_bytes r hr w 5 0 hj
    rw [e] at h ⊢
    rw [hb.cell (p := ⟨w.heap.size, 0, none⟩) (Nat.lt_succ_self _)]
    exact h)
set_option maxHeartbeats 2000000 in
set_option maxRecDepth 100000 in
theorem rdigits_any (m : Nat) : ∀ (n : Nat), n ≤ m → n ≤ 9999999 → ∀ w : World, Calls Tryz.prog 29 #[.int .i64 (n : Int)] w fun e w' => e = .returned (.string (mkB (Lib.decDigits n))) ∧ Below w.heap.size w w' := by
  induction m with
  | zero =>
    intro n hn _ w
    obtain rfl : n = 0 := by omega
    obtain ⟨D, HD⟩ : ∃ D, Hid (mkB [UInt8.ofNat (48 + 0)] = D) := ⟨_, hidp rfl⟩
    have H : Hid (mkB (Lib.decDigits 0) = D) := hidp (by rw [Lib.decDigits_one (by decide)]; exact HD.out)
    have hcb := conv_dig 0 (by decide) w
    rw [HD.out] at hcb
    have w8 : IntKind.u8.wrap 48 = 48 := by decide
    simp only [Int.natCast_zero, Int.add_zero] at hcb
    go_enter Tryz.func29, Tryz.ntmps29
    go_wp2
    go_ret
    exact ⟨by rw [H.out]; rfl, (Below.refl _ w).alloc (Nat.le_refl _) _⟩
  | succ m ih =>
    intro n hn hle w
    have f1 : decide ((n : Int) < 0) = false := by simp
    have f2 : decide ((9999999 : Int) < (n : Int)) = false := by simp; omega
    by_cases h10 : n < 10
    · obtain ⟨D, HD⟩ : ∃ D, Hid (mkB [UInt8.ofNat (48 + n)] = D) := ⟨_, hidp rfl⟩
      have H : Hid (mkB (Lib.decDigits n) = D) := hidp (by rw [Lib.decDigits_one h10]; exact HD.out)
      have hcb := conv_dig n h10 w
      rw [HD.out] at hcb
      have f3 : (n : Int) < 10 := by omega
      have w64 : IntKind.i64.wrap (48 + (n : Int)) = 48 + (n : Int) := IntWalk.i64_in _ (by omega)
      have w8 : IntKind.u8.wrap (48 + (n : Int)) = 48 + (n : Int) := IntWalk.u8_in _ (by omega)
      go_enter Tryz.func29, Tryz.ntmps29
      go_wp2
      go_ret
      exact ⟨by rw [H.out]; rfl, (Below.refl _ w).alloc (Nat.le_refl _) _⟩
    · obtain ⟨q, r, hr, hq⟩ : ∃ q r : Nat, r < 10 ∧ n = 10 * q + r := ⟨n / 10, n % 10, Nat.mod_lt _ (by decide), by omega⟩
      have f3 : ¬ (n : Int) < 10 := by omega
      have e1 : (n : Int).tdiv 10 = (q : Int) := by rw [Int.tdiv_eq_ediv_of_nonneg (by omega)]; omega
      have e2 : (n : Int).tmod 10 = (r : Int) := by rw [Int.tmod_eq_emod_of_nonneg (by omega)]; omega
      have w1 : IntKind.i64.wrap (q : Int) = (q : Int) := IntWalk.i64_in _ (by omega)
      have w2 : IntKind.i64.wrap (r : Int) = (r : Int) := IntWalk.i64_in _ (by omega)
      have w64 : IntKind.i64.wrap (48 + (r : Int)) = 48 + (r : Int) := IntWalk.i64_in _ (by omega)
      have w8 : IntKind.u8.wrap (48 + (r : Int)) = 48 + (r : Int) := IntWalk.u8_in _ (by omega)
      have HI := hidp (ih q (by omega) (by omega))
      obtain ⟨D, HD⟩ : ∃ D, Hid (mkB [UInt8.ofNat (48 + r)] = D) := ⟨_, hidp rfl⟩
      have H : Hid (mkB (Lib.decDigits q) ++ D = mkB (Lib.decDigits n)) := hidp (bl_inj (by
        rw [← HD.out, bl_append, bl_mk, bl_mk, bl_mk]
        conv => rhs; rw [Lib.decDigits, dif_neg h10]
        rw [show n / 10 = q by omega, show n % 10 = r by omega]))
      have hsz : (mkB (Lib.decDigits q)).size + D.size ≤ 9223372036854775807 := by
        have h1 := Lib.itoa_length_le (q : Int) (by omega) (by omega)
        rw [Lib.itoa_nonneg] at h1
        have h2 : (mkB (Lib.decDigits q)).size = (Lib.decDigits q).length := by rw [← bl_len, bl_mk]
        have h3 : D.size = 1 := by rw [← HD.out, ← bl_len]; rfl
        omega
      have HR := hidp hr
      have HQ := hidp hq
      clear ih hq h10 hn
      go_enter Tryz.func29, Tryz.ntmps29
      go_upto_region 5 with fail
      refine wp_region_held_drew (S := fun _ => True) (by kernel_rfl) ?_ (fun hHeld => ?_)
      · trivial
      obtain ⟨v, hv⟩ : ∃ v, w.drew = v := ⟨_, rfl⟩
      have hb : Below w.heap.size w v := hv ▸ below_drewN (Below.refl _ w) 1
      rw [hv]
      clear hv
      refine wpAnyH_take (i := 0) (v := ?_) rfl (by kernel_rfl) (by kernel_rfl) (by kernel_rfl) (fun _ _ _ h => h) (Or.inl ⟨by rfl, ?_⟩) (by assumption) ?_
      rotate_left 1
      · ((intro w hSw; (try dsimp only at hSw); go_simp); (try with_reducible rfl))
      simp only [Act.put, List.setIfInBounds_toArray, List.set_cons_zero, List.set_cons_succ, List.getElem_toArray, List.getElem_cons_zero, List.getElem_cons_succ]
      refine wpAnyH_take (i := 1) (v := ?_) rfl (by kernel_rfl) (by kernel_rfl) (by kernel_rfl) (fun _ _ _ h => h) (Or.inl ⟨by rfl, ?_⟩) (by assumption) ?_
      rotate_left 1
      · ((intro w hSw; (try dsimp only at hSw); go_simp); (try with_reducible rfl))
      simp only [Act.put, List.setIfInBounds_toArray, List.set_cons_zero, List.set_cons_succ, List.getElem_toArray, List.getElem_cons_zero, List.getElem_cons_succ]
      refine wpAnyH_take (i := 3) (v := ?_) rfl (by kernel_rfl) (by kernel_rfl) (by kernel_rfl) (fun _ _ _ h => h) (Or.inl ⟨by rfl, ?_⟩) (by assumption) ?_
      rotate_left 1
      · ((intro w hSw; (try dsimp only at hSw); go_simp); (try with_reducible rfl))
      simp only [Act.put, List.setIfInBounds_toArray, List.set_cons_zero, List.set_cons_succ, List.getElem_toArray, List.getElem_cons_zero, List.getElem_cons_succ]
      refine wpAnyH_take (i := 4) (v := ?_) rfl (by kernel_rfl) (by kernel_rfl) (by kernel_rfl) (fun _ _ _ h => h) (Or.inl ⟨by rfl, ?_⟩) (by assumption) ?_
      rotate_left 1
      · ((intro w hSw; (try dsimp only at hSw); go_simp); (try with_reducible rfl))
      simp only [Act.put, List.setIfInBounds_toArray, List.set_cons_zero, List.set_cons_succ, List.getElem_toArray, List.getElem_cons_zero, List.getElem_cons_succ]
      refine wpAnyH_take (i := 5) (v := ?_) rfl (by kernel_rfl) (by kernel_rfl) (by kernel_rfl) (fun _ _ _ h => h) (Or.inl ⟨by rfl, ?_⟩) (by assumption) ?_
      rotate_left 1
      · ((intro w hSw; (try dsimp only at hSw); go_simp); (try with_reducible rfl))
      simp only [Act.put, List.setIfInBounds_toArray, List.set_cons_zero, List.set_cons_succ, List.getElem_toArray, List.getElem_cons_zero, List.getElem_cons_succ]
      refine wpAnyH_take (i := 6) (v := ?_) rfl (by kernel_rfl) (by kernel_rfl) (by kernel_rfl) (fun _ _ _ h => h) (Or.inl ⟨by rfl, ?_⟩) (by assumption) ?_
      rotate_left 1
      · ((intro w hSw; (try dsimp only at hSw); go_simp); (try with_reducible rfl))
      simp only [Act.put, List.setIfInBounds_toArray, List.set_cons_zero, List.set_cons_succ, List.getElem_toArray, List.getElem_cons_zero, List.getElem_cons_succ]
      refine wpAnyH_ready (rs := [2, 7]) (by kernel_rfl) (by simp) ?_
      refine AllReadyH.cons rfl (fun K hK => ?_) (AllReadyH.cons rfl (fun K hK => ?_) AllReadyH.nil)
      · go_simp
        refine (HI.out v).mono ?_
        rintro e v1 ⟨rfl, hb1⟩
        replace hb := hb.trans (hb1.mono hb.size)
        clear hb1 hHeld
        go_wp2_with fail
        refine hK.out _ _ ?_ (fun hHeld => ?_)
        · exact trivial
        clear hK K
        try simp only [Act.put, List.setIfInBounds_toArray, List.set_cons_zero, List.set_cons_succ, List.getElem_toArray, List.getElem_cons_zero, List.getElem_cons_succ]
        refine wpAnyH_ready (rs := [7]) (by kernel_rfl) (by simp) ?_
        refine AllReadyH.cons rfl (fun K hK => ?_) AllReadyH.nil
        go_simp
        have hcb := conv_dig r HR.out v1
        rw [HD.out] at hcb
        have hb2 := hb.alloc hb.size (.cells #[.int .u8 (48 + (r : Int))] 5)
        clear hHeld
        go_wp2_with fail
        refine hK.out _ _ ?_ (fun hHeld => ?_)
        · exact trivial
        clear hK K
        try simp only [Act.put, List.setIfInBounds_toArray, List.set_cons_zero, List.set_cons_succ, List.getElem_toArray, List.getElem_cons_zero, List.getElem_cons_succ]
        refine wpAnyH_ready (rs := [8]) (by kernel_rfl) (by simp) ?_
        refine AllReadyH.cons rfl (fun K hK => ?_) AllReadyH.nil
        go_simp
        clear hHeld
        go_wp2_with fail
        refine hK.out _ _ ?_ (fun hHeld => ?_)
        · exact trivial
        clear hK K
        try simp only [Act.put, List.setIfInBounds_toArray, List.set_cons_zero, List.set_cons_succ, List.getElem_toArray, List.getElem_cons_zero, List.getElem_cons_succ]
        refine wpAnyH_ready (rs := [9]) (by kernel_rfl) (by simp) ?_
        refine AllReadyH.cons rfl (fun K hK => ?_) AllReadyH.nil
        go_simp
        clear hHeld
        go_wp2_with fail
        refine hK.out _ _ ?_ (fun hHeld => ?_)
        · exact trivial
        clear hK K
        try simp only [Act.put, List.setIfInBounds_toArray, List.set_cons_zero, List.set_cons_succ, List.getElem_toArray, List.getElem_cons_zero, List.getElem_cons_succ]
        refine wpAnyH_take (i := 10) (v := ?_) rfl (by kernel_rfl) (by kernel_rfl) (by kernel_rfl) (fun _ _ _ h => h) (Or.inl ⟨by rfl, ?_⟩) (by assumption) ?_
        rotate_left 1
        · ((intro w hSw; (try dsimp only at hSw); go_simp); (try with_reducible rfl))
        simp only [Act.put, List.setIfInBounds_toArray, List.set_cons_zero, List.set_cons_succ, List.getElem_toArray, List.getElem_cons_zero, List.getElem_cons_succ]
        refine wpAnyH_done (by kernel_rfl) ?_ _
        go_wp2_with fail
        go_ret
        exact ⟨by rw [← H.out]; rfl, hb2⟩
      · go_simp
        have hb2 := hb.alloc hb.size (.cells #[.int .u8 (48 + (r : Int))] 5)
        clear hHeld
        go_wp2_with fail
        refine hK.out _ _ ?_ (fun hHeld => ?_)
        · exact trivial
        clear hK K
        try simp only [Act.put, List.setIfInBounds_toArray, List.set_cons_zero, List.set_cons_succ, List.getElem_toArray, List.getElem_cons_zero, List.getElem_cons_succ]
        refine wpAnyH_ready (rs := [2, 8]) (by kernel_rfl) (by simp) ?_
        refine AllReadyH.cons rfl (fun K hK => ?_) (AllReadyH.cons rfl (fun K hK => ?_) AllReadyH.nil)
        · go_simp
          refine (HI.out _).mono ?_
          rintro e v1 ⟨rfl, hb1⟩
          have hb3 := hb2.trans (hb1.mono hb2.size)
          have hcb := conv_dig2 r HR.out v v1 (hb1.mono (by simp))
          rw [HD.out] at hcb
          clear hb1 hHeld
          go_wp2_with fail
          refine hK.out _ _ ?_ (fun hHeld => ?_)
          · exact trivial
          clear hK K
          try simp only [Act.put, List.setIfInBounds_toArray, List.set_cons_zero, List.set_cons_succ, List.getElem_toArray, List.getElem_cons_zero, List.getElem_cons_succ]
          refine wpAnyH_ready (rs := [8]) (by kernel_rfl) (by simp) ?_
          refine AllReadyH.cons rfl (fun K hK => ?_) AllReadyH.nil
          go_simp
          clear hHeld
          go_wp2_with fail
          refine hK.out _ _ ?_ (fun hHeld => ?_)
          · exact trivial
          clear hK K
          try simp only [Act.put, List.setIfInBounds_toArray, List.set_cons_zero, List.set_cons_succ, List.getElem_toArray, List.getElem_cons_zero, List.getElem_cons_succ]
          refine wpAnyH_ready (rs := [9]) (by kernel_rfl) (by simp) ?_
          refine AllReadyH.cons rfl (fun K hK => ?_) AllReadyH.nil
          go_simp
          clear hHeld
          go_wp2_with fail
          refine hK.out _ _ ?_ (fun hHeld => ?_)
          · exact trivial
          clear hK K
          try simp only [Act.put, List.setIfInBounds_toArray, List.set_cons_zero, List.set_cons_succ, List.getElem_toArray, List.getElem_cons_zero, List.getElem_cons_succ]
          refine wpAnyH_take (i := 10) (v := ?_) rfl (by kernel_rfl) (by kernel_rfl) (by kernel_rfl) (fun _ _ _ h => h) (Or.inl ⟨by rfl, ?_⟩) (by assumption) ?_
          rotate_left 1
          · ((intro w hSw; (try dsimp only at hSw); go_simp); (try with_reducible rfl))
          simp only [Act.put, List.setIfInBounds_toArray, List.set_cons_zero, List.set_cons_succ, List.getElem_toArray, List.getElem_cons_zero, List.getElem_cons_succ]
          refine wpAnyH_done (by kernel_rfl) ?_ _
          go_wp2_with fail
          go_ret
          exact ⟨by rw [← H.out]; rfl, hb3⟩
        · have hcb := conv_dig r HR.out v
          rw [HD.out] at hcb
          go_simp
          clear hHeld
          go_wp2_with fail
          refine hK.out _ _ ?_ (fun hHeld => ?_)
          · exact trivial
          clear hK K
          try simp only [Act.put, List.setIfInBounds_toArray, List.set_cons_zero, List.set_cons_succ, List.getElem_toArray, List.getElem_cons_zero, List.getElem_cons_succ]
          refine wpAnyH_ready (rs := [2]) (by kernel_rfl) (by simp) ?_
          refine AllReadyH.cons rfl (fun K hK => ?_) AllReadyH.nil
          go_simp
          refine (HI.out _).mono ?_
          rintro e v1 ⟨rfl, hb1⟩
          have hb3 := hb2.trans (hb1.mono hb2.size)
          clear hb1 hHeld
          go_wp2_with fail
          refine hK.out _ _ ?_ (fun hHeld => ?_)
          · exact trivial
          clear hK K
          try simp only [Act.put, List.setIfInBounds_toArray, List.set_cons_zero, List.set_cons_succ, List.getElem_toArray, List.getElem_cons_zero, List.getElem_cons_succ]
          refine wpAnyH_ready (rs := [9]) (by kernel_rfl) (by simp) ?_
          refine AllReadyH.cons rfl (fun K hK => ?_) AllReadyH.nil
          go_simp
          clear hHeld
          go_wp2_with fail
          refine hK.out _ _ ?_ (fun hHeld => ?_)
          · exact trivial
          clear hK K
          try simp only [Act.put, List.setIfInBounds_toArray, List.set_cons_zero, List.set_cons_succ, List.getElem_toArray, List.getElem_cons_zero, List.getElem_cons_succ]
          refine wpAnyH_take (i := 10) (v := ?_) rfl (by kernel_rfl) (by kernel_rfl) (by kernel_rfl) (fun _ _ _ h => h) (Or.inl ⟨by rfl, ?_⟩) (by assumption) ?_
          rotate_left 1
          · ((intro w hSw; (try dsimp only at hSw); go_simp); (try with_reducible rfl))
          simp only [Act.put, List.setIfInBounds_toArray, List.set_cons_zero, List.set_cons_succ, List.getElem_toArray, List.getElem_cons_zero, List.getElem_cons_succ]
          refine wpAnyH_done (by kernel_rfl) ?_ _
          go_wp2_with fail
          go_ret
          exact ⟨by rw [← H.out]; rfl, hb3⟩
theorem rtext_any (n : Int) (w : World) (hn : I64 n) : Calls Tryz.prog 29 #[.int .i64 n] w fun e w' => e = .returned (.string (textV n)) ∧ Below w.heap.size w w' := by
  unfold I64 at hn
  by_cases h0 : n < 0
  · have H := hidp (textV_no (n := n) (.inl h0))
    have f1 : decide (n < 0) = true := by simpa using h0
    go_enter Tryz.func29, Tryz.ntmps29
    go_wp2
    go_ret
    exact ⟨by rw [H.out]; rfl, Below.refl _ _⟩
  by_cases h1 : 9999999 < n
  · have H := hidp (textV_no (n := n) (.inr h1))
    have f1 : decide (n < 0) = false := by simpa using h0
    have f2 : decide (9999999 < n) = true := by simpa using h1
    go_enter Tryz.func29, Tryz.ntmps29
    go_wp2
    go_ret
    exact ⟨by rw [H.out]; rfl, Below.refl _ _⟩
  obtain ⟨k, rfl⟩ : ∃ k : Nat, n = (k : Int) := ⟨n.toNat, by omega⟩
  rw [textV_yes (n := (k : Int)) (by omega), Int.toNat_natCast]
  exact rdigits_any k k (Nat.le_refl _) (by omega) w
end Go.Proofs.YtlmliefkhidpnaaGreatDoor
