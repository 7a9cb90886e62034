/- TextNested: a lock within a lock is told so, at its line, whatever else is in that line. No condition. -/
import Derived.Test.YtggidlmehimcjaaDoorKnown9
import Derived.Test.YtggidlmehimcjaaDoorReg
set_option maxHeartbeats 16000000
set_option maxRecDepth 100000
set_option linter.unusedSimpArgs false
namespace Go.Proofs.YtggidlmehimcjaaDoor
open Go.ChangeShapes Go.WideShapes Go.ChangeAt Go.RowKit
def nsT : Nat → Bts
  | 0 => [112, 114, 111, 116, 111, 99, 111, 108, 32, 102, 97, 105, 114, 10, 99, 111, 114, 101, 115, 32, 49, 10, 104, 111, 109, 101, 115, 32, 48, 32, 48, 10]
  | k + 1 => nsT k ++ [116, 97, 115, 107, 32] ++ [UInt8.ofNat (97 + k)] ++ [32, 53, 48, 32, 53, 48, 32] ++ textL ((k : Int) + 1) ++ [32, 48, 32, 114, 117, 110, 58, 49, 10]
def nsW (n a b : Nat) (m : Bool) : Bts := nsT n ++ [116, 97, 115, 107, 32, 120, 32, 53, 48, 32, 53, 48, 32, 57, 32, 48, 32, 114, 117, 110, 58, 49, 32, 108, 111, 99, 107, 58] ++ textL (a : Int) ++ [58, 108, 111, 99, 107, 58] ++ textL (b : Int) ++ [58, 51] ++ (if m = true then [32, 119, 97, 108, 107, 58, 55] else []) ++ [10]
theorem ns_all : ∀ n : Fin 5, ∀ a : Fin 2, ∀ b : Fin 2, ∀ m : Bool, isErr (readT (nsW n.val a.val b.val m)) (3 + n.val) 18 = true ∧ (nsW n.val a.val b.val m).length ≤ 2000 := by decide +kernel
theorem ns_parse {n a b : Nat} (m : Bool) (hn : n < 5) (ha : a < 2) (hb : b < 2) : parseV (nsW n a b m) = (noSet, ((3 + n : Nat) : Int), 18) := by
  have h := ns_all ⟨n, hn⟩ ⟨a, ha⟩ ⟨b, hb⟩ m
  exact parseV_err h.2 (isErr_err h.1)
theorem let_bytes (i : Nat) (hi : i < 6) (w : World) (T : TypeId) : ∀ j (hj : j < [UInt8.ofNat (97 + i)].length), (w.alloc (.cells #[.int .u8 (97 + (i : Int))] T)).cell? ((⟨w.heap.size, 0, none⟩ : Addr).add j) = some (.int .u8 ([UInt8.ofNat (97 + i)][j].toNat : Int)) := by
  intro j hj
  have hj0 : j = 0 := by simpa using hj
  subst hj0
  have := (Bk.new w T #[.int .u8 (97 + (i : Int))]).cell 0
  have e : ((⟨w.heap.size, 0, none⟩ : Addr).add 0) = ⟨w.heap.size, 0, none⟩ := by unfold Addr.add; rw [if_pos rfl]
  rw [e, this]
  have h : i = 0 ∨ i = 1 ∨ i = 2 ∨ i = 3 ∨ i = 4 ∨ i = 5 := by omega
  rcases h with rfl | rfl | rfl | rfl | rfl | rfl <;> rfl
theorem let_conv (i : Nat) (hi : i < 6) (w v : World) (hb : Below (w.heap.size + 1) (w.alloc (.cells #[.int .u8 (97 + (i : Int))] 5)) v) : (convert 47 9 (.slice (some ⟨w.heap.size, 0, none⟩) 1 1)).run Tryd.prog v = .ok (.string (mkB [UInt8.ofNat (97 + i)])) v :=
  run_convert_bytes_back (P := Tryd.prog) v 47 9 5 ⟨w.heap.size, 0, none⟩ 1 [UInt8.ofNat (97 + i)] Tryd.underlying47 Tryd.underlying5 Tryd.underlying9 (by
    intro j hj
    have hj0 : j = 0 := by simpa using hj
    subst hj0
    have e : ((⟨w.heap.size, 0, none⟩ : Addr).add 0) = ⟨w.heap.size, 0, none⟩ := by unfold Addr.add; rw [if_pos rfl]
    have h := let_bytes i hi w 5 0 hj
    rw [e] at h ⊢
    rw [hb.cell (p := ⟨w.heap.size, 0, none⟩) (Nat.lt_succ_self _)]
    exact h)
end Go.Proofs.YtggidlmehimcjaaDoor
namespace Go.Proofs.YtggidlmehimcjaaDoor.textNested
open Go.ChangeShapes Go.WideShapes Go.ChangeAt Go.RowKit
open Go.ChangeMaps (open_string shut_string)
set_option linter.unusedVariables false

/-- THE WALK: the Go text returns true, and writes nothing that was there. -/
theorem walk (a0 : Int) (a1 : Int) (a2 : Int) (a3 : Bool) (w : World) (w0 : (Lit.int .u8 a0).wf = true) (w1 : (Lit.int .u8 a1).wf = true) (w2 : (Lit.int .u8 a2).wf = true) (mMax : Int) (hMax : w.cell? ⟨0, 0, none⟩ = some (.int .i64 mMax)) (hTab : Go.Lib.TabIs Tryd.prog w "internal/strconv.uint64pow10" .u64 Go.Lib.pow10Tab) :
    Calls Tryd.prog 6 #[.int .u8 a0, .int .u8 a1, .int .u8 a2, .bool a3] w fun e w' => e = .returned (.bool true) ∧ Below w.heap.size w w' := by
  have HX := hidp hMax
  have HT : Hid (Tab w) := hidp hTab
  simp [Lit.wf, IntKind.min, IntKind.max, IntKind.signed, IntKind.bits] at w0 w1 w2
  obtain ⟨A, hA⟩ : ∃ k : Nat, a0.tmod 2 = (k : Int) := ⟨(a0 % 2).toNat, by rw [Int.tmod_eq_emod_of_nonneg (by omega)]; omega⟩
  have bA : A < 2 := by rw [Int.tmod_eq_emod_of_nonneg (by omega)] at hA; omega
  obtain ⟨B, hB⟩ : ∃ k : Nat, a1.tmod 2 = (k : Int) := ⟨(a1 % 2).toNat, by rw [Int.tmod_eq_emod_of_nonneg (by omega)]; omega⟩
  have bB : B < 2 := by rw [Int.tmod_eq_emod_of_nonneg (by omega)] at hB; omega
  obtain ⟨N, hN⟩ : ∃ k : Nat, a2.tmod 5 = (k : Int) := ⟨(a2 % 5).toNat, by rw [Int.tmod_eq_emod_of_nonneg (by omega)]; omega⟩
  have bN : N < 5 := by rw [Int.tmod_eq_emod_of_nonneg (by omega)] at hN; omega
  have x1 : IntKind.u8.wrap (A : Int) = A := IntWalk.u8_in _ (by omega)
  have x2 : IntKind.u8.wrap (B : Int) = B := IntWalk.u8_in _ (by omega)
  have x3 : IntKind.u8.wrap (N : Int) = N := IntWalk.u8_in _ (by omega)
  have y1 : IntKind.i64.wrap (A : Int) = A := IntWalk.i64_in _ (by omega)
  have y2 : IntKind.i64.wrap (B : Int) = B := IntWalk.i64_in _ (by omega)
  have y3 : IntKind.i64.wrap (N : Int) = N := IntWalk.i64_in _ (by omega)
  obtain ⟨T1, HT1⟩ : ∃ X, Hid (textV (A : Int) = X) := ⟨_, hidp rfl⟩
  obtain ⟨T2, HT2⟩ : ∃ X, Hid (textV (B : Int) = X) := ⟨_, hidp rfl⟩
  have C1 := hidp (fun u => rtext_any (A : Int) u (by unfold I64; omega))
  have C2 := hidp (fun u => rtext_any (B : Int) u (by unfold I64; omega))
  rw [HT1.out] at C1
  rw [HT2.out] at C2
  have sz : ∀ n X, textV n = X → X.size ≤ 7 := fun n X h => by rw [← h, ← bl_len]; exact textL_len n
  have s1 := sz _ _ HT1.out
  have s2 := sz _ _ HT2.out
  have HN5 := hidp bN
  have HA2 := hidp bA
  have HB2 := hidp bB
  clear hMax hTab w0 w1 w2
  go_enter Tryd.func6, Tryd.ntmps6
  go_wp2_with fail
  refine (known9_any w mMax HX.out HT.out).mono ?_
  rintro e w1 ⟨rfl, hb1⟩
  go_wp2_with fail
  go_loopg [9, 11] N (fun g s i wr => ∃ (k : Nat) (S : ByteArray), k + g = N ∧ i = .int .i64 k ∧ s = .string S ∧ Hid (bl S = nsT k) ∧ S.size ≤ 40 + 50 * k ∧ Hid (Below w.heap.size w wr))
  case atStart => exact ⟨0, _, by omega, rfl, rfl, hidp rfl, by decide, hidp hb1⟩
  case round =>
    clear hb1
    obtain ⟨k, S, hk, rfl, rfl, HS, hS, HBr⟩ := hrel
    by_cases hin : k < N
    · have kI : (k : Int) < (N : Int) := by omega
      have v1 : IntKind.i64.wrap (97 + (k : Int)) = 97 + (k : Int) := IntWalk.i64_in _ (by omega)
      have v2 : IntKind.u8.wrap (97 + (k : Int)) = 97 + (k : Int) := IntWalk.u8_in _ (by omega)
      have v3 : IntKind.i64.wrap ((k : Int) + 1) = (k : Int) + 1 := IntWalk.i64_in _ (by omega)
      obtain ⟨T3, HT3⟩ : ∃ X, Hid (textV ((k : Int) + 1) = X) := ⟨_, hidp rfl⟩
      have C3 := hidp (fun u => rtext_any ((k : Int) + 1) u (by unfold I64; omega))
      rw [HT3.out] at C3
      have s3 := sz _ _ HT3.out
      obtain ⟨L, HL⟩ : ∃ L, Hid (mkB [UInt8.ofNat (97 + k)] = L) := ⟨_, hidp rfl⟩
      have s4 : L.size = 1 := by rw [← HL.out]; rfl
      have HLC : Hid (∀ v u : World, Below (v.heap.size + 1) (v.alloc (.cells #[.int .u8 (97 + (k : Int))] 5)) u → (convert 47 9 (.slice (some ⟨v.heap.size, 0, none⟩) 1 1)).run Tryd.prog u = .ok (.string L) u) := hidp (fun v u h => by rw [← HL.out]; exact let_conv k (by omega) v u h)
      have HNX : Hid (bl (S ++ ⟨#[116, 97, 115, 107, 32]⟩ ++ L ++ ⟨#[32, 53, 48, 32, 53, 48, 32]⟩ ++ T3 ++ ⟨#[32, 48, 32, 114, 117, 110, 58, 49, 10]⟩) = nsT (k + 1)) := hidp (by
        simp only [bl_append]
        rw [HS.out, show bl T3 = textL ((k : Int) + 1) by rw [← HT3.out]; rfl, show bl L = [UInt8.ofNat (97 + k)] by rw [← HL.out]; rfl]
        rfl)
      have HNS : Hid ((S ++ ⟨#[116, 97, 115, 107, 32]⟩ ++ L ++ ⟨#[32, 53, 48, 32, 53, 48, 32]⟩ ++ T3 ++ ⟨#[32, 48, 32, 114, 117, 110, 58, 49, 10]⟩ : ByteArray).size ≤ 40 + 50 * (k + 1)) := hidp (by
        simp only [ByteArray.size_append]
        show S.size + 5 + L.size + 7 + T3.size + 9 ≤ _
        omega)
      have z1 : ¬ 9223372036854775807 < S.size + 5 := by omega
      have z2 : ¬ 9223372036854775807 < S.size + 5 + L.size := by omega
      have z3 : ¬ 9223372036854775807 < S.size + 5 + L.size + 7 := by omega
      have z4 : ¬ 9223372036854775807 < S.size + 5 + L.size + 7 + T3.size := by omega
      have z5 : ¬ 9223372036854775807 < S.size + 5 + L.size + 7 + T3.size + 9 := by omega
      clear s3 s4 hS
      go_wp2_with fail
      refine wp_region_held_drew (S := fun _ => True) (by kernel_rfl) ?_ (fun hHeld => ?_)
      · trivial
      obtain ⟨v, hv⟩ : ∃ v, wr.drew = v := ⟨_, rfl⟩
      have HBv : Hid (Below w.heap.size w v) := hidp (hv ▸ below_drewN HBr.out 1)
      rw [hv]
      clear hv HBr
      refine wpAnyH_take (i := 0) (v := ?_) rfl (by kernel_rfl) (by kernel_rfl) (by kernel_rfl) (fun _ _ _ h => h) (Or.inl ⟨by rfl, ?_⟩) (by assumption) ?_
      rotate_left 1
      · ((intro w hSw; (try dsimp only at hSw); go_simp); (try with_reducible rfl))
      simp only [Act.put, List.setIfInBounds_toArray, List.set_cons_zero, List.set_cons_succ, List.getElem_toArray, List.getElem_cons_zero, List.getElem_cons_succ]
      refine wpAnyH_take (i := 1) (v := ?_) rfl (by kernel_rfl) (by kernel_rfl) (by kernel_rfl) (fun _ _ _ h => h) (Or.inl ⟨by rfl, ?_⟩) (by assumption) ?_
      rotate_left 1
      · ((intro w hSw; (try dsimp only at hSw); go_simp); (try with_reducible rfl))
      simp only [Act.put, List.setIfInBounds_toArray, List.set_cons_zero, List.set_cons_succ, List.getElem_toArray, List.getElem_cons_zero, List.getElem_cons_succ]
      refine wpAnyH_take (i := 2) (v := ?_) rfl (by kernel_rfl) (by kernel_rfl) (by kernel_rfl) (fun _ _ _ h => h) (Or.inl ⟨by rfl, ?_⟩) (by assumption) ?_
      rotate_left 1
      · ((intro w hSw; (try dsimp only at hSw); go_simp); (try with_reducible rfl))
      simp only [Act.put, List.setIfInBounds_toArray, List.set_cons_zero, List.set_cons_succ, List.getElem_toArray, List.getElem_cons_zero, List.getElem_cons_succ]
      refine wpAnyH_take (i := 3) (v := ?_) rfl (by kernel_rfl) (by kernel_rfl) (by kernel_rfl) (fun _ _ _ h => h) (Or.inl ⟨by rfl, ?_⟩) (by assumption) ?_
      rotate_left 1
      · ((intro w hSw; (try dsimp only at hSw); go_simp); (try with_reducible rfl))
      simp only [Act.put, List.setIfInBounds_toArray, List.set_cons_zero, List.set_cons_succ, List.getElem_toArray, List.getElem_cons_zero, List.getElem_cons_succ]
      refine wpAnyH_take (i := 4) (v := ?_) rfl (by kernel_rfl) (by kernel_rfl) (by kernel_rfl) (fun _ _ _ h => h) (Or.inl ⟨by rfl, ?_⟩) (by assumption) ?_
      rotate_left 1
      · ((intro w hSw; (try dsimp only at hSw); go_simp); (try with_reducible rfl))
      simp only [Act.put, List.setIfInBounds_toArray, List.set_cons_zero, List.set_cons_succ, List.getElem_toArray, List.getElem_cons_zero, List.getElem_cons_succ]
      refine wpAnyH_take (i := 9) (v := ?_) rfl (by kernel_rfl) (by kernel_rfl) (by kernel_rfl) (fun _ _ _ h => h) (Or.inl ⟨by rfl, ?_⟩) (by assumption) ?_
      rotate_left 1
      · ((intro w hSw; (try dsimp only at hSw); go_simp); (try with_reducible rfl))
      simp only [Act.put, List.setIfInBounds_toArray, List.set_cons_zero, List.set_cons_succ, List.getElem_toArray, List.getElem_cons_zero, List.getElem_cons_succ]
      refine wpAnyH_take (i := 10) (v := ?_) rfl (by kernel_rfl) (by kernel_rfl) (by kernel_rfl) (fun _ _ _ h => h) (Or.inl ⟨by rfl, ?_⟩) (by assumption) ?_
      rotate_left 1
      · ((intro w hSw; (try dsimp only at hSw); go_simp); (try with_reducible rfl))
      simp only [Act.put, List.setIfInBounds_toArray, List.set_cons_zero, List.set_cons_succ, List.getElem_toArray, List.getElem_cons_zero, List.getElem_cons_succ]
      refine wpAnyH_ready (rs := [5, 11]) (by kernel_rfl) (by simp) ?_
      refine AllReadyH.cons rfl (fun K hK => ?_) (AllReadyH.cons rfl (fun K hK => ?_) AllReadyH.nil)
      · go_simp
        have HBa := hidp (HBv.out.alloc HBv.out.size (.cells #[.int .u8 (97 + (k : Int))] 5))
        clear hHeld
        go_wp2_with fail
        refine hK.out _ _ ?_ (fun hHeld => ?_)
        · exact trivial
        clear hK K
        try simp only [Act.put, List.setIfInBounds_toArray, List.set_cons_zero, List.set_cons_succ, List.getElem_toArray, List.getElem_cons_zero, List.getElem_cons_succ]
        refine wpAnyH_ready (rs := [6, 11]) (by kernel_rfl) (by simp) ?_
        refine AllReadyH.cons rfl (fun K hK => ?_) (AllReadyH.cons rfl (fun K hK => ?_) AllReadyH.nil)
        · have hcb := HLC.out v _ (Below.refl _ _)
          go_simp
          clear hHeld
          go_wp2_with fail
          refine hK.out _ _ ?_ (fun hHeld => ?_)
          · exact trivial
          clear hK K
          try simp only [Act.put, List.setIfInBounds_toArray, List.set_cons_zero, List.set_cons_succ, List.getElem_toArray, List.getElem_cons_zero, List.getElem_cons_succ]
          refine wpAnyH_take (i := 7) (v := ?_) rfl (by kernel_rfl) (by kernel_rfl) (by kernel_rfl) (fun _ _ _ h => h) (Or.inl ⟨by rfl, ?_⟩) (by assumption) ?_
          rotate_left 1
          · ((intro w hSw; (try dsimp only at hSw); go_simp); (try with_reducible rfl))
          simp only [Act.put, List.setIfInBounds_toArray, List.set_cons_zero, List.set_cons_succ, List.getElem_toArray, List.getElem_cons_zero, List.getElem_cons_succ]
          refine wpAnyH_take (i := 8) (v := ?_) rfl (by kernel_rfl) (by kernel_rfl) (by kernel_rfl) (fun _ _ _ h => h) (Or.inl ⟨by rfl, ?_⟩) (by assumption) ?_
          rotate_left 1
          · ((intro w hSw; (try dsimp only at hSw); go_simp); (try with_reducible rfl))
          simp only [Act.put, List.setIfInBounds_toArray, List.set_cons_zero, List.set_cons_succ, List.getElem_toArray, List.getElem_cons_zero, List.getElem_cons_succ]
          refine wpAnyH_ready (rs := [11]) (by kernel_rfl) (by simp) ?_
          refine AllReadyH.cons rfl (fun K hK => ?_) AllReadyH.nil
          go_simp
          refine (C3.out _).mono ?_
          rintro e u ⟨rfl, hbu⟩
          have HBb := hidp (HBa.out.trans (hbu.mono HBa.out.size))
          clear hbu hHeld hcb
          refine hK.out _ _ ?_ (fun hHeld => ?_)
          · exact trivial
          clear hK K
          try simp only [Act.put, List.setIfInBounds_toArray, List.set_cons_zero, List.set_cons_succ, List.getElem_toArray, List.getElem_cons_zero, List.getElem_cons_succ]
          refine wpAnyH_take (i := 12) (v := ?_) rfl (by kernel_rfl) (by kernel_rfl) (by kernel_rfl) (fun _ _ _ h => h) (Or.inl ⟨by rfl, ?_⟩) (by assumption) ?_
          rotate_left 1
          · ((intro w hSw; (try dsimp only at hSw); go_simp); (try with_reducible rfl))
          simp only [Act.put, List.setIfInBounds_toArray, List.set_cons_zero, List.set_cons_succ, List.getElem_toArray, List.getElem_cons_zero, List.getElem_cons_succ]
          refine wpAnyH_take (i := 13) (v := ?_) rfl (by kernel_rfl) (by kernel_rfl) (by kernel_rfl) (fun _ _ _ h => h) (Or.inl ⟨by rfl, ?_⟩) (by assumption) ?_
          rotate_left 1
          · ((intro w hSw; (try dsimp only at hSw); go_simp); (try with_reducible rfl))
          simp only [Act.put, List.setIfInBounds_toArray, List.set_cons_zero, List.set_cons_succ, List.getElem_toArray, List.getElem_cons_zero, List.getElem_cons_succ]
          refine wpAnyH_take (i := 14) (v := ?_) rfl (by kernel_rfl) (by kernel_rfl) (by kernel_rfl) (fun _ _ _ h => h) (Or.inl ⟨by rfl, ?_⟩) (by assumption) ?_
          rotate_left 1
          · ((intro w hSw; (try dsimp only at hSw); go_simp); (try with_reducible rfl))
          simp only [Act.put, List.setIfInBounds_toArray, List.set_cons_zero, List.set_cons_succ, List.getElem_toArray, List.getElem_cons_zero, List.getElem_cons_succ]
          refine wpAnyH_done (by kernel_rfl) ?_ _
          go_wp2_with fail
          go_roundg (gk - 1)
          case measure => omega
          case rel => exact ⟨k + 1, _, by omega, by go_num, rfl, HNX, HNS.out, HBb⟩
        · go_simp
          refine (C3.out _).mono ?_
          rintro e u ⟨rfl, hbu⟩
          have HBb := hidp (HBa.out.trans (hbu.mono HBa.out.size))
          have hcb := HLC.out v u (hbu.mono (by simp))
          clear hbu hHeld
          go_wp2_with fail
          refine hK.out _ _ ?_ (fun hHeld => ?_)
          · exact trivial
          clear hK K
          try simp only [Act.put, List.setIfInBounds_toArray, List.set_cons_zero, List.set_cons_succ, List.getElem_toArray, List.getElem_cons_zero, List.getElem_cons_succ]
          refine wpAnyH_ready (rs := [6]) (by kernel_rfl) (by simp) ?_
          refine AllReadyH.cons rfl (fun K hK => ?_) AllReadyH.nil
          go_simp
          clear hHeld
          go_wp2_with fail
          refine hK.out _ _ ?_ (fun hHeld => ?_)
          · exact trivial
          clear hK K
          try simp only [Act.put, List.setIfInBounds_toArray, List.set_cons_zero, List.set_cons_succ, List.getElem_toArray, List.getElem_cons_zero, List.getElem_cons_succ]
          refine wpAnyH_take (i := 7) (v := ?_) rfl (by kernel_rfl) (by kernel_rfl) (by kernel_rfl) (fun _ _ _ h => h) (Or.inl ⟨by rfl, ?_⟩) (by assumption) ?_
          rotate_left 1
          · ((intro w hSw; (try dsimp only at hSw); go_simp); (try with_reducible rfl))
          simp only [Act.put, List.setIfInBounds_toArray, List.set_cons_zero, List.set_cons_succ, List.getElem_toArray, List.getElem_cons_zero, List.getElem_cons_succ]
          refine wpAnyH_take (i := 8) (v := ?_) rfl (by kernel_rfl) (by kernel_rfl) (by kernel_rfl) (fun _ _ _ h => h) (Or.inl ⟨by rfl, ?_⟩) (by assumption) ?_
          rotate_left 1
          · ((intro w hSw; (try dsimp only at hSw); go_simp); (try with_reducible rfl))
          simp only [Act.put, List.setIfInBounds_toArray, List.set_cons_zero, List.set_cons_succ, List.getElem_toArray, List.getElem_cons_zero, List.getElem_cons_succ]
          refine wpAnyH_take (i := 12) (v := ?_) rfl (by kernel_rfl) (by kernel_rfl) (by kernel_rfl) (fun _ _ _ h => h) (Or.inl ⟨by rfl, ?_⟩) (by assumption) ?_
          rotate_left 1
          · ((intro w hSw; (try dsimp only at hSw); go_simp); (try with_reducible rfl))
          simp only [Act.put, List.setIfInBounds_toArray, List.set_cons_zero, List.set_cons_succ, List.getElem_toArray, List.getElem_cons_zero, List.getElem_cons_succ]
          refine wpAnyH_take (i := 13) (v := ?_) rfl (by kernel_rfl) (by kernel_rfl) (by kernel_rfl) (fun _ _ _ h => h) (Or.inl ⟨by rfl, ?_⟩) (by assumption) ?_
          rotate_left 1
          · ((intro w hSw; (try dsimp only at hSw); go_simp); (try with_reducible rfl))
          simp only [Act.put, List.setIfInBounds_toArray, List.set_cons_zero, List.set_cons_succ, List.getElem_toArray, List.getElem_cons_zero, List.getElem_cons_succ]
          refine wpAnyH_take (i := 14) (v := ?_) rfl (by kernel_rfl) (by kernel_rfl) (by kernel_rfl) (fun _ _ _ h => h) (Or.inl ⟨by rfl, ?_⟩) (by assumption) ?_
          rotate_left 1
          · ((intro w hSw; (try dsimp only at hSw); go_simp); (try with_reducible rfl))
          simp only [Act.put, List.setIfInBounds_toArray, List.set_cons_zero, List.set_cons_succ, List.getElem_toArray, List.getElem_cons_zero, List.getElem_cons_succ]
          refine wpAnyH_done (by kernel_rfl) ?_ _
          clear hcb
          go_wp2_with fail
          go_roundg (gk - 1)
          case measure => omega
          case rel => exact ⟨k + 1, _, by omega, by go_num, rfl, HNX, HNS.out, HBb⟩
      · go_simp
        refine (C3.out _).mono ?_
        rintro e u ⟨rfl, hbu⟩
        have HBb := hidp (HBv.out.trans (hbu.mono HBv.out.size))
        clear hbu hHeld
        go_wp2_with fail
        refine hK.out _ _ ?_ (fun hHeld => ?_)
        · exact trivial
        clear hK K
        try simp only [Act.put, List.setIfInBounds_toArray, List.set_cons_zero, List.set_cons_succ, List.getElem_toArray, List.getElem_cons_zero, List.getElem_cons_succ]
        refine wpAnyH_ready (rs := [5]) (by kernel_rfl) (by simp) ?_
        refine AllReadyH.cons rfl (fun K hK => ?_) AllReadyH.nil
        go_simp
        have HBc := hidp (HBb.out.alloc HBb.out.size (.cells #[.int .u8 (97 + (k : Int))] 5))
        have hcb := HLC.out u _ (Below.refl _ _)
        clear hHeld
        go_wp2_with fail
        refine hK.out _ _ ?_ (fun hHeld => ?_)
        · exact trivial
        clear hK K
        try simp only [Act.put, List.setIfInBounds_toArray, List.set_cons_zero, List.set_cons_succ, List.getElem_toArray, List.getElem_cons_zero, List.getElem_cons_succ]
        refine wpAnyH_ready (rs := [6]) (by kernel_rfl) (by simp) ?_
        refine AllReadyH.cons rfl (fun K hK => ?_) AllReadyH.nil
        go_simp
        clear hHeld
        go_wp2_with fail
        refine hK.out _ _ ?_ (fun hHeld => ?_)
        · exact trivial
        clear hK K
        try simp only [Act.put, List.setIfInBounds_toArray, List.set_cons_zero, List.set_cons_succ, List.getElem_toArray, List.getElem_cons_zero, List.getElem_cons_succ]
        refine wpAnyH_take (i := 7) (v := ?_) rfl (by kernel_rfl) (by kernel_rfl) (by kernel_rfl) (fun _ _ _ h => h) (Or.inl ⟨by rfl, ?_⟩) (by assumption) ?_
        rotate_left 1
        · ((intro w hSw; (try dsimp only at hSw); go_simp); (try with_reducible rfl))
        simp only [Act.put, List.setIfInBounds_toArray, List.set_cons_zero, List.set_cons_succ, List.getElem_toArray, List.getElem_cons_zero, List.getElem_cons_succ]
        refine wpAnyH_take (i := 8) (v := ?_) rfl (by kernel_rfl) (by kernel_rfl) (by kernel_rfl) (fun _ _ _ h => h) (Or.inl ⟨by rfl, ?_⟩) (by assumption) ?_
        rotate_left 1
        · ((intro w hSw; (try dsimp only at hSw); go_simp); (try with_reducible rfl))
        simp only [Act.put, List.setIfInBounds_toArray, List.set_cons_zero, List.set_cons_succ, List.getElem_toArray, List.getElem_cons_zero, List.getElem_cons_succ]
        refine wpAnyH_take (i := 12) (v := ?_) rfl (by kernel_rfl) (by kernel_rfl) (by kernel_rfl) (fun _ _ _ h => h) (Or.inl ⟨by rfl, ?_⟩) (by assumption) ?_
        rotate_left 1
        · ((intro w hSw; (try dsimp only at hSw); go_simp); (try with_reducible rfl))
        simp only [Act.put, List.setIfInBounds_toArray, List.set_cons_zero, List.set_cons_succ, List.getElem_toArray, List.getElem_cons_zero, List.getElem_cons_succ]
        refine wpAnyH_take (i := 13) (v := ?_) rfl (by kernel_rfl) (by kernel_rfl) (by kernel_rfl) (fun _ _ _ h => h) (Or.inl ⟨by rfl, ?_⟩) (by assumption) ?_
        rotate_left 1
        · ((intro w hSw; (try dsimp only at hSw); go_simp); (try with_reducible rfl))
        simp only [Act.put, List.setIfInBounds_toArray, List.set_cons_zero, List.set_cons_succ, List.getElem_toArray, List.getElem_cons_zero, List.getElem_cons_succ]
        refine wpAnyH_take (i := 14) (v := ?_) rfl (by kernel_rfl) (by kernel_rfl) (by kernel_rfl) (fun _ _ _ h => h) (Or.inl ⟨by rfl, ?_⟩) (by assumption) ?_
        rotate_left 1
        · ((intro w hSw; (try dsimp only at hSw); go_simp); (try with_reducible rfl))
        simp only [Act.put, List.setIfInBounds_toArray, List.set_cons_zero, List.set_cons_succ, List.getElem_toArray, List.getElem_cons_zero, List.getElem_cons_succ]
        refine wpAnyH_done (by kernel_rfl) ?_ _
        clear hcb
        go_wp2_with fail
        go_roundg (gk - 1)
        case measure => omega
        case rel => exact ⟨k + 1, _, by omega, by go_num, rfl, HNX, HNS.out, HBc⟩
    · obtain rfl : k = N := by omega
      have v9 : IntKind.i64.wrap (3 + (k : Int)) = 3 + (k : Int) := IntWalk.i64_in _ (by omega)
      have HPW : Hid (∀ m : Bool, parseV (nsW k A B m) = (noSet, 3 + (k : Int), 18)) := hidp (fun m => by have := ns_parse m HN5.out HA2.out HB2.out; rw [this]; simp)
      go_wp2_with (first
        | (go_at_call 13; (with_reducible refine (C1.out _).mono ?_); rintro e u ⟨rfl, hbu⟩; have HBr := hidp (HBr.out.trans (hbu.mono HBr.out.size)); clear hbu)
        | (go_at_call 13; (with_reducible refine (C2.out _).mono ?_); rintro e u ⟨rfl, hbu⟩; have HBr := hidp (HBr.out.trans (hbu.mono HBr.out.size)); clear hbu))
      · have HXb : Hid (parseV (bl (S ++ ⟨#[116, 97, 115, 107, 32, 120, 32, 53, 48, 32, 53, 48, 32, 57, 32, 48, 32, 114, 117, 110, 58, 49, 32, 108, 111, 99, 107, 58]⟩ ++ T1 ++ ⟨#[58, 108, 111, 99, 107, 58]⟩ ++ T2 ++ ⟨#[58, 51]⟩ ++ ⟨#[32, 119, 97, 108, 107, 58, 55]⟩ ++ ⟨#[10]⟩)) = (noSet, 3 + (k : Int), 18)) := hidp (by
          refine (congrArg parseV ?_).trans (HPW.out true)
          simp only [bl_append]
          rw [HS.out, show bl T1 = textL (A : Int) by rw [← HT1.out]; rfl, show bl T2 = textL (B : Int) by rw [← HT2.out]; rfl]
          unfold nsW
          simp [bl])
        refine (parse_any _ mMax _ (mem_max HX.out HBr.out)).mono ?_
        rintro e w2 hp
        rw [HXb.out] at hp
        obtain ⟨x, rfl, hs, hx, hb2⟩ := hp
        have HBx := hidp ((HBr.out.trans (hb2.mono HBr.out.size)).alloc (HBr.out.trans (hb2.mono HBr.out.size)).size (.cells #[.int .i64 x.proto, .slice x.ca x.cores.length x.cc, .slice x.ha x.homes.length x.hc, .slice x.ta x.tasks.length x.tc] 25))
        clear hs hx hb2
        go_wp2_with fail
        go_ret
        exact ⟨rfl, HBx.out⟩
      · have HXb : Hid (parseV (bl (S ++ ⟨#[116, 97, 115, 107, 32, 120, 32, 53, 48, 32, 53, 48, 32, 57, 32, 48, 32, 114, 117, 110, 58, 49, 32, 108, 111, 99, 107, 58]⟩ ++ T1 ++ ⟨#[58, 108, 111, 99, 107, 58]⟩ ++ T2 ++ ⟨#[58, 51]⟩ ++ ⟨#[10]⟩)) = (noSet, 3 + (k : Int), 18)) := hidp (by
          refine (congrArg parseV ?_).trans (HPW.out false)
          simp only [bl_append]
          rw [HS.out, show bl T1 = textL (A : Int) by rw [← HT1.out]; rfl, show bl T2 = textL (B : Int) by rw [← HT2.out]; rfl]
          unfold nsW
          simp [bl])
        refine (parse_any _ mMax _ (mem_max HX.out HBr.out)).mono ?_
        rintro e w2 hp
        rw [HXb.out] at hp
        obtain ⟨x, rfl, hs, hx, hb2⟩ := hp
        have HBx := hidp ((HBr.out.trans (hb2.mono HBr.out.size)).alloc (HBr.out.trans (hb2.mono HBr.out.size)).size (.cells #[.int .i64 x.proto, .slice x.ca x.cores.length x.cc, .slice x.ha x.homes.length x.hc, .slice x.ta x.tasks.length x.tc] 25))
        clear hs hx hb2
        go_wp2_with fail
        go_ret
        exact ⟨rfl, HBx.out⟩

theorem own : ownKnob Tryd.prog.godebug = none := by kernel_rfl
theorem laidOut : laidOutB Tryd.prog = true := by kernel_rfl
def cellsD : DataW Unit → List Value
  | .agg ds => ds.flatMap fun
    | .lit (.int k z) => [Value.int k z]
    | .agg es => es.flatMap fun
      | .lit (.int k z) => [Value.int k z]
      | _ => []
    | _ => []
  | _ => []
def layTab (d : DataW Unit) : Obj → Obj
  | .cells _ t frozen => .cells (cellsD d).toArray t frozen
  | o => o
/-- a world in which the listed tables lie: the witness -/
noncomputable def laidWorld (os : Os) : World := { World.holding Tryd.prog os ⟨#[], #[], []⟩ with heap := ((((((World.holding Tryd.prog os ⟨#[], #[], []⟩).heap.modify 4 (layTab Rows.laid_math_bits_deBruijn32tab)).modify 5 (layTab Rows.laid_math_bits_deBruijn64tab)).modify 1 (layTab Rows.laid_internal_strconv_uint64pow10)).modify 3 (layTab Rows.laid_unicode_utf8_acceptRanges)).modify 2 (layTab Rows.laid_unicode_utf8_first)) }
theorem laid_met (os : Os) (args : Array Value) : laidMetH Tryd.prog Rows.textNestedRow.laid ((laidWorld os).forCall (fun _ _ => 0) ⟨#[], args, []⟩).memory :=
  laidMet_of_run' 8 (by kernel_rfl) (by kernel_rfl)
theorem witness_row (os : Os) {H : Type} (enc : TypeId × Value → H) :
    (OpenSpec.ofChange Rows.textNestedSpec).preRow enc Tryd.prog Tryd.f6 Rows.textNestedRow.domain false Rows.textNestedRow.laid ((laidWorld os).forCall (fun _ _ => 0) ⟨#[], #[.int .u8 0, .int .u8 0, .int .u8 0, .bool false], []⟩).memory #[.int .u8 0, .int .u8 0, .int .u8 0, .bool false] := by
  have hw : (DataW.whole enc Tryd.prog ((laidWorld os).forCall (fun _ _ => 0) ⟨#[], #[.int .u8 0, .int .u8 0, .int .u8 0, .bool false], []⟩).memory Tryd.f6.params.toList (OpenSpec.ofChange Rows.textNestedSpec).vars false (#[.int .u8 0, .int .u8 0, .int .u8 0, .bool false] : Array Value).toList 8).map (fun x => (x.1, x.2.1)) =
      some ([.lit (.int .u8 0), .lit (.int .u8 0), .lit (.int .u8 0), .lit (.bool false)], []) := by kernel_rfl
  obtain ⟨⟨x1, x2, x3⟩, hx, hx1⟩ := Option.map_eq_some_iff.1 hw
  simp only [Prod.mk.injEq] at hx1
  obtain ⟨rfl, rfl⟩ := hx1
  exact OpenSpec.preRow_of_cond 8 hx (by kernel_rfl) (fun k hk => by cases hk) (by kernel_rfl) (laid_met os _)

set_option maxRecDepth 100000 in
theorem lifted (os : Os) (started : os.Started) (H : Type) (enc : TypeId × Value → H) (F0 : Stop.Interp) :
    ReturnsInHanded {} Tryd.checked os 6 .any ((OpenSpec.ofChange Rows.textNestedSpec).preRow enc Tryd.prog Tryd.f6 Rows.textNestedRow.domain false Rows.textNestedRow.laid) (((OpenSpec.ofChange Rows.textNestedSpec).at F0).post enc Tryd.prog Tryd.f6 false true false false) := by
  refine returnsInHanded_of_row (C := Tryd.checked) (s := OpenSpec.ofChange Rows.textNestedSpec) own started (by kernel_rfl) Tryd.func6
    (witness_row_at (enc := enc) (C := Tryd.checked) false (laidWorld os) #[.int .u8 0, .int .u8 0, .int .u8 0, .bool false] rfl (by kernel_rfl) (by kernel_rfl) (by kernel_rfl) (witness_row os enc)) ?_
  intro W base args ds gs before hval0 hW _ _ _ hL hsh _
  obtain ⟨mMax, hMax⟩ : ∃ m, W.cell? ⟨0, 0, none⟩ = some (.int .i64 m) := Tryd.laysM219.s1_3 W hsh
  have hTab : Go.Lib.TabIs Tryd.prog W "internal/strconv.uint64pow10" .u64 Go.Lib.pow10Tab := tabPow hL
  have hval : ∀ (j : Nat) t v, Tryd.f6.params[j]? = some t → args[j]? = some v → Value.okWide Tryd.prog W .any base t v := hval0
  have hW' := hW
  obtain ⟨p, q, hA0, hV, rfl, hfz, hnd⟩ := hW
  have hA : DataW.TrodAll enc Tryd.prog W 0 (fun _ => true) true Tryd.f6.params.toList args.toList ds p := hA0
  rw [Tryd.params6] at hA hval
  obtain ⟨v0, vs0, d0, ds0, p0, q0, hargs, rfl, rfl, h0, r0⟩ := trodAll_cons hA
  obtain ⟨v1, vs1, d1, ds1, p1, q1, rfl, rfl, rfl, h1, r1⟩ := trodAll_cons r0
  obtain ⟨v2, vs2, d2, ds2, p2, q2, rfl, rfl, rfl, h2, r2⟩ := trodAll_cons r1
  obtain ⟨v3, vs3, d3, ds3, p3, q3, rfl, rfl, rfl, h3, r3⟩ := trodAll_cons r2
  obtain ⟨rfl, rfl, rfl⟩ := trodAll_nil r3
  obtain rfl : args = #[v0, v1, v2, v3] := by cases args; simp_all
  obtain ⟨rfl, rfl⟩ := trodVars_none hV
  obtain ⟨a0, rfl, rfl, rfl, w0⟩ := open_int Tryd.underlying5 (hval 0 5 v0 rfl rfl) h0
  obtain ⟨a1, rfl, rfl, rfl, w1⟩ := open_int Tryd.underlying5 (hval 1 5 v1 rfl rfl) h1
  obtain ⟨a2, rfl, rfl, rfl, w2⟩ := open_int Tryd.underlying5 (hval 2 5 v2 rfl rfl) h2
  obtain ⟨a3, rfl, rfl, rfl⟩ := open_bool Tryd.underlying4 (hval 3 4 v3 rfl rfl) h3
  clear hA0 hval0
  refine (walk a0 a1 a2 a3  W w0 w1 w2 mMax hMax hTab).mono fun e W' ⟨he, bel⟩ => ?_
  subst he
  exact ⟨_, rfl, _, _, _, [], _, [], hW', trodAll_mk1 (shut_bool Tryd.underlying4 _), (trodAll_cons_mk (shut_int Tryd.underlying5 w0) (trodAll_cons_mk (shut_int Tryd.underlying5 w1) (trodAll_cons_mk (shut_int Tryd.underlying5 w2) (trodAll_cons_mk (shut_bool Tryd.underlying4 a3) trodAll_mk0)))), rfl, bel.frame _, fun h => by cases h⟩

theorem over : Rows.TextNestedSaid :=
  OpenClaim.holds_of_cond 6 Tryd.f6 rfl rfl rfl rfl rfl rfl rfl ⟨rfl, rfl, rfl, rfl, rfl⟩ rfl rfl rfl rfl rfl (by kernel_rfl) Tryd.func6 (by kernel_rfl)
    (of_decide_eq_true (by kernel_rfl)) (by unfold Func.isWrapper; first | (rw [if_pos (by decide +kernel)]; kernel_rfl) | (rw [if_neg (by decide +kernel)]; exact ⟨rfl, rfl⟩))
    (fun os started H enc _ F0 => by rw [OpenClaim.pre_eq_preRow]; exact lifted os started H enc F0)

/-- THE STATEMENT: the tied card -/
theorem proved : Rows.TextNestedCardSaid :=
  Claim7.holds_tied_plain_at .later [] [.data, .data, .data, .data, .pinned] true (true, "31bf0271daabb12f75d2d3dcdb5711a3ac54dcda70b669fd0f20e4f13d272f58") false
    over (fun _ h => by cases h) (by kernel_rfl) (fun _ h => by cases h) textNested_row_tie rfl ⟨rfl, rfl⟩ (by kernel_rfl) rfl
    (fun f fn hf hfn => by
      obtain rfl : f = 6 := Option.some.inj ((show Tryd.prog.funcNamed Rows.textNestedRow.func = some 6 by kernel_rfl).symm.trans hf) |>.symm
      obtain rfl : fn = Tryd.f6 := (Option.some.inj (Tryd.func6.symm.trans hfn)).symm
      refine ⟨by kernel_rfl, fun j t ht => ?_⟩
      rw [Tryd.params6] at ht
      exact standIns _ (by kernel_rfl) j t ht)
    (by kernel_rfl)
#print axioms proved
end Go.Proofs.YtggidlmehimcjaaDoor.textNested

