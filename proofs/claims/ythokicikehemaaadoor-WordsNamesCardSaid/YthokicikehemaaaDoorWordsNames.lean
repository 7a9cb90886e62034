/- WordsNames: a name of so many bytes, and one more; bytes that no name has, and where. No condition. -/
import Derived.Test.YthokicikehemaaaDoorKnown7
namespace Go.Proofs.YthokicikehemaaaDoor
open Go.ChangeShapes Go.WideShapes Go.ChangeAt Go.RowKit
def ba (L : Bts) : Array Value := (L.map fun b => Value.int .u8 (b.toNat : Int)).toArray
theorem ba_set (L : Bts) (i : Nat) (b : UInt8) : (ba L).setIfInBounds i (.int .u8 (b.toNat : Int)) = ba (L.set i b) := by
  unfold ba
  rw [List.setIfInBounds_toArray, List.map_set]
theorem ba_rep (k : Nat) : ba (List.replicate k 0) = Array.replicate k (Value.int .u8 0) := by
  unfold ba
  rw [List.map_replicate, ← List.toArray_replicate]; rfl
theorem conv_row {w : World} {g K : Nat} {L : Bts} (hb : Bk w g 5 (ba L)) (hL : L.length = K) : (convert 35 9 (.slice (some ⟨g, 0, none⟩) K K)).run Tryd.prog w = .ok (.string (mkB L)) w := by
  subst hL
  refine run_convert_bytes_back (P := Tryd.prog) w 35 9 5 ⟨g, 0, none⟩ L.length L Tryd.underlying35 Tryd.underlying5 Tryd.underlying9 (fun j hj => ?_)
  have e : ((⟨g, 0, none⟩ : Addr).add j) = ⟨g, j, none⟩ := by unfold Addr.add; split <;> simp_all
  rw [e, hb.cell j]
  unfold ba
  simp [hj]
theorem nameB_mk (L : Bts) : nameB (mkB L) = (decide (1 ≤ L.length ∧ L.length ≤ 8) && (List.range L.length).all fun i => okB i ((L.getD i 0).toNat : Int)) := by
  unfold nameB
  rw [show (mkB L).size = L.length by rw [← bl_len, bl_mk]]
  rfl
theorem name_long {L : Bts} (h : 8 < L.length) : nameB (mkB L) = false := by rw [nameB_mk]; simp; omega
theorem name_x {k : Nat} (h1 : 1 ≤ k) (h : k ≤ 8) : nameB (mkB (List.replicate k 120)) = true := by
  rw [nameB_mk, List.length_replicate, Bool.and_eq_true]
  refine ⟨decide_eq_true ⟨h1, h⟩, List.all_eq_true.2 fun i hi => ?_⟩
  have hi2 : i < k := by simpa using hi
  rw [show (List.replicate k (120 : UInt8)).getD i 0 = 120 by simp [List.getD, hi2]]
  rfl
theorem name_set {k j : Nat} (h : k ≤ 8) (hj : j < k) (b : UInt8) : nameB (mkB ((List.replicate k 120).set j b)) = okB j (b.toNat : Int) := by
  rw [nameB_mk, List.length_set, List.length_replicate]
  rw [decide_eq_true (show 1 ≤ k ∧ k ≤ 8 by omega), Bool.true_and]
  cases ho : okB j (b.toNat : Int) with
  | true =>
    refine List.all_eq_true.2 fun i hi => ?_
    have hi2 : i < k := by simpa using hi
    by_cases e : j = i
    · subst e; rw [show ((List.replicate k (120 : UInt8)).set j b).getD j 0 = b by simp [List.getD, hj]]; exact ho
    · rw [show ((List.replicate k (120 : UInt8)).set j b).getD i 0 = 120 by simp [List.getD, e, hi2]]; rfl
  | false =>
    rw [List.all_eq_false]
    exact ⟨j, by simpa using hj, by rw [show ((List.replicate k (120 : UInt8)).set j b).getD j 0 = b by simp [List.getD, hj], ho]; decide⟩
theorem made_repU (z : Value) (n : Nat) : madeCells #[z] n = (List.replicate n z).toArray := by
  refine Array.ext (by simp [madeCells]) (fun j h1 h2 => ?_)
  simp [madeCells, Nat.mod_one]
theorem infoU8 : (Tryd.prog.info? 5).map (fun i => (i.zero, i.size, i.bytes)) = some (some (.int .u8 0), 1, 1) := by kernel_rfl
theorem make_u8 (K : Nat) (hK : K ≤ 100) (W : World) : (Instr.makeSlice 35 (.int .i64 (K : Int)) (.int .i64 (K : Int))).run Tryd.prog W = .ok (.slice (some ⟨W.heap.size, 0, none⟩) K K) (W.alloc (.cells (ba (List.replicate K 0)) 5)) := by
  obtain ⟨i0, hi0, hy0, hy1, hy2⟩ := info_parts infoU8
  have h := run_make (P := Tryd.prog) (w := W) _ _ i0 _ Tryd.underlying35 hi0 hy0 .i64 .i64 K K (by omega) (by omega) (by rw [hy2]; omega) (by omega)
  rw [Int.toNat_natCast, hy1, Nat.mul_one] at h
  rw [h, ba_rep, ← List.toArray_replicate, ← made_repU]
  rfl
end Go.Proofs.YthokicikehemaaaDoor
set_option maxHeartbeats 1000000
set_option maxRecDepth 100000
namespace Go.Proofs.YthokicikehemaaaDoor.wordsNames
open Go.ChangeShapes Go.WideShapes Go.ChangeAt Go.RowKit
open Go.ChangeMaps (open_string shut_string)
set_option linter.unusedVariables false

/-- THE WALK: the Go text returns true, and writes nothing that was there. -/
theorem walk (a0 : Int) (a1 : Int) (a2 : Int) (w : World) (w0 : (Lit.int .u8 a0).wf = true) (w1 : (Lit.int .u8 a1).wf = true) (w2 : (Lit.int .u8 a2).wf = true) (mMax : Int) (hMax : w.cell? ⟨0, 0, none⟩ = some (.int .i64 mMax)) (hTab : Go.Lib.TabIs Tryd.prog w "internal/strconv.uint64pow10" .u64 Go.Lib.pow10Tab) :
    Calls Tryd.prog 6 #[.int .u8 a0, .int .u8 a1, .int .u8 a2] w fun e w' => e = .returned (.bool true) ∧ Below w.heap.size w w' := by
  have b0 : 0 ≤ a0 ∧ a0 ≤ 255 := by simp [Lit.wf, IntKind.min, IntKind.max, IntKind.signed, IntKind.bits] at w0; omega
  have b1 : 0 ≤ a1 ∧ a1 ≤ 255 := by simp [Lit.wf, IntKind.min, IntKind.max, IntKind.signed, IntKind.bits] at w1; omega
  have b2 : 0 ≤ a2 ∧ a2 ≤ 255 := by simp [Lit.wf, IntKind.min, IntKind.max, IntKind.signed, IntKind.bits] at w2; omega
  clear w0 w1 w2
  obtain ⟨K, HK, hK1, hK2⟩ : ∃ K : Nat, Hid (a0 % 12 + 1 = (K : Int)) ∧ 1 ≤ K ∧ K ≤ 12 := ⟨(a0 % 12 + 1).toNat, hidp (by omega), by omega, by omega⟩
  obtain ⟨j, HJ, hj⟩ : ∃ j : Nat, Hid (a2 % (K : Int) = (j : Int)) ∧ j < K := by
    have e1 := Int.emod_nonneg a2 (show ((K : Nat) : Int) ≠ 0 by omega)
    have e2 := Int.emod_lt_of_pos a2 (show (0 : Int) < ((K : Nat) : Int) by omega)
    exact ⟨(a2 % (K : Int)).toNat, hidp (by omega), by omega⟩
  have wk : IntKind.i64.wrap (a0 % 12) = a0 % 12 := IntWalk.i64_in _ (by omega)
  have wk1 : IntKind.i64.wrap (a0 % 12 + 1) = a0 % 12 + 1 := IntWalk.i64_in _ (by omega)
  have HX := hidp hMax
  have HT := hidp hTab
  clear hMax hTab
  go_enter Tryd.func6, Tryd.ntmps6
  go_wp2_with fail
  refine (known7_any w mMax HX.out HT.out).mono ?_
  rintro e w1 ⟨rfl, hb1⟩
  have HB := hidp hb1
  clear hb1
  go_upto_region 4 with fail
  rw [HK.out]
  clear wk wk1
  have hmk := make_u8 K (by omega) w1
  obtain ⟨L0, hL0⟩ : ∃ L0 : Bts, List.replicate K 0 = L0 := ⟨_, rfl⟩
  rw [hL0] at hmk
  have HB0 := hidp (Bk.new w1 5 (ba L0))
  have HBe := hidp (HB.out.alloc HB.out.size (.cells (ba L0) 5))
  have HL0 : Hid (L0.length = K) := hidp (by rw [← hL0, List.length_replicate])
  obtain ⟨u0, hu0⟩ : ∃ u0, w1.alloc (.cells (ba L0) 5) = u0 := ⟨_, rfl⟩
  obtain ⟨g, hg⟩ : ∃ g, w1.heap.size = g := ⟨_, rfl⟩
  have HG : Hid (w.heap.size ≤ g) := hidp (hg ▸ HB.out.size)
  rw [hu0] at hmk HB0 HBe
  rw [hg] at hmk HB0
  clear hL0 hu0 hg HB
  go_wp2_with fail
  go_loopg [9] K (fun gg i wr => ∃ (k : Nat) (L : Bts), k + gg = K ∧ i = .int .i64 k ∧ Hid (L.length = K) ∧ Hid (∀ q, q < k → L.getD q 0 = 120) ∧ Hid (Bk wr g 5 (ba L)) ∧ Hid (Below w.heap.size w wr))
  case atStart => exact ⟨0, L0, by omega, rfl, HL0, hidp (fun q h => absurd h (by omega)), HB0, HBe⟩
  case round =>
    clear HB0 HBe HL0 hmk
    obtain ⟨k, L, hk, rfl, HL, HQ, HBk, HBe⟩ := hrel
    by_cases hlt : k < K
    · have kI : (k : Int) < (K : Int) := by omega
      have fz := HBk.out.frozen k
      have cz : wr.cell? ⟨g, k, none⟩ = some (.int .u8 ((L.getD k 0).toNat : Int)) := by
        rw [HBk.out.cell k]; unfold ba; simp [List.getD, HL.out, hlt]
      have HN := hidp (HBk.out.put k (.int .u8 ((120 : UInt8).toNat : Int)))
      rw [ba_set] at HN
      have HL2 : Hid ((L.set k 120).length = K) := hidp (by rw [List.length_set, HL.out])
      have HQ2 : Hid (∀ q, q < k + 1 → (L.set k 120).getD q 0 = 120) := hidp (fun q hq => by
        by_cases e : k = q
        · subst e; simp [List.getD, HL.out, hlt]
        · have := HQ.out q (by omega); simpa [List.getD, e] using this)
      have HBn := hidp (HBe.out.setCell (p := ⟨g, k, none⟩) HG.out (.int .u8 120))
      clear HBk HBe
      go_wp2_with fail
      go_roundg (gk - 1)
      case measure => omega
      case rel => exact ⟨k + 1, L.set k 120, by omega, by go_num, HL2, HQ2, HN, HBn⟩
    · have kI : ¬ (k : Int) < (K : Int) := by omega
      obtain rfl : k = K := by omega
      have hLx : L = List.replicate k 120 := List.ext_getElem (by rw [HL.out, List.length_replicate]) (fun q h1 h2 => by
        have := HQ.out q (by rw [← HL.out]; exact h1)
        simp [List.getD, h1] at this
        rw [this]; simp)
      subst hLx
      have hcb := conv_row HBk.out HL.out
      clear HQ hlt hk
      have kI9 : (k : Int) ≤ 12 := by omega
      obtain ⟨c, hc⟩ : ∃ c : UInt8, (c.toNat : Int) = a1 := ⟨UInt8.ofNat a1.toNat, by rw [UInt8.toNat_ofNat']; omega⟩
      have HN := HBk.out.put j (.int .u8 (c.toNat : Int))
      rw [ba_set, hc] at HN
      have hcb2 := conv_row HN (K := k) (by rw [List.length_set, HL.out])
      have fz := HBk.out.frozen j
      have cz : wr.cell? ⟨g, j, none⟩ = some (.int .u8 120) := by
        rw [HBk.out.cell j]; unfold ba; simp [hj]
      have jI : (j : Int) < (k : Int) := by omega
      have HBn := hidp (HBe.out.setCell (p := ⟨g, j, none⟩) HG.out (.int .u8 a1))
      obtain ⟨N1, HN1⟩ : ∃ N1, Hid (nameB (mkB (List.replicate k 120)) = N1) := ⟨_, hidp rfl⟩
      obtain ⟨N2, HN2⟩ : ∃ N2, Hid (nameB (mkB ((List.replicate k 120).set j c)) = N2) := ⟨_, hidp rfl⟩
      have HV1 : Hid (k ≤ 8 → N1 = true) := hidp (fun h => by rw [← HN1.out]; exact name_x hK1 h)
      have HV2 : Hid (8 < k → N1 = false) := hidp (fun h => by rw [← HN1.out]; exact name_long (by rw [List.length_replicate]; exact h))
      have HV3 : Hid (k ≤ 8 → N2 = okB j a1) := hidp (fun h => by rw [← HN2.out, name_set h hj, hc])
      have HV4 : Hid (8 < k → N2 = false) := hidp (fun h => by rw [← HN2.out]; exact name_long (by rw [List.length_set, List.length_replicate]; exact h))
      have hz1 : (mkB (List.replicate k 120)).size ≤ maxLen := by rw [← bl_len, bl_mk, List.length_replicate]; unfold maxLen; omega
      have hz2 : (mkB ((List.replicate k 120).set j c)).size ≤ maxLen := by rw [← bl_len, bl_mk, List.length_set, List.length_replicate]; unfold maxLen; omega
      obtain ⟨S1, HS1⟩ : ∃ S, Hid (mkB (List.replicate k 120) = S) := ⟨_, hidp rfl⟩
      obtain ⟨S2, HS2⟩ : ∃ S, Hid (mkB ((List.replicate k 120).set j c) = S) := ⟨_, hidp rfl⟩
      rw [HS1.out] at hcb hz1 HN1
      rw [HS2.out] at hcb2 hz2 HN2
      have Hz1 := hidp hz1
      have Hz2 := hidp hz2
      have HN0 : Hid (nameB ⟨#[]⟩ = false) := hidp (by decide +kernel)
      clear HN hc HBk HBe HL hz1 hz2
      go_wp2_with fail
      with_reducible refine (name_any S1 wr Hz1.out).mono ?_
      rintro e u ⟨rfl, rfl⟩
      rw [HN1.out]
      clear hcb
      go_upto_region 11 with fail
      rw [HJ.out]
      by_cases h8 : k ≤ 8
      · have v1 := HV1.out h8
        have v2 := HV3.out h8
        subst v1
        have g8 : decide ((k : Int) ≤ 8) = true := by simp; omega
        have cases5 : (a1 < 48 ∧ N2 = false) ∨ (48 ≤ a1 ∧ a1 ≤ 57 ∧ j = 0 ∧ N2 = false) ∨ (48 ≤ a1 ∧ a1 ≤ 57 ∧ 0 < j ∧ N2 = true) ∨ (57 < a1 ∧ a1 < 97 ∧ N2 = false) ∨ (97 ≤ a1 ∧ a1 ≤ 122 ∧ N2 = true) ∨ (122 < a1 ∧ N2 = false) := by
          rw [v2]
          unfold okB
          by_cases c1 : a1 < 48
          · left; refine ⟨c1, ?_⟩; simp; omega
          by_cases c2 : a1 ≤ 57
          · by_cases j0 : j = 0
            · right; left; refine ⟨by omega, c2, j0, ?_⟩; simp [j0]; omega
            · right; right; left; refine ⟨by omega, c2, by omega, ?_⟩; simp; omega
          by_cases c3 : a1 < 97
          · right; right; right; left; refine ⟨by omega, c3, ?_⟩; simp; omega
          by_cases c4 : a1 ≤ 122
          · right; right; right; right; left; refine ⟨by omega, c4, ?_⟩; simp; omega
          · right; right; right; right; right; refine ⟨by omega, ?_⟩; simp; omega
        clear v2 HV1 HV2 HV3 HV4
        rcases cases5 with ⟨c1, rfl⟩ | ⟨c1, c2, j0, rfl⟩ | ⟨c1, c2, j0, rfl⟩ | ⟨c1, c2, rfl⟩ | ⟨c1, c2, rfl⟩ | ⟨c1, rfl⟩
        · have f1 : decide (97 ≤ a1) = false := by simp; omega
          have f3 : decide (48 ≤ a1) = false := by simp; omega
          go_wp2_with fail
          with_reducible refine (name_any S2 _ Hz2.out).mono ?_
          rintro e u ⟨rfl, rfl⟩
          rw [HN2.out]
          go_wp2_with fail
          with_reducible refine (name_any ⟨#[]⟩ _ (Nat.zero_le _)).mono ?_
          rintro e u ⟨rfl, rfl⟩
          rw [HN0.out]
          go_wp2_with fail
          go_ret
          exact ⟨rfl, HBn.out⟩
        · have f1 : decide (97 ≤ a1) = false := by simp; omega
          have f3 : decide (48 ≤ a1) = true := by simp; omega
          have f4 : decide (a1 ≤ 57) = true := by simp; omega
          subst j0
          go_wp2_with fail
          with_reducible refine (name_any S2 _ Hz2.out).mono ?_
          rintro e u ⟨rfl, rfl⟩
          rw [HN2.out]
          go_wp2_with fail
          with_reducible refine (name_any ⟨#[]⟩ _ (Nat.zero_le _)).mono ?_
          rintro e u ⟨rfl, rfl⟩
          rw [HN0.out]
          go_wp2_with fail
          go_ret
          exact ⟨rfl, HBn.out⟩
        · have f1 : decide (97 ≤ a1) = false := by simp; omega
          have f3 : decide (48 ≤ a1) = true := by simp; omega
          have f4 : decide (a1 ≤ 57) = true := by simp; omega
          have f5 : (0 : Int) < (j : Int) := by omega
          go_wp2_with fail
          with_reducible refine (name_any S2 _ Hz2.out).mono ?_
          rintro e u ⟨rfl, rfl⟩
          rw [HN2.out]
          go_wp2_with fail
          with_reducible refine (name_any ⟨#[]⟩ _ (Nat.zero_le _)).mono ?_
          rintro e u ⟨rfl, rfl⟩
          rw [HN0.out]
          go_wp2_with fail
          go_ret
          exact ⟨rfl, HBn.out⟩
        · have f1 : decide (97 ≤ a1) = false := by simp; omega
          have f3 : decide (48 ≤ a1) = true := by simp; omega
          have f4 : decide (a1 ≤ 57) = false := by simp; omega
          go_wp2_with fail
          with_reducible refine (name_any S2 _ Hz2.out).mono ?_
          rintro e u ⟨rfl, rfl⟩
          rw [HN2.out]
          go_wp2_with fail
          with_reducible refine (name_any ⟨#[]⟩ _ (Nat.zero_le _)).mono ?_
          rintro e u ⟨rfl, rfl⟩
          rw [HN0.out]
          go_wp2_with fail
          go_ret
          exact ⟨rfl, HBn.out⟩
        · have f1 : decide (97 ≤ a1) = true := by simp; omega
          have f2 : decide (a1 ≤ 122) = true := by simp; omega
          have f3 : decide (48 ≤ a1) = true := by simp; omega
          have f4 : decide (a1 ≤ 57) = false := by simp; omega
          go_wp2_with fail
          with_reducible refine (name_any S2 _ Hz2.out).mono ?_
          rintro e u ⟨rfl, rfl⟩
          rw [HN2.out]
          go_wp2_with fail
          with_reducible refine (name_any ⟨#[]⟩ _ (Nat.zero_le _)).mono ?_
          rintro e u ⟨rfl, rfl⟩
          rw [HN0.out]
          go_wp2_with fail
          go_ret
          exact ⟨rfl, HBn.out⟩
        · have f1 : decide (97 ≤ a1) = true := by simp; omega
          have f2 : decide (a1 ≤ 122) = false := by simp; omega
          have f3 : decide (48 ≤ a1) = true := by simp; omega
          have f4 : decide (a1 ≤ 57) = false := by simp; omega
          go_wp2_with fail
          with_reducible refine (name_any S2 _ Hz2.out).mono ?_
          rintro e u ⟨rfl, rfl⟩
          rw [HN2.out]
          go_wp2_with fail
          with_reducible refine (name_any ⟨#[]⟩ _ (Nat.zero_le _)).mono ?_
          rintro e u ⟨rfl, rfl⟩
          rw [HN0.out]
          go_wp2_with fail
          go_ret
          exact ⟨rfl, HBn.out⟩
      · have v1 := HV2.out (by omega)
        have v2 := HV4.out (by omega)
        subst v1
        subst v2
        have g8 : decide ((k : Int) ≤ 8) = false := by simp; omega
        have cases5 : (a1 < 48) ∨ (48 ≤ a1 ∧ a1 ≤ 57) ∨ (57 < a1 ∧ a1 < 97) ∨ (97 ≤ a1 ∧ a1 ≤ 122) ∨ (122 < a1) := by omega
        clear HV1 HV2 HV3 HV4
        rcases cases5 with c1 | ⟨c1, c2⟩ | ⟨c1, c2⟩ | ⟨c1, c2⟩ | c1
        · have f1 : decide (97 ≤ a1) = false := by simp; omega
          have f3 : decide (48 ≤ a1) = false := by simp; omega
          go_wp2_with fail
          with_reducible refine (name_any S2 _ Hz2.out).mono ?_
          rintro e u ⟨rfl, rfl⟩
          rw [HN2.out]
          go_wp2_with fail
          with_reducible refine (name_any ⟨#[]⟩ _ (Nat.zero_le _)).mono ?_
          rintro e u ⟨rfl, rfl⟩
          rw [HN0.out]
          go_wp2_with fail
          go_ret
          exact ⟨rfl, HBn.out⟩
        · have f1 : decide (97 ≤ a1) = false := by simp; omega
          have f3 : decide (48 ≤ a1) = true := by simp; omega
          have f4 : decide (a1 ≤ 57) = true := by simp; omega
          go_wp2_with fail
          with_reducible refine (name_any S2 _ Hz2.out).mono ?_
          rintro e u ⟨rfl, rfl⟩
          rw [HN2.out]
          go_wp2_with fail
          with_reducible refine (name_any ⟨#[]⟩ _ (Nat.zero_le _)).mono ?_
          rintro e u ⟨rfl, rfl⟩
          rw [HN0.out]
          go_wp2_with fail
          go_ret
          exact ⟨rfl, HBn.out⟩
        · have f1 : decide (97 ≤ a1) = false := by simp; omega
          have f3 : decide (48 ≤ a1) = true := by simp; omega
          have f4 : decide (a1 ≤ 57) = false := by simp; omega
          go_wp2_with fail
          with_reducible refine (name_any S2 _ Hz2.out).mono ?_
          rintro e u ⟨rfl, rfl⟩
          rw [HN2.out]
          go_wp2_with fail
          with_reducible refine (name_any ⟨#[]⟩ _ (Nat.zero_le _)).mono ?_
          rintro e u ⟨rfl, rfl⟩
          rw [HN0.out]
          go_wp2_with fail
          go_ret
          exact ⟨rfl, HBn.out⟩
        · have f1 : decide (97 ≤ a1) = true := by simp; omega
          have f2 : decide (a1 ≤ 122) = true := by simp; omega
          have f3 : decide (48 ≤ a1) = true := by simp; omega
          have f4 : decide (a1 ≤ 57) = false := by simp; omega
          go_wp2_with fail
          with_reducible refine (name_any S2 _ Hz2.out).mono ?_
          rintro e u ⟨rfl, rfl⟩
          rw [HN2.out]
          go_wp2_with fail
          with_reducible refine (name_any ⟨#[]⟩ _ (Nat.zero_le _)).mono ?_
          rintro e u ⟨rfl, rfl⟩
          rw [HN0.out]
          go_wp2_with fail
          go_ret
          exact ⟨rfl, HBn.out⟩
        · have f1 : decide (97 ≤ a1) = true := by simp; omega
          have f2 : decide (a1 ≤ 122) = false := by simp; omega
          have f3 : decide (48 ≤ a1) = true := by simp; omega
          have f4 : decide (a1 ≤ 57) = false := by simp; omega
          go_wp2_with fail
          with_reducible refine (name_any S2 _ Hz2.out).mono ?_
          rintro e u ⟨rfl, rfl⟩
          rw [HN2.out]
          go_wp2_with fail
          with_reducible refine (name_any ⟨#[]⟩ _ (Nat.zero_le _)).mono ?_
          rintro e u ⟨rfl, rfl⟩
          rw [HN0.out]
          go_wp2_with fail
          go_ret
          exact ⟨rfl, HBn.out⟩

theorem own : ownKnob Tryd.prog.godebug = none := by kernel_rfl
theorem laidOut : laidOutB Tryd.prog = true := by kernel_rfl
def cellsD : DataW Unit → List Value
  | .agg ds => ds.flatMap fun
    | .lit (.int k z) => [Value.int k z]
    | .agg es => es.flatMap fun
      | .lit (.int k z) => [Value.int k z]
      | _ => []
    | _ => []
  | _ => []
def layTab (d : DataW Unit) : Obj → Obj
  | .cells _ t frozen => .cells (cellsD d).toArray t frozen
  | o => o
/-- a world in which the listed tables lie: the witness -/
noncomputable def laidWorld (os : Os) : World := { World.holding Tryd.prog os ⟨#[], #[], []⟩ with heap := ((((((World.holding Tryd.prog os ⟨#[], #[], []⟩).heap.modify 4 (layTab Rows.laid_math_bits_deBruijn32tab)).modify 5 (layTab Rows.laid_math_bits_deBruijn64tab)).modify 1 (layTab Rows.laid_internal_strconv_uint64pow10)).modify 3 (layTab Rows.laid_unicode_utf8_acceptRanges)).modify 2 (layTab Rows.laid_unicode_utf8_first)) }
theorem laid_met (os : Os) (args : Array Value) : laidMetH Tryd.prog Rows.wordsNamesRow.laid ((laidWorld os).forCall (fun _ _ => 0) ⟨#[], args, []⟩).memory :=
  laidMet_of_run' 8 (by kernel_rfl) (by kernel_rfl)
theorem witness_row (os : Os) {H : Type} (enc : TypeId × Value → H) :
    (OpenSpec.ofChange Rows.wordsNamesSpec).preRow enc Tryd.prog Tryd.f6 Rows.wordsNamesRow.domain false Rows.wordsNamesRow.laid ((laidWorld os).forCall (fun _ _ => 0) ⟨#[], #[.int .u8 0, .int .u8 0, .int .u8 0], []⟩).memory #[.int .u8 0, .int .u8 0, .int .u8 0] := by
  have hw : (DataW.whole enc Tryd.prog ((laidWorld os).forCall (fun _ _ => 0) ⟨#[], #[.int .u8 0, .int .u8 0, .int .u8 0], []⟩).memory Tryd.f6.params.toList (OpenSpec.ofChange Rows.wordsNamesSpec).vars false (#[.int .u8 0, .int .u8 0, .int .u8 0] : Array Value).toList 8).map (fun x => (x.1, x.2.1)) =
      some ([.lit (.int .u8 0), .lit (.int .u8 0), .lit (.int .u8 0)], []) := by kernel_rfl
  obtain ⟨⟨x1, x2, x3⟩, hx, hx1⟩ := Option.map_eq_some_iff.1 hw
  simp only [Prod.mk.injEq] at hx1
  obtain ⟨rfl, rfl⟩ := hx1
  exact OpenSpec.preRow_of_cond 8 hx (by kernel_rfl) (fun k hk => by cases hk) (by kernel_rfl) (laid_met os _)

set_option maxRecDepth 100000 in
theorem lifted (os : Os) (started : os.Started) (H : Type) (enc : TypeId × Value → H) (F0 : Stop.Interp) :
    ReturnsInHanded {} Tryd.checked os 6 .any ((OpenSpec.ofChange Rows.wordsNamesSpec).preRow enc Tryd.prog Tryd.f6 Rows.wordsNamesRow.domain false Rows.wordsNamesRow.laid) (((OpenSpec.ofChange Rows.wordsNamesSpec).at F0).post enc Tryd.prog Tryd.f6 false true false false) := by
  refine returnsInHanded_of_row (C := Tryd.checked) (s := OpenSpec.ofChange Rows.wordsNamesSpec) own started (by kernel_rfl) Tryd.func6
    (witness_row_at (enc := enc) (C := Tryd.checked) false (laidWorld os) #[.int .u8 0, .int .u8 0, .int .u8 0] rfl (by kernel_rfl) (by kernel_rfl) (by kernel_rfl) (witness_row os enc)) ?_
  intro W base args ds gs before hval0 hW _ _ _ hL hsh _
  obtain ⟨mMax, hMax⟩ : ∃ m, W.cell? ⟨0, 0, none⟩ = some (.int .i64 m) := Tryd.laysM146.s1_3 W hsh
  have hTab : Go.Lib.TabIs Tryd.prog W "internal/strconv.uint64pow10" .u64 Go.Lib.pow10Tab := tabPow hL
  have hval : ∀ (j : Nat) t v, Tryd.f6.params[j]? = some t → args[j]? = some v → Value.okWide Tryd.prog W .any base t v := hval0
  have hW' := hW
  obtain ⟨p, q, hA0, hV, rfl, hfz, hnd⟩ := hW
  have hA : DataW.TrodAll enc Tryd.prog W 0 (fun _ => true) true Tryd.f6.params.toList args.toList ds p := hA0
  rw [Tryd.params6] at hA hval
  obtain ⟨v0, vs0, d0, ds0, p0, q0, hargs, rfl, rfl, h0, r0⟩ := trodAll_cons hA
  obtain ⟨v1, vs1, d1, ds1, p1, q1, rfl, rfl, rfl, h1, r1⟩ := trodAll_cons r0
  obtain ⟨v2, vs2, d2, ds2, p2, q2, rfl, rfl, rfl, h2, r2⟩ := trodAll_cons r1
  obtain ⟨rfl, rfl, rfl⟩ := trodAll_nil r2
  obtain rfl : args = #[v0, v1, v2] := by cases args; simp_all
  obtain ⟨rfl, rfl⟩ := trodVars_none hV
  obtain ⟨a0, rfl, rfl, rfl, w0⟩ := open_int Tryd.underlying5 (hval 0 5 v0 rfl rfl) h0
  obtain ⟨a1, rfl, rfl, rfl, w1⟩ := open_int Tryd.underlying5 (hval 1 5 v1 rfl rfl) h1
  obtain ⟨a2, rfl, rfl, rfl, w2⟩ := open_int Tryd.underlying5 (hval 2 5 v2 rfl rfl) h2
  clear hA0 hval0
  refine (walk a0 a1 a2  W w0 w1 w2 mMax hMax hTab).mono fun e W' ⟨he, bel⟩ => ?_
  subst he
  exact ⟨_, rfl, _, _, _, [], _, [], hW', trodAll_mk1 (shut_bool Tryd.underlying4 _), (trodAll_cons_mk (shut_int Tryd.underlying5 w0) (trodAll_cons_mk (shut_int Tryd.underlying5 w1) (trodAll_cons_mk (shut_int Tryd.underlying5 w2) trodAll_mk0))), rfl, bel.frame _, fun h => by cases h⟩

theorem over : Rows.WordsNamesSaid :=
  OpenClaim.holds_of_cond 6 Tryd.f6 rfl rfl rfl rfl rfl rfl rfl ⟨rfl, rfl, rfl, rfl, rfl⟩ rfl rfl rfl rfl rfl (by kernel_rfl) Tryd.func6 (by kernel_rfl)
    (of_decide_eq_true (by kernel_rfl)) (by unfold Func.isWrapper; first | (rw [if_pos (by decide +kernel)]; kernel_rfl) | (rw [if_neg (by decide +kernel)]; exact ⟨rfl, rfl⟩))
    (fun os started H enc _ F0 => by rw [OpenClaim.pre_eq_preRow]; exact lifted os started H enc F0)

/-- THE STATEMENT: the tied card -/
theorem proved : Rows.WordsNamesCardSaid :=
  Claim7.holds_tied_plain_at .later [] [.data, .data, .data, .data, .pinned] true (true, "db598113370d98e2309149c1441c3a179ae62143bb3dcc12fee36e4b95f3bc1e") false
    over (fun _ h => by cases h) (by kernel_rfl) (fun _ h => by cases h) wordsNames_row_tie rfl ⟨rfl, rfl⟩ (by kernel_rfl) rfl
    (fun f fn hf hfn => by
      obtain rfl : f = 6 := Option.some.inj ((show Tryd.prog.funcNamed Rows.wordsNamesRow.func = some 6 by kernel_rfl).symm.trans hf) |>.symm
      obtain rfl : fn = Tryd.f6 := (Option.some.inj (Tryd.func6.symm.trans hfn)).symm
      refine ⟨by kernel_rfl, fun j t ht => ?_⟩
      rw [Tryd.params6] at ht
      exact standIns _ (by kernel_rfl) j t ht)
    (by kernel_rfl)
#print axioms proved
end Go.Proofs.YthokicikehemaaaDoor.wordsNames

