/- swingbridgeref7.partOf. Printed by tools/text/txr3.py. -/
import Derived.Test.YtlmliefkhidpnaaGreatDoorTxR2
import Derived.Test.YtlmliefkhidpnaaGreatDoorReg
namespace Go.Proofs.YtlmliefkhidpnaaGreatDoor
open Go.ChangeShapes Go.WideShapes Go.ChangeAt Go.RowKit
set_option linter.unusedVariables false
set_option linter.unusedSimpArgs false
/-- the result's box and the part's (g) -/
structure RPb (w : World) (g : Nat) (v : World) (k l r : Int) : Prop where
  hb : Below w.heap.size w v
  ne : w.heap.size < g
  b0 : Bk v w.heap.size 46 #[.int .i64 0, .int .i64 0, .int .i64 0]
  b1 : Bk v g 46 #[.int .i64 k, .int .i64 l, .int .i64 r]
theorem RPb.drew {w : World} {g : Nat} {v : World} {k l r : Int} (h : RPb w g v k l r) : RPb w g (v.drewN 1) k l r :=
  ⟨below_drewN h.hb 1, h.ne, h.b0, h.b1⟩
theorem RPb.kindP {w : World} {g : Nat} {v : World} {k l r : Int} (h : RPb w g v k l r) (n : Int) : RPb w g (v.setCell ⟨g, 0, none⟩ (.int .i64 n)) n l r :=
  ⟨h.hb.trans (((Turned.refl [g] v).setCell (.inl (by simp)) _).below h.hb.size (by simp; have := h.ne; omega)), h.ne, h.b0.far (by have := h.ne; exact Nat.ne_of_lt this) _, by simpa using h.b1.put 0 (.int .i64 n)⟩
theorem RPb.lenP {w : World} {g : Nat} {v : World} {k l r : Int} (h : RPb w g v k l r) (n : Int) : RPb w g (v.setCell ⟨g, 1, none⟩ (.int .i64 n)) k n r :=
  ⟨h.hb.trans (((Turned.refl [g] v).setCell (.inl (by simp)) _).below h.hb.size (by simp; have := h.ne; omega)), h.ne, h.b0.far (by have := h.ne; exact Nat.ne_of_lt this) _, by simpa using h.b1.put 1 (.int .i64 n)⟩
theorem RPb.resP {w : World} {g : Nat} {v : World} {k l r : Int} (h : RPb w g v k l r) (n : Int) : RPb w g (v.setCell ⟨g, 2, none⟩ (.int .i64 n)) k l n :=
  ⟨h.hb.trans (((Turned.refl [g] v).setCell (.inl (by simp)) _).below h.hb.size (by simp; have := h.ne; omega)), h.ne, h.b0.far (by have := h.ne; exact Nat.ne_of_lt this) _, by simpa using h.b1.put 2 (.int .i64 n)⟩
theorem RPb.make {w u : World} (hb : Below w.heap.size w u) (hz : w.heap.size < u.heap.size) (b0 : Bk u w.heap.size 46 #[.int .i64 0, .int .i64 0, .int .i64 0]) (k : Int) : RPb w u.heap.size (u.alloc (.cells #[.int .i64 k, .int .i64 0, .int .i64 0] 46)).drew k 0 0 :=
  RPb.drew ⟨hb.alloc hb.size _, hz, b0.alloc _, Bk.new u 46 _⟩
def lockV : Option Int → Option Int → Option PartT
  | some r, some n => some ⟨3, n, r⟩
  | _, _ => none
theorem bl_at (s : ByteArray) {j : Nat} (h : j < s.size) : (bl s).getD j 0 = s[j] := by
  have h2 : j < (bl s).length := by rw [bl_len]; exact h
  simp [List.getD, h2]; rfl
theorem at_ne {s : ByteArray} {j : Nat} (h : j < s.size) (hj : j < cidx (bl s)) : (((s[j].toNat : Nat) : Int) != 58) = true := by
  have h2 := (cidx_facts (bl s)).2.1 j hj
  rw [bl_at s h] at h2
  rw [bne_iff_ne]
  intro e
  exact h2 (UInt8.toNat_inj.1 (by show s[j].toNat = 58; omega))
theorem at_eq {s : ByteArray} (h : cidx (bl s) < s.size) : (((s[cidx (bl s)].toNat : Nat) : Int) != 58) = false := by
  have h2 := (cidx_facts (bl s)).2.2.1 (by rw [bl_len]; exact h)
  rw [bl_at s h] at h2
  rw [h2]; rfl
theorem pk_none {k : Bts} (h1 : k ≠ tRun) (h2 : k ≠ tSleep) (h3 : k ≠ tLock) (o : Option (List Int)) : partK k o = none := by
  match o with
  | none => rfl
  | some [] => rfl
  | some [n] => show (if k = tRun then _ else _) = _; rw [if_neg h1, if_neg h2]
  | some [r, n] => show (if k = tLock then _ else _) = _; rw [if_neg h3]
  | some (a :: b :: c :: d) => rfl
theorem num_calls (r : ByteArray) (hr : r.size ≤ 100000) : ∃ n b, Hid (∀ u, Calls Tryz.prog 42 #[.string r] u fun e w' => e = .returned (.tuple #[.int .i64 n, .bool b]) ∧ u = w') ∧ Hid (numT (bl r) = if b = true then some n else none) :=
  ⟨numV r, numOK r, hidp (fun u => rnum_any r u (Nat.le_trans hr (by decide))), hidp (numT_bl r)⟩
set_option maxHeartbeats 16000000 in
theorem rpartOf_any (s : ByteArray) (w : World) (hs : s.size ≤ 100000) (hn : nestT (bl s) = false) : Calls Tryz.prog 44 #[.string s] w (RPartPost w (bl s)) := by
  have B0 := hidp (Bk.new w 46 #[.int .i64 0, .int .i64 0, .int .i64 0])
  have HB0 := hidp ((Below.refl w.heap.size w).alloc (Nat.le_refl _) (.cells #[.int .i64 0, .int .i64 0, .int .i64 0] 46))
  have HZ0 : Hid (w.heap.size < (w.alloc (.cells #[.int .i64 0, .int .i64 0, .int .i64 0] 46)).heap.size) := hidp (by simp)
  have CN : Hid (∀ u, Calls Tryz.prog 43 #[.string s] u fun e w' => e = .returned (.bool false) ∧ u = w') := hidp (fun u => by have := rnested_any s u hs; rwa [hn] at this)
  have HF := hidp (cidx_facts (bl s))
  obtain ⟨K, HK⟩ : ∃ K, Hid (cidx (bl s) = K) := ⟨_, hidp rfl⟩
  have hKs : K ≤ s.size := by rw [← HK.out, ← bl_len]; exact HF.out.1
  have HP := hidp (partT_K (bl s))
  clear hn
  go_enter Tryz.func44, Tryz.ntmps44
  go_wp2_with fail
  refine (CN.out _).mono ?_
  rintro e u ⟨rfl, hu⟩
  have BX : Hid (Bk u w.heap.size 46 #[.int .i64 0, .int .i64 0, .int .i64 0]) := hidp (hu ▸ B0.out)
  have HB : Hid (Below w.heap.size w u) := hidp (hu ▸ HB0.out)
  have HZ : Hid (w.heap.size < u.heap.size) := hidp (hu ▸ HZ0.out)
  clear hu B0 HB0 HZ0 CN
  go_wp2_with fail
  go_loopg [4] s.size (fun g i wr => ∃ (k : Nat), k + g = s.size ∧ i = .int .i64 k ∧ Hid (k ≤ K) ∧ u = wr)
  case atStart => exact ⟨0, by omega, rfl, hidp (Nat.zero_le _), rfl⟩
  case round =>
    obtain ⟨k, hk, rfl, HI, rfl⟩ := hrel
    have kI0 : (0 : Int) ≤ (k : Int) := by omega
    have wk : IntKind.i64.wrap ((k : Int) + 1) = (k : Int) + 1 := IntWalk.i64_in _ (by omega)
    by_cases hin : k < K
    · have hks : k < s.size := by omega
      have kI : (k : Int) < (s.size : Int) := by omega
      have f1 := at_ne hks (by rw [HK.out]; exact hin)
      obtain ⟨ch, hch⟩ : ∃ ch : Int, ((s[k].toNat : Nat) : Int) = ch := ⟨_, rfl⟩
      rw [hch] at f1
      have HI2 : Hid (k + 1 ≤ K) := hidp hin
      clear HI hin
      go_wp2_with fail
      go_roundg (gk - 1)
      case measure => omega
      case rel => exact ⟨k + 1, by omega, by go_num, HI2, rfl⟩
    · obtain rfl : k = K := by have := HI.out; omega
      clear HI hin
      by_cases hlt : k < s.size
      · have kI : (k : Int) < (s.size : Int) := by omega
        have kI1 : (0 : Int) ≤ (k : Int) + 1 := by omega
        have kI2 : (k : Int) + 1 ≤ (s.size : Int) := by omega
        have kN1 : k + 1 ≤ s.size := by omega
        have kN2 : k ≤ s.size := by omega
        have kI3 : (k : Int) ≤ (s.size : Int) := by omega
        have f4 : ((k : Int) == (s.size : Int)) = false := by rw [beq_eq_false_iff_ne]; omega
        have f0 := at_eq (s := s) (by rw [HK.out]; exact hlt)
        simp only [HK.out] at f0
        obtain ⟨ch, hch⟩ : ∃ ch : Int, ((s[k].toNat : Nat) : Int) = ch := ⟨_, rfl⟩
        rw [hch] at f0
        obtain ⟨x, Hx⟩ : ∃ x, Hid (s.extract 0 k = x) := ⟨_, hidp rfl⟩
        obtain ⟨r, Hr⟩ : ∃ r, Hid (s.extract (k + 1) s.size = r) := ⟨_, hidp rfl⟩
        have hx0 := Hx.out
        have hr0 := Hr.out
        have HP2 : Hid (partT (bl s) = partK (bl x) (numsT (sp 58 [] (bl r)))) := hidp (by
          rw [HP.out, HF.out.2.2.2.1, HF.out.2.2.2.2, HK.out, ← hx0, ← hr0, bl_extract, bl_extract, ← bl_len, List.take_length]; rfl)
        have hrz : r.size ≤ 100000 := by rw [← hr0]; simp; omega
        have HRZ := hidp hrz
        clear HP HF HK hrz
        have e1 := toList_lit x [114, 117, 110]
        have e2 := toList_lit x [115, 108, 101, 101, 112]
        have e3 := toList_lit x [108, 111, 99, 107]
        by_cases d1 : bl x = tRun
        · have HP := HP2.out
          rw [d1] at HP e1 e2 e3
          have f1 : (x.toList == [114, 117, 110]) = true := by rw [e1]; decide
          have f2 : (x.toList == [115, 108, 101, 101, 112]) = false := by rw [e2]; decide
          have f3 : (x.toList == [108, 111, 99, 107]) = false := by rw [e3]; decide
          have HP := hidp HP
          clear e1 e2 e3 HP2 d1
          have HM := hidp (RPb.make HB.out HZ.out BX.out 1)
          obtain ⟨n, b, CR, HT⟩ := num_calls r HRZ.out
          have HQ : Hid (partT (bl s) = (numT (bl r)).map (fun n => ⟨1, n, 0⟩)) := hidp (by rw [HP.out, pk_one _ _ (.inl rfl)]; rfl)
          clear HP
          go_wp2_with fail
          go_region
          go_wp2_with fail
          refine (CR.out _).mono ?_
          rintro e v ⟨rfl, hv⟩
          have R : RPb w u.heap.size v 1 0 0 := by rw [← hv]; exact HM.out
          clear hv HM CR BX HB HZ
          cases b with
          | false =>
            have HV : Hid (rpartV (bl s) = (⟨0, 0, 0⟩, 10)) := hidp (by unfold rpartV; rw [HQ.out, HT.out]; rfl)
            have PB := pp3_bk R.b0 (v0 := .int .i64 0) (v1 := .int .i64 0) (v2 := .int .i64 0)
            have T1 := pp3_turned v w.heap.size (.int .i64 0) (.int .i64 0) (.int .i64 0)
            have hbe := hidp ((R.hb).trans (T1.below (R.hb).size (by simp)))
            obtain ⟨r0, r1, r2⟩ := cz3 PB
            obtain ⟨z0, z1, z2⟩ := cz3 R.b0
            obtain ⟨y0, y1, y2⟩ := cf3 R.b0
            clear PB T1
            unfold pp3 at *
            go_wp2_with fail
            try rw [Exit.noGoto_ret]
            refine bodyPost_ret (v := .tuple #[.agg #[.int .i64 0, .int .i64 0, .int .i64 0], .int .i64 10]) (by simp [results, Tryz.results44, go_sem, r0, r1, r2]) rfl ⟨rpart_ret (p := ⟨0, 0, 0⟩) HV.out, hbe.out⟩
          | true =>
            have HV : Hid (rpartV (bl s) = (⟨1, n, 0⟩, 0)) := hidp (by unfold rpartV; rw [HQ.out, HT.out]; rfl)
            have R2 := R.lenP n
            have PB := pp3_bk R2.b0 (v0 := .int .i64 1) (v1 := .int .i64 n) (v2 := .int .i64 0)
            have T1 := pp3_turned (v.setCell ⟨u.heap.size, 1, none⟩ (.int .i64 n)) w.heap.size (.int .i64 1) (.int .i64 n) (.int .i64 0)
            have hbe := hidp (R2.hb.trans (T1.below R2.hb.size (by simp)))
            obtain ⟨r0, r1, r2⟩ := cz3 PB
            obtain ⟨z0, z1, z2⟩ := cz3 R2.b0
            obtain ⟨y0, y1, y2⟩ := cf3 R2.b0
            obtain ⟨q0, q1, q2⟩ := cz3 R.b1
            obtain ⟨p0, p1, p2⟩ := cf3 R.b1
            obtain ⟨m0, m1, m2⟩ := cz3 R2.b1
            clear PB T1 R R2
            unfold pp3 at *
            go_wp2_with fail
            try rw [Exit.noGoto_ret]
            refine bodyPost_ret (v := .tuple #[.agg #[.int .i64 1, .int .i64 n, .int .i64 0], .int .i64 0]) (by simp [results, Tryz.results44, go_sem, r0, r1, r2]) rfl ⟨rpart_ret (p := ⟨1, n, 0⟩) HV.out, hbe.out⟩
        by_cases d2 : bl x = tSleep
        · have HP := HP2.out
          rw [d2] at HP e1 e2 e3
          have f1 : (x.toList == [114, 117, 110]) = false := by rw [e1]; decide
          have f2 : (x.toList == [115, 108, 101, 101, 112]) = true := by rw [e2]; decide
          have f3 : (x.toList == [108, 111, 99, 107]) = false := by rw [e3]; decide
          have HP := hidp HP
          clear e1 e2 e3 HP2 d1 d2
          have HM := hidp (RPb.make HB.out HZ.out BX.out 2)
          obtain ⟨n, b, CR, HT⟩ := num_calls r HRZ.out
          have HQ : Hid (partT (bl s) = (numT (bl r)).map (fun n => ⟨2, n, 0⟩)) := hidp (by rw [HP.out, pk_one _ _ (.inr rfl)]; rfl)
          clear HP
          go_wp2_with fail
          go_region
          go_wp2_with fail
          refine (CR.out _).mono ?_
          rintro e v ⟨rfl, hv⟩
          have R : RPb w u.heap.size v 2 0 0 := by rw [← hv]; exact HM.out
          clear hv HM CR BX HB HZ
          cases b with
          | false =>
            have HV : Hid (rpartV (bl s) = (⟨0, 0, 0⟩, 10)) := hidp (by unfold rpartV; rw [HQ.out, HT.out]; rfl)
            have PB := pp3_bk R.b0 (v0 := .int .i64 0) (v1 := .int .i64 0) (v2 := .int .i64 0)
            have T1 := pp3_turned v w.heap.size (.int .i64 0) (.int .i64 0) (.int .i64 0)
            have hbe := hidp ((R.hb).trans (T1.below (R.hb).size (by simp)))
            obtain ⟨r0, r1, r2⟩ := cz3 PB
            obtain ⟨z0, z1, z2⟩ := cz3 R.b0
            obtain ⟨y0, y1, y2⟩ := cf3 R.b0
            clear PB T1
            unfold pp3 at *
            go_wp2_with fail
            try rw [Exit.noGoto_ret]
            refine bodyPost_ret (v := .tuple #[.agg #[.int .i64 0, .int .i64 0, .int .i64 0], .int .i64 10]) (by simp [results, Tryz.results44, go_sem, r0, r1, r2]) rfl ⟨rpart_ret (p := ⟨0, 0, 0⟩) HV.out, hbe.out⟩
          | true =>
            have HV : Hid (rpartV (bl s) = (⟨2, n, 0⟩, 0)) := hidp (by unfold rpartV; rw [HQ.out, HT.out]; rfl)
            have R2 := R.lenP n
            have PB := pp3_bk R2.b0 (v0 := .int .i64 2) (v1 := .int .i64 n) (v2 := .int .i64 0)
            have T1 := pp3_turned (v.setCell ⟨u.heap.size, 1, none⟩ (.int .i64 n)) w.heap.size (.int .i64 2) (.int .i64 n) (.int .i64 0)
            have hbe := hidp (R2.hb.trans (T1.below R2.hb.size (by simp)))
            obtain ⟨r0, r1, r2⟩ := cz3 PB
            obtain ⟨z0, z1, z2⟩ := cz3 R2.b0
            obtain ⟨y0, y1, y2⟩ := cf3 R2.b0
            obtain ⟨q0, q1, q2⟩ := cz3 R.b1
            obtain ⟨p0, p1, p2⟩ := cf3 R.b1
            obtain ⟨m0, m1, m2⟩ := cz3 R2.b1
            clear PB T1 R R2
            unfold pp3 at *
            go_wp2_with fail
            try rw [Exit.noGoto_ret]
            refine bodyPost_ret (v := .tuple #[.agg #[.int .i64 2, .int .i64 n, .int .i64 0], .int .i64 0]) (by simp [results, Tryz.results44, go_sem, r0, r1, r2]) rfl ⟨rpart_ret (p := ⟨2, n, 0⟩) HV.out, hbe.out⟩
        by_cases d3 : bl x = tLock
        · have HP := HP2.out
          rw [d3] at HP e1 e2 e3
          have f1 : (x.toList == [114, 117, 110]) = false := by rw [e1]; decide
          have f2 : (x.toList == [115, 108, 101, 101, 112]) = false := by rw [e2]; decide
          have f3 : (x.toList == [108, 111, 99, 107]) = true := by rw [e3]; decide
          have HP := hidp HP
          clear e1 e2 e3 HP2 d1 d2 d3
          have HM := hidp (RPb.make HB.out HZ.out BX.out 3)
          obtain ⟨K2, HK2⟩ : ∃ K, Hid (cidx (bl r) = K) := ⟨_, hidp rfl⟩
          have hK2 : K2 ≤ r.size := by rw [← HK2.out, ← bl_len]; exact (cidx_facts (bl r)).1
          have hrz := HRZ.out
          clear BX HB HZ
          go_wp2_with fail
          go_region
          go_wp2_with fail
          go_loopg [7] r.size (fun g i wr => ∃ (c : Nat), c + g = r.size ∧ i = .int .i64 c ∧ Hid (c ≤ K2) ∧ RPb w u.heap.size wr 3 0 0)
          case atStart => exact ⟨0, by omega, rfl, hidp (Nat.zero_le _), HM.out⟩
          case round =>
            clear HM
            obtain ⟨c, hc, rfl, HI, R⟩ := hrel
            have cI0 : (0 : Int) ≤ (c : Int) := by omega
            have wc : IntKind.i64.wrap ((c : Int) + 1) = (c : Int) + 1 := IntWalk.i64_in _ (by omega)
            by_cases hin : c < K2
            · have hcs : c < r.size := by omega
              have cI : (c : Int) < (r.size : Int) := by omega
              have g1 := at_ne hcs (by rw [HK2.out]; exact hin)
              obtain ⟨cc, hcc⟩ : ∃ ch : Int, ((r[c].toNat : Nat) : Int) = ch := ⟨_, rfl⟩
              rw [hcc] at g1
              have HI2 : Hid (c + 1 ≤ K2) := hidp hin
              clear HI hin
              go_wp2_with fail
              go_roundg (gk - 1)
              case measure => omega
              case rel => exact ⟨c + 1, by omega, by go_num, HI2, R⟩
            · obtain rfl : c = K2 := by have := HI.out; omega
              clear HI hin
              have cI3 : (c : Int) ≤ (r.size : Int) := by omega
              have cN3 : c ≤ r.size := by omega
              obtain ⟨y, Hy⟩ : ∃ y, Hid (r.extract 0 c = y) := ⟨_, hidp rfl⟩
              have hy0 := Hy.out
              have Hyb : Hid (bl y = (bl r).take c) := hidp (by rw [← hy0, bl_extract]; rfl)
              obtain ⟨n1, b1, CY, HY⟩ := num_calls y (by rw [← hy0]; simp; omega)
              by_cases hlt2 : c < r.size
              · have cI : (c : Int) < (r.size : Int) := by omega
                have g1 := at_eq (s := r) (by rw [HK2.out]; exact hlt2)
                simp only [HK2.out] at g1
                obtain ⟨cc, hcc⟩ : ∃ ch : Int, ((r[c].toNat : Nat) : Int) = ch := ⟨_, rfl⟩
                rw [hcc] at g1
                have g4 : ((c : Int) == (r.size : Int)) = false := by rw [beq_eq_false_iff_ne]; omega
                have cI1 : (0 : Int) ≤ (c : Int) + 1 := by omega
                have cI2 : (c : Int) + 1 ≤ (r.size : Int) := by omega
                have cN1 : c + 1 ≤ r.size := by omega
                obtain ⟨t, Ht⟩ : ∃ t, Hid (r.extract (c + 1) r.size = t) := ⟨_, hidp rfl⟩
                have ht0 := Ht.out
                have Htb : Hid (bl t = (bl r).drop (c + 1)) := hidp (by rw [← ht0, bl_extract, ← bl_len, List.take_length])
                obtain ⟨n2, b2, CT, HT⟩ := num_calls t (by rw [← ht0]; simp; omega)
                have HQ : Hid (partT (bl s) = lockV (numT (bl y)) (numT (bl t))) := hidp (by
                  rw [HP.out, pk_lock _ (by rw [HK2.out, bl_len]; exact hlt2), HK2.out, ← Hyb.out, ← Htb.out]
                  cases numT (bl y) <;> cases numT (bl t) <;> rfl)
                clear HP HK2 Hyb Htb
                go_wp2_with fail
                refine (CY.out _).mono ?_
                rintro e v ⟨rfl, hv⟩
                have R0 : RPb w u.heap.size v 3 0 0 := by rw [← hv]; exact R
                clear hv R CY
                cases b1 with
                | false =>
                  have HV : Hid (rpartV (bl s) = (⟨0, 0, 0⟩, 10)) := hidp (by unfold rpartV; rw [HQ.out, HY.out]; rfl)
                  clear CT
                  have PB := pp3_bk R0.b0 (v0 := .int .i64 0) (v1 := .int .i64 0) (v2 := .int .i64 0)
                  have T1 := pp3_turned v w.heap.size (.int .i64 0) (.int .i64 0) (.int .i64 0)
                  have hbe := hidp ((R0.hb).trans (T1.below (R0.hb).size (by simp)))
                  obtain ⟨r0, r1, r2⟩ := cz3 PB
                  obtain ⟨z0, z1, z2⟩ := cz3 R0.b0
                  obtain ⟨y0, y1, y2⟩ := cf3 R0.b0
                  clear PB T1
                  unfold pp3 at *
                  go_wp2_with fail
                  try rw [Exit.noGoto_ret]
                  refine bodyPost_ret (v := .tuple #[.agg #[.int .i64 0, .int .i64 0, .int .i64 0], .int .i64 10]) (by simp [results, Tryz.results44, go_sem, r0, r1, r2]) rfl ⟨rpart_ret (p := ⟨0, 0, 0⟩) HV.out, hbe.out⟩
                | true =>
                  obtain ⟨q0, q1, q2⟩ := cz3 R0.b1
                  obtain ⟨p0, p1, p2⟩ := cf3 R0.b1
                  have HM := hidp ((R0.resP n1).drew)
                  clear R0
                  go_wp2_with fail
                  go_region
                  go_wp2_with fail
                  refine (CT.out _).mono ?_
                  rintro e v2 ⟨rfl, hv⟩
                  have R : RPb w u.heap.size v2 3 0 n1 := by rw [← hv]; exact HM.out
                  clear hv HM CT q0 q1 q2 p0 p1 p2
                  cases b2 with
                  | false =>
                    have HV : Hid (rpartV (bl s) = (⟨0, 0, 0⟩, 10)) := hidp (by unfold rpartV; rw [HQ.out, HY.out, HT.out]; rfl)
                    have PB := pp3_bk R.b0 (v0 := .int .i64 0) (v1 := .int .i64 0) (v2 := .int .i64 0)
                    have T1 := pp3_turned v2 w.heap.size (.int .i64 0) (.int .i64 0) (.int .i64 0)
                    have hbe := hidp ((R.hb).trans (T1.below (R.hb).size (by simp)))
                    obtain ⟨r0, r1, r2⟩ := cz3 PB
                    obtain ⟨z0, z1, z2⟩ := cz3 R.b0
                    obtain ⟨y0, y1, y2⟩ := cf3 R.b0
                    clear PB T1
                    unfold pp3 at *
                    go_wp2_with fail
                    try rw [Exit.noGoto_ret]
                    refine bodyPost_ret (v := .tuple #[.agg #[.int .i64 0, .int .i64 0, .int .i64 0], .int .i64 10]) (by simp [results, Tryz.results44, go_sem, r0, r1, r2]) rfl ⟨rpart_ret (p := ⟨0, 0, 0⟩) HV.out, hbe.out⟩
                  | true =>
                    have HV : Hid (rpartV (bl s) = (⟨3, n2, n1⟩, 0)) := hidp (by unfold rpartV; rw [HQ.out, HY.out, HT.out]; rfl)
                    have R2 := R.lenP n2
                    have PB := pp3_bk R2.b0 (v0 := .int .i64 3) (v1 := .int .i64 n2) (v2 := .int .i64 n1)
                    have T1 := pp3_turned (v2.setCell ⟨u.heap.size, 1, none⟩ (.int .i64 n2)) w.heap.size (.int .i64 3) (.int .i64 n2) (.int .i64 n1)
                    have hbe := hidp (R2.hb.trans (T1.below R2.hb.size (by simp)))
                    obtain ⟨r0, r1, r2⟩ := cz3 PB
                    obtain ⟨z0, z1, z2⟩ := cz3 R2.b0
                    obtain ⟨y0, y1, y2⟩ := cf3 R2.b0
                    obtain ⟨q0, q1, q2⟩ := cz3 R.b1
                    obtain ⟨p0, p1, p2⟩ := cf3 R.b1
                    obtain ⟨m0, m1, m2⟩ := cz3 R2.b1
                    clear PB T1 R R2
                    unfold pp3 at *
                    go_wp2_with fail
                    try rw [Exit.noGoto_ret]
                    refine bodyPost_ret (v := .tuple #[.agg #[.int .i64 3, .int .i64 n2, .int .i64 n1], .int .i64 0]) (by simp [results, Tryz.results44, go_sem, r0, r1, r2]) rfl ⟨rpart_ret (p := ⟨3, n2, n1⟩) HV.out, hbe.out⟩
              · have cI : ¬ (c : Int) < (r.size : Int) := by omega
                obtain rfl : c = r.size := by omega
                have g4 : ((r.size : Int) == (r.size : Int)) = true := by simp
                have HV : Hid (rpartV (bl s) = (⟨0, 0, 0⟩, 10)) := hidp (by unfold rpartV; rw [HP.out, pk_lock0 _ (by rw [HK2.out, bl_len]; exact hlt2)])
                clear HP HK2 Hyb hlt2
                go_wp2_with fail
                refine (CY.out _).mono ?_
                rintro e v ⟨rfl, hv⟩
                have R0 : RPb w u.heap.size v 3 0 0 := by rw [← hv]; exact R
                clear hv R CY
                cases b1 with
                | false =>
                  have PB := pp3_bk R0.b0 (v0 := .int .i64 0) (v1 := .int .i64 0) (v2 := .int .i64 0)
                  have T1 := pp3_turned v w.heap.size (.int .i64 0) (.int .i64 0) (.int .i64 0)
                  have hbe := hidp ((R0.hb).trans (T1.below (R0.hb).size (by simp)))
                  obtain ⟨r0, r1, r2⟩ := cz3 PB
                  obtain ⟨z0, z1, z2⟩ := cz3 R0.b0
                  obtain ⟨y0, y1, y2⟩ := cf3 R0.b0
                  clear PB T1
                  unfold pp3 at *
                  go_wp2_with fail
                  try rw [Exit.noGoto_ret]
                  refine bodyPost_ret (v := .tuple #[.agg #[.int .i64 0, .int .i64 0, .int .i64 0], .int .i64 10]) (by simp [results, Tryz.results44, go_sem, r0, r1, r2]) rfl ⟨rpart_ret (p := ⟨0, 0, 0⟩) HV.out, hbe.out⟩
                | true =>
                  have PB := pp3_bk R0.b0 (v0 := .int .i64 0) (v1 := .int .i64 0) (v2 := .int .i64 0)
                  have T1 := pp3_turned v w.heap.size (.int .i64 0) (.int .i64 0) (.int .i64 0)
                  have hbe := hidp ((R0.hb).trans (T1.below (R0.hb).size (by simp)))
                  obtain ⟨r0, r1, r2⟩ := cz3 PB
                  obtain ⟨z0, z1, z2⟩ := cz3 R0.b0
                  obtain ⟨y0, y1, y2⟩ := cf3 R0.b0
                  clear PB T1
                  unfold pp3 at *
                  go_wp2_with fail
                  try rw [Exit.noGoto_ret]
                  refine bodyPost_ret (v := .tuple #[.agg #[.int .i64 0, .int .i64 0, .int .i64 0], .int .i64 10]) (by simp [results, Tryz.results44, go_sem, r0, r1, r2]) rfl ⟨rpart_ret (p := ⟨0, 0, 0⟩) HV.out, hbe.out⟩
        have HV : Hid (rpartV (bl s) = (⟨0, 0, 0⟩, 10)) := hidp (by unfold rpartV; rw [HP2.out, pk_none d1 d2 d3])
        have f1 : (x.toList == [114, 117, 110]) = false := by rw [e1]; exact decide_eq_false d1
        have f2 : (x.toList == [115, 108, 101, 101, 112]) = false := by rw [e2]; exact decide_eq_false d2
        have f3 : (x.toList == [108, 111, 99, 107]) = false := by rw [e3]; exact decide_eq_false d3
        clear e1 e2 e3 HP2 d1 d2 d3
        have PB0 := pp3_bk BX.out (v0 := .int .i64 0) (v1 := .int .i64 0) (v2 := .int .i64 0)
        have PB := PB0.alloc (.cells #[.int .i64 0, .int .i64 0, .int .i64 0] 46)
        have T1 := HB.out.trans ((pp3_turned u w.heap.size (.int .i64 0) (.int .i64 0) (.int .i64 0)).below HB.out.size (by simp))
        have hbe := hidp (below_drewN (T1.alloc T1.size (.cells #[.int .i64 0, .int .i64 0, .int .i64 0] 46)) 1)
        obtain ⟨r0, r1, r2⟩ := cz3 PB
        obtain ⟨i0, i1, i2⟩ := cz3 BX.out
        obtain ⟨j0, j1, j2⟩ := cf3 BX.out
        have hne := HZ.out
        have hne2 : ¬ w.heap.size = u.heap.size := by omega
        have hne3 : ¬ u.heap.size = w.heap.size := by omega
        clear PB0 PB T1
        unfold pp3 at *
        go_wp2_with fail
        go_region
        go_wp2_with fail
        try rw [Exit.noGoto_ret]
        refine bodyPost_ret (v := .tuple #[.agg #[.int .i64 0, .int .i64 0, .int .i64 0], .int .i64 10]) (by simp [results, Tryz.results44, go_sem, r0, r1, r2]) rfl ⟨rpart_ret (p := ⟨0, 0, 0⟩) HV.out, hbe.out⟩
      · have kI : ¬ (k : Int) < (s.size : Int) := by omega
        obtain rfl : k = s.size := by omega
        have f4 : ((s.size : Int) == (s.size : Int)) = true := by simp
        have HV : Hid (rpartV (bl s) = (⟨0, 0, 0⟩, 10)) := hidp (by
          unfold rpartV
          rw [HP.out, HF.out.2.2.2.2, HK.out, List.drop_of_length_le (by rw [bl_len]; omega)]
          rfl)
        clear HP HF HK hlt
        have PB := pp3_bk BX.out (v0 := .int .i64 0) (v1 := .int .i64 0) (v2 := .int .i64 0)
        have T1 := pp3_turned u w.heap.size (.int .i64 0) (.int .i64 0) (.int .i64 0)
        have hbe := hidp ((HB.out).trans (T1.below (HB.out).size (by simp)))
        obtain ⟨r0, r1, r2⟩ := cz3 PB
        obtain ⟨z0, z1, z2⟩ := cz3 BX.out
        obtain ⟨y0, y1, y2⟩ := cf3 BX.out
        clear PB T1
        unfold pp3 at *
        go_wp2_with fail
        try rw [Exit.noGoto_ret]
        refine bodyPost_ret (v := .tuple #[.agg #[.int .i64 0, .int .i64 0, .int .i64 0], .int .i64 10]) (by simp [results, Tryz.results44, go_sem, r0, r1, r2]) rfl ⟨rpart_ret (p := ⟨0, 0, 0⟩) HV.out, hbe.out⟩
end Go.Proofs.YtlmliefkhidpnaaGreatDoor
