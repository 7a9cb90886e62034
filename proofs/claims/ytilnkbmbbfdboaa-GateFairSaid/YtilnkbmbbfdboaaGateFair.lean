/- GateFair: never more than so many are in; as long as one waits the gate is full; all get in in the order they asked. No condition. -/
import Derived.Test.YtilnkbmbbfdboaaGateNums
set_option maxHeartbeats 2000000
set_option maxRecDepth 100000
namespace Go.Proofs.Ytilnkbmbbfdboaa.gateFair
open Go.ChangeShapes Go.WideShapes Go.ChangeAt Go.RowKit
open Go.ChangeMaps (open_string shut_string)
set_option linter.unusedVariables false

/-- THE WALK: the Go text returns true, and writes nothing that was there. -/
theorem walk (a0 : Int) (a1 : Option Addr) (len1 cap1 : Nat) (z1 : List Int) (w : World) (w0 : (Lit.int .u8 a0).wf = true) (w1 : IsRow .u8 w a1 len1 cap1 z1) :
    Calls Try.prog 4 #[.int .u8 a0, .slice a1 len1 cap1] w fun e w' => e = .returned (.bool true) ∧ Below w.heap.size w w' := by
  obtain ⟨hr, hl, hm, hz⟩ := w1.row
  have hcap : len1 ≤ cap1 := by rcases w1 with ⟨_, rfl, rfl, _⟩ | ⟨_, _, h, _⟩ <;> omega
  clear w1
  obtain ⟨zs, hzs⟩ : ∃ zs, z1.take len1 = zs := ⟨_, rfl⟩
  rw [hzs] at hr hl hz
  clear hzs
  subst hl
  unfold maxLen at hm
  have b0 : 0 ≤ a0 ∧ a0 ≤ 255 := by simp [Lit.wf, IntKind.min, IntKind.max, IntKind.signed, IntKind.bits] at w0; omega
  obtain ⟨p0, p1⟩ := b0
  clear w0
  have Hz := hidp (u8_bd hz)
  clear hz
  have HR := hidp hr
  clear hr
  by_cases h50 : 50 < zs.length
  · go_enter Try.func4, Try.ntmps4
    go_wp2_with fail
    refine (known6_any _).mono ?_
    rintro e w1 ⟨rfl, hb1⟩
    go_wp2_with fail
    go_ret
    exact ⟨rfl, hb1⟩
  · obtain ⟨K, hK, K1, K2⟩ : ∃ K : Int, Hid (a0 % 5 + 1 = K) ∧ 1 ≤ K ∧ K ≤ 5 := ⟨_, rfl, by omega, by omega⟩
    go_enter Try.func4, Try.ntmps4
    go_wp2_with fail
    refine (known6_any _).mono ?_
    rintro e w1 ⟨rfl, hb1⟩
    go_wp2_with fail
    rw [hK.out]
    refine (gnew_any K _ (by unfold I64; omega)).mono ?_
    rintro e w2 ⟨b, F, rfl, h, u⟩
    rw [show held1 K = K by unfold held1; omega] at h
    replace u := u.since hb1
    go_wp2_with fail
    go_loopg [7, 8] zs.length (fun g n i wr => ∃ (k nx : Nat) (is qs : List Int) (F : List Nat), k + g = zs.length ∧ nx ≤ k ∧ i = .int .i64 k ∧ n = .int .i64 nx ∧ Hid (FairInv K k nx is qs) ∧ Gt wr b K is qs F ∧ Up w.heap.size w wr F)
    case atStart => exact ⟨0, 0, [], [], F, by omega, by omega, rfl, rfl, hidp ⟨by omega, by simp [seg], by simp, by simp, by omega⟩, h, u⟩
    case round =>
      obtain ⟨k, nx, is, qs, F1, hk, hnx, rfl, rfl, HI, hg, hu⟩ := hrel
      clear h u
      have hgl := hg.fit
      obtain ⟨g1, _, _, g4, g5, g6⟩ := hgl
      by_cases hlt : k < zs.length
      · by_cases hlen : (is.length : Int) < K
        · obtain ⟨rfl, rfl, HJ⟩ := HI.out.ok hlen
          have HO := hidp HI.out.out
          replace HJ := hidp HJ
          go_wp2_with fail
          refine (ask_ok (id := (nx : Int)) hg (by unfold I64; omega) HO.out.1 HO.out.2 hlen).mono ?_
          intro e w3 hp
          obtain ⟨rfl, F3, h3, u3⟩ := hu.step hp
          clear hp hg hu
          go_wp2_with fail
          refine (gline_eq h3).mono ?_
          rintro e w4 ⟨A4, c4, rfl, o4, hb⟩
          have h4 := h3.over hb
          have u4 := u3.over hb
          clear h3 u3 hb o4
          go_wp2_with fail
          refine (ghas_eq (id := (nx : Int)) (v := true) h4 (by unfold I64; omega) (by simp [plK])).mono ?_
          rintro e w5 ⟨rfl, hb⟩
          have h5 := h4.over hb
          have u5 := u4.over hb
          clear h4 u4 hb
          go_wp2_with fail
          refine (ghas_eq (id := (nx : Int)) (v := true) h5 (by unfold I64; omega) (by simp [plK])).mono ?_
          rintro e w6 ⟨rfl, hb⟩
          have h6 := h5.over hb
          have u6 := u5.over hb
          clear h5 u5 hb
          go_wp2_with fail
          have HJI := HJ
          have hposi : 0 < (is ++ [(nx : Int)]).length := (by simp)
          obtain ⟨is2, His2⟩ : ∃ l, Hid ((is ++ [(nx : Int)]) = l) := ⟨_, rfl⟩
          obtain ⟨qs2, Hqs2⟩ : ∃ l, Hid (([] : List Int) = l) := ⟨_, rfl⟩
          rw [His2.out, Hqs2.out] at HJI h6
          rw [His2.out] at hposi
          refine (gin_eq h6).mono ?_
          rintro e wb1 ⟨Ab, cb, rfl, ob, hb⟩
          have hgb := h6.over hb
          have ugb := u6.over hb
          clear h6 u6 hb
          obtain ⟨g, off, hA, hc⟩ := HR.out.resolve_left (by intro e; simp [e] at hlt)
          subst hA
          obtain ⟨n, HN⟩ : ∃ n, Hid (zs.getD nx 0 = n) := ⟨_, rfl⟩
          obtain ⟨n0, n1⟩ := HN.out ▸ Hz.out nx hlt
          have ck : wb1.cell? ⟨g, off + nx, none⟩ = some (.int .u8 n) := ugb.old (HN.out ▸ hc nx hlt)
          clear hc
          have hfit := hgb.fit
          obtain ⟨f1, f2, f3, f4, f5, f6⟩ := hfit
          obtain ⟨y, Hy, hy1, hy2, HYl⟩ : ∃ y : Nat, Hid (n % (is2.length : Int) = y) ∧ (0 : Int) ≤ (y : Int) ∧ (y : Int) < (is2.length : Int) ∧ y < is2.length := by
            have e1 := Int.emod_nonneg n (show ((is2.length : Nat) : Int) ≠ 0 by omega)
            have e2 := Int.emod_lt_of_pos n (show (0 : Int) < ((is2.length : Nat) : Int) by omega)
            exact ⟨(n % (is2.length : Int)).toNat, hidp (by omega), by omega, by omega, by omega⟩
          have hlenp : (0 : Int) < ((is2.length : Nat) : Int) := by omega
          obtain ⟨g2, off2, hA2, hc2⟩ := (Lies.row (B := wb1.heap.size) (Lies.of_own ob.1)).resolve_left (by intro e; simp [e] at hposi)
          subst hA2
          obtain ⟨x, HX⟩ : ∃ x, Hid (is2.getD y 0 = x) := ⟨_, rfl⟩
          have cy : wb1.cell? ⟨g2, off2 + y, none⟩ = some (.int .i64 x) := HX.out ▸ hc2 y HYl
          have Hin : Hid (plK is2 x = true) := hidp (HX.out ▸ plK_getD HYl)
          have Ix : I64 x := HX.out ▸ f5 _ (by simp [List.getD, HYl])
          clear hc2 ob
          by_cases h3 : 0 < n % 3
          · have hyo : n % (is2.length : Int) = (y : Int) := Hy.out
            go_wp2_with fail
            clear hyo
            cases qs2 with
            | nil =>
              have HJ2 := hidp (HJI.out.none_ x)
              refine (leave_none (id := x) hgb Ix Hin.out).mono ?_
              intro e wl hp
              obtain ⟨rfl, Fl, hl1, ul1⟩ := ugb.step hp
              clear hp hgb ugb
              go_wp2_with fail
              refine (gin_eq hl1).mono ?_
              rintro e wc1 ⟨Ac1, cc1, rfl, oc1, hb⟩
              have hc1 := hl1.over hb
              have uc1 := ul1.over hb
              clear hl1 ul1 hb oc1
              have gf := hc1.fit.1
              go_wp2_with fail
              refine (gline_eq hc1).mono ?_
              rintro e wc2 ⟨Ac2, cc2, rfl, oc2, hb⟩
              have hc2 := hc1.over hb
              have uc2 := uc1.over hb
              clear hc1 uc1 hb oc2
              go_wp2_with fail
              go_roundg (gk - 1)
              case measure => omega
              case rel => exact ⟨nx + 1, (nx + 1), _, _, Fl, by omega, by omega, by go_num, by go_num, HJ2, hc2, uc2⟩
            | cons z qs3 =>
              exfalso
              have h2 := congrArg List.length HJI.out.2.1
              rw [seg_len] at h2
              simp at h2
          · have h3' : n % 3 ≤ 0 := by omega
            go_wp2_with fail
            refine (gin_eq hgb).mono ?_
            rintro e wc1 ⟨Ac1, cc1, rfl, oc1, hb⟩
            have hc1 := hgb.over hb
            have uc1 := ugb.over hb
            clear hgb ugb hb oc1
            have gf := hc1.fit.1
            by_cases hq0 : qs2 = []
            · rw [hq0] at hc1
              go_wp2_with fail
              refine (gline_eq hc1).mono ?_
              rintro e wc2 ⟨Ac2, cc2, rfl, oc2, hb⟩
              have hc2 := hc1.over hb
              have uc2 := uc1.over hb
              clear hc1 uc1 hb oc2
              go_wp2_with fail
              go_roundg (gk - 1)
              case measure => omega
              case rel => exact ⟨nx + 1, (nx + 1), _, _, F3, by omega, by omega, by go_num, by go_num, hidp (by have := HJI.out; rw [hq0] at this; exact this), hc2, uc2⟩
            · have hlq : 0 < qs2.length := List.length_pos_iff.2 hq0
              have hlq2 : (0 : Int) < (qs2.length : Int) := by omega
              have hfull : ((is2.length : Nat) : Int) = K := by
                have h1 := HJI.out
                refine h1.2.2.2.2 ?_
                have h2 := congrArg List.length h1.2.1
                rw [seg_len] at h2; omega
              have hfull2 : (((is2.length : Nat) : Int) != K) = false := by simpa using hfull
              have Hfull := hidp hfull
              clear hfull
              go_wp2_with fail
              refine (gline_eq hc1).mono ?_
              rintro e wc2 ⟨Ac2, cc2, rfl, oc2, hb⟩
              have hc2 := hc1.over hb
              have uc2 := uc1.over hb
              clear hc1 uc1 hb oc2
              go_wp2_with fail
              refine (gin_eq hc2).mono ?_
              rintro e wc3 ⟨Ac3, cc3, rfl, oc3, hb⟩
              have hc3 := hc2.over hb
              have uc3 := uc2.over hb
              clear hc2 uc2 hb oc3
              go_wp2_with fail
              go_roundg (gk - 1)
              case measure => omega
              case rel => exact ⟨nx + 1, (nx + 1), _, _, F3, by omega, by omega, by go_num, by go_num, HJI, hc3, uc3⟩
        · have hfull : (is.length : Int) = K := by omega
          have HJ := hidp (HI.out.wait hfull)
          have HO := hidp HI.out.out
          have HF := hidp hfull
          clear hfull
          have hq := HJ.out.2
          replace HJ := hidp HJ.out.1
          have hpos : 0 < is.length := by have := HF.out; omega
          go_wp2_with fail
          refine (ask_wait (id := (k : Int)) hg (by unfold I64; omega) HO.out.1 HO.out.2 HF.out (by omega)).mono ?_
          intro e w3 hp
          obtain ⟨rfl, F3, h3, u3⟩ := hu.step hp
          clear hp hg hu
          go_wp2_with fail
          refine (gline_eq h3).mono ?_
          rintro e w4 ⟨A4, c4, rfl, o4, hb⟩
          have h4 := h3.over hb
          have u4 := u3.over hb
          clear h3 u3 hb o4
          obtain ⟨q, Hq, hq1⟩ : ∃ q : Nat, Hid ((qs ++ [(k : Int)]).length = q) ∧ 1 ≤ q := ⟨_, rfl, by simp⟩
          rw [Hq.out]
          have hq0 : ((q : Int) == 0) = false := by simp; omega
          clear hq
          go_wp2_with fail
          refine (ghas_eq (id := (k : Int)) (v := false) h4 (by unfold I64; omega) HO.out.1).mono ?_
          rintro e w5 ⟨rfl, hb⟩
          have h5 := h4.over hb
          have u5 := u4.over hb
          clear h4 u4 hb
          go_wp2_with fail
          have HJI := HJ
          have hposi : 0 < is.length := hpos
          obtain ⟨is2, His2⟩ : ∃ l, Hid (is = l) := ⟨_, rfl⟩
          obtain ⟨qs2, Hqs2⟩ : ∃ l, Hid ((qs ++ [(k : Int)]) = l) := ⟨_, rfl⟩
          rw [His2.out, Hqs2.out] at HJI h5
          rw [His2.out] at hposi
          refine (gin_eq h5).mono ?_
          rintro e wb1 ⟨Ab, cb, rfl, ob, hb⟩
          have hgb := h5.over hb
          have ugb := u5.over hb
          clear h5 u5 hb
          obtain ⟨g, off, hA, hc⟩ := HR.out.resolve_left (by intro e; simp [e] at hlt)
          subst hA
          obtain ⟨n, HN⟩ : ∃ n, Hid (zs.getD k 0 = n) := ⟨_, rfl⟩
          obtain ⟨n0, n1⟩ := HN.out ▸ Hz.out k hlt
          have ck : wb1.cell? ⟨g, off + k, none⟩ = some (.int .u8 n) := ugb.old (HN.out ▸ hc k hlt)
          clear hc
          have hfit := hgb.fit
          obtain ⟨f1, f2, f3, f4, f5, f6⟩ := hfit
          obtain ⟨y, Hy, hy1, hy2, HYl⟩ : ∃ y : Nat, Hid (n % (is2.length : Int) = y) ∧ (0 : Int) ≤ (y : Int) ∧ (y : Int) < (is2.length : Int) ∧ y < is2.length := by
            have e1 := Int.emod_nonneg n (show ((is2.length : Nat) : Int) ≠ 0 by omega)
            have e2 := Int.emod_lt_of_pos n (show (0 : Int) < ((is2.length : Nat) : Int) by omega)
            exact ⟨(n % (is2.length : Int)).toNat, hidp (by omega), by omega, by omega, by omega⟩
          have hlenp : (0 : Int) < ((is2.length : Nat) : Int) := by omega
          obtain ⟨g2, off2, hA2, hc2⟩ := (Lies.row (B := wb1.heap.size) (Lies.of_own ob.1)).resolve_left (by intro e; simp [e] at hposi)
          subst hA2
          obtain ⟨x, HX⟩ : ∃ x, Hid (is2.getD y 0 = x) := ⟨_, rfl⟩
          have cy : wb1.cell? ⟨g2, off2 + y, none⟩ = some (.int .i64 x) := HX.out ▸ hc2 y HYl
          have Hin : Hid (plK is2 x = true) := hidp (HX.out ▸ plK_getD HYl)
          have Ix : I64 x := HX.out ▸ f5 _ (by simp [List.getD, HYl])
          clear hc2 ob
          by_cases h3 : 0 < n % 3
          · have hyo : n % (is2.length : Int) = (y : Int) := Hy.out
            go_wp2_with fail
            clear hyo
            cases qs2 with
            | nil =>
              have HJ2 := hidp (HJI.out.none_ x)
              refine (leave_none (id := x) hgb Ix Hin.out).mono ?_
              intro e wl hp
              obtain ⟨rfl, Fl, hl1, ul1⟩ := ugb.step hp
              clear hp hgb ugb
              go_wp2_with fail
              refine (gin_eq hl1).mono ?_
              rintro e wc1 ⟨Ac1, cc1, rfl, oc1, hb⟩
              have hc1 := hl1.over hb
              have uc1 := ul1.over hb
              clear hl1 ul1 hb oc1
              have gf := hc1.fit.1
              go_wp2_with fail
              refine (gline_eq hc1).mono ?_
              rintro e wc2 ⟨Ac2, cc2, rfl, oc2, hb⟩
              have hc2 := hc1.over hb
              have uc2 := uc1.over hb
              clear hc1 uc1 hb oc2
              go_wp2_with fail
              go_roundg (gk - 1)
              case measure => omega
              case rel => exact ⟨k + 1, nx, _, _, Fl, by omega, by omega, by go_num, by go_num, HJ2, hc2, uc2⟩
            | cons z qs3 =>
              obtain ⟨hz, HJ2⟩ := HJI.out.next Hin.out
              replace HJ2 := hidp HJ2
              replace hz : z = (nx : Int) := by omega
              subst hz
              refine (leave_next (id := x) hgb Ix Hin.out).mono ?_
              intro e wl hp
              obtain ⟨rfl, Fl, hl1, ul1⟩ := ugb.step hp
              clear hp hgb ugb
              go_wp2_with fail
              refine (gin_eq hl1).mono ?_
              rintro e wc1 ⟨Ac1, cc1, rfl, oc1, hb⟩
              have hc1 := hl1.over hb
              have uc1 := ul1.over hb
              clear hl1 ul1 hb oc1
              have gf := hc1.fit.1
              obtain ⟨L, HLn⟩ : ∃ L, Hid ((besides is2 x ++ [(nx : Int)]).length = L) := ⟨_, rfl⟩
              rw [HLn.out] at gf ⊢
              by_cases hq0 : qs3 = []
              · rw [hq0] at hc1
                go_wp2_with fail
                refine (gline_eq hc1).mono ?_
                rintro e wc2 ⟨Ac2, cc2, rfl, oc2, hb⟩
                have hc2 := hc1.over hb
                have uc2 := uc1.over hb
                clear hc1 uc1 hb oc2
                go_wp2_with fail
                go_roundg (gk - 1)
                case measure => omega
                case rel => exact ⟨k + 1, (nx + 1), _, _, Fl, by omega, by omega, by go_num, by go_num, hidp (by have := HJ2.out; rw [hq0] at this; exact this), hc2, uc2⟩
              · have hlq : 0 < qs3.length := List.length_pos_iff.2 hq0
                have hlq2 : (0 : Int) < (qs3.length : Int) := by omega
                have hfull : (((besides is2 x ++ [(nx : Int)]).length : Nat) : Int) = K := by
                  have h1 := HJ2.out
                  refine h1.2.2.2.2 ?_
                  have h2 := congrArg List.length h1.2.1
                  rw [seg_len] at h2; omega
                rw [HLn.out] at hfull
                have hfull2 : (((L : Nat) : Int) != K) = false := by simpa using hfull
                have Hfull := hidp hfull
                clear hfull
                go_wp2_with fail
                refine (gline_eq hc1).mono ?_
                rintro e wc2 ⟨Ac2, cc2, rfl, oc2, hb⟩
                have hc2 := hc1.over hb
                have uc2 := uc1.over hb
                clear hc1 uc1 hb oc2
                go_wp2_with fail
                refine (gin_eq hc2).mono ?_
                rintro e wc3 ⟨Ac3, cc3, rfl, oc3, hb⟩
                rw [HLn.out]
                have hc3 := hc2.over hb
                have uc3 := uc2.over hb
                clear hc2 uc2 hb oc3
                go_wp2_with fail
                go_roundg (gk - 1)
                case measure => omega
                case rel => exact ⟨k + 1, (nx + 1), _, _, Fl, by omega, by omega, by go_num, by go_num, HJ2, hc3, uc3⟩
          · have h3' : n % 3 ≤ 0 := by omega
            go_wp2_with fail
            refine (gin_eq hgb).mono ?_
            rintro e wc1 ⟨Ac1, cc1, rfl, oc1, hb⟩
            have hc1 := hgb.over hb
            have uc1 := ugb.over hb
            clear hgb ugb hb oc1
            have gf := hc1.fit.1
            by_cases hq0 : qs2 = []
            · rw [hq0] at hc1
              go_wp2_with fail
              refine (gline_eq hc1).mono ?_
              rintro e wc2 ⟨Ac2, cc2, rfl, oc2, hb⟩
              have hc2 := hc1.over hb
              have uc2 := uc1.over hb
              clear hc1 uc1 hb oc2
              go_wp2_with fail
              go_roundg (gk - 1)
              case measure => omega
              case rel => exact ⟨k + 1, nx, _, _, F3, by omega, by omega, by go_num, by go_num, hidp (by have := HJI.out; rw [hq0] at this; exact this), hc2, uc2⟩
            · have hlq : 0 < qs2.length := List.length_pos_iff.2 hq0
              have hlq2 : (0 : Int) < (qs2.length : Int) := by omega
              have hfull : ((is2.length : Nat) : Int) = K := by
                have h1 := HJI.out
                refine h1.2.2.2.2 ?_
                have h2 := congrArg List.length h1.2.1
                rw [seg_len] at h2; omega
              have hfull2 : (((is2.length : Nat) : Int) != K) = false := by simpa using hfull
              have Hfull := hidp hfull
              clear hfull
              go_wp2_with fail
              refine (gline_eq hc1).mono ?_
              rintro e wc2 ⟨Ac2, cc2, rfl, oc2, hb⟩
              have hc2 := hc1.over hb
              have uc2 := uc1.over hb
              clear hc1 uc1 hb oc2
              go_wp2_with fail
              refine (gin_eq hc2).mono ?_
              rintro e wc3 ⟨Ac3, cc3, rfl, oc3, hb⟩
              have hc3 := hc2.over hb
              have uc3 := uc2.over hb
              clear hc2 uc2 hb oc3
              go_wp2_with fail
              go_roundg (gk - 1)
              case measure => omega
              case rel => exact ⟨k + 1, nx, _, _, F3, by omega, by omega, by go_num, by go_num, HJI, hc3, uc3⟩
      · obtain rfl : k = zs.length := by omega
        go_wp2_with fail
        go_ret
        exact ⟨rfl, hu.below⟩

theorem own : ownKnob Try.prog.godebug = none := by kernel_rfl
theorem laidOut : laidOutB Try.prog = true := by kernel_rfl

/-! THE ROW's STEP -/
set_option maxRecDepth 100000 in
theorem lifted (os : Os) (started : os.Started) (H : Type) (enc : TypeId × Value → H) :
    ReturnsInHanded {} Try.checked os 4 .any (Rows.gateFairSpec.pre6 enc Try.prog Try.f4 Rows.gateFairRow.domain false) (Rows.gateFairSpec.post enc Try.prog Try.f4 false true false false) := by
  refine returnsInHanded_of_change (C := Try.checked) own started (by kernel_rfl) Try.func4
    (ChangeSpec.witness6 (enc := enc) (C := Try.checked) false ⟨#[], #[.int .u8 0, .slice none 0 0], []⟩ 8 (by kernel_rfl) (by kernel_rfl) (by kernel_rfl) (by kernel_rfl)) ?_
  intro W base args ds gs before hval0 hW hcnd _
  have hval : ∀ (j : Nat) t v, Try.f4.params[j]? = some t → args[j]? = some v → Value.okWide Try.prog W .any base t v := hval0
  have hW' := hW
  obtain ⟨p, q, hA0, hV, rfl, hfz, hnd⟩ := hW
  have hA : DataW.TrodAll enc Try.prog W 0 (fun _ => true) true Try.f4.params.toList args.toList ds p := hA0
  rw [Try.params4] at hA hval
  obtain ⟨v0, vs0, d0, ds0, p0, q0, hargs, rfl, rfl, h0, r0⟩ := trodAll_cons hA
  obtain ⟨v1, vs1, d1, ds1, p1, q1, rfl, rfl, rfl, h1, r1⟩ := trodAll_cons r0
  obtain ⟨rfl, rfl, rfl⟩ := trodAll_nil r1
  obtain rfl : args = #[v0, v1] := by cases args; simp_all
  obtain ⟨rfl, rfl⟩ := trodVars_none hV
  obtain ⟨a0, rfl, rfl, rfl, w0⟩ := open_int Try.underlying5 (hval 0 5 v0 rfl rfl) h0
  obtain ⟨a1, len1, cap1, rfl⟩ := okWide_slice Try.underlying47 (hval 1 47 v1 rfl rfl)
  have k1 := h1
  have lt1 : ∀ x ∈ p1, x.block < W.heap.size := by obtain ⟨m, hm⟩ := k1; exact DataW.trod_lt m _ _ _ hm
  obtain ⟨z1, w1⟩ : ∃ zs, IsRow .u8 W a1 len1 cap1 zs := by
    obtain ⟨fuel, hf⟩ := h1
    rcases open_ints Try.underlying47 Try.underlying5 (by kernel_rfl) hf with ⟨hcs, _⟩ | ⟨x, l, c, zs, hcs, _, hl, hm, hz, _, hcell, hwz⟩
    · simp [Value.cells] at hcs
      obtain ⟨rfl, rfl, rfl⟩ := hcs
      exact ⟨[], .inl ⟨rfl, rfl, rfl, rfl⟩⟩
    · simp [Value.cells] at hcs
      obtain ⟨rfl, rfl, rfl⟩ := hcs
      exact ⟨zs, .inr ⟨_, rfl, hl, hm, by simpa using hz, hcell, hwz⟩⟩
  clear hA0 hval0
  refine (walk a0 a1 len1 cap1 z1 W w0 w1).mono fun e W' ⟨he, bel⟩ => ?_
  subst he
  exact ⟨_, rfl, _, _, _, [], _, [], hW', trodAll_mk1 (shut_bool Try.underlying4 _), (trodAll_cons_mk (shut_int Try.underlying5 w0) (trodAll_cons_mk (Below.trod laidOut (by kernel_rfl) (of_decide_eq_true (by kernel_rfl)) k1 bel lt1) trodAll_mk0)), rfl, bel.frame _, fun h => by cases h⟩

theorem over : Rows.gateFairRow.holds Try.pinned (OpenSpec.ofChange Rows.gateFairSpec) :=
  OpenClaim.holds_of_wide 4 Try.f4 rfl rfl rfl rfl rfl rfl rfl ⟨rfl, rfl, rfl, rfl, rfl⟩ rfl rfl rfl rfl rfl (by kernel_rfl) Try.func4 (by kernel_rfl)
    (of_decide_eq_true (by kernel_rfl)) (by unfold Func.isWrapper; first | (rw [if_pos (by decide +kernel)]; kernel_rfl) | (rw [if_neg (by decide +kernel)]; exact ⟨rfl, rfl⟩))
    (fun os started H enc _ => lifted os started H enc)

/-- THE STATEMENT -/
theorem proved : Rows.GateFairSaid := over
#print axioms proved
end Go.Proofs.Ytilnkbmbbfdboaa.gateFair

