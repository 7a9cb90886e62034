/- RankDrops: one that is dropped doesn't go out; the others do, in order. No condition. -/
import Derived.Test.YtpcbonljbfbdmaaKnown4
import Derived.Test.YtpcbonljbfbdmaaRankG
set_option maxHeartbeats 1000000
set_option maxRecDepth 100000
namespace Go.Proofs.Ytpcbonljbfbdmaa.rankDrops
open Go.ChangeShapes Go.WideShapes Go.ChangeAt Go.RowKit
open Go.ChangeMaps (open_string shut_string)
set_option linter.unusedVariables false

/-- THE WALK: the Go text returns true, and writes nothing that was there. -/
theorem walk (a0 : Option Addr) (len0 cap0 : Nat) (z0 : List Int) (a1 : Int) (w : World) (w0 : IsRow .u8 w a0 len0 cap0 z0) (w1 : (Lit.int .u8 a1).wf = true) :
    Calls Try.prog 6 #[.slice a0 len0 cap0, .int .u8 a1] w fun e w' => e = .returned (.bool true) ∧ Below w.heap.size w w' := by
  obtain ⟨hr, hl, hm, hz⟩ := w0.row
  have hcap : len0 ≤ cap0 := by rcases w0 with ⟨_, rfl, rfl, _⟩ | ⟨_, _, h, _⟩ <;> omega
  clear w0
  obtain ⟨zs, hzs⟩ : ∃ zs, z0.take len0 = zs := ⟨_, rfl⟩
  rw [hzs] at hr hl hz
  clear hzs
  subst hl
  unfold maxLen at hm
  have b1 : 0 ≤ a1 ∧ a1 ≤ 255 := by simp [Lit.wf, IntKind.min, IntKind.max, IntKind.signed, IntKind.bits] at w1; omega
  obtain ⟨q0, q1⟩ := b1
  clear w1
  have Hz := hidp (u8_bd hz)
  clear hz
  have HR := hidp hr
  clear hr
  by_cases h64 : 40 < zs.length
  · have f1 : decide ((40 : Int) < (zs.length : Int)) = true := by simp; omega
    go_enter Try.func6, Try.ntmps6
    go_wp2_with fail
    refine (known4_any _).mono ?_
    rintro e w1 ⟨rfl, hb1⟩
    go_wp2_with fail
    go_ret
    exact ⟨rfl, hb1⟩
  by_cases hz0 : zs.length = 0
  · have f1 : decide ((40 : Int) < (zs.length : Int)) = false := by simp; omega
    go_enter Try.func6, Try.ntmps6
    go_wp2_with fail
    refine (known4_any _).mono ?_
    rintro e w1 ⟨rfl, hb1⟩
    go_wp2_with fail
    go_ret
    exact ⟨rfl, hb1⟩
  have f1 : decide ((40 : Int) < (zs.length : Int)) = false := by simp; omega
  have f2 : ((zs.length : Int) == 0) = false := by rw [beq_eq_false_iff_ne]; omega
  obtain ⟨key, Hkey⟩ : ∃ key : Nat → Int, Hid (key = fun i => zs.getD i 0) := ⟨_, hidp rfl⟩
  go_enter Try.func6, Try.ntmps6
  go_wp2_with fail
  refine (known4_any _).mono ?_
  rintro e w1 ⟨rfl, hb1⟩
  go_wp2_with fail
  refine (rnew_any 64 _ (by unfold I64; decide)).mono ?_
  rintro e w2 ⟨rfl, rfl⟩
  rw [show roomR 64 = 64 from rfl]
  have hk := hidp (RkUp.new_ (R := 64) hb1)
  obtain ⟨b, hbb⟩ : ∃ b, w1.heap.size = b := ⟨_, rfl⟩
  obtain ⟨u0, hu0⟩ : ∃ u0, w1.alloc (.cells #[.int .i64 64, .int .i64 0, .slice none 0 0] 53) = u0 := ⟨_, rfl⟩
  rw [hu0] at hk ⊢
  rw [hbb] at hk ⊢
  clear hbb hu0 hb1
  go_wp2_with fail
  go_loopg [6] zs.length (fun g i wr => ∃ (k : Nat) (l : List EntM) (A : Option Addr) (c : Nat), k + g = zs.length ∧ i = .int .i64 k ∧ Hid (RsIn key k l ∧ ∀ j : Nat, j < k → ∃ x ∈ l, x.id = (j : Int)) ∧ Hid (l.length = k) ∧ Hid (RkUp w.heap.size w wr b 64 k l A c))
  case atStart => exact ⟨0, [], none, 0, by omega, rfl, hidp ⟨RsIn.nil key, fun j hj => absurd hj (by omega)⟩, hidp rfl, hk⟩
  case round =>
    obtain ⟨k, l, A, c, hkg, rfl, HI, HL, HU⟩ := hrel
    clear hk
    by_cases hlt : k < zs.length
    · obtain ⟨g, off, hA, hc⟩ := HR.out.resolve_left (by intro e; simp [e] at hlt)
      subst hA
      obtain ⟨n, HN⟩ : ∃ n, Hid (zs.getD k 0 = n) := ⟨_, rfl⟩
      obtain ⟨n0, n1⟩ := HN.out ▸ Hz.out k hlt
      have ck : wr.cell? ⟨g, off + k, none⟩ = some (.int .u8 n) := HU.out.old (HN.out ▸ hc k hlt)
      clear hc
      go_wp2_with fail
      refine (rput_any (k := n) (i := (k : Int)) HU.out.rk (by rw [HL.out]; omega) (by omega) (by omega)).mono ?_
      intro e w3 hp
      obtain ⟨rfl, A3, c3, h3⟩ := HU.out.put hp
      have HI3 : Hid (RsIn key (k + 1) (riseL (l ++ [(⟨n, k, k⟩ : EntM)]) l.length) ∧ ∀ j : Nat, j < k + 1 → ∃ x ∈ riseL (l ++ [(⟨n, k, k⟩ : EntM)]) l.length, x.id = (j : Int)) := hidp ⟨HI.out.1.put (y := n) (by rw [Hkey.out]; dsimp only; rw [HN.out]), fun j hj => by
        have hp := riseL_perm (l ++ [(⟨n, k, k⟩ : EntM)]) l.length (by simp)
        by_cases e : j = k
        · subst e; exact ⟨⟨n, j, j⟩, hp.mem_iff.2 (by simp), rfl⟩
        · obtain ⟨x, hx, e2⟩ := HI.out.2 j (by omega)
          exact ⟨x, hp.mem_iff.2 (List.mem_append_left _ hx), e2⟩⟩
      have HL3 : Hid ((riseL (l ++ [(⟨n, k, k⟩ : EntM)]) l.length).length = k + 1) := hidp (by rw [riseL_len _ _ (by simp)]; simp [HL.out])
      have HU3 := hidp h3
      clear hp ck h3 HU HI HL
      go_wp2_with fail
      go_roundg (gk - 1)
      case measure => omega
      case rel => exact ⟨k + 1, _, A3, c3, by omega, by go_num, HI3, HL3, HU3⟩
    · obtain rfl : k = zs.length := by omega
      clear hlt hkg
      have hd0 : ¬ (zs.length : Int) = 0 := by omega
      have hNn : ¬ zs.length = 0 := hz0
      obtain ⟨y, HY, y0, y1⟩ : ∃ y : Nat, Hid (a1 % (zs.length : Int) = (y : Int)) ∧ (0 : Int) ≤ (y : Int) ∧ y < zs.length := by
        have e1 := Int.emod_nonneg a1 (show ((zs.length : Nat) : Int) ≠ 0 by omega)
        have e2 := Int.emod_lt_of_pos a1 (show (0 : Int) < ((zs.length : Nat) : Int) by omega)
        exact ⟨(a1 % (zs.length : Int)).toNat, hidp (by omega), by omega, by omega⟩
      have hyo : a1 % (zs.length : Int) = (y : Int) := HY.out
      obtain ⟨b1, b2, b3, b4, b5, b6⟩ := HI.out.1.drop (HI.out.2 y y1)
      have HB1 := hidp b1
      have HI2 := hidp b2
      have HP2 := hidp b3
      have HL2 := hidp b4
      have HB5 := hidp b5
      have HB6 := hidp b6
      clear b1 b2 b3 b4 b5 b6
      go_wp2_with fail
      clear hyo
      refine (all_any HU.out.rk (by rw [HL.out]; omega)).mono ?_
      rintro e w5 ⟨A5, c5, S, hp5, hs5, rfl, hn5, hb5⟩
      have HU5 := hidp (HU.out.over hb5)
      have HN5 := hidp hn5
      have HS : Hid (UpRow S) := hidp (upRow_of hs5 (HI.out.1.dist.perm hp5))
      have HPS : Hid ((dropL l y).Perm (S.filter fun x => decide (x.id ≠ (y : Int)))) := hidp (HP2.out.trans (hp5.symm.filter _))
      have HLS : Hid (S.length = zs.length) := hidp (by rw [hp5.length_eq]; exact HL.out)
      have HBs : Hid (∀ i ∈ b :: fp A, i < wr.heap.size) := hidp HU.out.lts
      rw [HL.out] at HN5 ⊢
      clear hp5 hs5 hn5 hb5 HU HP2
      obtain ⟨B5, hB5⟩ : ∃ B5, wr.heap.size = B5 := ⟨_, rfl⟩
      rw [hB5] at HN5 HBs
      clear hB5
      have Hdis : Hid (∀ k ∈ fp A5, k ∉ b :: fp A) := hidp (fun k h1 h2 => by have := HN5.out.lts k h1; have := HBs.out k h2; omega)
      go_wp2_with fail
      rw [HY.out]
      with_reducible refine (drop_any (id := (y : Int)) HU5.out.rk (by rw [HL.out]; omega)).mono ?_
      rintro e w6 ⟨rfl, h6, T6⟩
      rw [HB1.out]
      have HU6 := hidp (HU5.out.took h6 T6)
      have HN6 := hidp (HN5.out.turned T6 Hdis.out)
      clear h6 T6 HU5 HN5
      go_wp2_with fail
      with_reducible refine (drop_any (id := (y : Int)) HU6.out.rk (by have := HL2.out; rw [HL.out] at this; omega)).mono ?_
      rintro e w7 ⟨rfl, h7, T7⟩
      rw [HB6.out] at h7
      rw [HB5.out]
      dsimp only [Option.isSome]
      have HU7 := hidp (HU6.out.took h7 T7)
      have HN7 := hidp (HN6.out.turned T7 Hdis.out)
      clear h7 T7 HU6 HN6
      have hlen : ((dropL l y).length : Int) = (zs.length : Int) - 1 := by have := HL2.out; rw [HL.out] at this; omega
      have HLN := hidp hlen
      have wn : IntKind.i64.wrap ((zs.length : Int) - 1) = (zs.length : Int) - 1 := IntWalk.i64_in _ (by omega)
      have HPS2 : Hid ((dropL l y).Perm ((S.drop 0).filter fun x => decide (x.id ≠ (y : Int)))) := hidp HPS.out
      obtain ⟨l2, Hl2⟩ : ∃ l2, Hid (dropL l y = l2) := ⟨_, hidp rfl⟩
      rw [Hl2.out] at HU7 HI2 HPS2 HLN
      clear hlen HL2 HPS HB5 HB6 HB1 HI
      go_wp2_with fail
      refine (rlen_any HU7.out.rk).mono ?_
      rintro e w8 ⟨rfl, rfl⟩
      rw [HLN.out]
      go_wp2_with fail
      obtain ⟨wo, rfl⟩ : ∃ wo : World, wo = w7 := ⟨_, rfl⟩
      go_loopg [9] zs.length (fun g i wr => ∃ (j : Nat) (l3 : List EntM), j + g = zs.length ∧ i = .int .i64 j ∧ Hid (RsIn key zs.length l3) ∧ Hid (l3.Perm ((S.drop j).filter fun x => decide (x.id ≠ (y : Int)))) ∧ Hid (NumsAt B5 wr A5 zs.length c5 (S.map EntM.id)) ∧ Hid (RkUp w.heap.size w wr b 64 zs.length l3 A c))
      case atStart => exact ⟨0, l2, by omega, rfl, HI2, HPS2, HN7, HU7⟩
      case round =>
        clear HI2 HPS2 HN7 HU7
        obtain ⟨j, l3, hjn, rfl, HI3, HP3, HN3, HU3⟩ := hrel
        by_cases hjl : j < zs.length
        · have hjS : j < S.length := by rw [HLS.out]; exact hjl
          obtain ⟨q, Hq⟩ : ∃ q, Hid ((S.map EntM.id).getD j 0 = q) := ⟨_, hidp rfl⟩
          obtain ⟨sj, hsj⟩ : ∃ sj, S[j] = sj := ⟨_, rfl⟩
          have HqS : Hid (sj.id = q) := hidp (by rw [← Hq.out, ← hsj]; simp [List.getD, hjS])
          obtain ⟨g5, off5, hA5, cy⟩ := HN3.out.cell (k := j) (by rw [List.length_map, HLS.out]; exact hjl)
          rw [Hq.out] at cy
          subst hA5
          have jI : (j : Int) < (zs.length : Int) := by omega
          have HP4 : Hid (S.drop j = sj :: S.drop (j + 1)) := hidp (by rw [← hsj]; exact List.drop_eq_getElem_cons hjS)
          clear hsj hjS
          by_cases he : q = (y : Int)
          · have f3 : (q == (y : Int)) = true := by simpa using he
            have HP5 : Hid (l3.Perm ((S.drop (j + 1)).filter fun x => decide (x.id ≠ (y : Int)))) := hidp (by
              have := HP3.out
              rw [HP4.out, List.filter_cons_of_neg (fun h => (of_decide_eq_true h) (by rw [HqS.out]; exact he))] at this
              exact this)
            clear he HP3
            go_wp2_with fail
            go_roundg (gk - 1)
            case measure => omega
            case rel => exact ⟨j + 1, l3, by omega, by go_num, HI3, HP5, HN3, HU3⟩
          · have f3 : (q == (y : Int)) = false := by simpa using he
            obtain ⟨T, HT⟩ : ∃ T, Hid ((S.drop (j + 1)).filter (fun x => decide (x.id ≠ (y : Int))) = T) := ⟨_, hidp rfl⟩
            have hp5 : l3.Perm (sj :: T) := by
              have := HP3.out
              rw [HP4.out, List.filter_cons_of_pos (p := fun x : EntM => decide (x.id ≠ (y : Int))) (decide_eq_true (by rw [HqS.out]; exact he)), HT.out] at this
              exact this
            have hlt3 : ∀ x ∈ T, lessE sj x = true := fun x hx => by
              rw [← HT.out] at hx
              have hx2 := (List.mem_filter.1 hx).1
              have hpw : (S.drop j).Pairwise fun a b => lessE a b = true := HS.out.drop
              rw [HP4.out] at hpw
              exact (List.pairwise_cons.1 hpw).1 x hx2
            obtain ⟨e1, hp6⟩ := first_of HI3.out.heap HI3.out.dist hp5 hlt3
            have hl0 : 0 < l3.length := by rw [hp5.length_eq]; simp
            have hl1 : l3.length ≤ 64 := by
              have h1 := HP3.out.length_eq
              have h2 := List.length_filter_le (fun x : EntM => decide (x.id ≠ (y : Int))) (S.drop j)
              rw [List.length_drop, HLS.out] at h2
              omega
            have HE1 : Hid ((l3.getD 0 default).id = q) := hidp (by rw [show l3.getD 0 default = sj from e1]; exact HqS.out)
            have HP6 : Hid ((removeL l3 0).Perm ((S.drop (j + 1)).filter fun x => decide (x.id ≠ (y : Int)))) := hidp (by rw [HT.out]; exact hp6)
            obtain ⟨_, _, _, hI4, _⟩ := HI3.out.behind hl0
            have HI4 := hidp hI4
            clear e1 hp6 hlt3 hp5 hI4 HP3 he HP4
            go_wp2_with fail
            refine (rtake_cons HU3.out.rk hl0 hl1).mono ?_
            rintro e w9 ⟨rfl, h9, T9⟩
            rw [HE1.out]
            have HU4 := hidp (HU3.out.took h9 T9)
            have HN4 := hidp (HN3.out.turned T9 Hdis.out)
            have cy9 : w9.cell? ⟨g5, off5 + j, none⟩ = some (.int .i64 q) := T9.cell cy (Hdis.out g5 (by simp [fp]))
            have f4 : (q != q) = false := by simp
            clear h9 T9 HU3 HN3 cy hl0 hl1 HI3
            go_wp2_with fail
            go_roundg (gk - 1)
            case measure => omega
            case rel => exact ⟨j + 1, _, by omega, by go_num, HI4, HP6, HN4, HU4⟩
        · have jI : ¬ (j : Int) < (zs.length : Int) := by omega
          have hl3 : l3 = [] := by
            have h1 := HP3.out
            rw [List.drop_of_length_le (by rw [HLS.out]; omega)] at h1
            exact List.Perm.eq_nil h1
          subst hl3
          clear HI3 HP3 HN3
          go_wp2_with fail
          refine (rlen_any HU3.out.rk).mono ?_
          rintro e w9 ⟨rfl, rfl⟩
          go_wp2_with fail
          go_ret
          exact ⟨rfl, HU3.out.up.below⟩

theorem own : ownKnob Try.prog.godebug = none := by kernel_rfl
theorem laidOut : laidOutB Try.prog = true := by kernel_rfl

/-! THE ROW's STEP -/
set_option maxRecDepth 100000 in
theorem lifted (os : Os) (started : os.Started) (H : Type) (enc : TypeId × Value → H) :
    ReturnsInHanded {} Try.checked os 6 .any (Rows.rankDropsSpec.pre6 enc Try.prog Try.f6 Rows.rankDropsRow.domain false) (Rows.rankDropsSpec.post enc Try.prog Try.f6 false true false false) := by
  refine returnsInHanded_of_change (C := Try.checked) own started (by kernel_rfl) Try.func6
    (ChangeSpec.witness6 (enc := enc) (C := Try.checked) false ⟨#[], #[.slice none 0 0, .int .u8 0], []⟩ 8 (by kernel_rfl) (by kernel_rfl) (by kernel_rfl) (by kernel_rfl)) ?_
  intro W base args ds gs before hval0 hW hcnd _
  have hval : ∀ (j : Nat) t v, Try.f6.params[j]? = some t → args[j]? = some v → Value.okWide Try.prog W .any base t v := hval0
  have hW' := hW
  obtain ⟨p, q, hA0, hV, rfl, hfz, hnd⟩ := hW
  have hA : DataW.TrodAll enc Try.prog W 0 (fun _ => true) true Try.f6.params.toList args.toList ds p := hA0
  rw [Try.params6] at hA hval
  obtain ⟨v0, vs0, d0, ds0, p0, q0, hargs, rfl, rfl, h0, r0⟩ := trodAll_cons hA
  obtain ⟨v1, vs1, d1, ds1, p1, q1, rfl, rfl, rfl, h1, r1⟩ := trodAll_cons r0
  obtain ⟨rfl, rfl, rfl⟩ := trodAll_nil r1
  obtain rfl : args = #[v0, v1] := by cases args; simp_all
  obtain ⟨rfl, rfl⟩ := trodVars_none hV
  obtain ⟨a0, len0, cap0, rfl⟩ := okWide_slice Try.underlying45 (hval 0 45 v0 rfl rfl)
  have k0 := h0
  have lt0 : ∀ x ∈ p0, x.block < W.heap.size := by obtain ⟨m, hm⟩ := k0; exact DataW.trod_lt m _ _ _ hm
  obtain ⟨z0, w0⟩ : ∃ zs, IsRow .u8 W a0 len0 cap0 zs := by
    obtain ⟨fuel, hf⟩ := h0
    rcases open_ints Try.underlying45 Try.underlying5 (by kernel_rfl) hf with ⟨hcs, _⟩ | ⟨x, l, c, zs, hcs, _, hl, hm, hz, _, hcell, hwz⟩
    · simp [Value.cells] at hcs
      obtain ⟨rfl, rfl, rfl⟩ := hcs
      exact ⟨[], .inl ⟨rfl, rfl, rfl, rfl⟩⟩
    · simp [Value.cells] at hcs
      obtain ⟨rfl, rfl, rfl⟩ := hcs
      exact ⟨zs, .inr ⟨_, rfl, hl, hm, by simpa using hz, hcell, hwz⟩⟩
  obtain ⟨a1, rfl, rfl, rfl, w1⟩ := open_int Try.underlying5 (hval 1 5 v1 rfl rfl) h1
  clear hA0 hval0
  refine (walk a0 len0 cap0 z0 a1 W w0 w1).mono fun e W' ⟨he, bel⟩ => ?_
  subst he
  exact ⟨_, rfl, _, _, _, [], _, [], hW', trodAll_mk1 (shut_bool Try.underlying4 _), (trodAll_cons_mk (Below.trod laidOut (by kernel_rfl) (of_decide_eq_true (by kernel_rfl)) k0 bel lt0) (trodAll_cons_mk (shut_int Try.underlying5 w1) trodAll_mk0)), rfl, bel.frame _, fun h => by cases h⟩

theorem over : Rows.rankDropsRow.holds Try.pinned (OpenSpec.ofChange Rows.rankDropsSpec) :=
  OpenClaim.holds_of_wide 6 Try.f6 rfl rfl rfl rfl rfl rfl rfl ⟨rfl, rfl, rfl, rfl, rfl⟩ rfl rfl rfl rfl rfl (by kernel_rfl) Try.func6 (by kernel_rfl)
    (of_decide_eq_true (by kernel_rfl)) (by unfold Func.isWrapper; first | (rw [if_pos (by decide +kernel)]; kernel_rfl) | (rw [if_neg (by decide +kernel)]; exact ⟨rfl, rfl⟩))
    (fun os started H enc _ => lifted os started H enc)

/-- THE STATEMENT -/
theorem proved : Rows.RankDropsSaid := over
#print axioms proved
end Go.Proofs.Ytpcbonljbfbdmaa.rankDrops

