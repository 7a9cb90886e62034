/- RankMixed: puts and takes in turn: what goes out is never behind what is left. No condition. -/
import Derived.Test.YtpcbonljbfbdmaaKnown4
import Derived.Test.YtpcbonljbfbdmaaRankG
set_option maxHeartbeats 4000000
set_option maxRecDepth 100000
namespace Go.Proofs.Ytpcbonljbfbdmaa.rankMixed
open Go.ChangeShapes Go.WideShapes Go.ChangeAt Go.RowKit
open Go.ChangeMaps (open_string shut_string)
set_option linter.unusedVariables false

/-- THE WALK: the Go text returns true, and writes nothing that was there. -/
theorem walk (a0 : Option Addr) (len0 cap0 : Nat) (z0 : List Int) (a1 : Int) (w : World) (w0 : IsRow .u8 w a0 len0 cap0 z0) (w1 : (Lit.int .u16 a1).wf = true) :
    Calls Try.prog 5 #[.slice a0 len0 cap0, .int .u16 a1] w fun e w' => e = .returned (.bool true) ∧ Below w.heap.size w w' := by
  obtain ⟨hr, hl, hm, hz⟩ := w0.row
  have hcap : len0 ≤ cap0 := by rcases w0 with ⟨_, rfl, rfl, _⟩ | ⟨_, _, h, _⟩ <;> omega
  clear w0
  obtain ⟨zs, hzs⟩ : ∃ zs, z0.take len0 = zs := ⟨_, rfl⟩
  rw [hzs] at hr hl hz
  clear hzs
  subst hl
  unfold maxLen at hm
  have Hz := hidp (u8_bd hz)
  clear hz
  have HR := hidp hr
  clear hr
  by_cases h64 : 64 < zs.length
  · go_enter Try.func5, Try.ntmps5
    go_wp2_with fail
    refine (known4_any _).mono ?_
    rintro e w1 ⟨rfl, hb1⟩
    go_wp2_with fail
    go_ret
    exact ⟨rfl, hb1⟩
  · obtain ⟨key, Hkey⟩ : ∃ key : Nat → Int, Hid (key = fun i => zs.getD i 0) := ⟨_, hidp rfl⟩
    go_enter Try.func5, Try.ntmps5
    go_wp2_with fail
    refine (known4_any _).mono ?_
    rintro e w1 ⟨rfl, hb1⟩
    go_wp2_with fail
    refine (rnew_any 64 _ (by unfold I64; decide)).mono ?_
    rintro e w2 ⟨rfl, rfl⟩
    rw [show roomR 64 = 64 from rfl]
    have hk := hidp (RkUp.new_ (R := 64) hb1)
    obtain ⟨b, hbb⟩ : ∃ b, w1.heap.size = b := ⟨_, rfl⟩
    obtain ⟨u0, hu0⟩ : ∃ u0, w1.alloc (.cells #[.int .i64 64, .int .i64 0, .slice none 0 0] 53) = u0 := ⟨_, rfl⟩
    rw [hu0] at hk ⊢
    rw [hbb] at hk ⊢
    clear hbb hu0 hb1
    go_wp2_with fail
    go_loopg [6] zs.length (fun g i wr => ∃ (k : Nat) (l : List EntM) (A : Option Addr) (c : Nat), k + g = zs.length ∧ i = .int .i64 k ∧ Hid (RsIn key k l) ∧ Hid (l.length ≤ k) ∧ Hid (RkUp w.heap.size w wr b 64 k l A c))
    case atStart => exact ⟨0, [], none, 0, by omega, rfl, hidp (RsIn.nil key), hidp (Nat.le_refl _), hk⟩
    case round =>
      obtain ⟨k, l, A, c, hkg, rfl, HI, HL, HU⟩ := hrel
      clear hk
      by_cases hlt : k < zs.length
      · obtain ⟨g, off, hA, hc⟩ := HR.out.resolve_left (by intro e; simp [e] at hlt)
        subst hA
        have HC := hidp hc
        obtain ⟨n, HN⟩ : ∃ n, Hid (zs.getD k 0 = n) := ⟨_, rfl⟩
        obtain ⟨n0, n1⟩ := HN.out ▸ Hz.out k hlt
        have ck : wr.cell? ⟨g, off + k, none⟩ = some (.int .u8 n) := HU.out.old (HN.out ▸ hc k hlt)
        clear hc
        go_wp2_with fail
        refine (rput_any (k := n) (i := (k : Int)) HU.out.rk (by have := HL.out; omega) (by omega) (by omega)).mono ?_
        intro e w3 hp
        obtain ⟨rfl, A3, c3, h3⟩ := HU.out.put hp
        have HI3 := hidp (HI.out.put (y := n) (by rw [Hkey.out]; dsimp only; rw [HN.out]))
        obtain ⟨l3, Hl3⟩ : ∃ l3, Hid (riseL (l ++ [(⟨n, k, k⟩ : EntM)]) l.length = l3) := ⟨_, hidp rfl⟩
        have HL3 : Hid (l3.length = l.length + 1) := hidp (by rw [← Hl3.out, riseL_len _ _ (by simp)]; simp)
        rw [Hl3.out] at h3 HI3
        have HU3 := hidp h3
        have Hle : Hid (l3.length ≤ k + 1) := hidp (by have := HL.out; have := HL3.out; omega)
        clear hp ck h3 HU HI HL
        go_wp2_with fail
        · go_roundg (gk - 1)
          case measure => omega
          case rel => exact ⟨k + 1, l3, A3, c3, by omega, by go_num, HI3, Hle, HU3⟩
        · have hl0 : 0 < l3.length := by rw [HL3.out]; omega
          have hl1 : l3.length ≤ 64 := by have := Hle.out; omega
          obtain ⟨x, hx, hxk, hI4, hbe⟩ := HI3.out.behind hl0
          have HX := hidp hx
          have HI4 := hidp hI4
          have HBe := hidp hbe
          have HL4 : Hid ((removeL l3 0).length ≤ k + 1) := hidp (by rw [removeL_len hl0]; have := Hle.out; omega)
          clear hx hI4 hbe
          refine (rtake_cons HU3.out.rk hl0 hl1).mono ?_
          rintro e w4 ⟨rfl, h4, T4⟩
          rw [HX.out]
          obtain ⟨l4, Hl4⟩ : ∃ l4, Hid (removeL l3 0 = l4) := ⟨_, hidp rfl⟩
          rw [Hl4.out] at h4 HI4 HBe HL4
          have HU4 := hidp (HU3.out.took h4 T4)
          have fx0 : decide ((x : Int) < 0) = false := by simp
          have fx1 : decide ((k : Int) < (x : Int)) = false := by simp; omega
          clear h4 T4 HU3 hl0 hl1 HX HI3 HL3 Hl3 Hl4 Hle
          go_wp2_with fail
          refine (all_any HU4.out.rk (by have := HL4.out; omega)).mono ?_
          rintro e w5 ⟨A5, c5, S, hp5, hs5, rfl, hn5, hb5⟩
          have HU5 := hidp (HU4.out.over hb5)
          have HN5 := hidp hn5
          have HS : Hid (∀ y ∈ S, ∃ j : Nat, y.id = (j : Int) ∧ j < k + 1 ∧ (key x < key j ∨ key x = key j ∧ x < j)) := hidp (fun y hy => HBe.out y (hp5.mem_iff.1 hy))
          have HLS : Hid (S.length = l4.length) := hidp hp5.length_eq
          have HBs : Hid (∀ i ∈ b :: fp A3, i < w4.heap.size) := hidp HU4.out.lts
          obtain ⟨m, hm⟩ : ∃ m, l4.length = m := ⟨_, rfl⟩
          have Hm := hidp hm
          have hm64 : m ≤ 64 := by have := HL4.out; omega
          rw [hm] at HN5 HLS ⊢
          clear hm hp5 hs5 hn5 hb5 HBe HU4 fx0 fx1
          obtain ⟨B5, hB5⟩ : ∃ B5, w4.heap.size = B5 := ⟨_, rfl⟩
          rw [hB5] at HN5 HBs
          clear hB5
          go_wp2_with fail
          obtain ⟨wo, rfl⟩ : ∃ wo : World, wo = wr := ⟨_, rfl⟩
          go_loopg [10] m (fun g2 i wr2 => ∃ j : Nat, j + g2 = m ∧ i = .int .i64 j ∧ Hid (NumsAt B5 wr2 A5 m c5 (S.map EntM.id)) ∧ Hid (RkUp w.heap.size w wr2 b 64 ((k : Int) + 1) l4 A3 c3))
          case atStart => exact ⟨0, by omega, rfl, HN5, HU5⟩
          case round =>
            clear HN5 HU5
            obtain ⟨j, hjm, rfl, HN6, HU6⟩ := hrel
            by_cases hjl : j < m
            · obtain ⟨y, Hy⟩ : ∃ y, Hid ((S.map EntM.id).getD j 0 = y) := ⟨_, hidp rfl⟩
              obtain ⟨g5, off5, hA5, cy⟩ := HN6.out.cell (k := j) (by rw [List.length_map, HLS.out]; exact hjl)
              rw [Hy.out] at cy
              obtain ⟨p, rfl, hpk, hcmp⟩ : ∃ p : Nat, y = (p : Int) ∧ p < k + 1 ∧ (key x < key p ∨ key x = key p ∧ x < p) := by
                have hjS : j < S.length := by rw [HLS.out]; exact hjl
                obtain ⟨p, e1, e2, e3⟩ := HS.out S[j] (List.getElem_mem hjS)
                refine ⟨p, ?_, e2, e3⟩
                rw [← Hy.out, ← e1]
                simp [List.getD, hjS]
              subst hA5
              rw [Hkey.out] at hcmp
              dsimp only at hcmp
              obtain ⟨nx, Hnx⟩ : ∃ n, Hid (zs.getD x 0 = n) := ⟨_, hidp rfl⟩
              obtain ⟨np, Hnp⟩ : ∃ n, Hid (zs.getD p 0 = n) := ⟨_, hidp rfl⟩
              rw [Hnx.out, Hnp.out] at hcmp
              have cx : wr.cell? ⟨g, off + x, none⟩ = some (.int .u8 nx) := HU6.out.old (Hnx.out ▸ HC.out x (by omega))
              have cp : wr.cell? ⟨g, off + p, none⟩ = some (.int .u8 np) := HU6.out.old (Hnp.out ▸ HC.out p (by omega))
              have jI : (j : Int) < (m : Int) := by omega
              have fp0 : decide ((p : Int) < 0) = false := by simp
              have fp1 : decide ((k : Int) < (p : Int)) = false := by simp; omega
              have ip : (p : Int) < (zs.length : Int) := by omega
              have ix : (x : Int) < (zs.length : Int) := by omega
              have ip2 : decide (zs.length ≤ p) = false := by simp; omega
              have ix2 : decide (zs.length ≤ x) = false := by simp; omega
              have fpk : decide (k < p) = false := by simp; omega
              have q1 : decide (np < nx) = false := by simp; omega
              have HU7 := hidp (HU6.out)
              have HN7 := hidp (HN6.out)
              clear HU6 HN6
              by_cases he : np = nx
              · have q2 : (np == nx) = true := by simpa using he
                have q3 : decide ((p : Int) < (x : Int)) = false := by simp; omega
                have q4 : decide (p < x) = false := by simp; omega
                clear he hcmp
                go_wp2_with fail
                go_quiet (fail)
                go_wp2_with fail
                go_roundg (gk - 1)
                case measure => omega
                case rel => exact ⟨j + 1, by omega, by go_num, hidp (HN7.out.turned ((Turned.refl [] _).drewN _) (by simp)), hidp (HU7.out.drewN _)⟩
              · have q2 : (np == nx) = false := by simpa using he
                clear he hcmp
                go_wp2_with fail
                go_quiet (fail)
                go_wp2_with fail
                go_roundg (gk - 1)
                case measure => omega
                case rel => exact ⟨j + 1, by omega, by go_num, hidp (HN7.out.turned ((Turned.refl [] _).drewN _) (by simp)), hidp (HU7.out.drewN _)⟩
            · have jI : ¬ (j : Int) < (m : Int) := by omega
              clear HN6
              go_wp2_with fail
              go_roundg (zs.length - k - 1)
              case measure => omega
              case rel => exact ⟨k + 1, l4, A3, c3, by omega, by go_num, HI4, HL4, HU6⟩
      · obtain rfl : k = zs.length := by omega
        clear hlt hkg
        go_wp2_with fail
        go_ret
        exact ⟨rfl, HU.out.up.below⟩

theorem own : ownKnob Try.prog.godebug = none := by kernel_rfl
theorem laidOut : laidOutB Try.prog = true := by kernel_rfl

/-! THE ROW's STEP -/
set_option maxRecDepth 100000 in
theorem lifted (os : Os) (started : os.Started) (H : Type) (enc : TypeId × Value → H) :
    ReturnsInHanded {} Try.checked os 5 .any (Rows.rankMixedSpec.pre6 enc Try.prog Try.f5 Rows.rankMixedRow.domain false) (Rows.rankMixedSpec.post enc Try.prog Try.f5 false true false false) := by
  refine returnsInHanded_of_change (C := Try.checked) own started (by kernel_rfl) Try.func5
    (ChangeSpec.witness6 (enc := enc) (C := Try.checked) false ⟨#[], #[.slice none 0 0, .int .u16 0], []⟩ 8 (by kernel_rfl) (by kernel_rfl) (by kernel_rfl) (by kernel_rfl)) ?_
  intro W base args ds gs before hval0 hW hcnd _
  have hval : ∀ (j : Nat) t v, Try.f5.params[j]? = some t → args[j]? = some v → Value.okWide Try.prog W .any base t v := hval0
  have hW' := hW
  obtain ⟨p, q, hA0, hV, rfl, hfz, hnd⟩ := hW
  have hA : DataW.TrodAll enc Try.prog W 0 (fun _ => true) true Try.f5.params.toList args.toList ds p := hA0
  rw [Try.params5] at hA hval
  obtain ⟨v0, vs0, d0, ds0, p0, q0, hargs, rfl, rfl, h0, r0⟩ := trodAll_cons hA
  obtain ⟨v1, vs1, d1, ds1, p1, q1, rfl, rfl, rfl, h1, r1⟩ := trodAll_cons r0
  obtain ⟨rfl, rfl, rfl⟩ := trodAll_nil r1
  obtain rfl : args = #[v0, v1] := by cases args; simp_all
  obtain ⟨rfl, rfl⟩ := trodVars_none hV
  obtain ⟨a0, len0, cap0, rfl⟩ := okWide_slice Try.underlying45 (hval 0 45 v0 rfl rfl)
  have k0 := h0
  have lt0 : ∀ x ∈ p0, x.block < W.heap.size := by obtain ⟨m, hm⟩ := k0; exact DataW.trod_lt m _ _ _ hm
  obtain ⟨z0, w0⟩ : ∃ zs, IsRow .u8 W a0 len0 cap0 zs := by
    obtain ⟨fuel, hf⟩ := h0
    rcases open_ints Try.underlying45 Try.underlying5 (by kernel_rfl) hf with ⟨hcs, _⟩ | ⟨x, l, c, zs, hcs, _, hl, hm, hz, _, hcell, hwz⟩
    · simp [Value.cells] at hcs
      obtain ⟨rfl, rfl, rfl⟩ := hcs
      exact ⟨[], .inl ⟨rfl, rfl, rfl, rfl⟩⟩
    · simp [Value.cells] at hcs
      obtain ⟨rfl, rfl, rfl⟩ := hcs
      exact ⟨zs, .inr ⟨_, rfl, hl, hm, by simpa using hz, hcell, hwz⟩⟩
  obtain ⟨a1, rfl, rfl, rfl, w1⟩ := open_int Try.underlying47 (hval 1 47 v1 rfl rfl) h1
  clear hA0 hval0
  refine (walk a0 len0 cap0 z0 a1 W w0 w1).mono fun e W' ⟨he, bel⟩ => ?_
  subst he
  exact ⟨_, rfl, _, _, _, [], _, [], hW', trodAll_mk1 (shut_bool Try.underlying4 _), (trodAll_cons_mk (Below.trod laidOut (by kernel_rfl) (of_decide_eq_true (by kernel_rfl)) k0 bel lt0) (trodAll_cons_mk (shut_int Try.underlying47 w1) trodAll_mk0)), rfl, bel.frame _, fun h => by cases h⟩

theorem over : Rows.rankMixedRow.holds Try.pinned (OpenSpec.ofChange Rows.rankMixedSpec) :=
  OpenClaim.holds_of_wide 5 Try.f5 rfl rfl rfl rfl rfl rfl rfl ⟨rfl, rfl, rfl, rfl, rfl⟩ rfl rfl rfl rfl rfl (by kernel_rfl) Try.func5 (by kernel_rfl)
    (of_decide_eq_true (by kernel_rfl)) (by unfold Func.isWrapper; first | (rw [if_pos (by decide +kernel)]; kernel_rfl) | (rw [if_neg (by decide +kernel)]; exact ⟨rfl, rfl⟩))
    (fun os started H enc _ => lifted os started H enc)

/-- THE STATEMENT -/
theorem proved : Rows.RankMixedSaid := over
#print axioms proved
end Go.Proofs.Ytpcbonljbfbdmaa.rankMixed

