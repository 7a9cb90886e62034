/- CalcTurns: the order in which numbers are summed plays no part, nor do a number and its opposite among them. No condition. -/
import Derived.Test.YtflimfmamlmmiaaKnown
import Derived.Test.YtflimfmamlmmiaaMem
import Derived.IntWalk
namespace Go.Proofs.Ytflimfmamlmmiaa
open Go.ChangeShapes Go.WideShapes Go.ChangeAt Go.RowKit
theorem sum_n (a : Option Addr) (n cap : Nat) (zs : List Int) (w : World) (hn : zs.length = n) (hr : Row w .i64 a zs) (hz : ∀ n ∈ zs, I64 n) (hl : zs.length ≤ 9223372036854775807) :
    Calls Try.prog 19 #[.slice a n cap] w fun e w' => e = .returned (.tuple #[.int .i64 (fitR (tot zs)), .bool (fitK (tot zs))]) ∧ w = w' := by
  subst hn; exact sum_any a cap zs w hr hz hl
theorem info2 : (Try.prog.info? 2).map (fun i => (i.zero, i.size, i.bytes)) = some (some (.int .i64 0), 1, 8) := by kernel_rfl
end Go.Proofs.Ytflimfmamlmmiaa
set_option maxHeartbeats 1000000
set_option linter.unusedSimpArgs false
namespace Go.Proofs.Ytflimfmamlmmiaa.calcTurns
open Go.ChangeShapes Go.WideShapes Go.ChangeAt Go.RowKit
open Go.ChangeMaps (open_string shut_string)
set_option linter.unusedVariables false

/-- THE WALK: the Go text returns true, and writes nothing that was there. -/
theorem walk (a0 : Option Addr) (len0 cap0 : Nat) (z0 : List Int) (a1 : Int) (a2 : Int) (w : World) (w0 : IsRow .i64 w a0 len0 cap0 z0) (w1 : (Lit.int .u8 a1).wf = true) (w2 : (Lit.int .i64 a2).wf = true) :
    Calls Try.prog 6 #[.slice a0 len0 cap0, .int .u8 a1, .int .i64 a2] w fun e w' => e = .returned (.bool true) ∧ Below w.heap.size w w' := by
  obtain ⟨hr, hl, hm, hz⟩ := w0.row
  have hcap : len0 ≤ cap0 := by rcases w0 with ⟨_, rfl, rfl, _⟩ | ⟨_, _, h, _⟩ <;> omega
  clear w0
  obtain ⟨zs, hzs⟩ : ∃ zs, z0.take len0 = zs := ⟨_, rfl⟩
  rw [hzs] at hr hl hz
  clear hzs
  subst hl
  unfold maxLen at hm
  have b1 : 0 ≤ a1 ∧ a1 ≤ 255 := by simp [Lit.wf, IntKind.min, IntKind.max, IntKind.signed, IntKind.bits] at w1; omega
  have i2 := i64_of w2
  clear w1 w2
  have Hi : Hid (∀ n ∈ zs, I64 n) := hidp fun n hn => i64_of (hz n hn)
  clear hz
  by_cases h60 : 60 < zs.length
  · clear hr
    go_enter Try.func6, Try.ntmps6
    go_wp2_with (first | (go_at_call 10; (with_reducible refine (known_any _).mono ?_); rintro e w1 ⟨rfl, hb⟩))
    go_ret
    exact ⟨rfl, hb⟩
  · by_cases h0 : zs.length = 0
    · have h0' : ((zs.length : Int) == 0) = true := by simp [h0]
      clear hr h0
      go_enter Try.func6, Try.ntmps6
      go_wp2_with (first | (go_at_call 10; (with_reducible refine (known_any _).mono ?_); rintro e w1 ⟨rfl, hb⟩))
      go_ret
      exact ⟨rfl, hb⟩
    · have h0' : ((zs.length : Int) == 0) = false := by simp; intro h; exact h0 (by simp [h])
      by_cases hn : a2 = -9223372036854775808
      · subst hn
        clear hr h0
        go_enter Try.func6, Try.ntmps6
        go_wp2_with (first | (go_at_call 10; (with_reducible refine (known_any _).mono ?_); rintro e w1 ⟨rfl, hb⟩))
        go_ret
        exact ⟨rfl, hb⟩
      · have hn' : (a2 == -9223372036854775808) = false := by simpa using hn
        have hneg : -9223372036854775808 ≤ -a2 ∧ -a2 ≤ 9223372036854775807 := by unfold I64 at i2; omega
        obtain ⟨n1, n2⟩ := hneg
        obtain ⟨b, off, ha⟩ : ∃ b off, a0 = some ⟨b, off, none⟩ := by
          rcases hr with rfl | ⟨b, off, h, _⟩
          · simp at h0
          · exact ⟨b, off, h⟩
        subst ha
        obtain ⟨k, hk, hkl⟩ : ∃ k : Nat, a1 % (zs.length : Int) = k ∧ k < zs.length := by
          have e1 := Int.emod_nonneg a1 (show (zs.length : Int) ≠ 0 by omega)
          have e2 := Int.emod_lt_of_pos a1 (show (0 : Int) < zs.length by omega)
          exact ⟨(a1 % (zs.length : Int)).toNat, by omega, by omega⟩
        have hck : ¬ cap0 = k := by omega
        have Hr : Hid (Lies w.heap.size w (some ⟨b, off, none⟩) (zs.map (Value.int .i64))) := hidp hr.lies
        have Hrow := hidp hr
        clear hr
        obtain ⟨f0, hi0, hz0, hz1, hz2⟩ := info_parts info2
        go_enter Try.func6, Try.ntmps6
        go_wp2_with (first | (go_at_call 10; (with_reducible refine (known_any _).mono ?_); rintro e w1 ⟨rfl, hb⟩))
        have hst := Und.start (W := w1.drew) 2 hb.drew (Nat.le_refl _)
        rw [hk]
        have Hone1 : Hid (∀ u ∈ (zs.map (Value.int .i64)).drop k, u.oneCell' = true) := hidp fun u hu => by
          obtain ⟨n, _, rfl⟩ := List.mem_map.1 (List.mem_of_mem_drop hu); rfl
        have Hone3 : Hid (∀ u ∈ (zs.map (Value.int .i64)).take k, u.oneCell' = true) := hidp fun u hu => by
          obtain ⟨n, _, rfl⟩ := List.mem_map.1 (List.mem_of_mem_take hu); rfl
        have hk1 : k ≤ zs.length := by omega
        have hk2 : k ≤ cap0 := by omega
        have hwn : IntKind.i64.wrap (-a2) = -a2 := IntWalk.i64_in _ (by omega)
        have H63 : Hid (zs.length ≤ 9223372036854775807) := hidp (by omega)
        have Hlen : Hid ((zs.drop k ++ [a2] ++ zs.take k ++ [-a2]).length = 0 + (zs.length - k) + 1 + k + 1) := hidp (by simp; omega)
        have Hlen2 : Hid ((zs.drop k ++ [a2] ++ zs.take k ++ [-a2]).length ≤ 9223372036854775807) := hidp (by rw [Hlen.out]; omega)
        have Hi2 : Hid (∀ n ∈ zs.drop k ++ [a2] ++ zs.take k ++ [-a2], I64 n) := hidp (by
          intro n hn
          simp only [List.mem_append, List.mem_singleton] at hn
          rcases hn with ((hn | rfl) | hn) | rfl
          · exact Hi.out n (List.mem_of_mem_drop hn)
          · exact i2
          · exact Hi.out n (List.mem_of_mem_take hn)
          · exact ⟨n1, n2⟩)
        have ht : tot (zs.drop k ++ a2 :: (zs.take k ++ [-a2])) = tot zs := by
          rw [tot_drop zs k]; simp only [tot_append, tot]; omega
        have h8 : Hid (8 ≤ 1000) := hidp (by decide)
        have P1 : Hid ((some (⟨b, off + k, none⟩ : Addr)) = none → zs.length - k = 0 ∧ cap0 - k = 0) := hidp (by simp)
        have L1 : Hid (((zs.map (Value.int .i64)).drop k).length = zs.length - k) := hidp (by simp)
        have S1 := hidp (Hr.out.drop k)
        have N1 : Hid (0 + (zs.length - k) ≤ 100000) := hidp (by omega)
        have N2 : Hid (0 + (zs.length - k) + 1 ≤ 100000) := hidp (by omega)
        have P3 : Hid ((some (⟨b, off, none⟩ : Addr)) = none → k = 0 ∧ cap0 = 0) := hidp (by simp)
        have L3 : Hid (((zs.map (Value.int .i64)).take k).length = k) := hidp (by simp; omega)
        have S3 := hidp (Hr.out.take k)
        have N3 : Hid (0 + (zs.length - k) + 1 + k ≤ 100000) := hidp (by omega)
        have N4 : Hid (0 + (zs.length - k) + 1 + k + 1 ≤ 100000) := hidp (by omega)
        go_region_law (first | ((with_reducible refine step_ran rfl (.const (.slice none 0 0)) (.tmp 34) 27 rfl (by simp [Act.eval]) ?_ (Und.app hst _ _ Try.underlying27 hi0 hz0 hz1 hz2 rfl _ _ (cap0 - k) _ P1.out L1.out S1.out Hone1.out N1.out h8.out) ?_); (simp [Act.eval, Act.put]); intro v w2 hst2; clear hst; have hst := hst2; clear hst2) | ((with_reducible refine step_ran rfl (.const (.slice none 0 0)) (.tmp 34) 27 rfl (by simp [Act.eval]) ?_ (Und.app (hst.build _ _ rfl) _ _ Try.underlying27 hi0 hz0 hz1 hz2 rfl _ _ (cap0 - k) _ P1.out L1.out S1.out Hone1.out N1.out h8.out) ?_); (simp [Act.eval, Act.put]); intro v w2 hst2; clear hst; have hst := hst2; clear hst2) | ((with_reducible refine step_ran rfl (.const (.slice none 0 0)) (.tmp 34) 27 rfl (by simp [Act.eval]) ?_ (Und.app ((hst.build _ _ rfl).build _ _ rfl) _ _ Try.underlying27 hi0 hz0 hz1 hz2 rfl _ _ (cap0 - k) _ P1.out L1.out S1.out Hone1.out N1.out h8.out) ?_); (simp [Act.eval, Act.put]); intro v w2 hst2; clear hst; have hst := hst2; clear hst2) | ((with_reducible refine step_ran rfl (.tmp 35) (.tmp 37) 27 rfl ?_ ?_ (Und.app1 hst _ _ Try.underlying27 hi0 hz0 hz1 hz2 rfl _ (.int .i64 a2) 1 List.mem_cons_self N2.out h8.out) ?_); (simp [Act.eval, Act.put]); (simp [Act.eval, Act.put]); intro v w2 hst2; clear hst; have hst := hst2; clear hst2) | ((with_reducible refine step_ran rfl (.tmp 35) (.tmp 37) 27 rfl ?_ ?_ (Und.app1 hst _ _ Try.underlying27 hi0 hz0 hz1 hz2 rfl _ (.int .i64 a2) 1 (List.mem_cons_of_mem _ List.mem_cons_self) N2.out h8.out) ?_); (simp [Act.eval, Act.put]); (simp [Act.eval, Act.put]); intro v w2 hst2; clear hst; have hst := hst2; clear hst2) | ((with_reducible refine step_ran rfl (.tmp 35) (.tmp 37) 27 rfl ?_ ?_ (Und.app1 (hst.build _ _ rfl) _ _ Try.underlying27 hi0 hz0 hz1 hz2 rfl _ (.int .i64 a2) 1 List.mem_cons_self N2.out h8.out) ?_); (simp [Act.eval, Act.put]); (simp [Act.eval, Act.put]); intro v w2 hst2; clear hst; have hst := hst2; clear hst2) | ((with_reducible refine step_ran rfl (.tmp 35) (.tmp 37) 27 rfl ?_ ?_ (Und.app1 (hst.build _ _ rfl) _ _ Try.underlying27 hi0 hz0 hz1 hz2 rfl _ (.int .i64 a2) 1 (List.mem_cons_of_mem _ List.mem_cons_self) N2.out h8.out) ?_); (simp [Act.eval, Act.put]); (simp [Act.eval, Act.put]); intro v w2 hst2; clear hst; have hst := hst2; clear hst2) | ((with_reducible refine step_ran rfl (.tmp 35) (.tmp 37) 27 rfl ?_ ?_ (Und.app1 ((hst.build _ _ rfl).build _ _ rfl) _ _ Try.underlying27 hi0 hz0 hz1 hz2 rfl _ (.int .i64 a2) 1 List.mem_cons_self N2.out h8.out) ?_); (simp [Act.eval, Act.put]); (simp [Act.eval, Act.put]); intro v w2 hst2; clear hst; have hst := hst2; clear hst2) | ((with_reducible refine step_ran rfl (.tmp 35) (.tmp 37) 27 rfl ?_ ?_ (Und.app1 ((hst.build _ _ rfl).build _ _ rfl) _ _ Try.underlying27 hi0 hz0 hz1 hz2 rfl _ (.int .i64 a2) 1 (List.mem_cons_of_mem _ List.mem_cons_self) N2.out h8.out) ?_); (simp [Act.eval, Act.put]); (simp [Act.eval, Act.put]); intro v w2 hst2; clear hst; have hst := hst2; clear hst2) | ((with_reducible refine step_ran rfl (.tmp 38) (.tmp 41) 27 rfl ?_ ?_ (Und.app hst _ _ Try.underlying27 hi0 hz0 hz1 hz2 rfl _ _ cap0 _ P3.out L3.out S3.out Hone3.out N3.out h8.out) ?_); (simp [Act.eval, Act.put]); (simp [Act.eval, Act.put]); intro v w2 hst2; clear hst; have hst := hst2; clear hst2) | ((with_reducible refine step_ran rfl (.tmp 38) (.tmp 41) 27 rfl ?_ ?_ (Und.app (hst.build _ _ rfl) _ _ Try.underlying27 hi0 hz0 hz1 hz2 rfl _ _ cap0 _ P3.out L3.out S3.out Hone3.out N3.out h8.out) ?_); (simp [Act.eval, Act.put]); (simp [Act.eval, Act.put]); intro v w2 hst2; clear hst; have hst := hst2; clear hst2) | ((with_reducible refine step_ran rfl (.tmp 38) (.tmp 41) 27 rfl ?_ ?_ (Und.app ((hst.build _ _ rfl).build _ _ rfl) _ _ Try.underlying27 hi0 hz0 hz1 hz2 rfl _ _ cap0 _ P3.out L3.out S3.out Hone3.out N3.out h8.out) ?_); (simp [Act.eval, Act.put]); (simp [Act.eval, Act.put]); intro v w2 hst2; clear hst; have hst := hst2; clear hst2) | ((with_reducible refine step_ran rfl (.tmp 42) (.tmp 45) 27 rfl ?_ ?_ (Und.app1 hst _ _ Try.underlying27 hi0 hz0 hz1 hz2 rfl _ (.int .i64 (-a2)) 1 List.mem_cons_self N4.out h8.out) ?_); (simp [Act.eval, Act.put]); (simp [Act.eval, Act.put]); intro v w2 hst2; clear hst; have hst := hst2; clear hst2) | ((with_reducible refine step_ran rfl (.tmp 42) (.tmp 45) 27 rfl ?_ ?_ (Und.app1 hst _ _ Try.underlying27 hi0 hz0 hz1 hz2 rfl _ (.int .i64 (-a2)) 1 (List.mem_cons_of_mem _ List.mem_cons_self) N4.out h8.out) ?_); (simp [Act.eval, Act.put]); (simp [Act.eval, Act.put]); intro v w2 hst2; clear hst; have hst := hst2; clear hst2) | ((with_reducible refine step_ran rfl (.tmp 42) (.tmp 45) 27 rfl ?_ ?_ (Und.app1 (hst.build _ _ rfl) _ _ Try.underlying27 hi0 hz0 hz1 hz2 rfl _ (.int .i64 (-a2)) 1 List.mem_cons_self N4.out h8.out) ?_); (simp [Act.eval, Act.put]); (simp [Act.eval, Act.put]); intro v w2 hst2; clear hst; have hst := hst2; clear hst2) | ((with_reducible refine step_ran rfl (.tmp 42) (.tmp 45) 27 rfl ?_ ?_ (Und.app1 (hst.build _ _ rfl) _ _ Try.underlying27 hi0 hz0 hz1 hz2 rfl _ (.int .i64 (-a2)) 1 (List.mem_cons_of_mem _ List.mem_cons_self) N4.out h8.out) ?_); (simp [Act.eval, Act.put]); (simp [Act.eval, Act.put]); intro v w2 hst2; clear hst; have hst := hst2; clear hst2) | ((with_reducible refine step_ran rfl (.tmp 42) (.tmp 45) 27 rfl ?_ ?_ (Und.app1 ((hst.build _ _ rfl).build _ _ rfl) _ _ Try.underlying27 hi0 hz0 hz1 hz2 rfl _ (.int .i64 (-a2)) 1 List.mem_cons_self N4.out h8.out) ?_); (simp [Act.eval, Act.put]); (simp [Act.eval, Act.put]); intro v w2 hst2; clear hst; have hst := hst2; clear hst2) | ((with_reducible refine step_ran rfl (.tmp 42) (.tmp 45) 27 rfl ?_ ?_ (Und.app1 ((hst.build _ _ rfl).build _ _ rfl) _ _ Try.underlying27 hi0 hz0 hz1 hz2 rfl _ (.int .i64 (-a2)) 1 (List.mem_cons_of_mem _ List.mem_cons_self) N4.out h8.out) ?_); (simp [Act.eval, Act.put]); (simp [Act.eval, Act.put]); intro v w2 hst2; clear hst; have hst := hst2; clear hst2))
        all_goals
          have hbe := hst.below
          obtain ⟨g, c, hv, _, _⟩ := hst.own.form (by omega)
          have hlie := Lies.of_own (hv ▸ hst.own)
          have hrow : Row w2 .i64 (some ⟨g, 0, none⟩) (zs.drop k ++ [a2] ++ zs.take k ++ [-a2]) := by
            refine Lies.row (B := w2.heap.size) ?_
            simpa using hlie
          clear hst hlie
          have hrow := hidp hrow
          rw [hv]
          clear hv
          have Hb := hidp (Hrow.out.below hbe)
          go_wp2_with (first | (go_at_call 19; (with_reducible refine (sum_any _ _ _ _ Hb.out Hi.out H63.out).mono ?_); rintro e w' ⟨rfl, rfl⟩) | (go_at_call 19; (with_reducible refine (sum_n _ _ _ (zs.drop k ++ [a2] ++ zs.take k ++ [-a2]) _ ?_ hrow.out Hi2.out Hlen2.out).mono ?_); (first | exact Hlen.out | (rw [Hlen.out]; omega) | rw [Hlen.out]); rintro e w' ⟨rfl, rfl⟩))
          go_ret
          exact ⟨rfl, hbe⟩

theorem own : ownKnob Try.prog.godebug = none := by kernel_rfl
theorem laidOut : laidOutB Try.prog = true := by kernel_rfl

/-! THE ROW's STEP -/
set_option maxRecDepth 100000 in
theorem lifted (os : Os) (started : os.Started) (H : Type) (enc : TypeId × Value → H) :
    ReturnsInHanded {} Try.checked os 6 .any (Rows.calcTurnsSpec.pre6 enc Try.prog Try.f6 Rows.calcTurnsRow.domain false) (Rows.calcTurnsSpec.post enc Try.prog Try.f6 false true false false) := by
  refine returnsInHanded_of_change (C := Try.checked) own started (by kernel_rfl) Try.func6
    (ChangeSpec.witness6 (enc := enc) (C := Try.checked) false ⟨#[], #[.slice none 0 0, .int .u8 0, .int .i64 0], []⟩ 8 (by kernel_rfl) (by kernel_rfl) (by kernel_rfl) (by kernel_rfl)) ?_
  intro W base args ds gs before hval0 hW hcnd _
  have hval : ∀ (j : Nat) t v, Try.f6.params[j]? = some t → args[j]? = some v → Value.okWide Try.prog W .any base t v := hval0
  have hW' := hW
  obtain ⟨p, q, hA0, hV, rfl, hfz, hnd⟩ := hW
  have hA : DataW.TrodAll enc Try.prog W 0 (fun _ => true) true Try.f6.params.toList args.toList ds p := hA0
  rw [Try.params6] at hA hval
  obtain ⟨v0, vs0, d0, ds0, p0, q0, hargs, rfl, rfl, h0, r0⟩ := trodAll_cons hA
  obtain ⟨v1, vs1, d1, ds1, p1, q1, rfl, rfl, rfl, h1, r1⟩ := trodAll_cons r0
  obtain ⟨v2, vs2, d2, ds2, p2, q2, rfl, rfl, rfl, h2, r2⟩ := trodAll_cons r1
  obtain ⟨rfl, rfl, rfl⟩ := trodAll_nil r2
  obtain rfl : args = #[v0, v1, v2] := by cases args; simp_all
  obtain ⟨rfl, rfl⟩ := trodVars_none hV
  obtain ⟨a0, len0, cap0, rfl⟩ := okWide_slice Try.underlying27 (hval 0 27 v0 rfl rfl)
  have k0 := h0
  have lt0 : ∀ x ∈ p0, x.block < W.heap.size := by obtain ⟨m, hm⟩ := k0; exact DataW.trod_lt m _ _ _ hm
  obtain ⟨z0, w0⟩ : ∃ zs, IsRow .i64 W a0 len0 cap0 zs := by
    obtain ⟨fuel, hf⟩ := h0
    rcases open_ints Try.underlying27 Try.underlying2 (by kernel_rfl) hf with ⟨hcs, _⟩ | ⟨x, l, c, zs, hcs, _, hl, hm, hz, _, hcell, hwz⟩
    · simp [Value.cells] at hcs
      obtain ⟨rfl, rfl, rfl⟩ := hcs
      exact ⟨[], .inl ⟨rfl, rfl, rfl, rfl⟩⟩
    · simp [Value.cells] at hcs
      obtain ⟨rfl, rfl, rfl⟩ := hcs
      exact ⟨zs, .inr ⟨_, rfl, hl, hm, by simpa using hz, hcell, hwz⟩⟩
  obtain ⟨a1, rfl, rfl, rfl, w1⟩ := open_int Try.underlying5 (hval 1 5 v1 rfl rfl) h1
  obtain ⟨a2, rfl, rfl, rfl, w2⟩ := open_int Try.underlying2 (hval 2 2 v2 rfl rfl) h2
  clear hA0 hval0
  refine (walk a0 len0 cap0 z0 a1 a2 W w0 w1 w2).mono fun e W' ⟨he, bel⟩ => ?_
  subst he
  exact ⟨_, rfl, _, _, _, [], _, [], hW', trodAll_mk1 (shut_bool Try.underlying4 _), (trodAll_cons_mk (Below.trod laidOut (by kernel_rfl) (of_decide_eq_true (by kernel_rfl)) k0 bel lt0) (trodAll_cons_mk (shut_int Try.underlying5 w1) (trodAll_cons_mk (shut_int Try.underlying2 w2) trodAll_mk0))), rfl, bel.frame _, fun h => by cases h⟩

theorem over : Rows.calcTurnsRow.holds Try.pinned (OpenSpec.ofChange Rows.calcTurnsSpec) :=
  OpenClaim.holds_of_wide 6 Try.f6 rfl rfl rfl rfl rfl rfl rfl ⟨rfl, rfl, rfl, rfl, rfl⟩ rfl rfl rfl rfl rfl (by kernel_rfl) Try.func6 (by kernel_rfl)
    (of_decide_eq_true (by kernel_rfl)) (by unfold Func.isWrapper; first | (rw [if_pos (by decide +kernel)]; kernel_rfl) | (rw [if_neg (by decide +kernel)]; exact ⟨rfl, rfl⟩))
    (fun os started H enc _ => lifted os started H enc)

/-- THE STATEMENT -/
theorem proved : Rows.CalcTurnsSaid := over
#print axioms proved
end Go.Proofs.Ytflimfmamlmmiaa.calcTurns

