/- SortedSums: the sums of the greatest. No condition. -/
import Derived.Test.YtjbjkegjcpplaaaSortNums
import Derived.Test.YtjbjkegjcpplaaaOwnZ
set_option maxHeartbeats 3000000
namespace Go.Proofs.Ytjbjkegjcpplaaa.sortedSums
open Go.ChangeShapes Go.WideShapes Go.ChangeAt Go.RowKit
open Go.ChangeMaps (open_string shut_string)
set_option linter.unusedVariables false

/-- THE WALK: the Go text returns true, and writes nothing that was there. -/
theorem walk (a0 : Option Addr) (len0 cap0 : Nat) (z0 : List Int) (a1 : Int) (a2 : Int) (w : World) (w0 : IsRow .u16 w a0 len0 cap0 z0) (w1 : (Lit.int .u8 a1).wf = true) (w2 : (Lit.int .u16 a2).wf = true) :
    Calls Try.prog 7 #[.slice a0 len0 cap0, .int .u8 a1, .int .u16 a2] w fun e w' => e = .returned (.bool true) ∧ Below w.heap.size w w' := by
  obtain ⟨hr, hl, hm, hz⟩ := w0.row
  clear w0
  generalize z0.take len0 = zs at *
  unfold maxLen at hm
  have b1 : 0 ≤ a1 ∧ a1 ≤ 255 := by simp [Lit.wf, IntKind.min, IntKind.max, IntKind.signed, IntKind.bits] at w1; omega
  have b2 : 0 ≤ a2 ∧ a2 ≤ 65535 := by simp [Lit.wf, IntKind.min, IntKind.max, IntKind.signed, IntKind.bits] at w2; omega
  have hb : ∀ n ∈ zs, 0 ≤ n ∧ n ≤ 65535 := fun n hn => by have := hz n hn; simp [Lit.wf, IntKind.min, IntKind.max, IntKind.signed, IntKind.bits] at this; omega
  obtain ⟨p1, q1⟩ := b1
  obtain ⟨p2, q2⟩ := b2
  clear hz w1 w2
  have HL := hidp hl
  clear hl
  have Hr := hidp hr
  clear hr
  have Hb := hidp hb
  clear hb
  by_cases h40 : 40 < len0
  · go_enter Try.func7, Try.ntmps7
    go_wp2_with fail
    refine (known2_any _).mono ?_
    rintro e w1 ⟨rfl, hb1⟩
    go_wp2_with fail
    go_ret
    exact ⟨rfl, hb1⟩
  · obtain ⟨i0, hi0, hz0, hz1, hz2⟩ := info_parts infoI64
    have hmod : a1.tmod 45 = a1 % 45 := Int.tmod_eq_emod_of_nonneg p1
    have hj0 : 0 ≤ a1 % 45 := by omega
    have hj1 : a1 % 45 ≤ 44 := by omega
    obtain ⟨j, Hj⟩ : ∃ j, a1.tmod 45 = j := ⟨_, rfl⟩
    rw [← hmod, Hj] at hj0 hj1
    clear hmod
    have wj8 : IntKind.u8.wrap j = j := by simp [IntKind.wrap, IntKind.signed, IntKind.bits]; omega
    have wj : IntKind.i64.wrap j = j := IntWalk.i64_in j (by omega)
    have wm : IntKind.i64.wrap a2 = a2 := IntWalk.i64_in a2 (by omega)
    have wj1 : IntKind.i64.wrap (j + 1) = j + 1 := IntWalk.i64_in _ (by omega)
    have hll : zs.length ≤ 1000 := by rw [HL.out]; omega
    have E1 : Hid (sumW (tops zs len0) = tot zs) := hidp (by rw [tops_sum Hb.out hll, ← HL.out, tops_all])
    have E2 := hidp (tops_sum (k := j) Hb.out hll)
    have hb2 : ∀ x ∈ zs ++ [a2], 0 ≤ x ∧ x ≤ 65535 := by
      intro x hx
      rcases List.mem_append.1 hx with h | h
      · exact Hb.out x h
      · simp at h; omega
    have E3 := hidp (tops_sum (zs := zs ++ [a2]) (k := j) hb2 (by simp; have := HL.out; omega))
    have E4 : Hid (sumW (tops zs (-1)) = 0) := hidp (by rw [tops_neg]; rfl)
    have E5 := hidp (tops_sum (k := j + 1) Hb.out hll)
    have L1 := hidp (tops_le Hb.out j)
    have L2 := hidp (tops_more Hb.out p2 j)
    have L3 := hidp (tops_mono Hb.out j (j + 1) (by omega))
    have F1 : Hid (∀ n ∈ zs, I64 n) := hidp fun n hn => by have := Hb.out n hn; unfold I64; omega
    have F2 : Hid (∀ n ∈ zs ++ [a2], I64 n) := hidp fun n hn => by have := hb2 n hn; unfold I64; omega
    clear hb2
    have IJ : Hid (I64 j) := hidp (by unfold I64; omega)
    have IJ1 : Hid (I64 (j + 1)) := hidp (by unfold I64; omega)
    have IL : Hid (I64 len0) := hidp (by unfold I64; omega)
    have IM : Hid (I64 (-1)) := hidp (by decide)
    go_enter Try.func7, Try.ntmps7
    go_wp2_with fail
    refine (known2_any _).mono ?_
    rintro e w1 ⟨rfl, hb1⟩
    go_wp2_with fail
    go_loopg [7, 8, 9] len0 (fun g l al i wr => ∃ (k : Nat) (D : Option Addr) (d : Nat), k + g = len0 ∧ i = .int .i64 k ∧ l = .slice D k d ∧ al = .int .i64 (tot (zs.take k)) ∧ OwnZ w.heap.size wr D k d (zs.take k) ∧ Below w.heap.size w wr)
    case atStart => exact ⟨0, none, 0, by omega, rfl, rfl, by simp [tot], by simpa using OwnZ.empty _ _, hb1⟩
    case round =>
      obtain ⟨k, D, d, hk, rfl, rfl, rfl, o, hbe⟩ := hrel
      by_cases hlt : k < len0
      · have hkp : k < zs.length := by rw [HL.out]; exact hlt
        obtain ⟨g, off, rfl, hcl⟩ := Hr.out.resolve_left (by intro e; rw [e] at hkp; simp at hkp)
        obtain ⟨x, HX⟩ : ∃ x, Hid (zs.getD k 0 = x) := ⟨_, rfl⟩
        have hx := Hb.out (zs.getD k 0) (by simp [List.getD, hkp])
        have ck0 : w.cell? ⟨g, off + k, none⟩ = some (.int .u16 x) := HX.out ▸ hcl k hkp
        have hg := cell_lt ck0
        have ck : wr.cell? ⟨g, off + k, none⟩ = some (.int .u16 x) := (hbe.cell hg).trans ck0
        rw [HX.out] at hx
        obtain ⟨x0, x1⟩ := hx
        have wx : IntKind.i64.wrap x = x := IntWalk.i64_in x (by omega)
        have T1 : Hid (tot (zs.take (k + 1)) = tot (zs.take k) + x) := hidp (by rw [take_snoc zs k hkp, tot_append, HX.out]; simp [tot])
        have T2 : Hid (zs.take (k + 1) = zs.take k ++ [x]) := hidp (by rw [take_snoc zs k hkp, HX.out])
        have hb3 := sumW_tot (l := zs.take k) (by simp; omega) (fun x hx => Hb.out x (List.mem_of_mem_take hx))
        obtain ⟨-, t0, t1⟩ := hb3
        have t2 : tot (zs.take k) ≤ 65535 * 1000 := by simp at t1; omega
        clear t1 hcl
        obtain ⟨T, HT⟩ : ∃ T, Hid (tot (zs.take k) = T) := ⟨_, rfl⟩
        rw [HT.out] at T1 t0 t2 ⊢
        have N2 : Hid (k + 1 ≤ maxLen) := hidp (by unfold maxLen; omega)
        have M2 : Hid ((k + 1) * 8 ≤ 140737488355328) := hidp (by omega)
        have S2 := hidp (by simpa using Lies.newCells wr [Value.int .i64 x] 3)
        have Z2 : Hid (w.heap.size ≤ (wr.alloc (.cells #[.int .i64 x] 3)).heap.size) := hidp (Nat.le_trans hbe.size (by simp))
        have hown2 := (World.ownsRow.alloc (w := wr) o.own (.cells #[.int .i64 x] 3))
        have O2 := hidp (one_ints [x])
        have wT : IntKind.i64.wrap (T + x) = T + x := IntWalk.i64_in _ (by omega)
        go_wp2_with (at_builtin; go_loud (refine wpList_app2 _ rfl (.tmp 24) (.tmp 30) 25 rfl w.heap.size 3 i0 _ 1 8 Try.underlying25 hi0 hz0 hz1 hz2 rfl (by decide) D k d _ rfl hown2 _ _ 1 1 [Value.int .i64 x] rfl (by simp) rfl S2.out O2.out N2.out M2.out Z2.out ?_); intro A' c' w2 happ; have hb2 := (hbe.alloc hbe.size (.cells #[.int .i64 x] 3)).trans (happ.turned.below Z2.out o.fps); have ck2 := (hb2.cell hg).trans ck0)
        have o2 : OwnZ w.heap.size w2 A' (k + 1) c' (zs.take (k + 1)) := by
          have := OwnZ.app (ps := [x]) ⟨hown2, o.len, o.cap, o.nil⟩ happ rfl
          rw [T2.out]; exact this
        go_roundg (gk - 1)
        case measure => omega
        case rel => exact ⟨k + 1, A', c', by omega, by go_num, rfl, by rw [T1.out], o2, hb2⟩
      · obtain rfl : k = len0 := by omega
        have ht : zs.take k = zs := List.take_of_length_le (by rw [HL.out]; exact Nat.le_refl _)
        rw [ht] at o ⊢
        obtain ⟨T, HT⟩ : ∃ T, Hid (tot zs = T) := ⟨_, rfl⟩
        obtain ⟨s, Hs⟩ : ∃ s, Hid (sumW (tops zs j) = s) := ⟨_, rfl⟩
        obtain ⟨t, Ht⟩ : ∃ t, Hid (sumW (tops (zs ++ [a2]) j) = t) := ⟨_, rfl⟩
        obtain ⟨u, Hu⟩ : ∃ u, Hid (sumW (tops zs (j + 1)) = u) := ⟨_, rfl⟩
        have q1 : s ≤ T := by rw [← Hs.out, E2.out, ← HT.out]; exact L1.out
        have q2 : s ≤ t := by rw [← Hs.out, ← Ht.out, E2.out, E3.out]; exact L2.out
        have q3 : s ≤ u := by rw [← Hs.out, ← Hu.out, E2.out, E5.out]; exact L3.out
        have HL1 := hidp HL.out.symm
        rw [HT.out] at E1 ⊢
        clear ht L1 L2 L3 E2 E3 E5
        go_wp2_with fail
        refine (ssum_any o.row HL1.out o.cap.1 o.nil (by omega) IJ.out F1.out).mono ?_
        rintro e w2 ⟨rfl, hb2⟩
        rw [Hs.out]
        have o2 := o.over hb2
        have hbe2 := hbe.trans (hb2.mono hbe.size)
        clear o hb2 hbe
        have H1 := hidp o2.nil
        have H2 : Hid ((zs.map (Value.int .i64)).length = k * 1) := hidp (by simp [HL.out])
        have H3 := hidp o2.row.lies
        have H4 := hidp (one_ints zs)
        have H5 : Hid (0 + k ≤ maxLen) := hidp (by unfold maxLen; omega)
        have H6 : Hid ((0 + k) * 8 ≤ 140737488355328) := hidp (by omega)
        have N7 : Hid (k + 1 ≤ maxLen) := hidp (by unfold maxLen; omega)
        have M7 : Hid ((k + 1) * 8 ≤ 140737488355328) := hidp (by omega)
        have O7 := hidp (one_ints [a2])
        go_wp2_with (at_builtin; first | (refine wpList_app2 _ rfl (.const (.slice none 0 0)) (.tmp 45) 25 rfl w.heap.size 3 i0 (.int .i64 0) 1 8 Try.underlying25 hi0 hz0 hz1 hz2 rfl (by decide) none 0 0 [] rfl (World.ownsRow_nil _ _ _ _) w2.heap.size D k d (zs.map (Value.int .i64)) rfl H1.out H2.out H3.out H4.out H5.out H6.out hbe2.size ?_; intro A1 c1 w3 happ; simp only [Nat.zero_add, List.nil_append] at happ; have hown3 := World.ownsRow.alloc (w := w3) happ.own (.cells #[.int .i64 a2] 3); have hS3 := Lies.newCell1 w3 (.int .i64 a2) 3; have hZ3 := Nat.le_trans hbe2.size (happ.size (.cells #[.int .i64 a2] 3))) | (go_loud (refine wpList_app2 _ rfl (.tmp 46) (.tmp 49) 25 rfl w.heap.size 3 i0 (.int .i64 0) 1 8 Try.underlying25 hi0 hz0 hz1 hz2 rfl (by decide) A1 k c1 _ rfl hown3 _ _ 1 1 [Value.int .i64 a2] rfl (by simp) rfl hS3 O7.out N7.out M7.out hZ3 ?_); intro A2 c2 w4 happ2))
        have b3 := happ.below0
        have b4 : Below w2.heap.size w2 w4 := (b3.alloc b3.size (.cells #[.int .i64 a2] 3)).trans (happ2.turned.below (by have := b3.size; simp; omega) (fun k hk => (happ.fps k hk).elim (fun h => by simp [fp] at h) (fun h => h)))
        have o4 := o2.over b4
        have m4 : OwnZ w.heap.size w4 A2 (k + 1) c2 (zs ++ [a2]) := OwnZ.app (ps := [a2]) (rs := zs) ⟨hown3, HL1.out, happ.cap, happ.nil⟩ happ2 rfl
        have hbe4 := hbe2.trans (b4.mono hbe2.size)
        clear hbe2 o2 happ happ2 b3 b4 hown3 hS3 hZ3 H1 H2 H3 H4 H5 H6
        have HL2 : Hid (k + 1 = (zs ++ [a2]).length) := hidp (by simp [HL.out])
        refine (ssum_any m4.row HL2.out m4.cap.1 m4.nil (by omega) IJ.out F2.out).mono ?_
        rintro e w5 ⟨rfl, hb5⟩
        rw [Ht.out]
        have o5 := o4.over hb5
        have hbe5 := hbe4.trans (hb5.mono hbe4.size)
        clear m4 o4 hb5 hbe4
        go_wp2_with fail
        refine (ssum_any o5.row HL1.out o5.cap.1 o5.nil (by omega) IL.out F1.out).mono ?_
        rintro e w6 ⟨rfl, hb6⟩
        rw [E1.out]
        have o6 := o5.over hb6
        have hbe6 := hbe5.trans (hb6.mono hbe5.size)
        clear o5 hb6 hbe5
        go_wp2_with fail
        refine (ssum_any o6.row HL1.out o6.cap.1 o6.nil (by omega) IM.out F1.out).mono ?_
        rintro e w7 ⟨rfl, hb7⟩
        rw [E4.out]
        have o7 := o6.over hb7
        have hbe7 := hbe6.trans (hb7.mono hbe6.size)
        clear o6 hb7 hbe6
        go_wp2_with fail
        refine (ssum_any o7.row HL1.out o7.cap.1 o7.nil (by omega) IJ1.out F1.out).mono ?_
        rintro e w8 ⟨rfl, hb8⟩
        rw [Hu.out]
        have hbe8 := hbe7.trans (hb8.mono hbe7.size)
        clear o7 hb8 hbe7
        go_wp2_with fail
        go_ret
        exact ⟨rfl, hbe8⟩

theorem own : ownKnob Try.prog.godebug = none := by kernel_rfl
theorem laidOut : laidOutB Try.prog = true := by kernel_rfl

/-! THE ROW's STEP -/
set_option maxRecDepth 100000 in
theorem lifted (os : Os) (started : os.Started) (H : Type) (enc : TypeId × Value → H) :
    ReturnsInHanded {} Try.checked os 7 .any (Rows.sortedSumsSpec.pre6 enc Try.prog Try.f7 Rows.sortedSumsRow.domain false) (Rows.sortedSumsSpec.post enc Try.prog Try.f7 false true false false) := by
  refine returnsInHanded_of_change (C := Try.checked) own started (by kernel_rfl) Try.func7
    (ChangeSpec.witness6 (enc := enc) (C := Try.checked) false ⟨#[], #[.slice none 0 0, .int .u8 0, .int .u16 0], []⟩ 8 (by kernel_rfl) (by kernel_rfl) (by kernel_rfl) (by kernel_rfl)) ?_
  intro W base args ds gs before hval0 hW hcnd _
  have hval : ∀ (j : Nat) t v, Try.f7.params[j]? = some t → args[j]? = some v → Value.okWide Try.prog W .any base t v := hval0
  have hW' := hW
  obtain ⟨p, q, hA0, hV, rfl, hfz, hnd⟩ := hW
  have hA : DataW.TrodAll enc Try.prog W 0 (fun _ => true) true Try.f7.params.toList args.toList ds p := hA0
  rw [Try.params7] at hA hval
  obtain ⟨v0, vs0, d0, ds0, p0, q0, hargs, rfl, rfl, h0, r0⟩ := trodAll_cons hA
  obtain ⟨v1, vs1, d1, ds1, p1, q1, rfl, rfl, rfl, h1, r1⟩ := trodAll_cons r0
  obtain ⟨v2, vs2, d2, ds2, p2, q2, rfl, rfl, rfl, h2, r2⟩ := trodAll_cons r1
  obtain ⟨rfl, rfl, rfl⟩ := trodAll_nil r2
  obtain rfl : args = #[v0, v1, v2] := by cases args; simp_all
  obtain ⟨rfl, rfl⟩ := trodVars_none hV
  obtain ⟨a0, len0, cap0, rfl⟩ := okWide_slice Try.underlying38 (hval 0 38 v0 rfl rfl)
  have k0 := h0
  have lt0 : ∀ x ∈ p0, x.block < W.heap.size := by obtain ⟨m, hm⟩ := k0; exact DataW.trod_lt m _ _ _ hm
  obtain ⟨z0, w0⟩ : ∃ zs, IsRow .u16 W a0 len0 cap0 zs := by
    obtain ⟨fuel, hf⟩ := h0
    rcases open_ints Try.underlying38 Try.underlying39 (by kernel_rfl) hf with ⟨hcs, _⟩ | ⟨x, l, c, zs, hcs, _, hl, hm, hz, _, hcell, hwz⟩
    · simp [Value.cells] at hcs
      obtain ⟨rfl, rfl, rfl⟩ := hcs
      exact ⟨[], .inl ⟨rfl, rfl, rfl, rfl⟩⟩
    · simp [Value.cells] at hcs
      obtain ⟨rfl, rfl, rfl⟩ := hcs
      exact ⟨zs, .inr ⟨_, rfl, hl, hm, by simpa using hz, hcell, hwz⟩⟩
  obtain ⟨a1, rfl, rfl, rfl, w1⟩ := open_int Try.underlying5 (hval 1 5 v1 rfl rfl) h1
  obtain ⟨a2, rfl, rfl, rfl, w2⟩ := open_int Try.underlying39 (hval 2 39 v2 rfl rfl) h2
  clear hA0 hval0
  refine (walk a0 len0 cap0 z0 a1 a2 W w0 w1 w2).mono fun e W' ⟨he, bel⟩ => ?_
  subst he
  exact ⟨_, rfl, _, _, _, [], _, [], hW', trodAll_mk1 (shut_bool Try.underlying4 _), (trodAll_cons_mk (Below.trod laidOut (by kernel_rfl) (of_decide_eq_true (by kernel_rfl)) k0 bel lt0) (trodAll_cons_mk (shut_int Try.underlying5 w1) (trodAll_cons_mk (shut_int Try.underlying39 w2) trodAll_mk0))), rfl, bel.frame _, fun h => by cases h⟩

theorem over : Rows.sortedSumsRow.holds Try.pinned (OpenSpec.ofChange Rows.sortedSumsSpec) :=
  OpenClaim.holds_of_wide 7 Try.f7 rfl rfl rfl rfl rfl rfl rfl ⟨rfl, rfl, rfl, rfl, rfl⟩ rfl rfl rfl rfl rfl (by kernel_rfl) Try.func7 (by kernel_rfl)
    (of_decide_eq_true (by kernel_rfl)) (by unfold Func.isWrapper; first | (rw [if_pos (by decide +kernel)]; kernel_rfl) | (rw [if_neg (by decide +kernel)]; exact ⟨rfl, rfl⟩))
    (fun os started H enc _ => lifted os started H enc)

/-- THE STATEMENT -/
theorem proved : Rows.SortedSumsSaid := over
#print axioms proved
end Go.Proofs.Ytjbjkegjcpplaaa.sortedSums

