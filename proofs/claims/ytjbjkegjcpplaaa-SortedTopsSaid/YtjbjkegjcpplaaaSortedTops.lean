/- SortedTops: each of the greatest is in the row, and none that is left is greater. No condition. -/
import Derived.Test.YtjbjkegjcpplaaaSortNums
import Derived.Test.YtjbjkegjcpplaaaRefInts
import Derived.Deep.QuietTactic
import Derived.BigQuiet
namespace Go.Proofs.Ytjbjkegjcpplaaa
open Go.ChangeShapes Go.WideShapes Go.ChangeAt Go.RowKit
set_option linter.unusedVariables false
theorem in_yes {w : World} {A : Option Addr} {zs : List Int} {x : Int} {n c : Nat} (hrow : Row w .i64 A zs) (hn : n = zs.length) (hl : zs.length ≤ 1000) (hx : x ∈ zs) :
    Calls Try.prog 25 #[.slice A n c, .int .i64 x] w fun e w' => e = .returned (.bool true) ∧ w = w' := by
  obtain ⟨r, Hr⟩ : ∃ r, Hid (atR zs x = r) := ⟨_, rfl⟩
  have h0 : 0 ≤ r := by rw [← Hr.out]; unfold atR; rw [if_pos hx]; omega
  have Hn := hidp hn
  clear hn hx
  go_enter Try.func25, Try.ntmps25
  go_wp2_with (go_at_call 39; refine (at_any hrow Hn.out hl).mono ?_; rintro e w' ⟨rfl, rfl⟩; rw [Hr.out])
  go_ret
  exact ⟨rfl, rfl⟩
theorem in_q {W : World} {A : Option Addr} {zs : List Int} {x : Int} {n c : Nat} (hrow : Row W .i64 A zs) (hn : n = zs.length) (hl : zs.length ≤ 1000) (hx : x ∈ zs) (q : Nat) :
    Calls Try.prog 25 #[.slice A n c, .int .i64 x] (W.drewN q) fun e w' => e = .returned (.bool true) ∧ ∃ m, w' = W.drewN m :=
  (in_yes (w := W.drewN q) hrow hn hl hx).mono fun _ _ ⟨h1, h2⟩ => ⟨h1, q, h2.symm⟩
theorem tops_get {zs : List Int} {j : Int} {k : Nat} {x : Int} (hk : k < (tops zs j).length) (hx : (tops zs j).getD k 0 = x) :
    x ∈ zs ∧ zs.countP (fun y => decide (x < y)) ≤ k ∧ ∀ y, 0 < k → (tops zs j).getD (k - 1) 0 = y → x ≤ y := by
  have hk2 : k < (desc zs).length := by have := tops_len zs j; have := clampN_le j zs.length; rw [desc_len]; omega
  have hg : ∀ i, i < (tops zs j).length → (tops zs j).getD i 0 = (desc zs).getD i 0 := fun i hi => by
    unfold tops at hi ⊢; simp at hi; simp only [List.getD, List.getElem?_take]; rw [if_pos (show i < clampN j zs.length by omega)]
  rw [hg k hk] at hx
  have hx2 : (desc zs)[k] = x := by simpa [List.getD, hk2] using hx
  have hs := List.pairwise_iff_getElem.1 (desc_srt zs)
  refine ⟨(desc_perm zs).mem_iff.1 (hx2 ▸ List.getElem_mem hk2), ?_, fun y h0 hy => ?_⟩
  · rw [← (desc_perm zs).countP_eq, ← List.take_append_drop k (desc zs), List.countP_append]
    have h1 : ((desc zs).take k).countP (fun y => decide (x < y)) ≤ k := Nat.le_trans List.countP_le_length (by simp; omega)
    have h2 : ((desc zs).drop k).countP (fun y => decide (x < y)) = 0 := by
      refine List.countP_eq_zero.2 fun a ha => ?_
      obtain ⟨i, hi, rfl⟩ := List.mem_iff_getElem.1 ha
      simp only [List.getElem_drop]
      simp at hi
      by_cases e : i = 0
      · subst e; simp [hx2]
      · have := hs k (k + i) hk2 (by omega) (by omega); rw [hx2] at this; simp; omega
    omega
  · rw [hg (k - 1) (by omega)] at hy
    have hy2 : (desc zs)[k - 1] = y := by simpa [List.getD, show k - 1 < (desc zs).length by omega] using hy
    have := hs (k - 1) k (by omega) hk2 (by omega)
    omega
theorem IsRow.cap {k : IntKind} {w : World} {a : Option Addr} {len cap : Nat} {zs : List Int} (h : IsRow k w a len cap zs) : len ≤ cap ∧ (a = none → len = 0 ∧ cap = 0) := by
  rcases h with ⟨rfl, rfl, rfl, rfl⟩ | ⟨x, rfl, hl, _⟩
  · exact ⟨Nat.le_refl _, fun _ => ⟨rfl, rfl⟩⟩
  · exact ⟨hl, fun e => by cases e⟩
theorem cnt_snoc (zs : List Int) (q : Nat) (h : q < zs.length) (x : Int) : (zs.take (q + 1)).countP (fun y => decide (x < y)) = (zs.take q).countP (fun y => decide (x < y)) + (if x < zs.getD q 0 then 1 else 0) := by
  rw [take_snoc zs q h, List.countP_append]; simp [List.countP_cons]
end Go.Proofs.Ytjbjkegjcpplaaa
set_option maxHeartbeats 2000000
namespace Go.Proofs.Ytjbjkegjcpplaaa.sortedTops
open Go.ChangeShapes Go.WideShapes Go.ChangeAt Go.RowKit
open Go.ChangeMaps (open_string shut_string)
set_option linter.unusedVariables false

/-- THE WALK: the Go text returns true, and writes nothing that was there. -/
theorem walk (a0 : Option Addr) (len0 cap0 : Nat) (z0 : List Int) (a1 : Int) (w : World) (w0 : IsRow .i64 w a0 len0 cap0 z0) (w1 : (Lit.int .u8 a1).wf = true) :
    Calls Try.prog 5 #[.slice a0 len0 cap0, .int .u8 a1] w fun e w' => e = .returned (.bool true) ∧ Below w.heap.size w w' := by
  obtain ⟨hr, hl, hm, hz⟩ := w0.row
  obtain ⟨hc, hnil⟩ := w0.cap
  clear w0
  generalize z0.take len0 = zs at *
  unfold maxLen at hm
  have b1 : 0 ≤ a1 ∧ a1 ≤ 255 := by simp [Lit.wf, IntKind.min, IntKind.max, IntKind.signed, IntKind.bits] at w1; omega
  obtain ⟨p1, q1⟩ := b1
  clear w1 hz
  have HL := hidp hl
  clear hl
  have Hr := hidp hr
  clear hr
  by_cases h40 : 50 < len0
  · go_enter Try.func5, Try.ntmps5
    go_wp2_with fail
    refine (known2_any _).mono ?_
    rintro e w1 ⟨rfl, hb1⟩
    go_wp2_with fail
    go_ret
    exact ⟨rfl, hb1⟩
  · have hmod : a1.tmod 60 = a1 % 60 := Int.tmod_eq_emod_of_nonneg p1
    have hj0 : 0 ≤ a1 % 60 := by omega
    have hj1 : a1 % 60 ≤ 59 := by omega
    obtain ⟨j, Hj⟩ : ∃ j, a1.tmod 60 = j := ⟨_, rfl⟩
    rw [← hmod, Hj] at hj0 hj1
    clear hmod
    have IJ : Hid (I64 j) := hidp (by unfold I64; omega)
    have hll : zs.length ≤ 1000 := by rw [HL.out]; omega
    have HL1 := hidp HL.out.symm
    have Hnil := hidp hnil
    clear hnil
    obtain ⟨m, Hm⟩ : ∃ m, Hid (clampN j len0 = m) := ⟨_, rfl⟩
    obtain ⟨ts, Hts⟩ : ∃ ts, Hid (tops zs j = ts) := ⟨_, rfl⟩
    have Htl : Hid (ts.length = m) := hidp (by rw [← Hts.out, tops_len, HL.out, Hm.out])
    have wj8 : IntKind.u8.wrap j = j := by simp [IntKind.wrap, IntKind.signed, IntKind.bits]; omega
    have wj : IntKind.i64.wrap j = j := IntWalk.i64_in j (by omega)
    have hmin : min j (len0 : Int) = (m : Int) := by have := Hm.out; unfold clampN at this; omega
    have hm50 : m ≤ 50 := by omega
    go_enter Try.func5, Try.ntmps5
    go_wp2_with fail
    refine (known2_any _).mono ?_
    rintro e w1 ⟨rfl, hb1⟩
    go_wp2_with fail
    refine (top_any (Hr.out.below hb1) HL1.out hc Hnil.out (by omega) IJ.out).mono ?_
    rintro e w2 ⟨T, tc, rfl, hr2, hb2⟩
    rw [Hm.out]
    rw [Hts.out] at hr2
    have hR := (Hr.out.below hb1).below hb2
    have hbe : Below w.heap.size w w2 := hb1.trans (hb2.mono hb1.size)
    clear hb1 hb2 Hr
    have HR := hidp hR
    have HT := hidp hr2
    clear hR hr2
    go_wp2_with fail
    go_loopg [6] m (fun g i wr => ∃ k : Nat, k + g = m ∧ i = .int .i64 k ∧ Qt w2 wr)
    case atStart => exact ⟨0, by omega, rfl, Qt.refl _⟩
    case round =>
      obtain ⟨k, hk, rfl, hq⟩ := hrel
      by_cases hlt : k < m
      · have hkt : k < ts.length := by rw [Htl.out]; exact hlt
        obtain ⟨x, HX⟩ : ∃ x, Hid (ts.getD k 0 = x) := ⟨_, rfl⟩
        obtain ⟨gt, ot, rfl, hct⟩ := HT.out.resolve_left (by intro e; rw [e] at hkt; simp at hkt)
        have ct0 : w2.cell? ⟨gt, ot + k, none⟩ = some (.int .i64 x) := HX.out ▸ hct k hkt
        have hget := tops_get (zs := zs) (j := j) (k := k) (x := x) (by rw [Hts.out]; exact hkt) (by rw [Hts.out]; exact HX.out)
        rw [Hts.out] at hget
        have Hget := hidp hget
        clear hget
        go_wp2_with fail
        go_loopg [7, 8] len0 (fun g ab i wr2 => ∃ q : Nat, q + g = len0 ∧ i = .int .i64 q ∧ ab = .int .i64 ((zs.take q).countP (fun y => decide (x < y)) : Nat) ∧ Qt w2 wr2)
        case atStart => exact ⟨0, by omega, rfl, by simp, hq⟩
        case round =>
          obtain ⟨q, hqk, rfl, rfl, hq2⟩ := hrel
          by_cases hlq : q < len0
          · have hqz : q < zs.length := by rw [HL.out]; exact hlq
            obtain ⟨g, off, rfl, hcl⟩ := HR.out.resolve_left (by intro e; rw [e] at hqz; simp at hqz)
            obtain ⟨y, HY⟩ : ∃ y, Hid (zs.getD q 0 = y) := ⟨_, rfl⟩
            have cy := hq2.cell (HY.out ▸ hcl q hqz)
            have cx := hq2.cell ct0
            have hcs := cnt_snoc zs q hqz x
            rw [HY.out] at hcs
            have hcq : (zs.take q).countP (fun y => decide (x < y)) ≤ 60 := Nat.le_trans List.countP_le_length (by simp; omega)
            obtain ⟨c, Hc⟩ : ∃ c, Hid ((zs.take q).countP (fun y => decide (x < y)) = c) := ⟨_, rfl⟩
            rw [Hc.out] at hcs hcq ⊢
            by_cases hxy : x < y
            · rw [if_pos hxy] at hcs
              have Hcs := hidp hcs
              clear hcs hcl hct
              go_wp2_with fail
              go_quiet (fail)
              go_wp2
              go_roundg (gk - 1)
              case measure => omega
              case rel => exact ⟨q + 1, by omega, by go_num, by rw [Hcs.out]; go_num, hq2.add _⟩
            · rw [if_neg hxy, Nat.add_zero] at hcs
              have Hcs := hidp hcs
              clear hcs hcl hct
              go_wp2_with fail
              go_quiet (fail)
              go_wp2
              go_roundg (gk - 1)
              case measure => omega
              case rel => exact ⟨q + 1, by omega, by go_num, by rw [Hcs.out]; rfl, hq2.add _⟩
          · obtain rfl : q = len0 := by omega
            rw [List.take_of_length_le (by rw [HL.out]; exact Nat.le_refl _)]
            obtain ⟨c, Hc⟩ : ∃ c, Hid (zs.countP (fun y => decide (x < y)) = c) := ⟨_, rfl⟩
            have hck : c ≤ k := by rw [← Hc.out]; exact Hget.out.2.1
            rw [Hc.out]
            have hd1 : decide ((k : Int) < (c : Int)) = false := by simp; omega
            have hR2 := HR.out.mono (fun p v hv => hq2.cell hv)
            have HR2 := hidp hR2
            clear hR2
            have cx := hq2.cell ct0
            have Hin := hidp (in_q (n := q) (c := cap0) HR2.out HL1.out hll Hget.out.1)
            have k1 : (k : Int) < (m : Int) := by omega
            by_cases hk0 : k = 0
            · have hd2 : decide ((0 : Int) < (k : Int)) = false := by simp; omega
              have cx0 := cx
              rw [hk0, Nat.add_zero] at cx0
              have k4 : (0 : Int) < (m : Int) := by omega
              have hc0 : c = 0 := by omega
              clear hct ct0 hd1 hd2
              go_wp2_with fail
              go_quiet ((go_at_call 25; exact Hin.out _))
              go_wp2_with fail
              go_roundg (m - k - 1)
              case measure => omega
              case rel => exact ⟨k + 1, by omega, by go_num, hq2.add _⟩
            · obtain ⟨y, HY⟩ : ∃ y, Hid (ts.getD (k - 1) 0 = y) := ⟨_, rfl⟩
              obtain ⟨p, hp⟩ : ∃ p, k - 1 = p := ⟨_, rfl⟩
              have cy := hq2.cell (HY.out ▸ hct (k - 1) (by omega))
              rw [hp] at cy
              have hxy := Hget.out.2.2 y (by omega) HY.out
              have hd3 : decide (y < x) = false := by simp; omega
              have hd2 : (0 : Int) < (k : Int) := by omega
              have hd5 : decide ((0 : Int) < (k : Int)) = true := decide_eq_true hd2
              have hk1 : 0 < k := by omega
              clear hk0
              have i4 : IntKind.i64.wrap ((k : Int) - 1) = (p : Int) := by rw [show (k : Int) - 1 = (p : Int) by omega]; exact IntWalk.i64_in _ (by omega)
              have i5 : (0 : Int) ≤ (p : Int) := by omega
              have i6 : (p : Int) < (m : Int) := by omega
              clear hp
              clear hct hxy
              go_wp2_with fail
              go_quiet ((go_at_call 25; exact Hin.out _))
              go_wp2_with fail
              go_roundg (m - k - 1)
              case measure => omega
              case rel => exact ⟨k + 1, by omega, by go_num, hq2.add _⟩
      · obtain rfl : k = m := by omega
        go_wp2_with fail
        go_ret
        exact ⟨rfl, hq.below hbe⟩

theorem own : ownKnob Try.prog.godebug = none := by kernel_rfl
theorem laidOut : laidOutB Try.prog = true := by kernel_rfl

/-! THE ROW's STEP -/
set_option maxRecDepth 100000 in
theorem lifted (os : Os) (started : os.Started) (H : Type) (enc : TypeId × Value → H) :
    ReturnsInHanded {} Try.checked os 5 .any (Rows.sortedTopsSpec.pre6 enc Try.prog Try.f5 Rows.sortedTopsRow.domain false) (Rows.sortedTopsSpec.post enc Try.prog Try.f5 false true false false) := by
  refine returnsInHanded_of_change (C := Try.checked) own started (by kernel_rfl) Try.func5
    (ChangeSpec.witness6 (enc := enc) (C := Try.checked) false ⟨#[], #[.slice none 0 0, .int .u8 0], []⟩ 8 (by kernel_rfl) (by kernel_rfl) (by kernel_rfl) (by kernel_rfl)) ?_
  intro W base args ds gs before hval0 hW hcnd _
  have hval : ∀ (j : Nat) t v, Try.f5.params[j]? = some t → args[j]? = some v → Value.okWide Try.prog W .any base t v := hval0
  have hW' := hW
  obtain ⟨p, q, hA0, hV, rfl, hfz, hnd⟩ := hW
  have hA : DataW.TrodAll enc Try.prog W 0 (fun _ => true) true Try.f5.params.toList args.toList ds p := hA0
  rw [Try.params5] at hA hval
  obtain ⟨v0, vs0, d0, ds0, p0, q0, hargs, rfl, rfl, h0, r0⟩ := trodAll_cons hA
  obtain ⟨v1, vs1, d1, ds1, p1, q1, rfl, rfl, rfl, h1, r1⟩ := trodAll_cons r0
  obtain ⟨rfl, rfl, rfl⟩ := trodAll_nil r1
  obtain rfl : args = #[v0, v1] := by cases args; simp_all
  obtain ⟨rfl, rfl⟩ := trodVars_none hV
  obtain ⟨a0, len0, cap0, rfl⟩ := okWide_slice Try.underlying25 (hval 0 25 v0 rfl rfl)
  have k0 := h0
  have lt0 : ∀ x ∈ p0, x.block < W.heap.size := by obtain ⟨m, hm⟩ := k0; exact DataW.trod_lt m _ _ _ hm
  obtain ⟨z0, w0⟩ : ∃ zs, IsRow .i64 W a0 len0 cap0 zs := by
    obtain ⟨fuel, hf⟩ := h0
    rcases open_ints Try.underlying25 Try.underlying3 (by kernel_rfl) hf with ⟨hcs, _⟩ | ⟨x, l, c, zs, hcs, _, hl, hm, hz, _, hcell, hwz⟩
    · simp [Value.cells] at hcs
      obtain ⟨rfl, rfl, rfl⟩ := hcs
      exact ⟨[], .inl ⟨rfl, rfl, rfl, rfl⟩⟩
    · simp [Value.cells] at hcs
      obtain ⟨rfl, rfl, rfl⟩ := hcs
      exact ⟨zs, .inr ⟨_, rfl, hl, hm, by simpa using hz, hcell, hwz⟩⟩
  obtain ⟨a1, rfl, rfl, rfl, w1⟩ := open_int Try.underlying5 (hval 1 5 v1 rfl rfl) h1
  clear hA0 hval0
  refine (walk a0 len0 cap0 z0 a1 W w0 w1).mono fun e W' ⟨he, bel⟩ => ?_
  subst he
  exact ⟨_, rfl, _, _, _, [], _, [], hW', trodAll_mk1 (shut_bool Try.underlying4 _), (trodAll_cons_mk (Below.trod laidOut (by kernel_rfl) (of_decide_eq_true (by kernel_rfl)) k0 bel lt0) (trodAll_cons_mk (shut_int Try.underlying5 w1) trodAll_mk0)), rfl, bel.frame _, fun h => by cases h⟩

theorem over : Rows.sortedTopsRow.holds Try.pinned (OpenSpec.ofChange Rows.sortedTopsSpec) :=
  OpenClaim.holds_of_wide 5 Try.f5 rfl rfl rfl rfl rfl rfl rfl ⟨rfl, rfl, rfl, rfl, rfl⟩ rfl rfl rfl rfl rfl (by kernel_rfl) Try.func5 (by kernel_rfl)
    (of_decide_eq_true (by kernel_rfl)) (by unfold Func.isWrapper; first | (rw [if_pos (by decide +kernel)]; kernel_rfl) | (rw [if_neg (by decide +kernel)]; exact ⟨rfl, rfl⟩))
    (fun os started H enc _ => lifted os started H enc)

/-- THE STATEMENT -/
theorem proved : Rows.SortedTopsSaid := over
#print axioms proved
end Go.Proofs.Ytjbjkegjcpplaaa.sortedTops

