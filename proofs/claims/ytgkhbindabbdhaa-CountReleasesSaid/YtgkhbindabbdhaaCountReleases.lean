/- CountReleases: however a task's jobs are released, so many ticks apart at least, no more of them can be under way in a window than is told. No condition. -/
import Derived.Test.YtgkhbindabbdhaaKnown12
namespace Go.Proofs.Ytgkhbindabbdhaa
/-- so many were under way by now, each a period behind the one ahead -/
def CR (p b f t m : Int) : Prop := m = 0 ∨ f - b + 1 + m * p ≤ t
theorem CR.skip {p b f t t' m : Int} (h : CR p b f t m) (ht : t ≤ t') : CR p b f t' m := by
  rcases h with h | h
  · exact .inl h
  · exact .inr (by omega)
theorem CR.take {p b f t t' m : Int} (h : CR p b f t m) (h1 : f < t + b) (h2 : t + p ≤ t') : CR p b f t' (m + 1) := by
  right
  rcases h with rfl | h
  · simp; omega
  · rw [Int.add_mul]; omega
theorem CR.less {p b f t m J v : Int} (h : CR p b f t m) (hp : 0 < p) (h1 : t < f + v) (hv : 0 < v) (hb : 0 ≤ b) (hJ : v + b ≤ J * p) : m + 1 ≤ J := by
  have : m * p < J * p := by
    rcases h with rfl | h
    · simp; omega
    · omega
  have := Int.lt_of_mul_lt_mul_right this (by omega)
  omega
theorem jobV_enough {w b p : Int} (h : ¬ (w < 1 ∨ b < 0 ∨ p < 1)) (hm : w + b + p - 1 ≤ 1000000) : w + b ≤ jobV w b p * p := by
  have h1 := quot_bd (w := w + b + p - 1) (p := p) (by omega) (by omega)
  rw [jobV_in h, show min ((w + b + p - 1) / p) 1000000 = (w + b + p - 1) / p by omega]
  have h2 := split_is (w + b + p - 1) p
  have h3 := mod_bd (w + b + p - 1) (show 0 < p by omega)
  omega
end Go.Proofs.Ytgkhbindabbdhaa
set_option maxHeartbeats 1000000
namespace Go.Proofs.Ytgkhbindabbdhaa.countReleases
open Go.ChangeShapes Go.WideShapes Go.ChangeAt Go.RowKit
open Go.ChangeMaps (open_string shut_string)
set_option linter.unusedVariables false

/-- THE WALK: the Go text returns true, and writes nothing that was there. -/
theorem walk (a0 : Option Addr) (len0 cap0 : Nat) (z0 : List Int) (a1 : Int) (a2 : Int) (a3 : Int) (a4 : Int) (w : World) (w0 : IsRow .u8 w a0 len0 cap0 z0) (w1 : (Lit.int .u8 a1).wf = true) (w2 : (Lit.int .u8 a2).wf = true) (w3 : (Lit.int .u16 a3).wf = true) (w4 : (Lit.int .u16 a4).wf = true) :
    Calls Try.prog 4 #[.slice a0 len0 cap0, .int .u8 a1, .int .u8 a2, .int .u16 a3, .int .u16 a4] w fun e w' => e = .returned (.bool true) ∧ Below w.heap.size w w' := by
  obtain ⟨hr, hl, hm, hz⟩ := w0.row
  clear w0
  generalize z0.take len0 = zs at *
  subst hl
  unfold maxLen at hm
  have b1 : 0 ≤ a1 ∧ a1 ≤ 255 := by simp [Lit.wf, IntKind.min, IntKind.max, IntKind.signed, IntKind.bits] at w1; omega
  have b2 : 0 ≤ a2 ∧ a2 ≤ 255 := by simp [Lit.wf, IntKind.min, IntKind.max, IntKind.signed, IntKind.bits] at w2; omega
  have b3 : 0 ≤ a3 ∧ a3 ≤ 65535 := by simp [Lit.wf, IntKind.min, IntKind.max, IntKind.signed, IntKind.bits] at w3; omega
  have b4 : 0 ≤ a4 ∧ a4 ≤ 65535 := by simp [Lit.wf, IntKind.min, IntKind.max, IntKind.signed, IntKind.bits] at w4; omega
  obtain ⟨c1, c2⟩ := b1
  obtain ⟨c3, c4⟩ := b2
  obtain ⟨c5, c6⟩ := b3
  obtain ⟨c7, c8⟩ := b4
  clear w1 w2 w3 w4
  have Hz : Hid (∀ k, 0 ≤ zs.getD k 0 ∧ zs.getD k 0 ≤ 255) := hidp (by
    intro k
    by_cases hk : k < zs.length
    · have := hz _ (List.getElem_mem hk)
      simp [Lit.wf, IntKind.min, IntKind.max, IntKind.signed, IntKind.bits] at this
      simp [List.getD, hk]; omega
    · simp [List.getD, hk])
  clear hz
  have Hr := hidp hr
  clear hr
  obtain ⟨p, hp⟩ : ∃ p, a1 % 40 = p := ⟨_, rfl⟩
  obtain ⟨b, hb⟩ : ∃ b, a2 % 60 = b := ⟨_, rfl⟩
  obtain ⟨f, hf⟩ : ∃ f, a3 % 500 = f := ⟨_, rfl⟩
  obtain ⟨v, hv⟩ : ∃ v, a4 % 300 = v := ⟨_, rfl⟩
  have p0 : 0 ≤ p := by omega
  have p1 : p ≤ 39 := by omega
  have q0 : 0 ≤ b := by omega
  have q1 : b ≤ 59 := by omega
  have f0 : 0 ≤ f := by omega
  have f1 : f ≤ 499 := by omega
  have v0 : 0 ≤ v := by omega
  have v1 : v ≤ 299 := by omega
  obtain ⟨J, hJ⟩ : ∃ J, jobV (v + 1) (b + 1) (p + 1) = J := ⟨_, rfl⟩
  have He : Hid (v + 1 + (b + 1) ≤ J * (p + 1)) := hidp (by rw [← hJ]; exact jobV_enough (by omega) (by omega))
  by_cases h60 : 60 < zs.length
  · go_enter Try.func4, Try.ntmps4
    go_wp2_with (first | (go_at_call 8; (with_reducible refine (known12_any _).mono ?_); rintro e w1 ⟨rfl, hq⟩))
    go_ret
    exact ⟨rfl, hq.b⟩
  · go_enter Try.func4, Try.ntmps4
    go_wp2_with (first | (go_at_call 8; (with_reducible refine (known12_any _).mono ?_); rintro e w1 ⟨rfl, hq⟩))
    clear hp hb hf hv
    go_loopg [15, 16, 17] zs.length (fun g at_ n i wr => ∃ (k : Nat) (t m : Int), k + g = zs.length ∧ i = .int .i64 k ∧ at_ = .int .i64 t ∧ n = .int .i64 m ∧ 0 ≤ t ∧ t ≤ 100 * k ∧ 0 ≤ m ∧ m ≤ J ∧ CR (p + 1) (b + 1) f t m ∧ Qt w wr)
    case atStart => exact ⟨0, 0, 0, by omega, rfl, rfl, rfl, by omega, by omega, by omega, by rw [← hJ]; exact (jobV_bd _ _ _).1, .inl rfl, hq⟩
    case round =>
      obtain ⟨k, t, m, hk, rfl, rfl, rfl, t0, t1, m0, m1, hc, hw⟩ := hrel
      clear hq
      have m2 : m ≤ 1000000 := by have := jobV_bd (v + 1) (b + 1) (p + 1); omega
      by_cases hlt : k < zs.length
      · obtain ⟨g, off, hA, hcell⟩ := Hr.out.resolve_left (by intro e; simp [e] at hlt)
        subst hA
        obtain ⟨z, HZ⟩ : ∃ z, Hid (zs.getD k 0 = z) := ⟨_, rfl⟩
        obtain ⟨z0, z1⟩ := HZ.out ▸ Hz.out k
        have ck : wr.cell? ⟨g, off + k, none⟩ = some (.int .u8 z) := hw.cell (HZ.out ▸ hcell k hlt)
        clear hcell
        obtain ⟨x, hx⟩ : ∃ x, z % 30 = x := ⟨_, rfl⟩
        have x0 : 0 ≤ x := by omega
        have x1 : x ≤ 29 := by omega
        by_cases g1 : t < f + (v + 1)
        · by_cases g2 : f < t + (b + 1)
          · have n1 := hc.less (by omega) g1 (by omega) (by omega) He.out
            have n2 := hc.take (t' := t + (p + 1) + x) g2 (by omega)
            go_wp2
            go_roundg (gk - 1)
            case measure => omega
            case rel => exact ⟨k + 1, t + (p + 1) + x, m + 1, by omega, by go_num, rfl, rfl, by omega, by omega, by omega, n1, n2, hw⟩
          · have n2 := hc.skip (t' := t + (p + 1) + x) (by omega)
            go_wp2
            go_roundg (gk - 1)
            case measure => omega
            case rel => exact ⟨k + 1, t + (p + 1) + x, m, by omega, by go_num, rfl, rfl, by omega, by omega, by omega, m1, n2, hw⟩
        · have n2 := hc.skip (t' := t + (p + 1) + x) (by omega)
          go_wp2
          go_roundg (gk - 1)
          case measure => omega
          case rel => exact ⟨k + 1, t + (p + 1) + x, m, by omega, by go_num, rfl, rfl, by omega, by omega, by omega, m1, n2, hw⟩
      · go_wp2_with (first | (go_at_call 9; (with_reducible refine (jobs_any _ _ _ _ (by unfold I64; omega) (by unfold I64; omega) (by unfold I64; omega)).mono ?_); rintro e w2 ⟨rfl, hq⟩))
        go_ret
        exact ⟨rfl, (hw.trans hq).b⟩

theorem own : ownKnob Try.prog.godebug = none := by kernel_rfl
theorem laidOut : laidOutB Try.prog = true := by kernel_rfl

/-! THE ROW's STEP -/
set_option maxRecDepth 100000 in
theorem lifted (os : Os) (started : os.Started) (H : Type) (enc : TypeId × Value → H) :
    ReturnsInHanded {} Try.checked os 4 .any (Rows.countReleasesSpec.pre6 enc Try.prog Try.f4 Rows.countReleasesRow.domain false) (Rows.countReleasesSpec.post enc Try.prog Try.f4 false true false false) := by
  refine returnsInHanded_of_change (C := Try.checked) own started (by kernel_rfl) Try.func4
    (ChangeSpec.witness6 (enc := enc) (C := Try.checked) false ⟨#[], #[.slice none 0 0, .int .u8 0, .int .u8 0, .int .u16 0, .int .u16 0], []⟩ 8 (by kernel_rfl) (by kernel_rfl) (by kernel_rfl) (by kernel_rfl)) ?_
  intro W base args ds gs before hval0 hW hcnd _
  have hval : ∀ (j : Nat) t v, Try.f4.params[j]? = some t → args[j]? = some v → Value.okWide Try.prog W .any base t v := hval0
  have hW' := hW
  obtain ⟨p, q, hA0, hV, rfl, hfz, hnd⟩ := hW
  have hA : DataW.TrodAll enc Try.prog W 0 (fun _ => true) true Try.f4.params.toList args.toList ds p := hA0
  rw [Try.params4] at hA hval
  obtain ⟨v0, vs0, d0, ds0, p0, q0, hargs, rfl, rfl, h0, r0⟩ := trodAll_cons hA
  obtain ⟨v1, vs1, d1, ds1, p1, q1, rfl, rfl, rfl, h1, r1⟩ := trodAll_cons r0
  obtain ⟨v2, vs2, d2, ds2, p2, q2, rfl, rfl, rfl, h2, r2⟩ := trodAll_cons r1
  obtain ⟨v3, vs3, d3, ds3, p3, q3, rfl, rfl, rfl, h3, r3⟩ := trodAll_cons r2
  obtain ⟨v4, vs4, d4, ds4, p4, q4, rfl, rfl, rfl, h4, r4⟩ := trodAll_cons r3
  obtain ⟨rfl, rfl, rfl⟩ := trodAll_nil r4
  obtain rfl : args = #[v0, v1, v2, v3, v4] := by cases args; simp_all
  obtain ⟨rfl, rfl⟩ := trodVars_none hV
  obtain ⟨a0, len0, cap0, rfl⟩ := okWide_slice Try.underlying26 (hval 0 26 v0 rfl rfl)
  have k0 := h0
  have lt0 : ∀ x ∈ p0, x.block < W.heap.size := by obtain ⟨m, hm⟩ := k0; exact DataW.trod_lt m _ _ _ hm
  obtain ⟨z0, w0⟩ : ∃ zs, IsRow .u8 W a0 len0 cap0 zs := by
    obtain ⟨fuel, hf⟩ := h0
    rcases open_ints Try.underlying26 Try.underlying5 (by kernel_rfl) hf with ⟨hcs, _⟩ | ⟨x, l, c, zs, hcs, _, hl, hm, hz, _, hcell, hwz⟩
    · simp [Value.cells] at hcs
      obtain ⟨rfl, rfl, rfl⟩ := hcs
      exact ⟨[], .inl ⟨rfl, rfl, rfl, rfl⟩⟩
    · simp [Value.cells] at hcs
      obtain ⟨rfl, rfl, rfl⟩ := hcs
      exact ⟨zs, .inr ⟨_, rfl, hl, hm, by simpa using hz, hcell, hwz⟩⟩
  obtain ⟨a1, rfl, rfl, rfl, w1⟩ := open_int Try.underlying5 (hval 1 5 v1 rfl rfl) h1
  obtain ⟨a2, rfl, rfl, rfl, w2⟩ := open_int Try.underlying5 (hval 2 5 v2 rfl rfl) h2
  obtain ⟨a3, rfl, rfl, rfl, w3⟩ := open_int Try.underlying27 (hval 3 27 v3 rfl rfl) h3
  obtain ⟨a4, rfl, rfl, rfl, w4⟩ := open_int Try.underlying27 (hval 4 27 v4 rfl rfl) h4
  clear hA0 hval0
  refine (walk a0 len0 cap0 z0 a1 a2 a3 a4 W w0 w1 w2 w3 w4).mono fun e W' ⟨he, bel⟩ => ?_
  subst he
  exact ⟨_, rfl, _, _, _, [], _, [], hW', trodAll_mk1 (shut_bool Try.underlying4 _), (trodAll_cons_mk (Below.trod laidOut (by kernel_rfl) (of_decide_eq_true (by kernel_rfl)) k0 bel lt0) (trodAll_cons_mk (shut_int Try.underlying5 w1) (trodAll_cons_mk (shut_int Try.underlying5 w2) (trodAll_cons_mk (shut_int Try.underlying27 w3) (trodAll_cons_mk (shut_int Try.underlying27 w4) trodAll_mk0))))), rfl, bel.frame _, fun h => by cases h⟩

theorem over : Rows.countReleasesRow.holds Try.pinned (OpenSpec.ofChange Rows.countReleasesSpec) :=
  OpenClaim.holds_of_wide 4 Try.f4 rfl rfl rfl rfl rfl rfl rfl ⟨rfl, rfl, rfl, rfl, rfl⟩ rfl rfl rfl rfl rfl (by kernel_rfl) Try.func4 (by kernel_rfl)
    (of_decide_eq_true (by kernel_rfl)) (by unfold Func.isWrapper; first | (rw [if_pos (by decide +kernel)]; kernel_rfl) | (rw [if_neg (by decide +kernel)]; exact ⟨rfl, rfl⟩))
    (fun os started H enc _ => lifted os started H enc)

/-- THE STATEMENT -/
theorem proved : Rows.CountReleasesSaid := over
#print axioms proved
end Go.Proofs.Ytgkhbindabbdhaa.countReleases

