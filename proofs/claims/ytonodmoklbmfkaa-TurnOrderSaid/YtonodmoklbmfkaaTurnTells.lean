/- TurnTells: of every two who is ahead, of every row who is first: the document's. No condition. -/
import Derived.Test.YtonodmoklbmfkaaKnown22
import Derived.Test.YtonodmoklbmfkaaTurn11
import Derived.Test.YtonodmoklbmfkaaTurn13
import Derived.Test.YtonodmoklbmfkaaSameIntsW
import Derived.Test.YtonodmoklbmfkaaTrips
set_option linter.unusedSimpArgs false
set_option linter.unusedVariables false
namespace Go.Proofs.Ytonodmoklbmfkaa
open Go.ChangeShapes Go.WideShapes Go.ChangeAt Go.RowKit
def ofTrip (p : Int × Int × Int) : WhoM := ⟨p.1, p.2.1, p.2.2⟩
theorem whos_trips {w : World} {a : Option Addr} {len cap : Nat} {ps : List (Int × Int × Int)} (h : IsTrips w a len cap ps) : WhosOk w a cap (ps.map ofTrip) := by
  obtain ⟨h1, ⟨h2, h3, h4⟩, h5, h6⟩ := h
  subst h1
  refine ⟨?_, fun e => by rw [List.length_map]; exact h2 e, by rw [List.length_map]; exact ⟨h3, h4⟩, fun x hx => by
    obtain ⟨p, hp, rfl⟩ := List.mem_map.1 hx
    exact h6 p hp⟩
  by_cases hz : ps = []
  · exact .inl (by rw [hz]; rfl)
  obtain ⟨b, off, rfl, hc⟩ := h5.resolve_left hz
  have hpos : 0 < ps.length := List.length_pos_iff.2 hz
  refine .inr ⟨b, off, rfl, cell_lt (hc 0 hpos).1, fun j v hj => ?_⟩
  have hjl : j < (wtc (ps.map ofTrip)).length := (List.getElem?_eq_some_iff.1 hj).1
  rw [wtc_len, List.length_map] at hjl
  obtain ⟨i, hi⟩ : ∃ i, i = j / 3 := ⟨_, rfl⟩
  have hil : i < ps.length := by omega
  obtain ⟨a0, a1, a2⟩ := wtc_at (ps.map ofTrip) i (by rw [List.length_map]; exact hil)
  have eg : (ps.map ofTrip).getD i default = ofTrip (ps.getD i (0, 0, 0)) := by simp [List.getD, hil]
  rw [eg] at a0 a1 a2
  obtain ⟨c0, c1, c2⟩ := hc i hil
  have hr : j = i * 3 ∨ j = i * 3 + 1 ∨ j = i * 3 + 2 := by omega
  rcases hr with rfl | rfl | rfl
  · rw [a0] at hj; cases hj; exact c0
  · rw [a1] at hj; cases hj; rw [← Nat.add_assoc]; exact c1
  · rw [a2] at hj; cases hj; rw [← Nat.add_assoc]; exact c2
end Go.Proofs.Ytonodmoklbmfkaa
set_option maxHeartbeats 4000000
set_option maxRecDepth 100000
namespace Go.Proofs.Ytonodmoklbmfkaa.turnTells
open Go.ChangeShapes Go.WideShapes Go.ChangeAt Go.RowKit
open Go.ChangeMaps (open_string shut_string)
set_option linter.unusedVariables false

/-- THE WALK: the Go text returns true, and writes nothing that was there. -/
theorem walk (x0 y0 u0 : Int) (x1 y1 u1 : Int) (a2 : Option Addr) (len2 cap2 : Nat) (z2 : List (Int × Int × Int)) (a3 : Int) (w : World) (w0 : I64 x0 ∧ I64 y0 ∧ I64 u0) (w1 : I64 x1 ∧ I64 y1 ∧ I64 u1) (w2 : IsTrips w a2 len2 cap2 z2) (w3 : (Lit.int .i64 a3).wf = true) :
    Calls Try.prog 3 #[.agg #[.int .i64 x0, .int .i64 y0, .int .i64 u0], .agg #[.int .i64 x1, .int .i64 y1, .int .i64 u1], .slice a2 len2 cap2, .int .i64 a3] w fun e w' => e = .returned (.bool true) ∧ Below w.heap.size w w' := by
  have HL := hidp (whos_trips w2)
  have hlen : len2 = (z2.map ofTrip).length := by rw [List.length_map]; exact w2.hlen
  obtain ⟨l, hl⟩ : ∃ l, z2.map ofTrip = l := ⟨_, rfl⟩
  rw [hl] at HL hlen
  have HLN := hidp hlen
  have ha : WhoM.wf ⟨x0, y0, u0⟩ := w0
  have hbb : WhoM.wf ⟨x1, y1, u1⟩ := w1
  have hb := ((Below.refl w.heap.size w).alloc (Nat.le_refl _) (.cells #[.int .i64 x0, .int .i64 y0, .int .i64 u0] 23)).alloc (by simp) (.cells #[.int .i64 x1, .int .i64 y1, .int .i64 u1] 23)
  have B0 := W3 ((Bk.new w 23 #[.int .i64 x0, .int .i64 y0, .int .i64 u0]).alloc (.cells #[.int .i64 x1, .int .i64 y1, .int .i64 u1] 23))
  have B1 := W3 (Bk.at3 (w := w.alloc (.cells #[.int .i64 x0, .int .i64 y0, .int .i64 u0] 23)) (g := w.heap.size + 1) (t := 23) (cs := #[.int .i64 x1, .int .i64 y1, .int .i64 u1]) (by simp))
  clear w0 w1 w2 hl hlen
  go_enter Try.func3, Try.ntmps3
  go_wp2_with fail
  refine (known22_any _).mono ?_
  rintro e v1 ⟨rfl, hb2⟩
  have k2 := Keeps2 hb2
  have c0 := And.intro (k2 _ _ B0.1) (And.intro (k2 _ _ B0.2.1) (k2 _ _ B0.2.2))
  have c1 := And.intro (k2 _ _ B1.1) (And.intro (k2 _ _ B1.2.1) (k2 _ _ B1.2.2))
  replace hb := hb.trans (hb2.mono hb.size)
  clear hb2 k2 B0 B1
  by_cases h40 : (40 : Int) < (len2 : Int)
  · clear c0 c1
    go_wp2_with fail
    go_ret
    exact ⟨rfl, hb⟩
  have hle : l.length ≤ 40 := by have := HLN.out; omega
  obtain ⟨Z, HZ⟩ : ∃ Z, Hid (firstV l a3 = Z) := ⟨_, hidp rfl⟩
  have HZL : Hid (Z.length ≤ 1000) := hidp (by
    rw [← HZ.out]; unfold firstV; rw [List.length_map, List.length_take, sortW_len]; omega)
  have HC1 : Hid (∀ u, Below w.heap.size w u → Calls Try.prog 9 #[.slice a2 len2 cap2, .int .i64 a3] u (FirstPost u Z)) := hidp (fun u hu => by
    have := first40_any a2 cap2 l a3 u (HL.out.over hu) hle
    rw [HZ.out, ← HLN.out] at this
    exact this)
  have HC2 : Hid (∀ u, Below w.heap.size w u → Calls Try.prog 10 #[.slice a2 len2 cap2, .int .i64 a3] u (FirstPost u Z)) := hidp (fun u hu => by
    have := rfirst_any a2 cap2 l a3 u (HL.out.over hu) hle
    rw [HZ.out, ← HLN.out] at this
    exact this)
  obtain ⟨V, HV⟩ : ∃ V, Hid (aheadB ⟨x0, y0, u0⟩ ⟨x1, y1, u1⟩ = V) := ⟨_, hidp rfl⟩
  have e1 : (V == V) = true := by simp
  have HB := hidp (below_drewN hb 1)
  have hS : v1.drew.cell? ⟨w.heap.size, 0, none⟩ = some (.int .i64 x0) ∧ v1.drew.cell? ⟨w.heap.size, 1, none⟩ = some (.int .i64 y0) ∧ v1.drew.cell? ⟨w.heap.size, 2, none⟩ = some (.int .i64 u0) ∧ v1.drew.cell? ⟨w.heap.size + 1, 0, none⟩ = some (.int .i64 x1) ∧ v1.drew.cell? ⟨w.heap.size + 1, 1, none⟩ = some (.int .i64 y1) ∧ v1.drew.cell? ⟨w.heap.size + 1, 2, none⟩ = some (.int .i64 u1) := ⟨c0.1, c0.2.1, c0.2.2, c1.1, c1.2.1, c1.2.2⟩
  clear hle c0 c1 hb
  go_wp2_with fail
  go_region_held3 (fun w' => w'.cell? ⟨w.heap.size, 0, none⟩ = some (.int .i64 x0) ∧ w'.cell? ⟨w.heap.size, 1, none⟩ = some (.int .i64 y0) ∧ w'.cell? ⟨w.heap.size, 2, none⟩ = some (.int .i64 u0) ∧ w'.cell? ⟨w.heap.size + 1, 0, none⟩ = some (.int .i64 x1) ∧ w'.cell? ⟨w.heap.size + 1, 1, none⟩ = some (.int .i64 y1) ∧ w'.cell? ⟨w.heap.size + 1, 2, none⟩ = some (.int .i64 u1)) (exact hS)
    (first
      | (go_at_call 6; refine (ahead_any ⟨x0, y0, u0⟩ ⟨x1, y1, u1⟩ _ ha hbb).mono ?_; rintro e u ⟨rfl, hb3⟩; have k3 := Keeps2 hb3; have hS := And.intro (k3 _ _ hS.1) (And.intro (k3 _ _ hS.2.1) (And.intro (k3 _ _ hS.2.2.1) (And.intro (k3 _ _ hS.2.2.2.1) (And.intro (k3 _ _ hS.2.2.2.2.1) (k3 _ _ hS.2.2.2.2.2))))); have HB := hidp (HB.out.trans (hb3.mono HB.out.size)); clear k3 hb3; rw [HV.out])
      | (go_at_call 7; refine (rahead_any ⟨x0, y0, u0⟩ ⟨x1, y1, u1⟩ _ ha hbb).mono ?_; rintro e u ⟨rfl, hb3⟩; have k3 := Keeps2 hb3; have hS := And.intro (k3 _ _ hS.1) (And.intro (k3 _ _ hS.2.1) (And.intro (k3 _ _ hS.2.2.1) (And.intro (k3 _ _ hS.2.2.2.1) (And.intro (k3 _ _ hS.2.2.2.2.1) (k3 _ _ hS.2.2.2.2.2))))); have HB := hidp (HB.out.trans (hb3.mono HB.out.size)); clear k3 hb3; rw [HV.out])
      | (go_at_call 9; refine (HC1.out _ HB.out).mono ?_; rintro e u ⟨A1, c1, rfl, r1, _, _, hb3, _⟩; have k3 := Keeps2 hb3; have hS := And.intro (k3 _ _ hS.1) (And.intro (k3 _ _ hS.2.1) (And.intro (k3 _ _ hS.2.2.1) (And.intro (k3 _ _ hS.2.2.2.1) (And.intro (k3 _ _ hS.2.2.2.2.1) (k3 _ _ hS.2.2.2.2.2))))); have HB := hidp (HB.out.trans (hb3.mono HB.out.size)); have R1 := hidp r1; clear k3 hb3 r1)
      | (go_at_call 10; refine (HC2.out _ HB.out).mono ?_; rintro e u ⟨A2, c2, rfl, r2, _, _, hb3, _⟩; have k3 := Keeps2 hb3; have hS := And.intro (k3 _ _ hS.1) (And.intro (k3 _ _ hS.2.1) (And.intro (k3 _ _ hS.2.2.1) (And.intro (k3 _ _ hS.2.2.2.1) (And.intro (k3 _ _ hS.2.2.2.2.1) (k3 _ _ hS.2.2.2.2.2))))); have HB := hidp (HB.out.trans (hb3.mono HB.out.size)); have R1 := hidp (R1.out.mono k3); have R2 := hidp r2; clear k3 hb3 r2)
      | (go_at_call 8; refine (same_yes R1.out R2.out rfl rfl HZL.out).mono ?_; rintro e u ⟨rfl, hq⟩; have hS := And.intro (hq.cell hS.1) (And.intro (hq.cell hS.2.1) (And.intro (hq.cell hS.2.2.1) (And.intro (hq.cell hS.2.2.2.1) (And.intro (hq.cell hS.2.2.2.2.1) (hq.cell hS.2.2.2.2.2))))); have HB := hidp (hq.below HB.out); clear hq))
  go_wp2_with fail
  go_ret
  exact ⟨rfl, HB.out⟩

theorem own : ownKnob Try.prog.godebug = none := by kernel_rfl
theorem laidOut : laidOutB Try.prog = true := by kernel_rfl

/-! THE ROW's STEP -/
set_option maxRecDepth 100000 in
theorem lifted (os : Os) (started : os.Started) (H : Type) (enc : TypeId × Value → H) :
    ReturnsInHanded {} Try.checked os 3 .any (Rows.turnTellsSpec.pre6 enc Try.prog Try.f3 Rows.turnTellsRow.domain false) (Rows.turnTellsSpec.post enc Try.prog Try.f3 false true false false) := by
  refine returnsInHanded_of_change (C := Try.checked) own started (by kernel_rfl) Try.func3
    (ChangeSpec.witness6 (enc := enc) (C := Try.checked) false ⟨#[], #[.agg #[.int .i64 0, .int .i64 0, .int .i64 0], .agg #[.int .i64 0, .int .i64 0, .int .i64 0], .slice none 0 0, .int .i64 0], []⟩ 8 (by kernel_rfl) (by kernel_rfl) (by kernel_rfl) (by kernel_rfl)) ?_
  intro W base args ds gs before hval0 hW hcnd _
  have hval : ∀ (j : Nat) t v, Try.f3.params[j]? = some t → args[j]? = some v → Value.okWide Try.prog W .any base t v := hval0
  have hW' := hW
  obtain ⟨p, q, hA0, hV, rfl, hfz, hnd⟩ := hW
  have hA : DataW.TrodAll enc Try.prog W 0 (fun _ => true) true Try.f3.params.toList args.toList ds p := hA0
  rw [Try.params3] at hA hval
  obtain ⟨v0, vs0, d0, ds0, p0, q0, hargs, rfl, rfl, h0, r0⟩ := trodAll_cons hA
  obtain ⟨v1, vs1, d1, ds1, p1, q1, rfl, rfl, rfl, h1, r1⟩ := trodAll_cons r0
  obtain ⟨v2, vs2, d2, ds2, p2, q2, rfl, rfl, rfl, h2, r2⟩ := trodAll_cons r1
  obtain ⟨v3, vs3, d3, ds3, p3, q3, rfl, rfl, rfl, h3, r3⟩ := trodAll_cons r2
  obtain ⟨rfl, rfl, rfl⟩ := trodAll_nil r3
  obtain rfl : args = #[v0, v1, v2, v3] := by cases args; simp_all
  obtain ⟨rfl, rfl⟩ := trodVars_none hV
  obtain ⟨c0, rfl, hsz0⟩ := okWide_struct Try.underlying23 (hval 0 23 v0 rfl rfl)
  have k0 := h0
  have lt0 : ∀ x ∈ p0, x.block < W.heap.size := by obtain ⟨m, hm⟩ := k0; exact DataW.trod_lt m _ _ _ hm
  obtain ⟨x0, y0, u0, rfl, w0⟩ : ∃ x y u, c0 = #[.int .i64 x, .int .i64 y, .int .i64 u] ∧ I64 x ∧ I64 y ∧ I64 u := by
    obtain ⟨fuel, hf⟩ := h0
    obtain ⟨x, y, u, hcs, hz⟩ := open_trip Try.underlying23 (by kernel_rfl) (by kernel_rfl) Try.underlying3 Try.underlying3 Try.underlying3 hf
    refine ⟨x, y, u, ?_, hz⟩
    obtain ⟨l⟩ := c0
    have hl : l.length = 3 := hsz0
    simp [Value.cells] at hcs
    try rw [List.take_of_length_le (by omega)] at hcs
    rw [hcs]
  obtain ⟨c1, rfl, hsz1⟩ := okWide_struct Try.underlying23 (hval 1 23 v1 rfl rfl)
  have k1 := h1
  have lt1 : ∀ x ∈ p1, x.block < W.heap.size := by obtain ⟨m, hm⟩ := k1; exact DataW.trod_lt m _ _ _ hm
  obtain ⟨x1, y1, u1, rfl, w1⟩ : ∃ x y u, c1 = #[.int .i64 x, .int .i64 y, .int .i64 u] ∧ I64 x ∧ I64 y ∧ I64 u := by
    obtain ⟨fuel, hf⟩ := h1
    obtain ⟨x, y, u, hcs, hz⟩ := open_trip Try.underlying23 (by kernel_rfl) (by kernel_rfl) Try.underlying3 Try.underlying3 Try.underlying3 hf
    refine ⟨x, y, u, ?_, hz⟩
    obtain ⟨l⟩ := c1
    have hl : l.length = 3 := hsz1
    simp [Value.cells] at hcs
    try rw [List.take_of_length_le (by omega)] at hcs
    rw [hcs]
  obtain ⟨a2, len2, cap2, rfl⟩ := okWide_slice Try.underlying24 (hval 2 24 v2 rfl rfl)
  have k2 := h2
  have lt2 : ∀ x ∈ p2, x.block < W.heap.size := by obtain ⟨m, hm⟩ := k2; exact DataW.trod_lt m _ _ _ hm
  obtain ⟨z2, w2⟩ : ∃ zs, IsTrips W a2 len2 cap2 zs := by
    obtain ⟨fuel, hf⟩ := h2
    obtain ⟨x1, x2, x3, zs, hcs, hz⟩ := open_trips Try.underlying24 Try.underlying23 (by kernel_rfl) (by kernel_rfl) Try.underlying3 Try.underlying3 Try.underlying3 hf
    simp [Value.cells] at hcs
    obtain ⟨rfl, rfl, rfl⟩ := hcs
    exact ⟨zs, hz⟩
  obtain ⟨a3, rfl, rfl, rfl, w3⟩ := open_int Try.underlying3 (hval 3 3 v3 rfl rfl) h3
  clear hA0 hval0
  refine (walk x0 y0 u0 x1 y1 u1 a2 len2 cap2 z2 a3 W w0 w1 w2 w3).mono fun e W' ⟨he, bel⟩ => ?_
  subst he
  exact ⟨_, rfl, _, _, _, [], _, [], hW', trodAll_mk1 (shut_bool Try.underlying4 _), (trodAll_cons_mk (Below.trod laidOut (by kernel_rfl) (of_decide_eq_true (by kernel_rfl)) k0 bel lt0) (trodAll_cons_mk (Below.trod laidOut (by kernel_rfl) (of_decide_eq_true (by kernel_rfl)) k1 bel lt1) (trodAll_cons_mk (Below.trod laidOut (by kernel_rfl) (of_decide_eq_true (by kernel_rfl)) k2 bel lt2) (trodAll_cons_mk (shut_int Try.underlying3 w3) trodAll_mk0)))), rfl, bel.frame _, fun h => by cases h⟩

theorem over : Rows.turnTellsRow.holds Try.pinned (OpenSpec.ofChange Rows.turnTellsSpec) :=
  OpenClaim.holds_of_wide 3 Try.f3 rfl rfl rfl rfl rfl rfl rfl ⟨rfl, rfl, rfl, rfl, rfl⟩ rfl rfl rfl rfl rfl (by kernel_rfl) Try.func3 (by kernel_rfl)
    (of_decide_eq_true (by kernel_rfl)) (by unfold Func.isWrapper; first | (rw [if_pos (by decide +kernel)]; kernel_rfl) | (rw [if_neg (by decide +kernel)]; exact ⟨rfl, rfl⟩))
    (fun os started H enc _ => lifted os started H enc)

/-- THE STATEMENT -/
theorem proved : Rows.TurnTellsSaid := over
#print axioms proved
end Go.Proofs.Ytonodmoklbmfkaa.turnTells

