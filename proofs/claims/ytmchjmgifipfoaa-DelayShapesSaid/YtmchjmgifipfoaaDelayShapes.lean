/- DelayShapes: who isn't waited for. No condition. -/
import Derived.Test.YtmchjmgifipfoaaKnown26
import Derived.Test.YtmchjmgifipfoaaTwoO26
import Derived.Test.YtmchjmgifipfoaaRegC
import Derived.Test.YtmchjmgifipfoaaReg
import Derived.Test.YtmchjmgifipfoaaUp
import Derived.Deep.CutBlock
import Derived.Test.YtmchjmgifipfoaaOwnPut
import Derived.Test.YtmchjmgifipfoaaLit
import Derived.Test.YtmchjmgifipfoaaShapeNums
set_option linter.unusedSimpArgs false
namespace Go.Proofs.Ytmchjmgifipfoaa
theorem cells11 {B : Nat} {w : World} {g c : Nat} {t0 t1 : TaskR} (h : OwnT B w (some ⟨g, 0, none⟩) 2 c [t0, t1]) : w.cell? ⟨g, 11, none⟩ = some (.slice t1.pa t1.parts.length t1.pc) := by
  obtain ⟨b, off, e, h⟩ := (lies_tasks h.tasks).resolve_left (by simp [ttc])
  cases e
  have := h.2 11 (.slice t1.pa t1.parts.length t1.pc) rfl
  rw [Nat.zero_add] at this
  exact this
end Go.Proofs.Ytmchjmgifipfoaa
set_option maxHeartbeats 8000000
set_option maxRecDepth 100000
namespace Go.Proofs.Ytmchjmgifipfoaa.delayShapes
open Go.ChangeShapes Go.WideShapes Go.ChangeAt Go.RowKit
open Go.ChangeMaps (open_string shut_string)
set_option linter.unusedVariables false

/-- THE WALK: the Go text returns true, and writes nothing that was there. -/
theorem walk (a0 : Int) (a1 : Int) (a2 : Int) (a3 : Int) (a4 : Bool) (a5 : Bool) (w : World) (w0 : (Lit.int .u8 a0).wf = true) (w1 : (Lit.int .u8 a1).wf = true) (w2 : (Lit.int .u8 a2).wf = true) (w3 : (Lit.int .u8 a3).wf = true) :
    Calls Try.prog 6 #[.int .u8 a0, .int .u8 a1, .int .u8 a2, .int .u8 a3, .bool a4, .bool a5] w fun e w' => e = .returned (.bool true) ∧ Below w.heap.size w w' := by
  obtain ⟨k0, hk0, hl0, hl1, hl2⟩ := info_parts infoPart
  obtain ⟨x, x0, x1, hx⟩ := mod_u8 50 w0 (by decide)
  obtain ⟨y, y0, y1, hy⟩ := mod_u8 20 w1 (by decide)
  obtain ⟨z, z0, z1, hz⟩ := mod_u8 80 w2 (by decide)
  obtain ⟨l, l0, l1, hl⟩ := mod_u8 9 w3 (by decide)
  have wg : IntKind.i64.wrap (x + y) = x + y := IntWalk.i64_in _ (by omega)
  have wf : IntKind.i64.wrap (x + y + 5) = x + y + 5 := IntWalk.i64_in _ (by omega)
  have wl : IntKind.i64.wrap (z + l) = z + l := IntWalk.i64_in _ (by omega)
  have wh : IntKind.i64.wrap (z + l + 1) = z + l + 1 := IntWalk.i64_in _ (by omega)
  go_enter Try.func6, Try.ntmps6
  have hb := Below.refl w.heap.size w
  go_wp2_with fail
  refine (known26_any _).mono ?_
  rintro e u1 ⟨rfl, hb2⟩
  replace hb := hb.trans (hb2.mono hb.size)
  clear hb2
  have hwu := hb.size
  go_wp2_with fail
  refine (twoO26_any 1 1 9 1 9 _ (by decide) (by decide) (by decide) (by decide) (by decide)).mono ?_
  rintro e w2' ⟨⟨S, rfl, hs, hS, hO, hF⟩, hb2⟩
  replace hb := hb.trans (hb2.mono hb.size)
  have hu1 := hb2.size
  have hbz := hb.size
  obtain ⟨q1, q2, q3, a1, a2, c1, c2, q4⟩ := hS
  obtain ⟨proto, ca, cc, cores, ha, hc, homes, ta, tc, tasks⟩ := S
  dsimp only at q1 q2 q3 q4 hO hF ⊢
  subst q1
  subst q2
  subst q3
  subst q4
  obtain ⟨gs, hta, gs1, gs2⟩ := own_at hO.own (by simp)
  subst hta
  have IC := hs.cores
  have P1 := hs.tasks.ok ⟨⟨#[97]⟩, 100, 100, 1, 0, a1, c1, [⟨1, 1, 0⟩, ⟨3, 9, 0⟩]⟩ (by simp)
  have P2 := hs.tasks.ok ⟨⟨#[98]⟩, 200, 200, 2, 0, a2, c2, [⟨1, 1, 0⟩, ⟨3, 9, 0⟩]⟩ (by simp)
  dsimp only at IC
  have hG := hF gs (by simp [fp])
  have FC : ∀ k ∈ fp ca, k ≠ gs ∧ k < w2'.heap.size := fun k hk => ⟨fun e => hG.1 (e ▸ hk), fp_ints IC k hk⟩
  have F1 : ∀ k ∈ fp a1, k ≠ gs ∧ k < w2'.heap.size := fun k hk => ⟨fun e => hG.2.2 _ (List.mem_cons_self ..) (e ▸ hk), fp_parts P1.at_ k hk⟩
  have F2 : ∀ k ∈ fp a2, k ≠ gs ∧ k < w2'.heap.size := fun k hk => ⟨fun e => hG.2.2 _ (List.mem_cons_of_mem _ (List.mem_cons_self ..)) (e ▸ hk), fp_parts P2.at_ k hk⟩
  obtain ⟨B, hB⟩ : ∃ x, w2'.heap.size = x := ⟨_, rfl⟩
  have bS : Bk (w2'.alloc (.cells #[.int .i64 1, .slice ca 1 cc, .slice ha 1 hc, .slice (some ⟨gs, 0, none⟩) 2 tc] 26)) B 26 #[.int .i64 1, .slice ca 1 cc, .slice ha 1 hc, .slice (some ⟨gs, 0, none⟩) 2 tc] := Bk.at_ hB rfl
  have hb0 := hb.alloc hb.size (.cells #[.int .i64 1, .slice ca 1 cc, .slice ha 1 hc, .slice (some ⟨gs, 0, none⟩) 2 tc] 26)
  have K0 := Keeps.alloc w2' (.cells #[.int .i64 1, .slice ca 1 cc, .slice ha 1 hc, .slice (some ⟨gs, 0, none⟩) 2 tc] 26)
  replace IC := IC.keep K0
  replace P1 := P1.keep K0
  replace P2 := P2.keep K0
  have O0 := hO.turned ((Turned.refl [] w2').alloc (.cells #[.int .i64 1, .slice ca 1 cc, .slice ha 1 hc, .slice (some ⟨gs, 0, none⟩) 2 tc] 26)) (by simp)
  have hbz2 : w.heap.size ≤ B := by rw [← hB]; exact hbz
  rw [hB] at FC F1 F2
  clear hs hF hO K0 hb hb2
  go_upto_region 4 with fail
  obtain ⟨v0, hv0⟩ : ∃ v, w2'.alloc (.cells #[.int .i64 1, .slice ca 1 cc, .slice ha 1 hc, .slice (some ⟨gs, 0, none⟩) 2 tc] 26) = v := ⟨_, rfl⟩
  rw [hv0] at bS hb0 IC P1 P2 O0 ⊢
  try rw [hB]
  have hBv : B < v0.heap.size := bS.lt
  have gsB : gs < B := by rw [← hB]; exact gs2
  clear hv0 hB gs2
  obtain ⟨N, hN⟩ : ∃ x, v0.heap.size = x := ⟨_, rfl⟩
  have bS1 := bS.alloc (.cells #[.int .i64 0, .int .i64 0] 3)
  have cz := bS1.cell 2
  have fz := bS1.frozen 2
  go_upto_region 5 with fail
  have T1 : Turned [B] v0 ((v0.alloc (.cells #[.int .i64 0, .int .i64 0] 3)).setCell ⟨B, 2, none⟩ (.slice (some ⟨N, 0, none⟩) 2 2)) := ((Turned.refl [B] v0).alloc (.cells #[.int .i64 0, .int .i64 0] 3)).setCell (p := ⟨B, 2, none⟩) (.inl (by simp)) _
  have b1 : Bk ((v0.alloc (.cells #[.int .i64 0, .int .i64 0] 3)).setCell ⟨B, 2, none⟩ (.slice (some ⟨N, 0, none⟩) 2 2)) B 26 #[.int .i64 1, .slice ca 1 cc, .slice (some ⟨N, 0, none⟩) 2 2, .slice (some ⟨gs, 0, none⟩) 2 tc] := bS1.put 2 _
  have bN : Bk ((v0.alloc (.cells #[.int .i64 0, .int .i64 0] 3)).setCell ⟨B, 2, none⟩ (.slice (some ⟨N, 0, none⟩) 2 2)) N 3 #[.int .i64 0, .int .i64 0] := (Bk.at_ hN rfl : Bk (v0.alloc (.cells #[.int .i64 0, .int .i64 0] 3)) N 3 #[.int .i64 0, .int .i64 0]).far (by simp; omega) _
  have IH : IntsOk _ (some ⟨N, 0, none⟩) 2 [0, 0] := ⟨⟨(fun e => by cases e), by show 2 ≤ 2; decide, by show 2 ≤ maxLen; decide⟩, ints_lit (zs := [0, 0]) bN, by decide⟩
  replace IC := IC.turned T1 (fun k hk => by have := (FC k hk).2; simp; omega)
  replace P1 := P1.turned T1 (fun k hk => by have := (F1 k hk).2; simp; omega)
  replace P2 := P2.turned T1 (fun k hk => by have := (F2 k hk).2; simp; omega)
  replace O0 := O0.turned T1 (fun k hk => by simp [fp] at hk; simp; omega)
  have hb1 := hb0.trans (T1.below hb0.size (by simp; omega))
  obtain ⟨v1, hv1⟩ : ∃ v, (v0.alloc (.cells #[.int .i64 0, .int .i64 0] 3)).setCell ⟨B, 2, none⟩ (.slice (some ⟨N, 0, none⟩) 2 2) = v := ⟨_, rfl⟩
  rw [hv1] at b1 bN IH IC P1 P2 O0 hb1 ⊢
  have Nv : N < v1.heap.size := bN.lt
  have BN : B < N := by rw [← hN]; exact hBv
  clear hv1 T1 bS bS1 cz fz hb0 hBv hN
  have TD := (Turned.refl [] v1).drew
  have bD := b1.turned TD (by simp)
  have OD := O0.turned TD (by simp)
  have PD := P2.turned TD (by simp)
  have cB : v1.drew.cell? ⟨B, 3, none⟩ = some (.slice (some ⟨gs, 0, none⟩) 2 tc) := bD.cell 3
  have cG : v1.drew.cell? ⟨gs, 11, none⟩ = some (.slice a2 2 c2) := by
    obtain ⟨b, off, e, h⟩ := (lies_tasks OD.tasks).resolve_left (by simp [ttc])
    cases e
    have := h.2 11 (.slice a2 2 c2) rfl
    rw [Nat.zero_add] at this
    exact this
  refine wp_region_c_drew 13 (S := fun w' => w'.cell? ⟨B, 3, none⟩ = some (.slice (some ⟨gs, 0, none⟩) 2 tc) ∧ w'.cell? ⟨gs, 11, none⟩ = some (.slice a2 2 c2)) (by kernel_rfl) ?_ (fun hHeld => ?_)
  · exact ⟨cB, cG⟩
  have zD : v1.drew.heap.size = v1.heap.size := rfl
  generalize v1.drew = u at *
  have psl := PD.sl
  dsimp only at psl
  have Q3 := hidp psl.1
  have L3 := hidp (ptc_len [⟨1, 1, 0⟩, ⟨3, 9, 0⟩])
  have O3 := hidp (ptc_one [⟨1, 1, 0⟩, ⟨3, 9, 0⟩])
  have L4 := hidp (ptc_len [⟨3, 9, 1⟩])
  have O4 := hidp (ptc_one [⟨3, 9, 1⟩])
  have Zu := hidp zD
  clear psl zD
  refine wpAnyC_take (i := 0) (v := ?_) rfl rfl (by kernel_rfl) (by decide) (by kernel_rfl) (by kernel_rfl) (by kernel_rfl) (fun _ _ _ h => h) (Or.inl ⟨by rfl, ?_⟩) (by assumption) ?_
  rotate_left 1
  · ((intro w hSw; (try dsimp only at hSw); go_simp); (try with_reducible rfl))
  simp only [Act.put, List.setIfInBounds_toArray, List.set_cons_zero, List.set_cons_succ, List.getElem_toArray, List.getElem_cons_zero, List.getElem_cons_succ]
  refine wpAnyC_take (i := 1) (v := ?_) rfl rfl (by kernel_rfl) (by decide) (by kernel_rfl) (by kernel_rfl) (by kernel_rfl) (fun _ _ _ h => h) (Or.inl ⟨by rfl, ?_⟩) (by assumption) ?_
  rotate_left 1
  · ((intro w hSw; (try dsimp only at hSw); go_simp); (try with_reducible rfl))
  simp only [Act.put, List.setIfInBounds_toArray, List.set_cons_zero, List.set_cons_succ, List.getElem_toArray, List.getElem_cons_zero, List.getElem_cons_succ]
  refine wpAnyC_take (i := 2) (v := ?_) rfl rfl (by kernel_rfl) (by decide) (by kernel_rfl) (by kernel_rfl) (by kernel_rfl) (fun _ _ _ h => h) (Or.inl ⟨by rfl, ?_⟩) (by assumption) ?_
  rotate_left 1
  · ((intro w hSw; (try dsimp only at hSw); go_simp); (try with_reducible rfl))
  simp only [Act.put, List.setIfInBounds_toArray, List.set_cons_zero, List.set_cons_succ, List.getElem_toArray, List.getElem_cons_zero, List.getElem_cons_succ]
  refine wpAnyC_take (i := 3) (v := ?_) rfl rfl (by kernel_rfl) (by decide) (by kernel_rfl) (by kernel_rfl) (by kernel_rfl) (fun _ _ _ h => h) (Or.inl ⟨by rfl, ?_⟩) (by assumption) ?_
  rotate_left 1
  · ((intro w hSw; (try dsimp only at hSw); go_simp); (try with_reducible rfl))
  simp only [Act.put, List.setIfInBounds_toArray, List.set_cons_zero, List.set_cons_succ, List.getElem_toArray, List.getElem_cons_zero, List.getElem_cons_succ]
  refine wpAnyC_take (i := 4) (v := ?_) rfl rfl (by kernel_rfl) (by decide) (by kernel_rfl) (by kernel_rfl) (by kernel_rfl) (fun _ _ _ h => h) (Or.inl ⟨by rfl, ?_⟩) (by assumption) ?_
  rotate_left 1
  · ((intro w hSw; (try dsimp only at hSw); go_simp); (try with_reducible rfl))
  simp only [Act.put, List.setIfInBounds_toArray, List.set_cons_zero, List.set_cons_succ, List.getElem_toArray, List.getElem_cons_zero, List.getElem_cons_succ]
  refine wpAnyC_take (i := 5) (v := ?_) rfl rfl (by kernel_rfl) (by decide) (by kernel_rfl) (by kernel_rfl) (by kernel_rfl) (fun _ _ _ h => h) (Or.inl ⟨by rfl, ?_⟩) (by assumption) ?_
  rotate_left 1
  · ((intro w hSw; (try dsimp only at hSw); go_simp); (try with_reducible rfl))
  simp only [Act.put, List.setIfInBounds_toArray, List.set_cons_zero, List.set_cons_succ, List.getElem_toArray, List.getElem_cons_zero, List.getElem_cons_succ]
  refine wpAnyC_take (i := 6) (v := ?_) rfl rfl (by kernel_rfl) (by decide) (by kernel_rfl) (by kernel_rfl) (by kernel_rfl) (fun _ _ _ h => h) (Or.inl ⟨by rfl, ?_⟩) (by assumption) ?_
  rotate_left 1
  · ((intro w hSw; (try dsimp only at hSw); go_simp); (try with_reducible rfl))
  simp only [Act.put, List.setIfInBounds_toArray, List.set_cons_zero, List.set_cons_succ, List.getElem_toArray, List.getElem_cons_zero, List.getElem_cons_succ]
  refine wpAnyC_take (i := 8) (v := ?_) rfl rfl (by kernel_rfl) (by decide) (by kernel_rfl) (by kernel_rfl) (by kernel_rfl) (fun _ _ _ h => h) (Or.inl ⟨by rfl, ?_⟩) (by assumption) ?_
  rotate_left 1
  · ((intro w hSw; (try dsimp only at hSw); go_simp); (try with_reducible rfl))
  simp only [Act.put, List.setIfInBounds_toArray, List.set_cons_zero, List.set_cons_succ, List.getElem_toArray, List.getElem_cons_zero, List.getElem_cons_succ]
  refine wpAnyC_ready (rs := [7, 9]) (by kernel_rfl) (by simp) ?_
  refine AllReadyC.cons rfl (fun K hK => ?_) (AllReadyC.cons rfl (fun K hK => ?_) AllReadyC.nil)
  · have S3 := hidp (lies_parts PD.at_)
    have Z3 : Hid (v1.heap.size ≤ u.heap.size) := hidp (by rw [Zu.out]; exact Nat.le_refl _)
    refine step_app2 u rfl (.const (.slice none 0 0)) (.tmp 31) 47 rfl v1.heap.size 51 k0 _ 3 24 Try.underlying47 hk0 hl0 hl1 hl2 rfl (by decide) none 0 0 [] rfl (World.ownsRow_nil _ _ _ _) _ a2 2 c2 (ptc [⟨1, 1, 0⟩, ⟨3, 9, 0⟩]) rfl Q3.out L3.out S3.out O3.out (by decide) (by decide) Z3.out ?_
    intro A1 k1 u2 happ
    try simp only [Nat.zero_add, List.nil_append] at happ
    have TA := happ.turned
    have b2 := bD.turned TA (by simp [fp])
    have O2 := OD.turned TA (by simp [fp])
    have s2 := And.intro (b2.cell 3) (cells11 O2)
    refine hK.out _ _ ?_ (fun hHeld => ?_)
    · exact s2
    clear hK K
    try simp only [Act.put, List.setIfInBounds_toArray, List.set_cons_zero, List.set_cons_succ, List.getElem_toArray, List.getElem_cons_zero, List.getElem_cons_succ]
    refine wpAnyC_ready (rs := [9]) (by kernel_rfl) (by simp) ?_
    refine AllReadyC.cons rfl (fun K hK => ?_) AllReadyC.nil
    go_simp
    have b3 := b2.alloc (.cells (ptc [⟨3, 9, 1⟩]).toArray 51)
    have s3 := And.intro (b3.cell 3) (cells11 (O2.turned ((Turned.refl [] u2).alloc (.cells (ptc [⟨3, 9, 1⟩]).toArray 51)) (by simp)))
    refine hK.out _ _ ?_ (fun hHeld => ?_)
    · exact s3
    clear hK K
    try simp only [Act.put, List.setIfInBounds_toArray, List.set_cons_zero, List.set_cons_succ, List.getElem_toArray, List.getElem_cons_zero, List.getElem_cons_succ]
    have ow1 : OwnP v1.heap.size u2 A1 2 k1 [⟨1, 1, 0⟩, ⟨3, 9, 0⟩] := ⟨happ.own, rfl, happ.cap, happ.nil⟩
    have hf1 : ∀ k ∈ fp A1, v1.heap.size ≤ k := fun k hk => (own_fp ow1.own k hk).1
    have S4 := hidp (Lies.newCells' u2 (ptc [⟨3, 9, 1⟩]) 51)
    have ow3 := ow1.turned ((Turned.refl [] u2).alloc (.cells (ptc [⟨3, 9, 1⟩]).toArray 51)) (by simp)
    have O3' := O2.turned ((Turned.refl [] u2).alloc (.cells (ptc [⟨3, 9, 1⟩]).toArray 51)) (by simp)
    have TT3 := (TD.trans TA (fun i hi => by simp [fp] at hi)).trans ((Turned.refl [] u2).alloc (.cells (ptc [⟨3, 9, 1⟩]).toArray 51)) (by simp)
    have Z4 : Hid (v1.heap.size ≤ (u2.alloc (.cells (ptc [⟨3, 9, 1⟩]).toArray 51)).heap.size) := hidp TT3.size
    refine wpAnyC_ready (rs := [10]) (by kernel_rfl) (by simp) ?_
    refine AllReadyC.cons rfl (fun K hK => ?_) AllReadyC.nil
    refine step_app2 _ rfl (.tmp 32) (.tmp 34) 47 rfl v1.heap.size 51 k0 _ 3 24 Try.underlying47 hk0 hl0 hl1 hl2 rfl (by decide) A1 2 k1 _ rfl ow3.own _ _ 1 1 (ptc [⟨3, 9, 1⟩]) rfl (by simp) L4.out S4.out O4.out (by decide) (by decide) Z4.out ?_
    intro A2 k2 u4 happ2
    have b4 := b3.turned happ2.turned (fun h => by have := hf1 _ h; omega)
    have O4' := O3'.turned happ2.turned (fun k hk hm => by have := hf1 _ hm; simp [fp] at hk; omega)
    have s4 := And.intro (b4.cell 3) (cells11 O4')
    have ow4 := ow3.app (ps := [⟨3, 9, 1⟩]) happ2 rfl
    have TT := TT3.trans happ2.turned (fun i hi => .inr (hf1 i hi))
    have fz := own_frozen O4'.own 11
    have cz := cells11 O4'
    dsimp only at cz
    refine hK.out _ _ ?_ (fun hHeld => ?_)
    · exact s4
    clear hK K
    try simp only [Act.put, List.setIfInBounds_toArray, List.set_cons_zero, List.set_cons_succ, List.getElem_toArray, List.getElem_cons_zero, List.getElem_cons_succ]
    refine wpAnyC_ready (rs := [11]) (by kernel_rfl) (by simp) ?_
    refine AllReadyC.cons rfl (fun K hK => ?_) AllReadyC.nil
    go_simp
    refine hK.out _ _ ?_ (fun hHeld => ?_)
    · exact s4
    clear hK K
    try simp only [Act.put, List.setIfInBounds_toArray, List.set_cons_zero, List.set_cons_succ, List.getElem_toArray, List.getElem_cons_zero, List.getElem_cons_succ]
    refine wpAnyC_take (i := 12) (v := ?_) rfl rfl (by kernel_rfl) (by decide) (by kernel_rfl) (by kernel_rfl) (by kernel_rfl) (fun _ _ _ h => h) (Or.inl ⟨by rfl, ?_⟩) (by assumption) ?_
    rotate_left 1
    · ((intro w hSw; (try dsimp only at hSw); go_simp); (try with_reducible rfl))
    simp only [Act.put, List.setIfInBounds_toArray, List.set_cons_zero, List.set_cons_succ, List.getElem_toArray, List.getElem_cons_zero, List.getElem_cons_succ]
    refine wpAnyC_ready (rs := [13]) (by kernel_rfl) (by simp) ?_
    refine AllReadyC.last rfl (fun K hK => ?_)
    go_simp
    refine hK.out _ _ ?_
    clear hK K
    refine wpAnyC_done (by kernel_rfl) ?_ _
    have T9 := (Turned.refl [gs] u4).setCell (p := ⟨gs, 11, none⟩) (.inl (by simp)) (.slice A2 3 k2)
    have OF := ownT_put O4' (i := 1) (by simp) (j := 5) (by decide) ⟨⟨#[98]⟩, 200, 200, 2, 0, A2, k2, [⟨1, 1, 0⟩, ⟨3, 9, 0⟩, ⟨3, 9, 1⟩]⟩ (.slice A2 3 k2) rfl
    have owF := ow4.turned T9 (fun k hk hm => by have := (own_fp ow4.own k hk).1; simp at hm; omega)
    have bF := b4.turned T9 (by simp; omega)
    have ICF := (IC.turned TT (by simp)).turned T9 (fun k hk => by have := (FC k hk).1; simpa using this)
    have IHF := (IH.turned TT (by simp)).turned T9 (fun k hk => by simp [fp] at hk; simp; omega)
    have P1F := (P1.turned TT (by simp)).turned T9 (fun k hk => by have := (F1 k hk).1; simpa using this)
    have hgw : w.heap.size ≤ gs := Nat.le_trans hwu gs1
    have hbF := (hb1.trans (TT.below hb1.size (by simp))).trans (T9.below (Nat.le_trans hb1.size TT.size) (fun k hk => by simp at hk; rw [hk]; exact hgw))
    have hsF : SetOk _ ⟨1, ca, cc, [1], some ⟨N, 0, none⟩, 2, [0, 0], some ⟨gs, 0, none⟩, tc, [⟨⟨#[97]⟩, 100, 100, 1, 0, a1, c1, [⟨1, 1, 0⟩, ⟨3, 9, 0⟩]⟩, ⟨⟨#[98]⟩, 200, 200, 2, 0, A2, k2, [⟨1, 1, 0⟩, ⟨3, 9, 0⟩, ⟨3, 9, 1⟩]⟩]⟩ := ⟨by show I64 1; decide, ICF, IHF, ⟨OF.sl, OF.tasks, fun t ht => by
      have ht : t ∈ [⟨⟨#[97]⟩, 100, 100, 1, 0, a1, c1, [⟨1, 1, 0⟩, ⟨3, 9, 0⟩]⟩, (⟨⟨#[98]⟩, 200, 200, 2, 0, A2, k2, [⟨1, 1, 0⟩, ⟨3, 9, 0⟩, ⟨3, 9, 1⟩]⟩ : TaskR)] := ht
      simp at ht
      rcases ht with rfl | rfl
      · exact P1F
      · exact ⟨by show 1 ≤ maxLen; decide, by show I64 200; decide, by show I64 200; decide, by show I64 2; decide, by show I64 0; decide, ⟨owF.nil, owF.cap⟩, owF.parts, by
          show ∀ p ∈ [_, _, _], PartM.wf p
          intro p hp
          simp at hp
          rcases hp with rfl | rfl | rfl <;> exact ⟨by decide, by decide, by decide⟩⟩⟩⟩
    have cF := bF.cell 0
    obtain ⟨v2, hv2⟩ : ∃ v, u4.setCell ⟨gs, 11, none⟩ (.slice A2 3 k2) = v := ⟨_, rfl⟩
    rw [hv2] at hsF bF hbF ⊢
    clear hv2 T9 OF owF ICF IHF P1F TT O4' b4 ow4 cz fz s4 cF
    have HsF := hidp (show SetOk v2 (dS ca cc (some ⟨N, 0, none⟩) (some ⟨gs, 0, none⟩) tc a1 c1 A2 k2) from hsF)
    have BvF : B < v2.heap.size := bF.lt
    clear hsF IC IH P1 P2 O0 hb1 b1 bN
    go_upto_region 9 with fail
    have bW := Bk.new v2 35 #[.int .i64 0, .int .i64 1, .int .i64 x, .int .i64 (x + y), .int .i64 (x + y + 5)]
    have bB := bF.alloc (.cells #[.int .i64 0, .int .i64 1, .int .i64 x, .int .i64 (x + y), .int .i64 (x + y + 5)] 35)
    have hv := (Below.refl v2.heap.size v2).alloc (Nat.le_refl _) (.cells #[.int .i64 0, .int .i64 1, .int .i64 x, .int .i64 (x + y), .int .i64 (x + y + 5)] 35)
    obtain ⟨v3, hv3⟩ : ∃ v, v2.alloc (.cells #[.int .i64 0, .int .i64 1, .int .i64 x, .int .i64 (x + y), .int .i64 (x + y + 5)] 35) = v := ⟨_, rfl⟩
    rw [hv3] at bW bB hv ⊢
    obtain ⟨p, hp⟩ : ∃ p, v2.heap.size = p := ⟨_, rfl⟩
    rw [hp] at bW BvF ⊢
    have HP := hidp hp
    clear hv3 hp bF
    go_upto_region 10 with fail
    have bX := Bk.new v3 35 #[.int .i64 1, .int .i64 1, .int .i64 0, .int .i64 z, .int .i64 0]
    have pq := bW.lt
    replace bW := bW.alloc (.cells #[.int .i64 1, .int .i64 1, .int .i64 0, .int .i64 z, .int .i64 0] 35)
    replace bB := bB.alloc (.cells #[.int .i64 1, .int .i64 1, .int .i64 0, .int .i64 z, .int .i64 0] 35)
    replace hv := hv.alloc hv.size (.cells #[.int .i64 1, .int .i64 1, .int .i64 0, .int .i64 z, .int .i64 0] 35)
    obtain ⟨v4, hv4⟩ : ∃ v, v3.alloc (.cells #[.int .i64 1, .int .i64 1, .int .i64 0, .int .i64 z, .int .i64 0] 35) = v := ⟨_, rfl⟩
    rw [hv4] at bW bB bX hv ⊢
    obtain ⟨q, hq⟩ : ∃ q, v3.heap.size = q := ⟨_, rfl⟩
    rw [hq] at bX pq ⊢
    clear hv4 hq
    have c3 := bX.cell 3
    have c4 := bX.cell 4
    have f4 := bX.frozen 4
    go_upto_region 11 with fail
    replace bX := bX.put 4 (.int .i64 (z + l + 1))
    replace bW := bW.far (p := ⟨q, 4, none⟩) (by simp; omega) (.int .i64 (z + l + 1))
    replace bB := bB.far (p := ⟨q, 4, none⟩) (by simp; omega) (.int .i64 (z + l + 1))
    replace hv := hv.setCell (show v2.heap.size ≤ (⟨q, 4, none⟩ : Addr).block by rw [HP.out]; simp; omega) (.int .i64 (z + l + 1))
    obtain ⟨v5, hv5⟩ : ∃ v, v4.setCell ⟨q, 4, none⟩ (.int .i64 (z + l + 1)) = v := ⟨_, rfl⟩
    rw [hv5] at bW bB bX hv ⊢
    clear hv5 c3 c4 f4
    cases a4 with
    | false =>
      cases a5 with
      | false =>
        go_upto_region 15 with fail
        obtain ⟨v6, hv6⟩ : ∃ v, v5 = v := ⟨_, rfl⟩
        rw [hv6] at bW bB bX hv ⊢
        clear hv6
        have s0 := bB.cell 0
        have s1 := bB.cell 1
        have s2 := bB.cell 2
        have s3 := bB.cell 3
        have y0' : v6.cell? ⟨p, 0, none⟩ = some (.int .i64 0) := bW.cell 0
        have y1' : v6.cell? ⟨p, 1, none⟩ = some (.int .i64 1) := bW.cell 1
        have y2' : v6.cell? ⟨p, 2, none⟩ = some (.int .i64 x) := bW.cell 2
        have y3' : v6.cell? ⟨p, 3, none⟩ = some (.int .i64 (x + y)) := bW.cell 3
        have y4' : v6.cell? ⟨p, 4, none⟩ = some (.int .i64 (x + y + 5)) := bW.cell 4
        have e0 := bX.cell 0
        have e1 := bX.cell 1
        have e2 := bX.cell 2
        have e3 := bX.cell 3
        have e4 := bX.cell 4
        by_cases h1 : x ≤ z
        · have g1 : decide (x ≤ z) = true := by simpa using h1
          have g3 : decide (z < x) = false := by simp; omega
          by_cases h2 : z < x + y
          · have g2 : decide (z < x + y) = true := by simpa using h2
            have HV : Hid (passV (dS ca cc (some ⟨N, 0, none⟩) (some ⟨gs, 0, none⟩) tc a1 c1 A2 k2) (dT (some ⟨v6.heap.size, 0, none⟩) ⟨1, 1, 0, z, z + l + 1⟩ ⟨0, 1, x, x + y, x + y + 5⟩) ⟨0, 1, x, x + y, x + y + 5⟩ = ((1 : Nat) : Int)) := hidp (ds_v ca cc (some ⟨N, 0, none⟩) (some ⟨gs, 0, none⟩) tc a1 c1 A2 k2 _ (by rw [ds_pass]; first | (rw [if_pos (by omega)]) | (rw [if_neg (by omega)])))
            have bR := Bk.new v6 35 #[.int .i64 1, .int .i64 1, .int .i64 0, .int .i64 z, .int .i64 (z + l + 1), .int .i64 0, .int .i64 1, .int .i64 x, .int .i64 (x + y), .int .i64 (x + y + 5)]
            have hv7 := hv.alloc hv.size (.cells #[.int .i64 1, .int .i64 1, .int .i64 0, .int .i64 z, .int .i64 (z + l + 1), .int .i64 0, .int .i64 1, .int .i64 x, .int .i64 (x + y), .int .i64 (x + y + 5)] 35)
            have ht7 : TraceOk (v6.alloc (.cells #[.int .i64 1, .int .i64 1, .int .i64 0, .int .i64 z, .int .i64 (z + l + 1), .int .i64 0, .int .i64 1, .int .i64 x, .int .i64 (x + y), .int .i64 (x + y + 5)] 35)) (dT (some ⟨v6.heap.size, 0, none⟩) ⟨1, 1, 0, z, z + l + 1⟩ ⟨0, 1, x, x + y, x + y + 5⟩) := dt_ok (.inr ⟨_, _, rfl, fun i hi => by
                have hi : i < 2 := hi
                match i, hi with
                | 0, _ => exact ⟨bR.cell 0, bR.cell 1, bR.cell 2, bR.cell 3, bR.cell 4⟩
                | 1, _ => exact ⟨bR.cell 5, bR.cell 6, bR.cell 7, bR.cell 8, bR.cell 9⟩⟩) ⟨by unfold I64; dsimp only; omega, by unfold I64; dsimp only; omega, by unfold I64; dsimp only; omega, by unfold I64; dsimp only; omega, by unfold I64; dsimp only; omega⟩ ⟨by unfold I64; dsimp only; omega, by unfold I64; dsimp only; omega, by unfold I64; dsimp only; omega, by unfold I64; dsimp only; omega, by unfold I64; dsimp only; omega⟩
            have CC := dpass_any (dS ca cc (some ⟨N, 0, none⟩) (some ⟨gs, 0, none⟩) tc a1 c1 A2 k2) (dT (some ⟨v6.heap.size, 0, none⟩) ⟨1, 1, 0, z, z + l + 1⟩ ⟨0, 1, x, x + y, x + y + 5⟩) ⟨0, 1, x, x + y, x + y + 5⟩ (v6.alloc (.cells #[.int .i64 1, .int .i64 1, .int .i64 0, .int .i64 z, .int .i64 (z + l + 1), .int .i64 0, .int .i64 1, .int .i64 x, .int .i64 (x + y), .int .i64 (x + y + 5)] 35)) (HsF.out.keep (Keeps.of_below hv7)) ht7
            rw [HV.out] at CC
            change Calls Try.prog 16 #[.agg #[.int .i64 1, .slice ca 1 cc, .slice (some ⟨N, 0, none⟩) 2 2, .slice (some ⟨gs, 0, none⟩) 2 tc], .agg #[.int .i64 200, .slice none 0 0, .slice none 0 0, .slice (some ⟨v6.heap.size, 0, none⟩) 2 2], .agg #[.int .i64 0, .int .i64 1, .int .i64 x, .int .i64 (x + y), .int .i64 (x + y + 5)]] _ _ at CC
            have bW7 := bW.alloc (.cells #[.int .i64 1, .int .i64 1, .int .i64 0, .int .i64 z, .int .i64 (z + l + 1), .int .i64 0, .int .i64 1, .int .i64 x, .int .i64 (x + y), .int .i64 (x + y + 5)] 35)
            have q0' : (v6.alloc (.cells #[.int .i64 1, .int .i64 1, .int .i64 0, .int .i64 z, .int .i64 (z + l + 1), .int .i64 0, .int .i64 1, .int .i64 x, .int .i64 (x + y), .int .i64 (x + y + 5)] 35)).cell? ⟨p, 0, none⟩ = some (.int .i64 0) := bW7.cell 0
            have q1' : (v6.alloc (.cells #[.int .i64 1, .int .i64 1, .int .i64 0, .int .i64 z, .int .i64 (z + l + 1), .int .i64 0, .int .i64 1, .int .i64 x, .int .i64 (x + y), .int .i64 (x + y + 5)] 35)).cell? ⟨p, 1, none⟩ = some (.int .i64 1) := bW7.cell 1
            have q2' : (v6.alloc (.cells #[.int .i64 1, .int .i64 1, .int .i64 0, .int .i64 z, .int .i64 (z + l + 1), .int .i64 0, .int .i64 1, .int .i64 x, .int .i64 (x + y), .int .i64 (x + y + 5)] 35)).cell? ⟨p, 2, none⟩ = some (.int .i64 x) := bW7.cell 2
            have q3' : (v6.alloc (.cells #[.int .i64 1, .int .i64 1, .int .i64 0, .int .i64 z, .int .i64 (z + l + 1), .int .i64 0, .int .i64 1, .int .i64 x, .int .i64 (x + y), .int .i64 (x + y + 5)] 35)).cell? ⟨p, 3, none⟩ = some (.int .i64 (x + y)) := bW7.cell 3
            have q4' : (v6.alloc (.cells #[.int .i64 1, .int .i64 1, .int .i64 0, .int .i64 z, .int .i64 (z + l + 1), .int .i64 0, .int .i64 1, .int .i64 x, .int .i64 (x + y), .int .i64 (x + y + 5)] 35)).cell? ⟨p, 4, none⟩ = some (.int .i64 (x + y + 5)) := bW7.cell 4
            clear HV bR ht7 bW7
            go_wp2_with fail
            refine CC.mono ?_
            rintro e u ⟨rfl, hb9⟩
            clear CC
            go_wp2_with fail
            go_ret
            exact ⟨rfl, hbF.trans ((hv7.trans (hb9.mono hv7.size)).mono hbF.size)⟩
          · have g2 : decide (z < x + y) = false := by simpa using h2
            have HV : Hid (passV (dS ca cc (some ⟨N, 0, none⟩) (some ⟨gs, 0, none⟩) tc a1 c1 A2 k2) (dT (some ⟨v6.heap.size, 0, none⟩) ⟨1, 1, 0, z, z + l + 1⟩ ⟨0, 1, x, x + y, x + y + 5⟩) ⟨0, 1, x, x + y, x + y + 5⟩ = ((0 : Nat) : Int)) := hidp (ds_v ca cc (some ⟨N, 0, none⟩) (some ⟨gs, 0, none⟩) tc a1 c1 A2 k2 _ (by rw [ds_pass]; first | (rw [if_pos (by omega)]) | (rw [if_neg (by omega)])))
            have bR := Bk.new v6 35 #[.int .i64 1, .int .i64 1, .int .i64 0, .int .i64 z, .int .i64 (z + l + 1), .int .i64 0, .int .i64 1, .int .i64 x, .int .i64 (x + y), .int .i64 (x + y + 5)]
            have hv7 := hv.alloc hv.size (.cells #[.int .i64 1, .int .i64 1, .int .i64 0, .int .i64 z, .int .i64 (z + l + 1), .int .i64 0, .int .i64 1, .int .i64 x, .int .i64 (x + y), .int .i64 (x + y + 5)] 35)
            have ht7 : TraceOk (v6.alloc (.cells #[.int .i64 1, .int .i64 1, .int .i64 0, .int .i64 z, .int .i64 (z + l + 1), .int .i64 0, .int .i64 1, .int .i64 x, .int .i64 (x + y), .int .i64 (x + y + 5)] 35)) (dT (some ⟨v6.heap.size, 0, none⟩) ⟨1, 1, 0, z, z + l + 1⟩ ⟨0, 1, x, x + y, x + y + 5⟩) := dt_ok (.inr ⟨_, _, rfl, fun i hi => by
                have hi : i < 2 := hi
                match i, hi with
                | 0, _ => exact ⟨bR.cell 0, bR.cell 1, bR.cell 2, bR.cell 3, bR.cell 4⟩
                | 1, _ => exact ⟨bR.cell 5, bR.cell 6, bR.cell 7, bR.cell 8, bR.cell 9⟩⟩) ⟨by unfold I64; dsimp only; omega, by unfold I64; dsimp only; omega, by unfold I64; dsimp only; omega, by unfold I64; dsimp only; omega, by unfold I64; dsimp only; omega⟩ ⟨by unfold I64; dsimp only; omega, by unfold I64; dsimp only; omega, by unfold I64; dsimp only; omega, by unfold I64; dsimp only; omega, by unfold I64; dsimp only; omega⟩
            have CC := dpass_any (dS ca cc (some ⟨N, 0, none⟩) (some ⟨gs, 0, none⟩) tc a1 c1 A2 k2) (dT (some ⟨v6.heap.size, 0, none⟩) ⟨1, 1, 0, z, z + l + 1⟩ ⟨0, 1, x, x + y, x + y + 5⟩) ⟨0, 1, x, x + y, x + y + 5⟩ (v6.alloc (.cells #[.int .i64 1, .int .i64 1, .int .i64 0, .int .i64 z, .int .i64 (z + l + 1), .int .i64 0, .int .i64 1, .int .i64 x, .int .i64 (x + y), .int .i64 (x + y + 5)] 35)) (HsF.out.keep (Keeps.of_below hv7)) ht7
            rw [HV.out] at CC
            change Calls Try.prog 16 #[.agg #[.int .i64 1, .slice ca 1 cc, .slice (some ⟨N, 0, none⟩) 2 2, .slice (some ⟨gs, 0, none⟩) 2 tc], .agg #[.int .i64 200, .slice none 0 0, .slice none 0 0, .slice (some ⟨v6.heap.size, 0, none⟩) 2 2], .agg #[.int .i64 0, .int .i64 1, .int .i64 x, .int .i64 (x + y), .int .i64 (x + y + 5)]] _ _ at CC
            have bW7 := bW.alloc (.cells #[.int .i64 1, .int .i64 1, .int .i64 0, .int .i64 z, .int .i64 (z + l + 1), .int .i64 0, .int .i64 1, .int .i64 x, .int .i64 (x + y), .int .i64 (x + y + 5)] 35)
            have q0' : (v6.alloc (.cells #[.int .i64 1, .int .i64 1, .int .i64 0, .int .i64 z, .int .i64 (z + l + 1), .int .i64 0, .int .i64 1, .int .i64 x, .int .i64 (x + y), .int .i64 (x + y + 5)] 35)).cell? ⟨p, 0, none⟩ = some (.int .i64 0) := bW7.cell 0
            have q1' : (v6.alloc (.cells #[.int .i64 1, .int .i64 1, .int .i64 0, .int .i64 z, .int .i64 (z + l + 1), .int .i64 0, .int .i64 1, .int .i64 x, .int .i64 (x + y), .int .i64 (x + y + 5)] 35)).cell? ⟨p, 1, none⟩ = some (.int .i64 1) := bW7.cell 1
            have q2' : (v6.alloc (.cells #[.int .i64 1, .int .i64 1, .int .i64 0, .int .i64 z, .int .i64 (z + l + 1), .int .i64 0, .int .i64 1, .int .i64 x, .int .i64 (x + y), .int .i64 (x + y + 5)] 35)).cell? ⟨p, 2, none⟩ = some (.int .i64 x) := bW7.cell 2
            have q3' : (v6.alloc (.cells #[.int .i64 1, .int .i64 1, .int .i64 0, .int .i64 z, .int .i64 (z + l + 1), .int .i64 0, .int .i64 1, .int .i64 x, .int .i64 (x + y), .int .i64 (x + y + 5)] 35)).cell? ⟨p, 3, none⟩ = some (.int .i64 (x + y)) := bW7.cell 3
            have q4' : (v6.alloc (.cells #[.int .i64 1, .int .i64 1, .int .i64 0, .int .i64 z, .int .i64 (z + l + 1), .int .i64 0, .int .i64 1, .int .i64 x, .int .i64 (x + y), .int .i64 (x + y + 5)] 35)).cell? ⟨p, 4, none⟩ = some (.int .i64 (x + y + 5)) := bW7.cell 4
            clear HV bR ht7 bW7
            go_wp2_with fail
            refine CC.mono ?_
            rintro e u ⟨rfl, hb9⟩
            clear CC
            go_wp2_with fail
            go_ret
            exact ⟨rfl, hbF.trans ((hv7.trans (hb9.mono hv7.size)).mono hbF.size)⟩
        · have g1 : decide (x ≤ z) = false := by simpa using h1
          have g3 : decide (z < x) = true := by simp; omega
          by_cases h2 : x < z + l + 1
          · have g2 : decide (x < z + l + 1) = true := by simpa using h2
            have HV : Hid (passV (dS ca cc (some ⟨N, 0, none⟩) (some ⟨gs, 0, none⟩) tc a1 c1 A2 k2) (dT (some ⟨v6.heap.size, 0, none⟩) ⟨1, 1, 0, z, z + l + 1⟩ ⟨0, 1, x, x + y, x + y + 5⟩) ⟨0, 1, x, x + y, x + y + 5⟩ = ((1 : Nat) : Int)) := hidp (ds_v ca cc (some ⟨N, 0, none⟩) (some ⟨gs, 0, none⟩) tc a1 c1 A2 k2 _ (by rw [ds_pass]; first | (rw [if_pos (by omega)]) | (rw [if_neg (by omega)])))
            have bR := Bk.new v6 35 #[.int .i64 1, .int .i64 1, .int .i64 0, .int .i64 z, .int .i64 (z + l + 1), .int .i64 0, .int .i64 1, .int .i64 x, .int .i64 (x + y), .int .i64 (x + y + 5)]
            have hv7 := hv.alloc hv.size (.cells #[.int .i64 1, .int .i64 1, .int .i64 0, .int .i64 z, .int .i64 (z + l + 1), .int .i64 0, .int .i64 1, .int .i64 x, .int .i64 (x + y), .int .i64 (x + y + 5)] 35)
            have ht7 : TraceOk (v6.alloc (.cells #[.int .i64 1, .int .i64 1, .int .i64 0, .int .i64 z, .int .i64 (z + l + 1), .int .i64 0, .int .i64 1, .int .i64 x, .int .i64 (x + y), .int .i64 (x + y + 5)] 35)) (dT (some ⟨v6.heap.size, 0, none⟩) ⟨1, 1, 0, z, z + l + 1⟩ ⟨0, 1, x, x + y, x + y + 5⟩) := dt_ok (.inr ⟨_, _, rfl, fun i hi => by
                have hi : i < 2 := hi
                match i, hi with
                | 0, _ => exact ⟨bR.cell 0, bR.cell 1, bR.cell 2, bR.cell 3, bR.cell 4⟩
                | 1, _ => exact ⟨bR.cell 5, bR.cell 6, bR.cell 7, bR.cell 8, bR.cell 9⟩⟩) ⟨by unfold I64; dsimp only; omega, by unfold I64; dsimp only; omega, by unfold I64; dsimp only; omega, by unfold I64; dsimp only; omega, by unfold I64; dsimp only; omega⟩ ⟨by unfold I64; dsimp only; omega, by unfold I64; dsimp only; omega, by unfold I64; dsimp only; omega, by unfold I64; dsimp only; omega, by unfold I64; dsimp only; omega⟩
            have CC := dpass_any (dS ca cc (some ⟨N, 0, none⟩) (some ⟨gs, 0, none⟩) tc a1 c1 A2 k2) (dT (some ⟨v6.heap.size, 0, none⟩) ⟨1, 1, 0, z, z + l + 1⟩ ⟨0, 1, x, x + y, x + y + 5⟩) ⟨0, 1, x, x + y, x + y + 5⟩ (v6.alloc (.cells #[.int .i64 1, .int .i64 1, .int .i64 0, .int .i64 z, .int .i64 (z + l + 1), .int .i64 0, .int .i64 1, .int .i64 x, .int .i64 (x + y), .int .i64 (x + y + 5)] 35)) (HsF.out.keep (Keeps.of_below hv7)) ht7
            rw [HV.out] at CC
            change Calls Try.prog 16 #[.agg #[.int .i64 1, .slice ca 1 cc, .slice (some ⟨N, 0, none⟩) 2 2, .slice (some ⟨gs, 0, none⟩) 2 tc], .agg #[.int .i64 200, .slice none 0 0, .slice none 0 0, .slice (some ⟨v6.heap.size, 0, none⟩) 2 2], .agg #[.int .i64 0, .int .i64 1, .int .i64 x, .int .i64 (x + y), .int .i64 (x + y + 5)]] _ _ at CC
            have bW7 := bW.alloc (.cells #[.int .i64 1, .int .i64 1, .int .i64 0, .int .i64 z, .int .i64 (z + l + 1), .int .i64 0, .int .i64 1, .int .i64 x, .int .i64 (x + y), .int .i64 (x + y + 5)] 35)
            have q0' : (v6.alloc (.cells #[.int .i64 1, .int .i64 1, .int .i64 0, .int .i64 z, .int .i64 (z + l + 1), .int .i64 0, .int .i64 1, .int .i64 x, .int .i64 (x + y), .int .i64 (x + y + 5)] 35)).cell? ⟨p, 0, none⟩ = some (.int .i64 0) := bW7.cell 0
            have q1' : (v6.alloc (.cells #[.int .i64 1, .int .i64 1, .int .i64 0, .int .i64 z, .int .i64 (z + l + 1), .int .i64 0, .int .i64 1, .int .i64 x, .int .i64 (x + y), .int .i64 (x + y + 5)] 35)).cell? ⟨p, 1, none⟩ = some (.int .i64 1) := bW7.cell 1
            have q2' : (v6.alloc (.cells #[.int .i64 1, .int .i64 1, .int .i64 0, .int .i64 z, .int .i64 (z + l + 1), .int .i64 0, .int .i64 1, .int .i64 x, .int .i64 (x + y), .int .i64 (x + y + 5)] 35)).cell? ⟨p, 2, none⟩ = some (.int .i64 x) := bW7.cell 2
            have q3' : (v6.alloc (.cells #[.int .i64 1, .int .i64 1, .int .i64 0, .int .i64 z, .int .i64 (z + l + 1), .int .i64 0, .int .i64 1, .int .i64 x, .int .i64 (x + y), .int .i64 (x + y + 5)] 35)).cell? ⟨p, 3, none⟩ = some (.int .i64 (x + y)) := bW7.cell 3
            have q4' : (v6.alloc (.cells #[.int .i64 1, .int .i64 1, .int .i64 0, .int .i64 z, .int .i64 (z + l + 1), .int .i64 0, .int .i64 1, .int .i64 x, .int .i64 (x + y), .int .i64 (x + y + 5)] 35)).cell? ⟨p, 4, none⟩ = some (.int .i64 (x + y + 5)) := bW7.cell 4
            clear HV bR ht7 bW7
            go_wp2_with fail
            refine CC.mono ?_
            rintro e u ⟨rfl, hb9⟩
            clear CC
            go_wp2_with fail
            go_ret
            exact ⟨rfl, hbF.trans ((hv7.trans (hb9.mono hv7.size)).mono hbF.size)⟩
          · have g2 : decide (x < z + l + 1) = false := by simpa using h2
            have HV : Hid (passV (dS ca cc (some ⟨N, 0, none⟩) (some ⟨gs, 0, none⟩) tc a1 c1 A2 k2) (dT (some ⟨v6.heap.size, 0, none⟩) ⟨1, 1, 0, z, z + l + 1⟩ ⟨0, 1, x, x + y, x + y + 5⟩) ⟨0, 1, x, x + y, x + y + 5⟩ = ((0 : Nat) : Int)) := hidp (ds_v ca cc (some ⟨N, 0, none⟩) (some ⟨gs, 0, none⟩) tc a1 c1 A2 k2 _ (by rw [ds_pass]; first | (rw [if_pos (by omega)]) | (rw [if_neg (by omega)])))
            have bR := Bk.new v6 35 #[.int .i64 1, .int .i64 1, .int .i64 0, .int .i64 z, .int .i64 (z + l + 1), .int .i64 0, .int .i64 1, .int .i64 x, .int .i64 (x + y), .int .i64 (x + y + 5)]
            have hv7 := hv.alloc hv.size (.cells #[.int .i64 1, .int .i64 1, .int .i64 0, .int .i64 z, .int .i64 (z + l + 1), .int .i64 0, .int .i64 1, .int .i64 x, .int .i64 (x + y), .int .i64 (x + y + 5)] 35)
            have ht7 : TraceOk (v6.alloc (.cells #[.int .i64 1, .int .i64 1, .int .i64 0, .int .i64 z, .int .i64 (z + l + 1), .int .i64 0, .int .i64 1, .int .i64 x, .int .i64 (x + y), .int .i64 (x + y + 5)] 35)) (dT (some ⟨v6.heap.size, 0, none⟩) ⟨1, 1, 0, z, z + l + 1⟩ ⟨0, 1, x, x + y, x + y + 5⟩) := dt_ok (.inr ⟨_, _, rfl, fun i hi => by
                have hi : i < 2 := hi
                match i, hi with
                | 0, _ => exact ⟨bR.cell 0, bR.cell 1, bR.cell 2, bR.cell 3, bR.cell 4⟩
                | 1, _ => exact ⟨bR.cell 5, bR.cell 6, bR.cell 7, bR.cell 8, bR.cell 9⟩⟩) ⟨by unfold I64; dsimp only; omega, by unfold I64; dsimp only; omega, by unfold I64; dsimp only; omega, by unfold I64; dsimp only; omega, by unfold I64; dsimp only; omega⟩ ⟨by unfold I64; dsimp only; omega, by unfold I64; dsimp only; omega, by unfold I64; dsimp only; omega, by unfold I64; dsimp only; omega, by unfold I64; dsimp only; omega⟩
            have CC := dpass_any (dS ca cc (some ⟨N, 0, none⟩) (some ⟨gs, 0, none⟩) tc a1 c1 A2 k2) (dT (some ⟨v6.heap.size, 0, none⟩) ⟨1, 1, 0, z, z + l + 1⟩ ⟨0, 1, x, x + y, x + y + 5⟩) ⟨0, 1, x, x + y, x + y + 5⟩ (v6.alloc (.cells #[.int .i64 1, .int .i64 1, .int .i64 0, .int .i64 z, .int .i64 (z + l + 1), .int .i64 0, .int .i64 1, .int .i64 x, .int .i64 (x + y), .int .i64 (x + y + 5)] 35)) (HsF.out.keep (Keeps.of_below hv7)) ht7
            rw [HV.out] at CC
            change Calls Try.prog 16 #[.agg #[.int .i64 1, .slice ca 1 cc, .slice (some ⟨N, 0, none⟩) 2 2, .slice (some ⟨gs, 0, none⟩) 2 tc], .agg #[.int .i64 200, .slice none 0 0, .slice none 0 0, .slice (some ⟨v6.heap.size, 0, none⟩) 2 2], .agg #[.int .i64 0, .int .i64 1, .int .i64 x, .int .i64 (x + y), .int .i64 (x + y + 5)]] _ _ at CC
            have bW7 := bW.alloc (.cells #[.int .i64 1, .int .i64 1, .int .i64 0, .int .i64 z, .int .i64 (z + l + 1), .int .i64 0, .int .i64 1, .int .i64 x, .int .i64 (x + y), .int .i64 (x + y + 5)] 35)
            have q0' : (v6.alloc (.cells #[.int .i64 1, .int .i64 1, .int .i64 0, .int .i64 z, .int .i64 (z + l + 1), .int .i64 0, .int .i64 1, .int .i64 x, .int .i64 (x + y), .int .i64 (x + y + 5)] 35)).cell? ⟨p, 0, none⟩ = some (.int .i64 0) := bW7.cell 0
            have q1' : (v6.alloc (.cells #[.int .i64 1, .int .i64 1, .int .i64 0, .int .i64 z, .int .i64 (z + l + 1), .int .i64 0, .int .i64 1, .int .i64 x, .int .i64 (x + y), .int .i64 (x + y + 5)] 35)).cell? ⟨p, 1, none⟩ = some (.int .i64 1) := bW7.cell 1
            have q2' : (v6.alloc (.cells #[.int .i64 1, .int .i64 1, .int .i64 0, .int .i64 z, .int .i64 (z + l + 1), .int .i64 0, .int .i64 1, .int .i64 x, .int .i64 (x + y), .int .i64 (x + y + 5)] 35)).cell? ⟨p, 2, none⟩ = some (.int .i64 x) := bW7.cell 2
            have q3' : (v6.alloc (.cells #[.int .i64 1, .int .i64 1, .int .i64 0, .int .i64 z, .int .i64 (z + l + 1), .int .i64 0, .int .i64 1, .int .i64 x, .int .i64 (x + y), .int .i64 (x + y + 5)] 35)).cell? ⟨p, 3, none⟩ = some (.int .i64 (x + y)) := bW7.cell 3
            have q4' : (v6.alloc (.cells #[.int .i64 1, .int .i64 1, .int .i64 0, .int .i64 z, .int .i64 (z + l + 1), .int .i64 0, .int .i64 1, .int .i64 x, .int .i64 (x + y), .int .i64 (x + y + 5)] 35)).cell? ⟨p, 4, none⟩ = some (.int .i64 (x + y + 5)) := bW7.cell 4
            clear HV bR ht7 bW7
            go_wp2_with fail
            refine CC.mono ?_
            rintro e u ⟨rfl, hb9⟩
            clear CC
            go_wp2_with fail
            go_ret
            exact ⟨rfl, hbF.trans ((hv7.trans (hb9.mono hv7.size)).mono hbF.size)⟩
      | true =>
        have m0 := bX.cell 0
        have n0 := bX.frozen 0
        replace bX := bX.put 0 (.int .i64 0)
        replace bW := bW.far (p := ⟨q, 0, none⟩) (by simp; omega) (.int .i64 0)
        replace bB := bB.far (p := ⟨q, 0, none⟩) (by simp; omega) (.int .i64 0)
        replace hv := hv.setCell (show v2.heap.size ≤ (⟨q, 0, none⟩ : Addr).block by rw [HP.out]; simp; omega) (.int .i64 0)
        have m1 := bX.cell 1
        have n1 := bX.frozen 1
        go_upto_region 15 with fail
        replace bX := bX.put 1 (.int .i64 1)
        replace bW := bW.far (p := ⟨q, 1, none⟩) (by simp; omega) (.int .i64 1)
        replace bB := bB.far (p := ⟨q, 1, none⟩) (by simp; omega) (.int .i64 1)
        replace hv := hv.setCell (show v2.heap.size ≤ (⟨q, 1, none⟩ : Addr).block by rw [HP.out]; simp; omega) (.int .i64 1)
        obtain ⟨v6, hv6⟩ : ∃ v, (v5.setCell ⟨q, 0, none⟩ (.int .i64 0)).setCell ⟨q, 1, none⟩ (.int .i64 1) = v := ⟨_, rfl⟩
        rw [hv6] at bW bB bX hv ⊢
        clear hv6
        have s0 := bB.cell 0
        have s1 := bB.cell 1
        have s2 := bB.cell 2
        have s3 := bB.cell 3
        have y0' : v6.cell? ⟨p, 0, none⟩ = some (.int .i64 0) := bW.cell 0
        have y1' : v6.cell? ⟨p, 1, none⟩ = some (.int .i64 1) := bW.cell 1
        have y2' : v6.cell? ⟨p, 2, none⟩ = some (.int .i64 x) := bW.cell 2
        have y3' : v6.cell? ⟨p, 3, none⟩ = some (.int .i64 (x + y)) := bW.cell 3
        have y4' : v6.cell? ⟨p, 4, none⟩ = some (.int .i64 (x + y + 5)) := bW.cell 4
        have e0 := bX.cell 0
        have e1 := bX.cell 1
        have e2 := bX.cell 2
        have e3 := bX.cell 3
        have e4 := bX.cell 4
        by_cases h1 : x ≤ z
        · have g1 : decide (x ≤ z) = true := by simpa using h1
          have g3 : decide (z < x) = false := by simp; omega
          by_cases h2 : z < x + y
          · have g2 : decide (z < x + y) = true := by simpa using h2
            have HV : Hid (passV (dS ca cc (some ⟨N, 0, none⟩) (some ⟨gs, 0, none⟩) tc a1 c1 A2 k2) (dT (some ⟨v6.heap.size, 0, none⟩) ⟨0, 1, 0, z, z + l + 1⟩ ⟨0, 1, x, x + y, x + y + 5⟩) ⟨0, 1, x, x + y, x + y + 5⟩ = ((0 : Nat) : Int)) := hidp (ds_v ca cc (some ⟨N, 0, none⟩) (some ⟨gs, 0, none⟩) tc a1 c1 A2 k2 _ (ds_same ca cc (some ⟨N, 0, none⟩) (some ⟨gs, 0, none⟩) tc a1 c1 A2 k2 x (x + y) (x + y + 5) z (z + l + 1)))
            have bR := Bk.new v6 35 #[.int .i64 0, .int .i64 1, .int .i64 0, .int .i64 z, .int .i64 (z + l + 1), .int .i64 0, .int .i64 1, .int .i64 x, .int .i64 (x + y), .int .i64 (x + y + 5)]
            have hv7 := hv.alloc hv.size (.cells #[.int .i64 0, .int .i64 1, .int .i64 0, .int .i64 z, .int .i64 (z + l + 1), .int .i64 0, .int .i64 1, .int .i64 x, .int .i64 (x + y), .int .i64 (x + y + 5)] 35)
            have ht7 : TraceOk (v6.alloc (.cells #[.int .i64 0, .int .i64 1, .int .i64 0, .int .i64 z, .int .i64 (z + l + 1), .int .i64 0, .int .i64 1, .int .i64 x, .int .i64 (x + y), .int .i64 (x + y + 5)] 35)) (dT (some ⟨v6.heap.size, 0, none⟩) ⟨0, 1, 0, z, z + l + 1⟩ ⟨0, 1, x, x + y, x + y + 5⟩) := dt_ok (.inr ⟨_, _, rfl, fun i hi => by
                have hi : i < 2 := hi
                match i, hi with
                | 0, _ => exact ⟨bR.cell 0, bR.cell 1, bR.cell 2, bR.cell 3, bR.cell 4⟩
                | 1, _ => exact ⟨bR.cell 5, bR.cell 6, bR.cell 7, bR.cell 8, bR.cell 9⟩⟩) ⟨by unfold I64; dsimp only; omega, by unfold I64; dsimp only; omega, by unfold I64; dsimp only; omega, by unfold I64; dsimp only; omega, by unfold I64; dsimp only; omega⟩ ⟨by unfold I64; dsimp only; omega, by unfold I64; dsimp only; omega, by unfold I64; dsimp only; omega, by unfold I64; dsimp only; omega, by unfold I64; dsimp only; omega⟩
            have CC := dpass_any (dS ca cc (some ⟨N, 0, none⟩) (some ⟨gs, 0, none⟩) tc a1 c1 A2 k2) (dT (some ⟨v6.heap.size, 0, none⟩) ⟨0, 1, 0, z, z + l + 1⟩ ⟨0, 1, x, x + y, x + y + 5⟩) ⟨0, 1, x, x + y, x + y + 5⟩ (v6.alloc (.cells #[.int .i64 0, .int .i64 1, .int .i64 0, .int .i64 z, .int .i64 (z + l + 1), .int .i64 0, .int .i64 1, .int .i64 x, .int .i64 (x + y), .int .i64 (x + y + 5)] 35)) (HsF.out.keep (Keeps.of_below hv7)) ht7
            rw [HV.out] at CC
            change Calls Try.prog 16 #[.agg #[.int .i64 1, .slice ca 1 cc, .slice (some ⟨N, 0, none⟩) 2 2, .slice (some ⟨gs, 0, none⟩) 2 tc], .agg #[.int .i64 200, .slice none 0 0, .slice none 0 0, .slice (some ⟨v6.heap.size, 0, none⟩) 2 2], .agg #[.int .i64 0, .int .i64 1, .int .i64 x, .int .i64 (x + y), .int .i64 (x + y + 5)]] _ _ at CC
            have bW7 := bW.alloc (.cells #[.int .i64 0, .int .i64 1, .int .i64 0, .int .i64 z, .int .i64 (z + l + 1), .int .i64 0, .int .i64 1, .int .i64 x, .int .i64 (x + y), .int .i64 (x + y + 5)] 35)
            have q0' : (v6.alloc (.cells #[.int .i64 0, .int .i64 1, .int .i64 0, .int .i64 z, .int .i64 (z + l + 1), .int .i64 0, .int .i64 1, .int .i64 x, .int .i64 (x + y), .int .i64 (x + y + 5)] 35)).cell? ⟨p, 0, none⟩ = some (.int .i64 0) := bW7.cell 0
            have q1' : (v6.alloc (.cells #[.int .i64 0, .int .i64 1, .int .i64 0, .int .i64 z, .int .i64 (z + l + 1), .int .i64 0, .int .i64 1, .int .i64 x, .int .i64 (x + y), .int .i64 (x + y + 5)] 35)).cell? ⟨p, 1, none⟩ = some (.int .i64 1) := bW7.cell 1
            have q2' : (v6.alloc (.cells #[.int .i64 0, .int .i64 1, .int .i64 0, .int .i64 z, .int .i64 (z + l + 1), .int .i64 0, .int .i64 1, .int .i64 x, .int .i64 (x + y), .int .i64 (x + y + 5)] 35)).cell? ⟨p, 2, none⟩ = some (.int .i64 x) := bW7.cell 2
            have q3' : (v6.alloc (.cells #[.int .i64 0, .int .i64 1, .int .i64 0, .int .i64 z, .int .i64 (z + l + 1), .int .i64 0, .int .i64 1, .int .i64 x, .int .i64 (x + y), .int .i64 (x + y + 5)] 35)).cell? ⟨p, 3, none⟩ = some (.int .i64 (x + y)) := bW7.cell 3
            have q4' : (v6.alloc (.cells #[.int .i64 0, .int .i64 1, .int .i64 0, .int .i64 z, .int .i64 (z + l + 1), .int .i64 0, .int .i64 1, .int .i64 x, .int .i64 (x + y), .int .i64 (x + y + 5)] 35)).cell? ⟨p, 4, none⟩ = some (.int .i64 (x + y + 5)) := bW7.cell 4
            clear HV bR ht7 bW7
            go_wp2_with fail
            refine CC.mono ?_
            rintro e u ⟨rfl, hb9⟩
            clear CC
            go_wp2_with fail
            go_ret
            exact ⟨rfl, hbF.trans ((hv7.trans (hb9.mono hv7.size)).mono hbF.size)⟩
          · have g2 : decide (z < x + y) = false := by simpa using h2
            have HV : Hid (passV (dS ca cc (some ⟨N, 0, none⟩) (some ⟨gs, 0, none⟩) tc a1 c1 A2 k2) (dT (some ⟨v6.heap.size, 0, none⟩) ⟨0, 1, 0, z, z + l + 1⟩ ⟨0, 1, x, x + y, x + y + 5⟩) ⟨0, 1, x, x + y, x + y + 5⟩ = ((0 : Nat) : Int)) := hidp (ds_v ca cc (some ⟨N, 0, none⟩) (some ⟨gs, 0, none⟩) tc a1 c1 A2 k2 _ (ds_same ca cc (some ⟨N, 0, none⟩) (some ⟨gs, 0, none⟩) tc a1 c1 A2 k2 x (x + y) (x + y + 5) z (z + l + 1)))
            have bR := Bk.new v6 35 #[.int .i64 0, .int .i64 1, .int .i64 0, .int .i64 z, .int .i64 (z + l + 1), .int .i64 0, .int .i64 1, .int .i64 x, .int .i64 (x + y), .int .i64 (x + y + 5)]
            have hv7 := hv.alloc hv.size (.cells #[.int .i64 0, .int .i64 1, .int .i64 0, .int .i64 z, .int .i64 (z + l + 1), .int .i64 0, .int .i64 1, .int .i64 x, .int .i64 (x + y), .int .i64 (x + y + 5)] 35)
            have ht7 : TraceOk (v6.alloc (.cells #[.int .i64 0, .int .i64 1, .int .i64 0, .int .i64 z, .int .i64 (z + l + 1), .int .i64 0, .int .i64 1, .int .i64 x, .int .i64 (x + y), .int .i64 (x + y + 5)] 35)) (dT (some ⟨v6.heap.size, 0, none⟩) ⟨0, 1, 0, z, z + l + 1⟩ ⟨0, 1, x, x + y, x + y + 5⟩) := dt_ok (.inr ⟨_, _, rfl, fun i hi => by
                have hi : i < 2 := hi
                match i, hi with
                | 0, _ => exact ⟨bR.cell 0, bR.cell 1, bR.cell 2, bR.cell 3, bR.cell 4⟩
                | 1, _ => exact ⟨bR.cell 5, bR.cell 6, bR.cell 7, bR.cell 8, bR.cell 9⟩⟩) ⟨by unfold I64; dsimp only; omega, by unfold I64; dsimp only; omega, by unfold I64; dsimp only; omega, by unfold I64; dsimp only; omega, by unfold I64; dsimp only; omega⟩ ⟨by unfold I64; dsimp only; omega, by unfold I64; dsimp only; omega, by unfold I64; dsimp only; omega, by unfold I64; dsimp only; omega, by unfold I64; dsimp only; omega⟩
            have CC := dpass_any (dS ca cc (some ⟨N, 0, none⟩) (some ⟨gs, 0, none⟩) tc a1 c1 A2 k2) (dT (some ⟨v6.heap.size, 0, none⟩) ⟨0, 1, 0, z, z + l + 1⟩ ⟨0, 1, x, x + y, x + y + 5⟩) ⟨0, 1, x, x + y, x + y + 5⟩ (v6.alloc (.cells #[.int .i64 0, .int .i64 1, .int .i64 0, .int .i64 z, .int .i64 (z + l + 1), .int .i64 0, .int .i64 1, .int .i64 x, .int .i64 (x + y), .int .i64 (x + y + 5)] 35)) (HsF.out.keep (Keeps.of_below hv7)) ht7
            rw [HV.out] at CC
            change Calls Try.prog 16 #[.agg #[.int .i64 1, .slice ca 1 cc, .slice (some ⟨N, 0, none⟩) 2 2, .slice (some ⟨gs, 0, none⟩) 2 tc], .agg #[.int .i64 200, .slice none 0 0, .slice none 0 0, .slice (some ⟨v6.heap.size, 0, none⟩) 2 2], .agg #[.int .i64 0, .int .i64 1, .int .i64 x, .int .i64 (x + y), .int .i64 (x + y + 5)]] _ _ at CC
            have bW7 := bW.alloc (.cells #[.int .i64 0, .int .i64 1, .int .i64 0, .int .i64 z, .int .i64 (z + l + 1), .int .i64 0, .int .i64 1, .int .i64 x, .int .i64 (x + y), .int .i64 (x + y + 5)] 35)
            have q0' : (v6.alloc (.cells #[.int .i64 0, .int .i64 1, .int .i64 0, .int .i64 z, .int .i64 (z + l + 1), .int .i64 0, .int .i64 1, .int .i64 x, .int .i64 (x + y), .int .i64 (x + y + 5)] 35)).cell? ⟨p, 0, none⟩ = some (.int .i64 0) := bW7.cell 0
            have q1' : (v6.alloc (.cells #[.int .i64 0, .int .i64 1, .int .i64 0, .int .i64 z, .int .i64 (z + l + 1), .int .i64 0, .int .i64 1, .int .i64 x, .int .i64 (x + y), .int .i64 (x + y + 5)] 35)).cell? ⟨p, 1, none⟩ = some (.int .i64 1) := bW7.cell 1
            have q2' : (v6.alloc (.cells #[.int .i64 0, .int .i64 1, .int .i64 0, .int .i64 z, .int .i64 (z + l + 1), .int .i64 0, .int .i64 1, .int .i64 x, .int .i64 (x + y), .int .i64 (x + y + 5)] 35)).cell? ⟨p, 2, none⟩ = some (.int .i64 x) := bW7.cell 2
            have q3' : (v6.alloc (.cells #[.int .i64 0, .int .i64 1, .int .i64 0, .int .i64 z, .int .i64 (z + l + 1), .int .i64 0, .int .i64 1, .int .i64 x, .int .i64 (x + y), .int .i64 (x + y + 5)] 35)).cell? ⟨p, 3, none⟩ = some (.int .i64 (x + y)) := bW7.cell 3
            have q4' : (v6.alloc (.cells #[.int .i64 0, .int .i64 1, .int .i64 0, .int .i64 z, .int .i64 (z + l + 1), .int .i64 0, .int .i64 1, .int .i64 x, .int .i64 (x + y), .int .i64 (x + y + 5)] 35)).cell? ⟨p, 4, none⟩ = some (.int .i64 (x + y + 5)) := bW7.cell 4
            clear HV bR ht7 bW7
            go_wp2_with fail
            refine CC.mono ?_
            rintro e u ⟨rfl, hb9⟩
            clear CC
            go_wp2_with fail
            go_ret
            exact ⟨rfl, hbF.trans ((hv7.trans (hb9.mono hv7.size)).mono hbF.size)⟩
        · have g1 : decide (x ≤ z) = false := by simpa using h1
          have g3 : decide (z < x) = true := by simp; omega
          by_cases h2 : x < z + l + 1
          · have g2 : decide (x < z + l + 1) = true := by simpa using h2
            have HV : Hid (passV (dS ca cc (some ⟨N, 0, none⟩) (some ⟨gs, 0, none⟩) tc a1 c1 A2 k2) (dT (some ⟨v6.heap.size, 0, none⟩) ⟨0, 1, 0, z, z + l + 1⟩ ⟨0, 1, x, x + y, x + y + 5⟩) ⟨0, 1, x, x + y, x + y + 5⟩ = ((0 : Nat) : Int)) := hidp (ds_v ca cc (some ⟨N, 0, none⟩) (some ⟨gs, 0, none⟩) tc a1 c1 A2 k2 _ (ds_same ca cc (some ⟨N, 0, none⟩) (some ⟨gs, 0, none⟩) tc a1 c1 A2 k2 x (x + y) (x + y + 5) z (z + l + 1)))
            have bR := Bk.new v6 35 #[.int .i64 0, .int .i64 1, .int .i64 0, .int .i64 z, .int .i64 (z + l + 1), .int .i64 0, .int .i64 1, .int .i64 x, .int .i64 (x + y), .int .i64 (x + y + 5)]
            have hv7 := hv.alloc hv.size (.cells #[.int .i64 0, .int .i64 1, .int .i64 0, .int .i64 z, .int .i64 (z + l + 1), .int .i64 0, .int .i64 1, .int .i64 x, .int .i64 (x + y), .int .i64 (x + y + 5)] 35)
            have ht7 : TraceOk (v6.alloc (.cells #[.int .i64 0, .int .i64 1, .int .i64 0, .int .i64 z, .int .i64 (z + l + 1), .int .i64 0, .int .i64 1, .int .i64 x, .int .i64 (x + y), .int .i64 (x + y + 5)] 35)) (dT (some ⟨v6.heap.size, 0, none⟩) ⟨0, 1, 0, z, z + l + 1⟩ ⟨0, 1, x, x + y, x + y + 5⟩) := dt_ok (.inr ⟨_, _, rfl, fun i hi => by
                have hi : i < 2 := hi
                match i, hi with
                | 0, _ => exact ⟨bR.cell 0, bR.cell 1, bR.cell 2, bR.cell 3, bR.cell 4⟩
                | 1, _ => exact ⟨bR.cell 5, bR.cell 6, bR.cell 7, bR.cell 8, bR.cell 9⟩⟩) ⟨by unfold I64; dsimp only; omega, by unfold I64; dsimp only; omega, by unfold I64; dsimp only; omega, by unfold I64; dsimp only; omega, by unfold I64; dsimp only; omega⟩ ⟨by unfold I64; dsimp only; omega, by unfold I64; dsimp only; omega, by unfold I64; dsimp only; omega, by unfold I64; dsimp only; omega, by unfold I64; dsimp only; omega⟩
            have CC := dpass_any (dS ca cc (some ⟨N, 0, none⟩) (some ⟨gs, 0, none⟩) tc a1 c1 A2 k2) (dT (some ⟨v6.heap.size, 0, none⟩) ⟨0, 1, 0, z, z + l + 1⟩ ⟨0, 1, x, x + y, x + y + 5⟩) ⟨0, 1, x, x + y, x + y + 5⟩ (v6.alloc (.cells #[.int .i64 0, .int .i64 1, .int .i64 0, .int .i64 z, .int .i64 (z + l + 1), .int .i64 0, .int .i64 1, .int .i64 x, .int .i64 (x + y), .int .i64 (x + y + 5)] 35)) (HsF.out.keep (Keeps.of_below hv7)) ht7
            rw [HV.out] at CC
            change Calls Try.prog 16 #[.agg #[.int .i64 1, .slice ca 1 cc, .slice (some ⟨N, 0, none⟩) 2 2, .slice (some ⟨gs, 0, none⟩) 2 tc], .agg #[.int .i64 200, .slice none 0 0, .slice none 0 0, .slice (some ⟨v6.heap.size, 0, none⟩) 2 2], .agg #[.int .i64 0, .int .i64 1, .int .i64 x, .int .i64 (x + y), .int .i64 (x + y + 5)]] _ _ at CC
            have bW7 := bW.alloc (.cells #[.int .i64 0, .int .i64 1, .int .i64 0, .int .i64 z, .int .i64 (z + l + 1), .int .i64 0, .int .i64 1, .int .i64 x, .int .i64 (x + y), .int .i64 (x + y + 5)] 35)
            have q0' : (v6.alloc (.cells #[.int .i64 0, .int .i64 1, .int .i64 0, .int .i64 z, .int .i64 (z + l + 1), .int .i64 0, .int .i64 1, .int .i64 x, .int .i64 (x + y), .int .i64 (x + y + 5)] 35)).cell? ⟨p, 0, none⟩ = some (.int .i64 0) := bW7.cell 0
            have q1' : (v6.alloc (.cells #[.int .i64 0, .int .i64 1, .int .i64 0, .int .i64 z, .int .i64 (z + l + 1), .int .i64 0, .int .i64 1, .int .i64 x, .int .i64 (x + y), .int .i64 (x + y + 5)] 35)).cell? ⟨p, 1, none⟩ = some (.int .i64 1) := bW7.cell 1
            have q2' : (v6.alloc (.cells #[.int .i64 0, .int .i64 1, .int .i64 0, .int .i64 z, .int .i64 (z + l + 1), .int .i64 0, .int .i64 1, .int .i64 x, .int .i64 (x + y), .int .i64 (x + y + 5)] 35)).cell? ⟨p, 2, none⟩ = some (.int .i64 x) := bW7.cell 2
            have q3' : (v6.alloc (.cells #[.int .i64 0, .int .i64 1, .int .i64 0, .int .i64 z, .int .i64 (z + l + 1), .int .i64 0, .int .i64 1, .int .i64 x, .int .i64 (x + y), .int .i64 (x + y + 5)] 35)).cell? ⟨p, 3, none⟩ = some (.int .i64 (x + y)) := bW7.cell 3
            have q4' : (v6.alloc (.cells #[.int .i64 0, .int .i64 1, .int .i64 0, .int .i64 z, .int .i64 (z + l + 1), .int .i64 0, .int .i64 1, .int .i64 x, .int .i64 (x + y), .int .i64 (x + y + 5)] 35)).cell? ⟨p, 4, none⟩ = some (.int .i64 (x + y + 5)) := bW7.cell 4
            clear HV bR ht7 bW7
            go_wp2_with fail
            refine CC.mono ?_
            rintro e u ⟨rfl, hb9⟩
            clear CC
            go_wp2_with fail
            go_ret
            exact ⟨rfl, hbF.trans ((hv7.trans (hb9.mono hv7.size)).mono hbF.size)⟩
          · have g2 : decide (x < z + l + 1) = false := by simpa using h2
            have HV : Hid (passV (dS ca cc (some ⟨N, 0, none⟩) (some ⟨gs, 0, none⟩) tc a1 c1 A2 k2) (dT (some ⟨v6.heap.size, 0, none⟩) ⟨0, 1, 0, z, z + l + 1⟩ ⟨0, 1, x, x + y, x + y + 5⟩) ⟨0, 1, x, x + y, x + y + 5⟩ = ((0 : Nat) : Int)) := hidp (ds_v ca cc (some ⟨N, 0, none⟩) (some ⟨gs, 0, none⟩) tc a1 c1 A2 k2 _ (ds_same ca cc (some ⟨N, 0, none⟩) (some ⟨gs, 0, none⟩) tc a1 c1 A2 k2 x (x + y) (x + y + 5) z (z + l + 1)))
            have bR := Bk.new v6 35 #[.int .i64 0, .int .i64 1, .int .i64 0, .int .i64 z, .int .i64 (z + l + 1), .int .i64 0, .int .i64 1, .int .i64 x, .int .i64 (x + y), .int .i64 (x + y + 5)]
            have hv7 := hv.alloc hv.size (.cells #[.int .i64 0, .int .i64 1, .int .i64 0, .int .i64 z, .int .i64 (z + l + 1), .int .i64 0, .int .i64 1, .int .i64 x, .int .i64 (x + y), .int .i64 (x + y + 5)] 35)
            have ht7 : TraceOk (v6.alloc (.cells #[.int .i64 0, .int .i64 1, .int .i64 0, .int .i64 z, .int .i64 (z + l + 1), .int .i64 0, .int .i64 1, .int .i64 x, .int .i64 (x + y), .int .i64 (x + y + 5)] 35)) (dT (some ⟨v6.heap.size, 0, none⟩) ⟨0, 1, 0, z, z + l + 1⟩ ⟨0, 1, x, x + y, x + y + 5⟩) := dt_ok (.inr ⟨_, _, rfl, fun i hi => by
                have hi : i < 2 := hi
                match i, hi with
                | 0, _ => exact ⟨bR.cell 0, bR.cell 1, bR.cell 2, bR.cell 3, bR.cell 4⟩
                | 1, _ => exact ⟨bR.cell 5, bR.cell 6, bR.cell 7, bR.cell 8, bR.cell 9⟩⟩) ⟨by unfold I64; dsimp only; omega, by unfold I64; dsimp only; omega, by unfold I64; dsimp only; omega, by unfold I64; dsimp only; omega, by unfold I64; dsimp only; omega⟩ ⟨by unfold I64; dsimp only; omega, by unfold I64; dsimp only; omega, by unfold I64; dsimp only; omega, by unfold I64; dsimp only; omega, by unfold I64; dsimp only; omega⟩
            have CC := dpass_any (dS ca cc (some ⟨N, 0, none⟩) (some ⟨gs, 0, none⟩) tc a1 c1 A2 k2) (dT (some ⟨v6.heap.size, 0, none⟩) ⟨0, 1, 0, z, z + l + 1⟩ ⟨0, 1, x, x + y, x + y + 5⟩) ⟨0, 1, x, x + y, x + y + 5⟩ (v6.alloc (.cells #[.int .i64 0, .int .i64 1, .int .i64 0, .int .i64 z, .int .i64 (z + l + 1), .int .i64 0, .int .i64 1, .int .i64 x, .int .i64 (x + y), .int .i64 (x + y + 5)] 35)) (HsF.out.keep (Keeps.of_below hv7)) ht7
            rw [HV.out] at CC
            change Calls Try.prog 16 #[.agg #[.int .i64 1, .slice ca 1 cc, .slice (some ⟨N, 0, none⟩) 2 2, .slice (some ⟨gs, 0, none⟩) 2 tc], .agg #[.int .i64 200, .slice none 0 0, .slice none 0 0, .slice (some ⟨v6.heap.size, 0, none⟩) 2 2], .agg #[.int .i64 0, .int .i64 1, .int .i64 x, .int .i64 (x + y), .int .i64 (x + y + 5)]] _ _ at CC
            have bW7 := bW.alloc (.cells #[.int .i64 0, .int .i64 1, .int .i64 0, .int .i64 z, .int .i64 (z + l + 1), .int .i64 0, .int .i64 1, .int .i64 x, .int .i64 (x + y), .int .i64 (x + y + 5)] 35)
            have q0' : (v6.alloc (.cells #[.int .i64 0, .int .i64 1, .int .i64 0, .int .i64 z, .int .i64 (z + l + 1), .int .i64 0, .int .i64 1, .int .i64 x, .int .i64 (x + y), .int .i64 (x + y + 5)] 35)).cell? ⟨p, 0, none⟩ = some (.int .i64 0) := bW7.cell 0
            have q1' : (v6.alloc (.cells #[.int .i64 0, .int .i64 1, .int .i64 0, .int .i64 z, .int .i64 (z + l + 1), .int .i64 0, .int .i64 1, .int .i64 x, .int .i64 (x + y), .int .i64 (x + y + 5)] 35)).cell? ⟨p, 1, none⟩ = some (.int .i64 1) := bW7.cell 1
            have q2' : (v6.alloc (.cells #[.int .i64 0, .int .i64 1, .int .i64 0, .int .i64 z, .int .i64 (z + l + 1), .int .i64 0, .int .i64 1, .int .i64 x, .int .i64 (x + y), .int .i64 (x + y + 5)] 35)).cell? ⟨p, 2, none⟩ = some (.int .i64 x) := bW7.cell 2
            have q3' : (v6.alloc (.cells #[.int .i64 0, .int .i64 1, .int .i64 0, .int .i64 z, .int .i64 (z + l + 1), .int .i64 0, .int .i64 1, .int .i64 x, .int .i64 (x + y), .int .i64 (x + y + 5)] 35)).cell? ⟨p, 3, none⟩ = some (.int .i64 (x + y)) := bW7.cell 3
            have q4' : (v6.alloc (.cells #[.int .i64 0, .int .i64 1, .int .i64 0, .int .i64 z, .int .i64 (z + l + 1), .int .i64 0, .int .i64 1, .int .i64 x, .int .i64 (x + y), .int .i64 (x + y + 5)] 35)).cell? ⟨p, 4, none⟩ = some (.int .i64 (x + y + 5)) := bW7.cell 4
            clear HV bR ht7 bW7
            go_wp2_with fail
            refine CC.mono ?_
            rintro e u ⟨rfl, hb9⟩
            clear CC
            go_wp2_with fail
            go_ret
            exact ⟨rfl, hbF.trans ((hv7.trans (hb9.mono hv7.size)).mono hbF.size)⟩
    | true =>
      cases a5 with
      | false =>
        have m1 := bX.cell 1
        have n1 := bX.frozen 1
        go_upto_region 15 with fail
        replace bX := bX.put 1 (.int .i64 2)
        replace bW := bW.far (p := ⟨q, 1, none⟩) (by simp; omega) (.int .i64 2)
        replace bB := bB.far (p := ⟨q, 1, none⟩) (by simp; omega) (.int .i64 2)
        replace hv := hv.setCell (show v2.heap.size ≤ (⟨q, 1, none⟩ : Addr).block by rw [HP.out]; simp; omega) (.int .i64 2)
        obtain ⟨v6, hv6⟩ : ∃ v, v5.setCell ⟨q, 1, none⟩ (.int .i64 2) = v := ⟨_, rfl⟩
        rw [hv6] at bW bB bX hv ⊢
        clear hv6
        have s0 := bB.cell 0
        have s1 := bB.cell 1
        have s2 := bB.cell 2
        have s3 := bB.cell 3
        have y0' : v6.cell? ⟨p, 0, none⟩ = some (.int .i64 0) := bW.cell 0
        have y1' : v6.cell? ⟨p, 1, none⟩ = some (.int .i64 1) := bW.cell 1
        have y2' : v6.cell? ⟨p, 2, none⟩ = some (.int .i64 x) := bW.cell 2
        have y3' : v6.cell? ⟨p, 3, none⟩ = some (.int .i64 (x + y)) := bW.cell 3
        have y4' : v6.cell? ⟨p, 4, none⟩ = some (.int .i64 (x + y + 5)) := bW.cell 4
        have e0 := bX.cell 0
        have e1 := bX.cell 1
        have e2 := bX.cell 2
        have e3 := bX.cell 3
        have e4 := bX.cell 4
        by_cases h1 : x ≤ z
        · have g1 : decide (x ≤ z) = true := by simpa using h1
          have g3 : decide (z < x) = false := by simp; omega
          by_cases h2 : z < x + y
          · have g2 : decide (z < x + y) = true := by simpa using h2
            have HV : Hid (passV (dS ca cc (some ⟨N, 0, none⟩) (some ⟨gs, 0, none⟩) tc a1 c1 A2 k2) (dT (some ⟨v6.heap.size, 0, none⟩) ⟨1, 2, 0, z, z + l + 1⟩ ⟨0, 1, x, x + y, x + y + 5⟩) ⟨0, 1, x, x + y, x + y + 5⟩ = ((0 : Nat) : Int)) := hidp (ds_v ca cc (some ⟨N, 0, none⟩) (some ⟨gs, 0, none⟩) tc a1 c1 A2 k2 _ (ds_res ca cc (some ⟨N, 0, none⟩) (some ⟨gs, 0, none⟩) tc a1 c1 A2 k2 x (x + y) (x + y + 5) z (z + l + 1)))
            have bR := Bk.new v6 35 #[.int .i64 1, .int .i64 2, .int .i64 0, .int .i64 z, .int .i64 (z + l + 1), .int .i64 0, .int .i64 1, .int .i64 x, .int .i64 (x + y), .int .i64 (x + y + 5)]
            have hv7 := hv.alloc hv.size (.cells #[.int .i64 1, .int .i64 2, .int .i64 0, .int .i64 z, .int .i64 (z + l + 1), .int .i64 0, .int .i64 1, .int .i64 x, .int .i64 (x + y), .int .i64 (x + y + 5)] 35)
            have ht7 : TraceOk (v6.alloc (.cells #[.int .i64 1, .int .i64 2, .int .i64 0, .int .i64 z, .int .i64 (z + l + 1), .int .i64 0, .int .i64 1, .int .i64 x, .int .i64 (x + y), .int .i64 (x + y + 5)] 35)) (dT (some ⟨v6.heap.size, 0, none⟩) ⟨1, 2, 0, z, z + l + 1⟩ ⟨0, 1, x, x + y, x + y + 5⟩) := dt_ok (.inr ⟨_, _, rfl, fun i hi => by
                have hi : i < 2 := hi
                match i, hi with
                | 0, _ => exact ⟨bR.cell 0, bR.cell 1, bR.cell 2, bR.cell 3, bR.cell 4⟩
                | 1, _ => exact ⟨bR.cell 5, bR.cell 6, bR.cell 7, bR.cell 8, bR.cell 9⟩⟩) ⟨by unfold I64; dsimp only; omega, by unfold I64; dsimp only; omega, by unfold I64; dsimp only; omega, by unfold I64; dsimp only; omega, by unfold I64; dsimp only; omega⟩ ⟨by unfold I64; dsimp only; omega, by unfold I64; dsimp only; omega, by unfold I64; dsimp only; omega, by unfold I64; dsimp only; omega, by unfold I64; dsimp only; omega⟩
            have CC := dpass_any (dS ca cc (some ⟨N, 0, none⟩) (some ⟨gs, 0, none⟩) tc a1 c1 A2 k2) (dT (some ⟨v6.heap.size, 0, none⟩) ⟨1, 2, 0, z, z + l + 1⟩ ⟨0, 1, x, x + y, x + y + 5⟩) ⟨0, 1, x, x + y, x + y + 5⟩ (v6.alloc (.cells #[.int .i64 1, .int .i64 2, .int .i64 0, .int .i64 z, .int .i64 (z + l + 1), .int .i64 0, .int .i64 1, .int .i64 x, .int .i64 (x + y), .int .i64 (x + y + 5)] 35)) (HsF.out.keep (Keeps.of_below hv7)) ht7
            rw [HV.out] at CC
            change Calls Try.prog 16 #[.agg #[.int .i64 1, .slice ca 1 cc, .slice (some ⟨N, 0, none⟩) 2 2, .slice (some ⟨gs, 0, none⟩) 2 tc], .agg #[.int .i64 200, .slice none 0 0, .slice none 0 0, .slice (some ⟨v6.heap.size, 0, none⟩) 2 2], .agg #[.int .i64 0, .int .i64 1, .int .i64 x, .int .i64 (x + y), .int .i64 (x + y + 5)]] _ _ at CC
            have bW7 := bW.alloc (.cells #[.int .i64 1, .int .i64 2, .int .i64 0, .int .i64 z, .int .i64 (z + l + 1), .int .i64 0, .int .i64 1, .int .i64 x, .int .i64 (x + y), .int .i64 (x + y + 5)] 35)
            have q0' : (v6.alloc (.cells #[.int .i64 1, .int .i64 2, .int .i64 0, .int .i64 z, .int .i64 (z + l + 1), .int .i64 0, .int .i64 1, .int .i64 x, .int .i64 (x + y), .int .i64 (x + y + 5)] 35)).cell? ⟨p, 0, none⟩ = some (.int .i64 0) := bW7.cell 0
            have q1' : (v6.alloc (.cells #[.int .i64 1, .int .i64 2, .int .i64 0, .int .i64 z, .int .i64 (z + l + 1), .int .i64 0, .int .i64 1, .int .i64 x, .int .i64 (x + y), .int .i64 (x + y + 5)] 35)).cell? ⟨p, 1, none⟩ = some (.int .i64 1) := bW7.cell 1
            have q2' : (v6.alloc (.cells #[.int .i64 1, .int .i64 2, .int .i64 0, .int .i64 z, .int .i64 (z + l + 1), .int .i64 0, .int .i64 1, .int .i64 x, .int .i64 (x + y), .int .i64 (x + y + 5)] 35)).cell? ⟨p, 2, none⟩ = some (.int .i64 x) := bW7.cell 2
            have q3' : (v6.alloc (.cells #[.int .i64 1, .int .i64 2, .int .i64 0, .int .i64 z, .int .i64 (z + l + 1), .int .i64 0, .int .i64 1, .int .i64 x, .int .i64 (x + y), .int .i64 (x + y + 5)] 35)).cell? ⟨p, 3, none⟩ = some (.int .i64 (x + y)) := bW7.cell 3
            have q4' : (v6.alloc (.cells #[.int .i64 1, .int .i64 2, .int .i64 0, .int .i64 z, .int .i64 (z + l + 1), .int .i64 0, .int .i64 1, .int .i64 x, .int .i64 (x + y), .int .i64 (x + y + 5)] 35)).cell? ⟨p, 4, none⟩ = some (.int .i64 (x + y + 5)) := bW7.cell 4
            clear HV bR ht7 bW7
            go_wp2_with fail
            refine CC.mono ?_
            rintro e u ⟨rfl, hb9⟩
            clear CC
            go_wp2_with fail
            go_ret
            exact ⟨rfl, hbF.trans ((hv7.trans (hb9.mono hv7.size)).mono hbF.size)⟩
          · have g2 : decide (z < x + y) = false := by simpa using h2
            have HV : Hid (passV (dS ca cc (some ⟨N, 0, none⟩) (some ⟨gs, 0, none⟩) tc a1 c1 A2 k2) (dT (some ⟨v6.heap.size, 0, none⟩) ⟨1, 2, 0, z, z + l + 1⟩ ⟨0, 1, x, x + y, x + y + 5⟩) ⟨0, 1, x, x + y, x + y + 5⟩ = ((0 : Nat) : Int)) := hidp (ds_v ca cc (some ⟨N, 0, none⟩) (some ⟨gs, 0, none⟩) tc a1 c1 A2 k2 _ (ds_res ca cc (some ⟨N, 0, none⟩) (some ⟨gs, 0, none⟩) tc a1 c1 A2 k2 x (x + y) (x + y + 5) z (z + l + 1)))
            have bR := Bk.new v6 35 #[.int .i64 1, .int .i64 2, .int .i64 0, .int .i64 z, .int .i64 (z + l + 1), .int .i64 0, .int .i64 1, .int .i64 x, .int .i64 (x + y), .int .i64 (x + y + 5)]
            have hv7 := hv.alloc hv.size (.cells #[.int .i64 1, .int .i64 2, .int .i64 0, .int .i64 z, .int .i64 (z + l + 1), .int .i64 0, .int .i64 1, .int .i64 x, .int .i64 (x + y), .int .i64 (x + y + 5)] 35)
            have ht7 : TraceOk (v6.alloc (.cells #[.int .i64 1, .int .i64 2, .int .i64 0, .int .i64 z, .int .i64 (z + l + 1), .int .i64 0, .int .i64 1, .int .i64 x, .int .i64 (x + y), .int .i64 (x + y + 5)] 35)) (dT (some ⟨v6.heap.size, 0, none⟩) ⟨1, 2, 0, z, z + l + 1⟩ ⟨0, 1, x, x + y, x + y + 5⟩) := dt_ok (.inr ⟨_, _, rfl, fun i hi => by
                have hi : i < 2 := hi
                match i, hi with
                | 0, _ => exact ⟨bR.cell 0, bR.cell 1, bR.cell 2, bR.cell 3, bR.cell 4⟩
                | 1, _ => exact ⟨bR.cell 5, bR.cell 6, bR.cell 7, bR.cell 8, bR.cell 9⟩⟩) ⟨by unfold I64; dsimp only; omega, by unfold I64; dsimp only; omega, by unfold I64; dsimp only; omega, by unfold I64; dsimp only; omega, by unfold I64; dsimp only; omega⟩ ⟨by unfold I64; dsimp only; omega, by unfold I64; dsimp only; omega, by unfold I64; dsimp only; omega, by unfold I64; dsimp only; omega, by unfold I64; dsimp only; omega⟩
            have CC := dpass_any (dS ca cc (some ⟨N, 0, none⟩) (some ⟨gs, 0, none⟩) tc a1 c1 A2 k2) (dT (some ⟨v6.heap.size, 0, none⟩) ⟨1, 2, 0, z, z + l + 1⟩ ⟨0, 1, x, x + y, x + y + 5⟩) ⟨0, 1, x, x + y, x + y + 5⟩ (v6.alloc (.cells #[.int .i64 1, .int .i64 2, .int .i64 0, .int .i64 z, .int .i64 (z + l + 1), .int .i64 0, .int .i64 1, .int .i64 x, .int .i64 (x + y), .int .i64 (x + y + 5)] 35)) (HsF.out.keep (Keeps.of_below hv7)) ht7
            rw [HV.out] at CC
            change Calls Try.prog 16 #[.agg #[.int .i64 1, .slice ca 1 cc, .slice (some ⟨N, 0, none⟩) 2 2, .slice (some ⟨gs, 0, none⟩) 2 tc], .agg #[.int .i64 200, .slice none 0 0, .slice none 0 0, .slice (some ⟨v6.heap.size, 0, none⟩) 2 2], .agg #[.int .i64 0, .int .i64 1, .int .i64 x, .int .i64 (x + y), .int .i64 (x + y + 5)]] _ _ at CC
            have bW7 := bW.alloc (.cells #[.int .i64 1, .int .i64 2, .int .i64 0, .int .i64 z, .int .i64 (z + l + 1), .int .i64 0, .int .i64 1, .int .i64 x, .int .i64 (x + y), .int .i64 (x + y + 5)] 35)
            have q0' : (v6.alloc (.cells #[.int .i64 1, .int .i64 2, .int .i64 0, .int .i64 z, .int .i64 (z + l + 1), .int .i64 0, .int .i64 1, .int .i64 x, .int .i64 (x + y), .int .i64 (x + y + 5)] 35)).cell? ⟨p, 0, none⟩ = some (.int .i64 0) := bW7.cell 0
            have q1' : (v6.alloc (.cells #[.int .i64 1, .int .i64 2, .int .i64 0, .int .i64 z, .int .i64 (z + l + 1), .int .i64 0, .int .i64 1, .int .i64 x, .int .i64 (x + y), .int .i64 (x + y + 5)] 35)).cell? ⟨p, 1, none⟩ = some (.int .i64 1) := bW7.cell 1
            have q2' : (v6.alloc (.cells #[.int .i64 1, .int .i64 2, .int .i64 0, .int .i64 z, .int .i64 (z + l + 1), .int .i64 0, .int .i64 1, .int .i64 x, .int .i64 (x + y), .int .i64 (x + y + 5)] 35)).cell? ⟨p, 2, none⟩ = some (.int .i64 x) := bW7.cell 2
            have q3' : (v6.alloc (.cells #[.int .i64 1, .int .i64 2, .int .i64 0, .int .i64 z, .int .i64 (z + l + 1), .int .i64 0, .int .i64 1, .int .i64 x, .int .i64 (x + y), .int .i64 (x + y + 5)] 35)).cell? ⟨p, 3, none⟩ = some (.int .i64 (x + y)) := bW7.cell 3
            have q4' : (v6.alloc (.cells #[.int .i64 1, .int .i64 2, .int .i64 0, .int .i64 z, .int .i64 (z + l + 1), .int .i64 0, .int .i64 1, .int .i64 x, .int .i64 (x + y), .int .i64 (x + y + 5)] 35)).cell? ⟨p, 4, none⟩ = some (.int .i64 (x + y + 5)) := bW7.cell 4
            clear HV bR ht7 bW7
            go_wp2_with fail
            refine CC.mono ?_
            rintro e u ⟨rfl, hb9⟩
            clear CC
            go_wp2_with fail
            go_ret
            exact ⟨rfl, hbF.trans ((hv7.trans (hb9.mono hv7.size)).mono hbF.size)⟩
        · have g1 : decide (x ≤ z) = false := by simpa using h1
          have g3 : decide (z < x) = true := by simp; omega
          by_cases h2 : x < z + l + 1
          · have g2 : decide (x < z + l + 1) = true := by simpa using h2
            have HV : Hid (passV (dS ca cc (some ⟨N, 0, none⟩) (some ⟨gs, 0, none⟩) tc a1 c1 A2 k2) (dT (some ⟨v6.heap.size, 0, none⟩) ⟨1, 2, 0, z, z + l + 1⟩ ⟨0, 1, x, x + y, x + y + 5⟩) ⟨0, 1, x, x + y, x + y + 5⟩ = ((0 : Nat) : Int)) := hidp (ds_v ca cc (some ⟨N, 0, none⟩) (some ⟨gs, 0, none⟩) tc a1 c1 A2 k2 _ (ds_res ca cc (some ⟨N, 0, none⟩) (some ⟨gs, 0, none⟩) tc a1 c1 A2 k2 x (x + y) (x + y + 5) z (z + l + 1)))
            have bR := Bk.new v6 35 #[.int .i64 1, .int .i64 2, .int .i64 0, .int .i64 z, .int .i64 (z + l + 1), .int .i64 0, .int .i64 1, .int .i64 x, .int .i64 (x + y), .int .i64 (x + y + 5)]
            have hv7 := hv.alloc hv.size (.cells #[.int .i64 1, .int .i64 2, .int .i64 0, .int .i64 z, .int .i64 (z + l + 1), .int .i64 0, .int .i64 1, .int .i64 x, .int .i64 (x + y), .int .i64 (x + y + 5)] 35)
            have ht7 : TraceOk (v6.alloc (.cells #[.int .i64 1, .int .i64 2, .int .i64 0, .int .i64 z, .int .i64 (z + l + 1), .int .i64 0, .int .i64 1, .int .i64 x, .int .i64 (x + y), .int .i64 (x + y + 5)] 35)) (dT (some ⟨v6.heap.size, 0, none⟩) ⟨1, 2, 0, z, z + l + 1⟩ ⟨0, 1, x, x + y, x + y + 5⟩) := dt_ok (.inr ⟨_, _, rfl, fun i hi => by
                have hi : i < 2 := hi
                match i, hi with
                | 0, _ => exact ⟨bR.cell 0, bR.cell 1, bR.cell 2, bR.cell 3, bR.cell 4⟩
                | 1, _ => exact ⟨bR.cell 5, bR.cell 6, bR.cell 7, bR.cell 8, bR.cell 9⟩⟩) ⟨by unfold I64; dsimp only; omega, by unfold I64; dsimp only; omega, by unfold I64; dsimp only; omega, by unfold I64; dsimp only; omega, by unfold I64; dsimp only; omega⟩ ⟨by unfold I64; dsimp only; omega, by unfold I64; dsimp only; omega, by unfold I64; dsimp only; omega, by unfold I64; dsimp only; omega, by unfold I64; dsimp only; omega⟩
            have CC := dpass_any (dS ca cc (some ⟨N, 0, none⟩) (some ⟨gs, 0, none⟩) tc a1 c1 A2 k2) (dT (some ⟨v6.heap.size, 0, none⟩) ⟨1, 2, 0, z, z + l + 1⟩ ⟨0, 1, x, x + y, x + y + 5⟩) ⟨0, 1, x, x + y, x + y + 5⟩ (v6.alloc (.cells #[.int .i64 1, .int .i64 2, .int .i64 0, .int .i64 z, .int .i64 (z + l + 1), .int .i64 0, .int .i64 1, .int .i64 x, .int .i64 (x + y), .int .i64 (x + y + 5)] 35)) (HsF.out.keep (Keeps.of_below hv7)) ht7
            rw [HV.out] at CC
            change Calls Try.prog 16 #[.agg #[.int .i64 1, .slice ca 1 cc, .slice (some ⟨N, 0, none⟩) 2 2, .slice (some ⟨gs, 0, none⟩) 2 tc], .agg #[.int .i64 200, .slice none 0 0, .slice none 0 0, .slice (some ⟨v6.heap.size, 0, none⟩) 2 2], .agg #[.int .i64 0, .int .i64 1, .int .i64 x, .int .i64 (x + y), .int .i64 (x + y + 5)]] _ _ at CC
            have bW7 := bW.alloc (.cells #[.int .i64 1, .int .i64 2, .int .i64 0, .int .i64 z, .int .i64 (z + l + 1), .int .i64 0, .int .i64 1, .int .i64 x, .int .i64 (x + y), .int .i64 (x + y + 5)] 35)
            have q0' : (v6.alloc (.cells #[.int .i64 1, .int .i64 2, .int .i64 0, .int .i64 z, .int .i64 (z + l + 1), .int .i64 0, .int .i64 1, .int .i64 x, .int .i64 (x + y), .int .i64 (x + y + 5)] 35)).cell? ⟨p, 0, none⟩ = some (.int .i64 0) := bW7.cell 0
            have q1' : (v6.alloc (.cells #[.int .i64 1, .int .i64 2, .int .i64 0, .int .i64 z, .int .i64 (z + l + 1), .int .i64 0, .int .i64 1, .int .i64 x, .int .i64 (x + y), .int .i64 (x + y + 5)] 35)).cell? ⟨p, 1, none⟩ = some (.int .i64 1) := bW7.cell 1
            have q2' : (v6.alloc (.cells #[.int .i64 1, .int .i64 2, .int .i64 0, .int .i64 z, .int .i64 (z + l + 1), .int .i64 0, .int .i64 1, .int .i64 x, .int .i64 (x + y), .int .i64 (x + y + 5)] 35)).cell? ⟨p, 2, none⟩ = some (.int .i64 x) := bW7.cell 2
            have q3' : (v6.alloc (.cells #[.int .i64 1, .int .i64 2, .int .i64 0, .int .i64 z, .int .i64 (z + l + 1), .int .i64 0, .int .i64 1, .int .i64 x, .int .i64 (x + y), .int .i64 (x + y + 5)] 35)).cell? ⟨p, 3, none⟩ = some (.int .i64 (x + y)) := bW7.cell 3
            have q4' : (v6.alloc (.cells #[.int .i64 1, .int .i64 2, .int .i64 0, .int .i64 z, .int .i64 (z + l + 1), .int .i64 0, .int .i64 1, .int .i64 x, .int .i64 (x + y), .int .i64 (x + y + 5)] 35)).cell? ⟨p, 4, none⟩ = some (.int .i64 (x + y + 5)) := bW7.cell 4
            clear HV bR ht7 bW7
            go_wp2_with fail
            refine CC.mono ?_
            rintro e u ⟨rfl, hb9⟩
            clear CC
            go_wp2_with fail
            go_ret
            exact ⟨rfl, hbF.trans ((hv7.trans (hb9.mono hv7.size)).mono hbF.size)⟩
          · have g2 : decide (x < z + l + 1) = false := by simpa using h2
            have HV : Hid (passV (dS ca cc (some ⟨N, 0, none⟩) (some ⟨gs, 0, none⟩) tc a1 c1 A2 k2) (dT (some ⟨v6.heap.size, 0, none⟩) ⟨1, 2, 0, z, z + l + 1⟩ ⟨0, 1, x, x + y, x + y + 5⟩) ⟨0, 1, x, x + y, x + y + 5⟩ = ((0 : Nat) : Int)) := hidp (ds_v ca cc (some ⟨N, 0, none⟩) (some ⟨gs, 0, none⟩) tc a1 c1 A2 k2 _ (ds_res ca cc (some ⟨N, 0, none⟩) (some ⟨gs, 0, none⟩) tc a1 c1 A2 k2 x (x + y) (x + y + 5) z (z + l + 1)))
            have bR := Bk.new v6 35 #[.int .i64 1, .int .i64 2, .int .i64 0, .int .i64 z, .int .i64 (z + l + 1), .int .i64 0, .int .i64 1, .int .i64 x, .int .i64 (x + y), .int .i64 (x + y + 5)]
            have hv7 := hv.alloc hv.size (.cells #[.int .i64 1, .int .i64 2, .int .i64 0, .int .i64 z, .int .i64 (z + l + 1), .int .i64 0, .int .i64 1, .int .i64 x, .int .i64 (x + y), .int .i64 (x + y + 5)] 35)
            have ht7 : TraceOk (v6.alloc (.cells #[.int .i64 1, .int .i64 2, .int .i64 0, .int .i64 z, .int .i64 (z + l + 1), .int .i64 0, .int .i64 1, .int .i64 x, .int .i64 (x + y), .int .i64 (x + y + 5)] 35)) (dT (some ⟨v6.heap.size, 0, none⟩) ⟨1, 2, 0, z, z + l + 1⟩ ⟨0, 1, x, x + y, x + y + 5⟩) := dt_ok (.inr ⟨_, _, rfl, fun i hi => by
                have hi : i < 2 := hi
                match i, hi with
                | 0, _ => exact ⟨bR.cell 0, bR.cell 1, bR.cell 2, bR.cell 3, bR.cell 4⟩
                | 1, _ => exact ⟨bR.cell 5, bR.cell 6, bR.cell 7, bR.cell 8, bR.cell 9⟩⟩) ⟨by unfold I64; dsimp only; omega, by unfold I64; dsimp only; omega, by unfold I64; dsimp only; omega, by unfold I64; dsimp only; omega, by unfold I64; dsimp only; omega⟩ ⟨by unfold I64; dsimp only; omega, by unfold I64; dsimp only; omega, by unfold I64; dsimp only; omega, by unfold I64; dsimp only; omega, by unfold I64; dsimp only; omega⟩
            have CC := dpass_any (dS ca cc (some ⟨N, 0, none⟩) (some ⟨gs, 0, none⟩) tc a1 c1 A2 k2) (dT (some ⟨v6.heap.size, 0, none⟩) ⟨1, 2, 0, z, z + l + 1⟩ ⟨0, 1, x, x + y, x + y + 5⟩) ⟨0, 1, x, x + y, x + y + 5⟩ (v6.alloc (.cells #[.int .i64 1, .int .i64 2, .int .i64 0, .int .i64 z, .int .i64 (z + l + 1), .int .i64 0, .int .i64 1, .int .i64 x, .int .i64 (x + y), .int .i64 (x + y + 5)] 35)) (HsF.out.keep (Keeps.of_below hv7)) ht7
            rw [HV.out] at CC
            change Calls Try.prog 16 #[.agg #[.int .i64 1, .slice ca 1 cc, .slice (some ⟨N, 0, none⟩) 2 2, .slice (some ⟨gs, 0, none⟩) 2 tc], .agg #[.int .i64 200, .slice none 0 0, .slice none 0 0, .slice (some ⟨v6.heap.size, 0, none⟩) 2 2], .agg #[.int .i64 0, .int .i64 1, .int .i64 x, .int .i64 (x + y), .int .i64 (x + y + 5)]] _ _ at CC
            have bW7 := bW.alloc (.cells #[.int .i64 1, .int .i64 2, .int .i64 0, .int .i64 z, .int .i64 (z + l + 1), .int .i64 0, .int .i64 1, .int .i64 x, .int .i64 (x + y), .int .i64 (x + y + 5)] 35)
            have q0' : (v6.alloc (.cells #[.int .i64 1, .int .i64 2, .int .i64 0, .int .i64 z, .int .i64 (z + l + 1), .int .i64 0, .int .i64 1, .int .i64 x, .int .i64 (x + y), .int .i64 (x + y + 5)] 35)).cell? ⟨p, 0, none⟩ = some (.int .i64 0) := bW7.cell 0
            have q1' : (v6.alloc (.cells #[.int .i64 1, .int .i64 2, .int .i64 0, .int .i64 z, .int .i64 (z + l + 1), .int .i64 0, .int .i64 1, .int .i64 x, .int .i64 (x + y), .int .i64 (x + y + 5)] 35)).cell? ⟨p, 1, none⟩ = some (.int .i64 1) := bW7.cell 1
            have q2' : (v6.alloc (.cells #[.int .i64 1, .int .i64 2, .int .i64 0, .int .i64 z, .int .i64 (z + l + 1), .int .i64 0, .int .i64 1, .int .i64 x, .int .i64 (x + y), .int .i64 (x + y + 5)] 35)).cell? ⟨p, 2, none⟩ = some (.int .i64 x) := bW7.cell 2
            have q3' : (v6.alloc (.cells #[.int .i64 1, .int .i64 2, .int .i64 0, .int .i64 z, .int .i64 (z + l + 1), .int .i64 0, .int .i64 1, .int .i64 x, .int .i64 (x + y), .int .i64 (x + y + 5)] 35)).cell? ⟨p, 3, none⟩ = some (.int .i64 (x + y)) := bW7.cell 3
            have q4' : (v6.alloc (.cells #[.int .i64 1, .int .i64 2, .int .i64 0, .int .i64 z, .int .i64 (z + l + 1), .int .i64 0, .int .i64 1, .int .i64 x, .int .i64 (x + y), .int .i64 (x + y + 5)] 35)).cell? ⟨p, 4, none⟩ = some (.int .i64 (x + y + 5)) := bW7.cell 4
            clear HV bR ht7 bW7
            go_wp2_with fail
            refine CC.mono ?_
            rintro e u ⟨rfl, hb9⟩
            clear CC
            go_wp2_with fail
            go_ret
            exact ⟨rfl, hbF.trans ((hv7.trans (hb9.mono hv7.size)).mono hbF.size)⟩
      | true =>
        have m1 := bX.cell 1
        have n1 := bX.frozen 1
        replace bX := bX.put 1 (.int .i64 2)
        replace bW := bW.far (p := ⟨q, 1, none⟩) (by simp; omega) (.int .i64 2)
        replace bB := bB.far (p := ⟨q, 1, none⟩) (by simp; omega) (.int .i64 2)
        replace hv := hv.setCell (show v2.heap.size ≤ (⟨q, 1, none⟩ : Addr).block by rw [HP.out]; simp; omega) (.int .i64 2)
        have m0 := bX.cell 0
        have n0 := bX.frozen 0
        replace bX := bX.put 0 (.int .i64 0)
        replace bW := bW.far (p := ⟨q, 0, none⟩) (by simp; omega) (.int .i64 0)
        replace bB := bB.far (p := ⟨q, 0, none⟩) (by simp; omega) (.int .i64 0)
        replace hv := hv.setCell (show v2.heap.size ≤ (⟨q, 0, none⟩ : Addr).block by rw [HP.out]; simp; omega) (.int .i64 0)
        have m2 := bX.cell 1
        have n2 := bX.frozen 1
        go_upto_region 15 with fail
        replace bX := bX.put 1 (.int .i64 1)
        replace bW := bW.far (p := ⟨q, 1, none⟩) (by simp; omega) (.int .i64 1)
        replace bB := bB.far (p := ⟨q, 1, none⟩) (by simp; omega) (.int .i64 1)
        replace hv := hv.setCell (show v2.heap.size ≤ (⟨q, 1, none⟩ : Addr).block by rw [HP.out]; simp; omega) (.int .i64 1)
        obtain ⟨v6, hv6⟩ : ∃ v, ((v5.setCell ⟨q, 1, none⟩ (.int .i64 2)).setCell ⟨q, 0, none⟩ (.int .i64 0)).setCell ⟨q, 1, none⟩ (.int .i64 1) = v := ⟨_, rfl⟩
        rw [hv6] at bW bB bX hv ⊢
        clear hv6
        have s0 := bB.cell 0
        have s1 := bB.cell 1
        have s2 := bB.cell 2
        have s3 := bB.cell 3
        have y0' : v6.cell? ⟨p, 0, none⟩ = some (.int .i64 0) := bW.cell 0
        have y1' : v6.cell? ⟨p, 1, none⟩ = some (.int .i64 1) := bW.cell 1
        have y2' : v6.cell? ⟨p, 2, none⟩ = some (.int .i64 x) := bW.cell 2
        have y3' : v6.cell? ⟨p, 3, none⟩ = some (.int .i64 (x + y)) := bW.cell 3
        have y4' : v6.cell? ⟨p, 4, none⟩ = some (.int .i64 (x + y + 5)) := bW.cell 4
        have e0 := bX.cell 0
        have e1 := bX.cell 1
        have e2 := bX.cell 2
        have e3 := bX.cell 3
        have e4 := bX.cell 4
        by_cases h1 : x ≤ z
        · have g1 : decide (x ≤ z) = true := by simpa using h1
          have g3 : decide (z < x) = false := by simp; omega
          by_cases h2 : z < x + y
          · have g2 : decide (z < x + y) = true := by simpa using h2
            have HV : Hid (passV (dS ca cc (some ⟨N, 0, none⟩) (some ⟨gs, 0, none⟩) tc a1 c1 A2 k2) (dT (some ⟨v6.heap.size, 0, none⟩) ⟨0, 1, 0, z, z + l + 1⟩ ⟨0, 1, x, x + y, x + y + 5⟩) ⟨0, 1, x, x + y, x + y + 5⟩ = ((0 : Nat) : Int)) := hidp (ds_v ca cc (some ⟨N, 0, none⟩) (some ⟨gs, 0, none⟩) tc a1 c1 A2 k2 _ (ds_same ca cc (some ⟨N, 0, none⟩) (some ⟨gs, 0, none⟩) tc a1 c1 A2 k2 x (x + y) (x + y + 5) z (z + l + 1)))
            have bR := Bk.new v6 35 #[.int .i64 0, .int .i64 1, .int .i64 0, .int .i64 z, .int .i64 (z + l + 1), .int .i64 0, .int .i64 1, .int .i64 x, .int .i64 (x + y), .int .i64 (x + y + 5)]
            have hv7 := hv.alloc hv.size (.cells #[.int .i64 0, .int .i64 1, .int .i64 0, .int .i64 z, .int .i64 (z + l + 1), .int .i64 0, .int .i64 1, .int .i64 x, .int .i64 (x + y), .int .i64 (x + y + 5)] 35)
            have ht7 : TraceOk (v6.alloc (.cells #[.int .i64 0, .int .i64 1, .int .i64 0, .int .i64 z, .int .i64 (z + l + 1), .int .i64 0, .int .i64 1, .int .i64 x, .int .i64 (x + y), .int .i64 (x + y + 5)] 35)) (dT (some ⟨v6.heap.size, 0, none⟩) ⟨0, 1, 0, z, z + l + 1⟩ ⟨0, 1, x, x + y, x + y + 5⟩) := dt_ok (.inr ⟨_, _, rfl, fun i hi => by
                have hi : i < 2 := hi
                match i, hi with
                | 0, _ => exact ⟨bR.cell 0, bR.cell 1, bR.cell 2, bR.cell 3, bR.cell 4⟩
                | 1, _ => exact ⟨bR.cell 5, bR.cell 6, bR.cell 7, bR.cell 8, bR.cell 9⟩⟩) ⟨by unfold I64; dsimp only; omega, by unfold I64; dsimp only; omega, by unfold I64; dsimp only; omega, by unfold I64; dsimp only; omega, by unfold I64; dsimp only; omega⟩ ⟨by unfold I64; dsimp only; omega, by unfold I64; dsimp only; omega, by unfold I64; dsimp only; omega, by unfold I64; dsimp only; omega, by unfold I64; dsimp only; omega⟩
            have CC := dpass_any (dS ca cc (some ⟨N, 0, none⟩) (some ⟨gs, 0, none⟩) tc a1 c1 A2 k2) (dT (some ⟨v6.heap.size, 0, none⟩) ⟨0, 1, 0, z, z + l + 1⟩ ⟨0, 1, x, x + y, x + y + 5⟩) ⟨0, 1, x, x + y, x + y + 5⟩ (v6.alloc (.cells #[.int .i64 0, .int .i64 1, .int .i64 0, .int .i64 z, .int .i64 (z + l + 1), .int .i64 0, .int .i64 1, .int .i64 x, .int .i64 (x + y), .int .i64 (x + y + 5)] 35)) (HsF.out.keep (Keeps.of_below hv7)) ht7
            rw [HV.out] at CC
            change Calls Try.prog 16 #[.agg #[.int .i64 1, .slice ca 1 cc, .slice (some ⟨N, 0, none⟩) 2 2, .slice (some ⟨gs, 0, none⟩) 2 tc], .agg #[.int .i64 200, .slice none 0 0, .slice none 0 0, .slice (some ⟨v6.heap.size, 0, none⟩) 2 2], .agg #[.int .i64 0, .int .i64 1, .int .i64 x, .int .i64 (x + y), .int .i64 (x + y + 5)]] _ _ at CC
            have bW7 := bW.alloc (.cells #[.int .i64 0, .int .i64 1, .int .i64 0, .int .i64 z, .int .i64 (z + l + 1), .int .i64 0, .int .i64 1, .int .i64 x, .int .i64 (x + y), .int .i64 (x + y + 5)] 35)
            have q0' : (v6.alloc (.cells #[.int .i64 0, .int .i64 1, .int .i64 0, .int .i64 z, .int .i64 (z + l + 1), .int .i64 0, .int .i64 1, .int .i64 x, .int .i64 (x + y), .int .i64 (x + y + 5)] 35)).cell? ⟨p, 0, none⟩ = some (.int .i64 0) := bW7.cell 0
            have q1' : (v6.alloc (.cells #[.int .i64 0, .int .i64 1, .int .i64 0, .int .i64 z, .int .i64 (z + l + 1), .int .i64 0, .int .i64 1, .int .i64 x, .int .i64 (x + y), .int .i64 (x + y + 5)] 35)).cell? ⟨p, 1, none⟩ = some (.int .i64 1) := bW7.cell 1
            have q2' : (v6.alloc (.cells #[.int .i64 0, .int .i64 1, .int .i64 0, .int .i64 z, .int .i64 (z + l + 1), .int .i64 0, .int .i64 1, .int .i64 x, .int .i64 (x + y), .int .i64 (x + y + 5)] 35)).cell? ⟨p, 2, none⟩ = some (.int .i64 x) := bW7.cell 2
            have q3' : (v6.alloc (.cells #[.int .i64 0, .int .i64 1, .int .i64 0, .int .i64 z, .int .i64 (z + l + 1), .int .i64 0, .int .i64 1, .int .i64 x, .int .i64 (x + y), .int .i64 (x + y + 5)] 35)).cell? ⟨p, 3, none⟩ = some (.int .i64 (x + y)) := bW7.cell 3
            have q4' : (v6.alloc (.cells #[.int .i64 0, .int .i64 1, .int .i64 0, .int .i64 z, .int .i64 (z + l + 1), .int .i64 0, .int .i64 1, .int .i64 x, .int .i64 (x + y), .int .i64 (x + y + 5)] 35)).cell? ⟨p, 4, none⟩ = some (.int .i64 (x + y + 5)) := bW7.cell 4
            clear HV bR ht7 bW7
            go_wp2_with fail
            refine CC.mono ?_
            rintro e u ⟨rfl, hb9⟩
            clear CC
            go_wp2_with fail
            go_ret
            exact ⟨rfl, hbF.trans ((hv7.trans (hb9.mono hv7.size)).mono hbF.size)⟩
          · have g2 : decide (z < x + y) = false := by simpa using h2
            have HV : Hid (passV (dS ca cc (some ⟨N, 0, none⟩) (some ⟨gs, 0, none⟩) tc a1 c1 A2 k2) (dT (some ⟨v6.heap.size, 0, none⟩) ⟨0, 1, 0, z, z + l + 1⟩ ⟨0, 1, x, x + y, x + y + 5⟩) ⟨0, 1, x, x + y, x + y + 5⟩ = ((0 : Nat) : Int)) := hidp (ds_v ca cc (some ⟨N, 0, none⟩) (some ⟨gs, 0, none⟩) tc a1 c1 A2 k2 _ (ds_same ca cc (some ⟨N, 0, none⟩) (some ⟨gs, 0, none⟩) tc a1 c1 A2 k2 x (x + y) (x + y + 5) z (z + l + 1)))
            have bR := Bk.new v6 35 #[.int .i64 0, .int .i64 1, .int .i64 0, .int .i64 z, .int .i64 (z + l + 1), .int .i64 0, .int .i64 1, .int .i64 x, .int .i64 (x + y), .int .i64 (x + y + 5)]
            have hv7 := hv.alloc hv.size (.cells #[.int .i64 0, .int .i64 1, .int .i64 0, .int .i64 z, .int .i64 (z + l + 1), .int .i64 0, .int .i64 1, .int .i64 x, .int .i64 (x + y), .int .i64 (x + y + 5)] 35)
            have ht7 : TraceOk (v6.alloc (.cells #[.int .i64 0, .int .i64 1, .int .i64 0, .int .i64 z, .int .i64 (z + l + 1), .int .i64 0, .int .i64 1, .int .i64 x, .int .i64 (x + y), .int .i64 (x + y + 5)] 35)) (dT (some ⟨v6.heap.size, 0, none⟩) ⟨0, 1, 0, z, z + l + 1⟩ ⟨0, 1, x, x + y, x + y + 5⟩) := dt_ok (.inr ⟨_, _, rfl, fun i hi => by
                have hi : i < 2 := hi
                match i, hi with
                | 0, _ => exact ⟨bR.cell 0, bR.cell 1, bR.cell 2, bR.cell 3, bR.cell 4⟩
                | 1, _ => exact ⟨bR.cell 5, bR.cell 6, bR.cell 7, bR.cell 8, bR.cell 9⟩⟩) ⟨by unfold I64; dsimp only; omega, by unfold I64; dsimp only; omega, by unfold I64; dsimp only; omega, by unfold I64; dsimp only; omega, by unfold I64; dsimp only; omega⟩ ⟨by unfold I64; dsimp only; omega, by unfold I64; dsimp only; omega, by unfold I64; dsimp only; omega, by unfold I64; dsimp only; omega, by unfold I64; dsimp only; omega⟩
            have CC := dpass_any (dS ca cc (some ⟨N, 0, none⟩) (some ⟨gs, 0, none⟩) tc a1 c1 A2 k2) (dT (some ⟨v6.heap.size, 0, none⟩) ⟨0, 1, 0, z, z + l + 1⟩ ⟨0, 1, x, x + y, x + y + 5⟩) ⟨0, 1, x, x + y, x + y + 5⟩ (v6.alloc (.cells #[.int .i64 0, .int .i64 1, .int .i64 0, .int .i64 z, .int .i64 (z + l + 1), .int .i64 0, .int .i64 1, .int .i64 x, .int .i64 (x + y), .int .i64 (x + y + 5)] 35)) (HsF.out.keep (Keeps.of_below hv7)) ht7
            rw [HV.out] at CC
            change Calls Try.prog 16 #[.agg #[.int .i64 1, .slice ca 1 cc, .slice (some ⟨N, 0, none⟩) 2 2, .slice (some ⟨gs, 0, none⟩) 2 tc], .agg #[.int .i64 200, .slice none 0 0, .slice none 0 0, .slice (some ⟨v6.heap.size, 0, none⟩) 2 2], .agg #[.int .i64 0, .int .i64 1, .int .i64 x, .int .i64 (x + y), .int .i64 (x + y + 5)]] _ _ at CC
            have bW7 := bW.alloc (.cells #[.int .i64 0, .int .i64 1, .int .i64 0, .int .i64 z, .int .i64 (z + l + 1), .int .i64 0, .int .i64 1, .int .i64 x, .int .i64 (x + y), .int .i64 (x + y + 5)] 35)
            have q0' : (v6.alloc (.cells #[.int .i64 0, .int .i64 1, .int .i64 0, .int .i64 z, .int .i64 (z + l + 1), .int .i64 0, .int .i64 1, .int .i64 x, .int .i64 (x + y), .int .i64 (x + y + 5)] 35)).cell? ⟨p, 0, none⟩ = some (.int .i64 0) := bW7.cell 0
            have q1' : (v6.alloc (.cells #[.int .i64 0, .int .i64 1, .int .i64 0, .int .i64 z, .int .i64 (z + l + 1), .int .i64 0, .int .i64 1, .int .i64 x, .int .i64 (x + y), .int .i64 (x + y + 5)] 35)).cell? ⟨p, 1, none⟩ = some (.int .i64 1) := bW7.cell 1
            have q2' : (v6.alloc (.cells #[.int .i64 0, .int .i64 1, .int .i64 0, .int .i64 z, .int .i64 (z + l + 1), .int .i64 0, .int .i64 1, .int .i64 x, .int .i64 (x + y), .int .i64 (x + y + 5)] 35)).cell? ⟨p, 2, none⟩ = some (.int .i64 x) := bW7.cell 2
            have q3' : (v6.alloc (.cells #[.int .i64 0, .int .i64 1, .int .i64 0, .int .i64 z, .int .i64 (z + l + 1), .int .i64 0, .int .i64 1, .int .i64 x, .int .i64 (x + y), .int .i64 (x + y + 5)] 35)).cell? ⟨p, 3, none⟩ = some (.int .i64 (x + y)) := bW7.cell 3
            have q4' : (v6.alloc (.cells #[.int .i64 0, .int .i64 1, .int .i64 0, .int .i64 z, .int .i64 (z + l + 1), .int .i64 0, .int .i64 1, .int .i64 x, .int .i64 (x + y), .int .i64 (x + y + 5)] 35)).cell? ⟨p, 4, none⟩ = some (.int .i64 (x + y + 5)) := bW7.cell 4
            clear HV bR ht7 bW7
            go_wp2_with fail
            refine CC.mono ?_
            rintro e u ⟨rfl, hb9⟩
            clear CC
            go_wp2_with fail
            go_ret
            exact ⟨rfl, hbF.trans ((hv7.trans (hb9.mono hv7.size)).mono hbF.size)⟩
        · have g1 : decide (x ≤ z) = false := by simpa using h1
          have g3 : decide (z < x) = true := by simp; omega
          by_cases h2 : x < z + l + 1
          · have g2 : decide (x < z + l + 1) = true := by simpa using h2
            have HV : Hid (passV (dS ca cc (some ⟨N, 0, none⟩) (some ⟨gs, 0, none⟩) tc a1 c1 A2 k2) (dT (some ⟨v6.heap.size, 0, none⟩) ⟨0, 1, 0, z, z + l + 1⟩ ⟨0, 1, x, x + y, x + y + 5⟩) ⟨0, 1, x, x + y, x + y + 5⟩ = ((0 : Nat) : Int)) := hidp (ds_v ca cc (some ⟨N, 0, none⟩) (some ⟨gs, 0, none⟩) tc a1 c1 A2 k2 _ (ds_same ca cc (some ⟨N, 0, none⟩) (some ⟨gs, 0, none⟩) tc a1 c1 A2 k2 x (x + y) (x + y + 5) z (z + l + 1)))
            have bR := Bk.new v6 35 #[.int .i64 0, .int .i64 1, .int .i64 0, .int .i64 z, .int .i64 (z + l + 1), .int .i64 0, .int .i64 1, .int .i64 x, .int .i64 (x + y), .int .i64 (x + y + 5)]
            have hv7 := hv.alloc hv.size (.cells #[.int .i64 0, .int .i64 1, .int .i64 0, .int .i64 z, .int .i64 (z + l + 1), .int .i64 0, .int .i64 1, .int .i64 x, .int .i64 (x + y), .int .i64 (x + y + 5)] 35)
            have ht7 : TraceOk (v6.alloc (.cells #[.int .i64 0, .int .i64 1, .int .i64 0, .int .i64 z, .int .i64 (z + l + 1), .int .i64 0, .int .i64 1, .int .i64 x, .int .i64 (x + y), .int .i64 (x + y + 5)] 35)) (dT (some ⟨v6.heap.size, 0, none⟩) ⟨0, 1, 0, z, z + l + 1⟩ ⟨0, 1, x, x + y, x + y + 5⟩) := dt_ok (.inr ⟨_, _, rfl, fun i hi => by
                have hi : i < 2 := hi
                match i, hi with
                | 0, _ => exact ⟨bR.cell 0, bR.cell 1, bR.cell 2, bR.cell 3, bR.cell 4⟩
                | 1, _ => exact ⟨bR.cell 5, bR.cell 6, bR.cell 7, bR.cell 8, bR.cell 9⟩⟩) ⟨by unfold I64; dsimp only; omega, by unfold I64; dsimp only; omega, by unfold I64; dsimp only; omega, by unfold I64; dsimp only; omega, by unfold I64; dsimp only; omega⟩ ⟨by unfold I64; dsimp only; omega, by unfold I64; dsimp only; omega, by unfold I64; dsimp only; omega, by unfold I64; dsimp only; omega, by unfold I64; dsimp only; omega⟩
            have CC := dpass_any (dS ca cc (some ⟨N, 0, none⟩) (some ⟨gs, 0, none⟩) tc a1 c1 A2 k2) (dT (some ⟨v6.heap.size, 0, none⟩) ⟨0, 1, 0, z, z + l + 1⟩ ⟨0, 1, x, x + y, x + y + 5⟩) ⟨0, 1, x, x + y, x + y + 5⟩ (v6.alloc (.cells #[.int .i64 0, .int .i64 1, .int .i64 0, .int .i64 z, .int .i64 (z + l + 1), .int .i64 0, .int .i64 1, .int .i64 x, .int .i64 (x + y), .int .i64 (x + y + 5)] 35)) (HsF.out.keep (Keeps.of_below hv7)) ht7
            rw [HV.out] at CC
            change Calls Try.prog 16 #[.agg #[.int .i64 1, .slice ca 1 cc, .slice (some ⟨N, 0, none⟩) 2 2, .slice (some ⟨gs, 0, none⟩) 2 tc], .agg #[.int .i64 200, .slice none 0 0, .slice none 0 0, .slice (some ⟨v6.heap.size, 0, none⟩) 2 2], .agg #[.int .i64 0, .int .i64 1, .int .i64 x, .int .i64 (x + y), .int .i64 (x + y + 5)]] _ _ at CC
            have bW7 := bW.alloc (.cells #[.int .i64 0, .int .i64 1, .int .i64 0, .int .i64 z, .int .i64 (z + l + 1), .int .i64 0, .int .i64 1, .int .i64 x, .int .i64 (x + y), .int .i64 (x + y + 5)] 35)
            have q0' : (v6.alloc (.cells #[.int .i64 0, .int .i64 1, .int .i64 0, .int .i64 z, .int .i64 (z + l + 1), .int .i64 0, .int .i64 1, .int .i64 x, .int .i64 (x + y), .int .i64 (x + y + 5)] 35)).cell? ⟨p, 0, none⟩ = some (.int .i64 0) := bW7.cell 0
            have q1' : (v6.alloc (.cells #[.int .i64 0, .int .i64 1, .int .i64 0, .int .i64 z, .int .i64 (z + l + 1), .int .i64 0, .int .i64 1, .int .i64 x, .int .i64 (x + y), .int .i64 (x + y + 5)] 35)).cell? ⟨p, 1, none⟩ = some (.int .i64 1) := bW7.cell 1
            have q2' : (v6.alloc (.cells #[.int .i64 0, .int .i64 1, .int .i64 0, .int .i64 z, .int .i64 (z + l + 1), .int .i64 0, .int .i64 1, .int .i64 x, .int .i64 (x + y), .int .i64 (x + y + 5)] 35)).cell? ⟨p, 2, none⟩ = some (.int .i64 x) := bW7.cell 2
            have q3' : (v6.alloc (.cells #[.int .i64 0, .int .i64 1, .int .i64 0, .int .i64 z, .int .i64 (z + l + 1), .int .i64 0, .int .i64 1, .int .i64 x, .int .i64 (x + y), .int .i64 (x + y + 5)] 35)).cell? ⟨p, 3, none⟩ = some (.int .i64 (x + y)) := bW7.cell 3
            have q4' : (v6.alloc (.cells #[.int .i64 0, .int .i64 1, .int .i64 0, .int .i64 z, .int .i64 (z + l + 1), .int .i64 0, .int .i64 1, .int .i64 x, .int .i64 (x + y), .int .i64 (x + y + 5)] 35)).cell? ⟨p, 4, none⟩ = some (.int .i64 (x + y + 5)) := bW7.cell 4
            clear HV bR ht7 bW7
            go_wp2_with fail
            refine CC.mono ?_
            rintro e u ⟨rfl, hb9⟩
            clear CC
            go_wp2_with fail
            go_ret
            exact ⟨rfl, hbF.trans ((hv7.trans (hb9.mono hv7.size)).mono hbF.size)⟩
          · have g2 : decide (x < z + l + 1) = false := by simpa using h2
            have HV : Hid (passV (dS ca cc (some ⟨N, 0, none⟩) (some ⟨gs, 0, none⟩) tc a1 c1 A2 k2) (dT (some ⟨v6.heap.size, 0, none⟩) ⟨0, 1, 0, z, z + l + 1⟩ ⟨0, 1, x, x + y, x + y + 5⟩) ⟨0, 1, x, x + y, x + y + 5⟩ = ((0 : Nat) : Int)) := hidp (ds_v ca cc (some ⟨N, 0, none⟩) (some ⟨gs, 0, none⟩) tc a1 c1 A2 k2 _ (ds_same ca cc (some ⟨N, 0, none⟩) (some ⟨gs, 0, none⟩) tc a1 c1 A2 k2 x (x + y) (x + y + 5) z (z + l + 1)))
            have bR := Bk.new v6 35 #[.int .i64 0, .int .i64 1, .int .i64 0, .int .i64 z, .int .i64 (z + l + 1), .int .i64 0, .int .i64 1, .int .i64 x, .int .i64 (x + y), .int .i64 (x + y + 5)]
            have hv7 := hv.alloc hv.size (.cells #[.int .i64 0, .int .i64 1, .int .i64 0, .int .i64 z, .int .i64 (z + l + 1), .int .i64 0, .int .i64 1, .int .i64 x, .int .i64 (x + y), .int .i64 (x + y + 5)] 35)
            have ht7 : TraceOk (v6.alloc (.cells #[.int .i64 0, .int .i64 1, .int .i64 0, .int .i64 z, .int .i64 (z + l + 1), .int .i64 0, .int .i64 1, .int .i64 x, .int .i64 (x + y), .int .i64 (x + y + 5)] 35)) (dT (some ⟨v6.heap.size, 0, none⟩) ⟨0, 1, 0, z, z + l + 1⟩ ⟨0, 1, x, x + y, x + y + 5⟩) := dt_ok (.inr ⟨_, _, rfl, fun i hi => by
                have hi : i < 2 := hi
                match i, hi with
                | 0, _ => exact ⟨bR.cell 0, bR.cell 1, bR.cell 2, bR.cell 3, bR.cell 4⟩
                | 1, _ => exact ⟨bR.cell 5, bR.cell 6, bR.cell 7, bR.cell 8, bR.cell 9⟩⟩) ⟨by unfold I64; dsimp only; omega, by unfold I64; dsimp only; omega, by unfold I64; dsimp only; omega, by unfold I64; dsimp only; omega, by unfold I64; dsimp only; omega⟩ ⟨by unfold I64; dsimp only; omega, by unfold I64; dsimp only; omega, by unfold I64; dsimp only; omega, by unfold I64; dsimp only; omega, by unfold I64; dsimp only; omega⟩
            have CC := dpass_any (dS ca cc (some ⟨N, 0, none⟩) (some ⟨gs, 0, none⟩) tc a1 c1 A2 k2) (dT (some ⟨v6.heap.size, 0, none⟩) ⟨0, 1, 0, z, z + l + 1⟩ ⟨0, 1, x, x + y, x + y + 5⟩) ⟨0, 1, x, x + y, x + y + 5⟩ (v6.alloc (.cells #[.int .i64 0, .int .i64 1, .int .i64 0, .int .i64 z, .int .i64 (z + l + 1), .int .i64 0, .int .i64 1, .int .i64 x, .int .i64 (x + y), .int .i64 (x + y + 5)] 35)) (HsF.out.keep (Keeps.of_below hv7)) ht7
            rw [HV.out] at CC
            change Calls Try.prog 16 #[.agg #[.int .i64 1, .slice ca 1 cc, .slice (some ⟨N, 0, none⟩) 2 2, .slice (some ⟨gs, 0, none⟩) 2 tc], .agg #[.int .i64 200, .slice none 0 0, .slice none 0 0, .slice (some ⟨v6.heap.size, 0, none⟩) 2 2], .agg #[.int .i64 0, .int .i64 1, .int .i64 x, .int .i64 (x + y), .int .i64 (x + y + 5)]] _ _ at CC
            have bW7 := bW.alloc (.cells #[.int .i64 0, .int .i64 1, .int .i64 0, .int .i64 z, .int .i64 (z + l + 1), .int .i64 0, .int .i64 1, .int .i64 x, .int .i64 (x + y), .int .i64 (x + y + 5)] 35)
            have q0' : (v6.alloc (.cells #[.int .i64 0, .int .i64 1, .int .i64 0, .int .i64 z, .int .i64 (z + l + 1), .int .i64 0, .int .i64 1, .int .i64 x, .int .i64 (x + y), .int .i64 (x + y + 5)] 35)).cell? ⟨p, 0, none⟩ = some (.int .i64 0) := bW7.cell 0
            have q1' : (v6.alloc (.cells #[.int .i64 0, .int .i64 1, .int .i64 0, .int .i64 z, .int .i64 (z + l + 1), .int .i64 0, .int .i64 1, .int .i64 x, .int .i64 (x + y), .int .i64 (x + y + 5)] 35)).cell? ⟨p, 1, none⟩ = some (.int .i64 1) := bW7.cell 1
            have q2' : (v6.alloc (.cells #[.int .i64 0, .int .i64 1, .int .i64 0, .int .i64 z, .int .i64 (z + l + 1), .int .i64 0, .int .i64 1, .int .i64 x, .int .i64 (x + y), .int .i64 (x + y + 5)] 35)).cell? ⟨p, 2, none⟩ = some (.int .i64 x) := bW7.cell 2
            have q3' : (v6.alloc (.cells #[.int .i64 0, .int .i64 1, .int .i64 0, .int .i64 z, .int .i64 (z + l + 1), .int .i64 0, .int .i64 1, .int .i64 x, .int .i64 (x + y), .int .i64 (x + y + 5)] 35)).cell? ⟨p, 3, none⟩ = some (.int .i64 (x + y)) := bW7.cell 3
            have q4' : (v6.alloc (.cells #[.int .i64 0, .int .i64 1, .int .i64 0, .int .i64 z, .int .i64 (z + l + 1), .int .i64 0, .int .i64 1, .int .i64 x, .int .i64 (x + y), .int .i64 (x + y + 5)] 35)).cell? ⟨p, 4, none⟩ = some (.int .i64 (x + y + 5)) := bW7.cell 4
            clear HV bR ht7 bW7
            go_wp2_with fail
            refine CC.mono ?_
            rintro e u ⟨rfl, hb9⟩
            clear CC
            go_wp2_with fail
            go_ret
            exact ⟨rfl, hbF.trans ((hv7.trans (hb9.mono hv7.size)).mono hbF.size)⟩
  · go_simp
    have s0 := And.intro ((bD.alloc (.cells (ptc [⟨3, 9, 1⟩]).toArray 51)).cell 3) (cells11 (OD.turned ((Turned.refl [] u).alloc (.cells (ptc [⟨3, 9, 1⟩]).toArray 51)) (by simp)))
    refine hK.out _ _ ?_ (fun hHeld => ?_)
    · exact s0
    clear hK K
    try simp only [Act.put, List.setIfInBounds_toArray, List.set_cons_zero, List.set_cons_succ, List.getElem_toArray, List.getElem_cons_zero, List.getElem_cons_succ]
    have TL := (Turned.refl [] u).alloc (.cells (ptc [⟨3, 9, 1⟩]).toArray 51)
    have PL := PD.turned TL (by simp)
    have S3 := hidp (lies_parts PL.at_)
    have Z3 : Hid (v1.heap.size ≤ (u.alloc (.cells (ptc [⟨3, 9, 1⟩]).toArray 51)).heap.size) := hidp (by rw [← Zu.out]; exact TL.size)
    have bL := bD.turned TL (by simp)
    have OL := OD.turned TL (by simp)
    refine wpAnyC_ready (rs := [7]) (by kernel_rfl) (by simp) ?_
    refine AllReadyC.cons rfl (fun K hK => ?_) AllReadyC.nil
    refine step_app2 _ rfl (.const (.slice none 0 0)) (.tmp 31) 47 rfl v1.heap.size 51 k0 _ 3 24 Try.underlying47 hk0 hl0 hl1 hl2 rfl (by decide) none 0 0 [] rfl (World.ownsRow_nil _ _ _ _) _ a2 2 c2 (ptc [⟨1, 1, 0⟩, ⟨3, 9, 0⟩]) rfl Q3.out L3.out S3.out O3.out (by decide) (by decide) Z3.out ?_
    intro A1 k1 u2 happ
    try simp only [Nat.zero_add, List.nil_append] at happ
    have TA := happ.turned
    have b3 := bL.turned TA (by simp [fp])
    have O3' := OL.turned TA (by simp [fp])
    have s3 := And.intro (b3.cell 3) (cells11 O3')
    refine hK.out _ _ ?_ (fun hHeld => ?_)
    · exact s3
    clear hK K
    try simp only [Act.put, List.setIfInBounds_toArray, List.set_cons_zero, List.set_cons_succ, List.getElem_toArray, List.getElem_cons_zero, List.getElem_cons_succ]
    have ow3 : OwnP v1.heap.size u2 A1 2 k1 [⟨1, 1, 0⟩, ⟨3, 9, 0⟩] := ⟨happ.own, rfl, happ.cap, happ.nil⟩
    have hf1 : ∀ k ∈ fp A1, v1.heap.size ≤ k := fun k hk => (own_fp ow3.own k hk).1
    have S4 := hidp ((Lies.newCells' u (ptc [⟨3, 9, 1⟩]) 51).turned TA (fun k hk => by simp [fp]))
    have TT3 := (TD.trans TL (by simp)).trans TA (fun i hi => by simp [fp] at hi)
    have Z4 : Hid (v1.heap.size ≤ u2.heap.size) := hidp TT3.size
    refine wpAnyC_ready (rs := [10]) (by kernel_rfl) (by simp) ?_
    refine AllReadyC.cons rfl (fun K hK => ?_) AllReadyC.nil
    refine step_app2 _ rfl (.tmp 32) (.tmp 34) 47 rfl v1.heap.size 51 k0 _ 3 24 Try.underlying47 hk0 hl0 hl1 hl2 rfl (by decide) A1 2 k1 _ rfl ow3.own _ _ 1 1 (ptc [⟨3, 9, 1⟩]) rfl (by simp) L4.out S4.out O4.out (by decide) (by decide) Z4.out ?_
    intro A2 k2 u4 happ2
    have b4 := b3.turned happ2.turned (fun h => by have := hf1 _ h; omega)
    have O4' := O3'.turned happ2.turned (fun k hk hm => by have := hf1 _ hm; simp [fp] at hk; omega)
    have s4 := And.intro (b4.cell 3) (cells11 O4')
    have ow4 := ow3.app (ps := [⟨3, 9, 1⟩]) happ2 rfl
    have TT := TT3.trans happ2.turned (fun i hi => .inr (hf1 i hi))
    have fz := own_frozen O4'.own 11
    have cz := cells11 O4'
    dsimp only at cz
    refine hK.out _ _ ?_ (fun hHeld => ?_)
    · exact s4
    clear hK K
    try simp only [Act.put, List.setIfInBounds_toArray, List.set_cons_zero, List.set_cons_succ, List.getElem_toArray, List.getElem_cons_zero, List.getElem_cons_succ]
    refine wpAnyC_ready (rs := [11]) (by kernel_rfl) (by simp) ?_
    refine AllReadyC.cons rfl (fun K hK => ?_) AllReadyC.nil
    go_simp
    refine hK.out _ _ ?_ (fun hHeld => ?_)
    · exact s4
    clear hK K
    try simp only [Act.put, List.setIfInBounds_toArray, List.set_cons_zero, List.set_cons_succ, List.getElem_toArray, List.getElem_cons_zero, List.getElem_cons_succ]
    refine wpAnyC_take (i := 12) (v := ?_) rfl rfl (by kernel_rfl) (by decide) (by kernel_rfl) (by kernel_rfl) (by kernel_rfl) (fun _ _ _ h => h) (Or.inl ⟨by rfl, ?_⟩) (by assumption) ?_
    rotate_left 1
    · ((intro w hSw; (try dsimp only at hSw); go_simp); (try with_reducible rfl))
    simp only [Act.put, List.setIfInBounds_toArray, List.set_cons_zero, List.set_cons_succ, List.getElem_toArray, List.getElem_cons_zero, List.getElem_cons_succ]
    refine wpAnyC_ready (rs := [13]) (by kernel_rfl) (by simp) ?_
    refine AllReadyC.last rfl (fun K hK => ?_)
    go_simp
    refine hK.out _ _ ?_
    clear hK K
    refine wpAnyC_done (by kernel_rfl) ?_ _
    have T9 := (Turned.refl [gs] u4).setCell (p := ⟨gs, 11, none⟩) (.inl (by simp)) (.slice A2 3 k2)
    have OF := ownT_put O4' (i := 1) (by simp) (j := 5) (by decide) ⟨⟨#[98]⟩, 200, 200, 2, 0, A2, k2, [⟨1, 1, 0⟩, ⟨3, 9, 0⟩, ⟨3, 9, 1⟩]⟩ (.slice A2 3 k2) rfl
    have owF := ow4.turned T9 (fun k hk hm => by have := (own_fp ow4.own k hk).1; simp at hm; omega)
    have bF := b4.turned T9 (by simp; omega)
    have ICF := (IC.turned TT (by simp)).turned T9 (fun k hk => by have := (FC k hk).1; simpa using this)
    have IHF := (IH.turned TT (by simp)).turned T9 (fun k hk => by simp [fp] at hk; simp; omega)
    have P1F := (P1.turned TT (by simp)).turned T9 (fun k hk => by have := (F1 k hk).1; simpa using this)
    have hgw : w.heap.size ≤ gs := Nat.le_trans hwu gs1
    have hbF := (hb1.trans (TT.below hb1.size (by simp))).trans (T9.below (Nat.le_trans hb1.size TT.size) (fun k hk => by simp at hk; rw [hk]; exact hgw))
    have hsF : SetOk _ ⟨1, ca, cc, [1], some ⟨N, 0, none⟩, 2, [0, 0], some ⟨gs, 0, none⟩, tc, [⟨⟨#[97]⟩, 100, 100, 1, 0, a1, c1, [⟨1, 1, 0⟩, ⟨3, 9, 0⟩]⟩, ⟨⟨#[98]⟩, 200, 200, 2, 0, A2, k2, [⟨1, 1, 0⟩, ⟨3, 9, 0⟩, ⟨3, 9, 1⟩]⟩]⟩ := ⟨by show I64 1; decide, ICF, IHF, ⟨OF.sl, OF.tasks, fun t ht => by
      have ht : t ∈ [⟨⟨#[97]⟩, 100, 100, 1, 0, a1, c1, [⟨1, 1, 0⟩, ⟨3, 9, 0⟩]⟩, (⟨⟨#[98]⟩, 200, 200, 2, 0, A2, k2, [⟨1, 1, 0⟩, ⟨3, 9, 0⟩, ⟨3, 9, 1⟩]⟩ : TaskR)] := ht
      simp at ht
      rcases ht with rfl | rfl
      · exact P1F
      · exact ⟨by show 1 ≤ maxLen; decide, by show I64 200; decide, by show I64 200; decide, by show I64 2; decide, by show I64 0; decide, ⟨owF.nil, owF.cap⟩, owF.parts, by
          show ∀ p ∈ [_, _, _], PartM.wf p
          intro p hp
          simp at hp
          rcases hp with rfl | rfl | rfl <;> exact ⟨by decide, by decide, by decide⟩⟩⟩⟩
    have cF := bF.cell 0
    obtain ⟨v2, hv2⟩ : ∃ v, u4.setCell ⟨gs, 11, none⟩ (.slice A2 3 k2) = v := ⟨_, rfl⟩
    rw [hv2] at hsF bF hbF ⊢
    clear hv2 T9 OF owF ICF IHF P1F TT O4' b4 ow4 cz fz s4 cF
    have HsF := hidp (show SetOk v2 (dS ca cc (some ⟨N, 0, none⟩) (some ⟨gs, 0, none⟩) tc a1 c1 A2 k2) from hsF)
    have BvF : B < v2.heap.size := bF.lt
    clear hsF IC IH P1 P2 O0 hb1 b1 bN
    go_upto_region 9 with fail
    have bW := Bk.new v2 35 #[.int .i64 0, .int .i64 1, .int .i64 x, .int .i64 (x + y), .int .i64 (x + y + 5)]
    have bB := bF.alloc (.cells #[.int .i64 0, .int .i64 1, .int .i64 x, .int .i64 (x + y), .int .i64 (x + y + 5)] 35)
    have hv := (Below.refl v2.heap.size v2).alloc (Nat.le_refl _) (.cells #[.int .i64 0, .int .i64 1, .int .i64 x, .int .i64 (x + y), .int .i64 (x + y + 5)] 35)
    obtain ⟨v3, hv3⟩ : ∃ v, v2.alloc (.cells #[.int .i64 0, .int .i64 1, .int .i64 x, .int .i64 (x + y), .int .i64 (x + y + 5)] 35) = v := ⟨_, rfl⟩
    rw [hv3] at bW bB hv ⊢
    obtain ⟨p, hp⟩ : ∃ p, v2.heap.size = p := ⟨_, rfl⟩
    rw [hp] at bW BvF ⊢
    have HP := hidp hp
    clear hv3 hp bF
    go_upto_region 10 with fail
    have bX := Bk.new v3 35 #[.int .i64 1, .int .i64 1, .int .i64 0, .int .i64 z, .int .i64 0]
    have pq := bW.lt
    replace bW := bW.alloc (.cells #[.int .i64 1, .int .i64 1, .int .i64 0, .int .i64 z, .int .i64 0] 35)
    replace bB := bB.alloc (.cells #[.int .i64 1, .int .i64 1, .int .i64 0, .int .i64 z, .int .i64 0] 35)
    replace hv := hv.alloc hv.size (.cells #[.int .i64 1, .int .i64 1, .int .i64 0, .int .i64 z, .int .i64 0] 35)
    obtain ⟨v4, hv4⟩ : ∃ v, v3.alloc (.cells #[.int .i64 1, .int .i64 1, .int .i64 0, .int .i64 z, .int .i64 0] 35) = v := ⟨_, rfl⟩
    rw [hv4] at bW bB bX hv ⊢
    obtain ⟨q, hq⟩ : ∃ q, v3.heap.size = q := ⟨_, rfl⟩
    rw [hq] at bX pq ⊢
    clear hv4 hq
    have c3 := bX.cell 3
    have c4 := bX.cell 4
    have f4 := bX.frozen 4
    go_upto_region 11 with fail
    replace bX := bX.put 4 (.int .i64 (z + l + 1))
    replace bW := bW.far (p := ⟨q, 4, none⟩) (by simp; omega) (.int .i64 (z + l + 1))
    replace bB := bB.far (p := ⟨q, 4, none⟩) (by simp; omega) (.int .i64 (z + l + 1))
    replace hv := hv.setCell (show v2.heap.size ≤ (⟨q, 4, none⟩ : Addr).block by rw [HP.out]; simp; omega) (.int .i64 (z + l + 1))
    obtain ⟨v5, hv5⟩ : ∃ v, v4.setCell ⟨q, 4, none⟩ (.int .i64 (z + l + 1)) = v := ⟨_, rfl⟩
    rw [hv5] at bW bB bX hv ⊢
    clear hv5 c3 c4 f4
    cases a4 with
    | false =>
      cases a5 with
      | false =>
        go_upto_region 15 with fail
        obtain ⟨v6, hv6⟩ : ∃ v, v5 = v := ⟨_, rfl⟩
        rw [hv6] at bW bB bX hv ⊢
        clear hv6
        have s0 := bB.cell 0
        have s1 := bB.cell 1
        have s2 := bB.cell 2
        have s3 := bB.cell 3
        have y0' : v6.cell? ⟨p, 0, none⟩ = some (.int .i64 0) := bW.cell 0
        have y1' : v6.cell? ⟨p, 1, none⟩ = some (.int .i64 1) := bW.cell 1
        have y2' : v6.cell? ⟨p, 2, none⟩ = some (.int .i64 x) := bW.cell 2
        have y3' : v6.cell? ⟨p, 3, none⟩ = some (.int .i64 (x + y)) := bW.cell 3
        have y4' : v6.cell? ⟨p, 4, none⟩ = some (.int .i64 (x + y + 5)) := bW.cell 4
        have e0 := bX.cell 0
        have e1 := bX.cell 1
        have e2 := bX.cell 2
        have e3 := bX.cell 3
        have e4 := bX.cell 4
        by_cases h1 : x ≤ z
        · have g1 : decide (x ≤ z) = true := by simpa using h1
          have g3 : decide (z < x) = false := by simp; omega
          by_cases h2 : z < x + y
          · have g2 : decide (z < x + y) = true := by simpa using h2
            have HV : Hid (passV (dS ca cc (some ⟨N, 0, none⟩) (some ⟨gs, 0, none⟩) tc a1 c1 A2 k2) (dT (some ⟨v6.heap.size, 0, none⟩) ⟨1, 1, 0, z, z + l + 1⟩ ⟨0, 1, x, x + y, x + y + 5⟩) ⟨0, 1, x, x + y, x + y + 5⟩ = ((1 : Nat) : Int)) := hidp (ds_v ca cc (some ⟨N, 0, none⟩) (some ⟨gs, 0, none⟩) tc a1 c1 A2 k2 _ (by rw [ds_pass]; first | (rw [if_pos (by omega)]) | (rw [if_neg (by omega)])))
            have bR := Bk.new v6 35 #[.int .i64 1, .int .i64 1, .int .i64 0, .int .i64 z, .int .i64 (z + l + 1), .int .i64 0, .int .i64 1, .int .i64 x, .int .i64 (x + y), .int .i64 (x + y + 5)]
            have hv7 := hv.alloc hv.size (.cells #[.int .i64 1, .int .i64 1, .int .i64 0, .int .i64 z, .int .i64 (z + l + 1), .int .i64 0, .int .i64 1, .int .i64 x, .int .i64 (x + y), .int .i64 (x + y + 5)] 35)
            have ht7 : TraceOk (v6.alloc (.cells #[.int .i64 1, .int .i64 1, .int .i64 0, .int .i64 z, .int .i64 (z + l + 1), .int .i64 0, .int .i64 1, .int .i64 x, .int .i64 (x + y), .int .i64 (x + y + 5)] 35)) (dT (some ⟨v6.heap.size, 0, none⟩) ⟨1, 1, 0, z, z + l + 1⟩ ⟨0, 1, x, x + y, x + y + 5⟩) := dt_ok (.inr ⟨_, _, rfl, fun i hi => by
                have hi : i < 2 := hi
                match i, hi with
                | 0, _ => exact ⟨bR.cell 0, bR.cell 1, bR.cell 2, bR.cell 3, bR.cell 4⟩
                | 1, _ => exact ⟨bR.cell 5, bR.cell 6, bR.cell 7, bR.cell 8, bR.cell 9⟩⟩) ⟨by unfold I64; dsimp only; omega, by unfold I64; dsimp only; omega, by unfold I64; dsimp only; omega, by unfold I64; dsimp only; omega, by unfold I64; dsimp only; omega⟩ ⟨by unfold I64; dsimp only; omega, by unfold I64; dsimp only; omega, by unfold I64; dsimp only; omega, by unfold I64; dsimp only; omega, by unfold I64; dsimp only; omega⟩
            have CC := dpass_any (dS ca cc (some ⟨N, 0, none⟩) (some ⟨gs, 0, none⟩) tc a1 c1 A2 k2) (dT (some ⟨v6.heap.size, 0, none⟩) ⟨1, 1, 0, z, z + l + 1⟩ ⟨0, 1, x, x + y, x + y + 5⟩) ⟨0, 1, x, x + y, x + y + 5⟩ (v6.alloc (.cells #[.int .i64 1, .int .i64 1, .int .i64 0, .int .i64 z, .int .i64 (z + l + 1), .int .i64 0, .int .i64 1, .int .i64 x, .int .i64 (x + y), .int .i64 (x + y + 5)] 35)) (HsF.out.keep (Keeps.of_below hv7)) ht7
            rw [HV.out] at CC
            change Calls Try.prog 16 #[.agg #[.int .i64 1, .slice ca 1 cc, .slice (some ⟨N, 0, none⟩) 2 2, .slice (some ⟨gs, 0, none⟩) 2 tc], .agg #[.int .i64 200, .slice none 0 0, .slice none 0 0, .slice (some ⟨v6.heap.size, 0, none⟩) 2 2], .agg #[.int .i64 0, .int .i64 1, .int .i64 x, .int .i64 (x + y), .int .i64 (x + y + 5)]] _ _ at CC
            have bW7 := bW.alloc (.cells #[.int .i64 1, .int .i64 1, .int .i64 0, .int .i64 z, .int .i64 (z + l + 1), .int .i64 0, .int .i64 1, .int .i64 x, .int .i64 (x + y), .int .i64 (x + y + 5)] 35)
            have q0' : (v6.alloc (.cells #[.int .i64 1, .int .i64 1, .int .i64 0, .int .i64 z, .int .i64 (z + l + 1), .int .i64 0, .int .i64 1, .int .i64 x, .int .i64 (x + y), .int .i64 (x + y + 5)] 35)).cell? ⟨p, 0, none⟩ = some (.int .i64 0) := bW7.cell 0
            have q1' : (v6.alloc (.cells #[.int .i64 1, .int .i64 1, .int .i64 0, .int .i64 z, .int .i64 (z + l + 1), .int .i64 0, .int .i64 1, .int .i64 x, .int .i64 (x + y), .int .i64 (x + y + 5)] 35)).cell? ⟨p, 1, none⟩ = some (.int .i64 1) := bW7.cell 1
            have q2' : (v6.alloc (.cells #[.int .i64 1, .int .i64 1, .int .i64 0, .int .i64 z, .int .i64 (z + l + 1), .int .i64 0, .int .i64 1, .int .i64 x, .int .i64 (x + y), .int .i64 (x + y + 5)] 35)).cell? ⟨p, 2, none⟩ = some (.int .i64 x) := bW7.cell 2
            have q3' : (v6.alloc (.cells #[.int .i64 1, .int .i64 1, .int .i64 0, .int .i64 z, .int .i64 (z + l + 1), .int .i64 0, .int .i64 1, .int .i64 x, .int .i64 (x + y), .int .i64 (x + y + 5)] 35)).cell? ⟨p, 3, none⟩ = some (.int .i64 (x + y)) := bW7.cell 3
            have q4' : (v6.alloc (.cells #[.int .i64 1, .int .i64 1, .int .i64 0, .int .i64 z, .int .i64 (z + l + 1), .int .i64 0, .int .i64 1, .int .i64 x, .int .i64 (x + y), .int .i64 (x + y + 5)] 35)).cell? ⟨p, 4, none⟩ = some (.int .i64 (x + y + 5)) := bW7.cell 4
            clear HV bR ht7 bW7
            go_wp2_with fail
            refine CC.mono ?_
            rintro e u ⟨rfl, hb9⟩
            clear CC
            go_wp2_with fail
            go_ret
            exact ⟨rfl, hbF.trans ((hv7.trans (hb9.mono hv7.size)).mono hbF.size)⟩
          · have g2 : decide (z < x + y) = false := by simpa using h2
            have HV : Hid (passV (dS ca cc (some ⟨N, 0, none⟩) (some ⟨gs, 0, none⟩) tc a1 c1 A2 k2) (dT (some ⟨v6.heap.size, 0, none⟩) ⟨1, 1, 0, z, z + l + 1⟩ ⟨0, 1, x, x + y, x + y + 5⟩) ⟨0, 1, x, x + y, x + y + 5⟩ = ((0 : Nat) : Int)) := hidp (ds_v ca cc (some ⟨N, 0, none⟩) (some ⟨gs, 0, none⟩) tc a1 c1 A2 k2 _ (by rw [ds_pass]; first | (rw [if_pos (by omega)]) | (rw [if_neg (by omega)])))
            have bR := Bk.new v6 35 #[.int .i64 1, .int .i64 1, .int .i64 0, .int .i64 z, .int .i64 (z + l + 1), .int .i64 0, .int .i64 1, .int .i64 x, .int .i64 (x + y), .int .i64 (x + y + 5)]
            have hv7 := hv.alloc hv.size (.cells #[.int .i64 1, .int .i64 1, .int .i64 0, .int .i64 z, .int .i64 (z + l + 1), .int .i64 0, .int .i64 1, .int .i64 x, .int .i64 (x + y), .int .i64 (x + y + 5)] 35)
            have ht7 : TraceOk (v6.alloc (.cells #[.int .i64 1, .int .i64 1, .int .i64 0, .int .i64 z, .int .i64 (z + l + 1), .int .i64 0, .int .i64 1, .int .i64 x, .int .i64 (x + y), .int .i64 (x + y + 5)] 35)) (dT (some ⟨v6.heap.size, 0, none⟩) ⟨1, 1, 0, z, z + l + 1⟩ ⟨0, 1, x, x + y, x + y + 5⟩) := dt_ok (.inr ⟨_, _, rfl, fun i hi => by
                have hi : i < 2 := hi
                match i, hi with
                | 0, _ => exact ⟨bR.cell 0, bR.cell 1, bR.cell 2, bR.cell 3, bR.cell 4⟩
                | 1, _ => exact ⟨bR.cell 5, bR.cell 6, bR.cell 7, bR.cell 8, bR.cell 9⟩⟩) ⟨by unfold I64; dsimp only; omega, by unfold I64; dsimp only; omega, by unfold I64; dsimp only; omega, by unfold I64; dsimp only; omega, by unfold I64; dsimp only; omega⟩ ⟨by unfold I64; dsimp only; omega, by unfold I64; dsimp only; omega, by unfold I64; dsimp only; omega, by unfold I64; dsimp only; omega, by unfold I64; dsimp only; omega⟩
            have CC := dpass_any (dS ca cc (some ⟨N, 0, none⟩) (some ⟨gs, 0, none⟩) tc a1 c1 A2 k2) (dT (some ⟨v6.heap.size, 0, none⟩) ⟨1, 1, 0, z, z + l + 1⟩ ⟨0, 1, x, x + y, x + y + 5⟩) ⟨0, 1, x, x + y, x + y + 5⟩ (v6.alloc (.cells #[.int .i64 1, .int .i64 1, .int .i64 0, .int .i64 z, .int .i64 (z + l + 1), .int .i64 0, .int .i64 1, .int .i64 x, .int .i64 (x + y), .int .i64 (x + y + 5)] 35)) (HsF.out.keep (Keeps.of_below hv7)) ht7
            rw [HV.out] at CC
            change Calls Try.prog 16 #[.agg #[.int .i64 1, .slice ca 1 cc, .slice (some ⟨N, 0, none⟩) 2 2, .slice (some ⟨gs, 0, none⟩) 2 tc], .agg #[.int .i64 200, .slice none 0 0, .slice none 0 0, .slice (some ⟨v6.heap.size, 0, none⟩) 2 2], .agg #[.int .i64 0, .int .i64 1, .int .i64 x, .int .i64 (x + y), .int .i64 (x + y + 5)]] _ _ at CC
            have bW7 := bW.alloc (.cells #[.int .i64 1, .int .i64 1, .int .i64 0, .int .i64 z, .int .i64 (z + l + 1), .int .i64 0, .int .i64 1, .int .i64 x, .int .i64 (x + y), .int .i64 (x + y + 5)] 35)
            have q0' : (v6.alloc (.cells #[.int .i64 1, .int .i64 1, .int .i64 0, .int .i64 z, .int .i64 (z + l + 1), .int .i64 0, .int .i64 1, .int .i64 x, .int .i64 (x + y), .int .i64 (x + y + 5)] 35)).cell? ⟨p, 0, none⟩ = some (.int .i64 0) := bW7.cell 0
            have q1' : (v6.alloc (.cells #[.int .i64 1, .int .i64 1, .int .i64 0, .int .i64 z, .int .i64 (z + l + 1), .int .i64 0, .int .i64 1, .int .i64 x, .int .i64 (x + y), .int .i64 (x + y + 5)] 35)).cell? ⟨p, 1, none⟩ = some (.int .i64 1) := bW7.cell 1
            have q2' : (v6.alloc (.cells #[.int .i64 1, .int .i64 1, .int .i64 0, .int .i64 z, .int .i64 (z + l + 1), .int .i64 0, .int .i64 1, .int .i64 x, .int .i64 (x + y), .int .i64 (x + y + 5)] 35)).cell? ⟨p, 2, none⟩ = some (.int .i64 x) := bW7.cell 2
            have q3' : (v6.alloc (.cells #[.int .i64 1, .int .i64 1, .int .i64 0, .int .i64 z, .int .i64 (z + l + 1), .int .i64 0, .int .i64 1, .int .i64 x, .int .i64 (x + y), .int .i64 (x + y + 5)] 35)).cell? ⟨p, 3, none⟩ = some (.int .i64 (x + y)) := bW7.cell 3
            have q4' : (v6.alloc (.cells #[.int .i64 1, .int .i64 1, .int .i64 0, .int .i64 z, .int .i64 (z + l + 1), .int .i64 0, .int .i64 1, .int .i64 x, .int .i64 (x + y), .int .i64 (x + y + 5)] 35)).cell? ⟨p, 4, none⟩ = some (.int .i64 (x + y + 5)) := bW7.cell 4
            clear HV bR ht7 bW7
            go_wp2_with fail
            refine CC.mono ?_
            rintro e u ⟨rfl, hb9⟩
            clear CC
            go_wp2_with fail
            go_ret
            exact ⟨rfl, hbF.trans ((hv7.trans (hb9.mono hv7.size)).mono hbF.size)⟩
        · have g1 : decide (x ≤ z) = false := by simpa using h1
          have g3 : decide (z < x) = true := by simp; omega
          by_cases h2 : x < z + l + 1
          · have g2 : decide (x < z + l + 1) = true := by simpa using h2
            have HV : Hid (passV (dS ca cc (some ⟨N, 0, none⟩) (some ⟨gs, 0, none⟩) tc a1 c1 A2 k2) (dT (some ⟨v6.heap.size, 0, none⟩) ⟨1, 1, 0, z, z + l + 1⟩ ⟨0, 1, x, x + y, x + y + 5⟩) ⟨0, 1, x, x + y, x + y + 5⟩ = ((1 : Nat) : Int)) := hidp (ds_v ca cc (some ⟨N, 0, none⟩) (some ⟨gs, 0, none⟩) tc a1 c1 A2 k2 _ (by rw [ds_pass]; first | (rw [if_pos (by omega)]) | (rw [if_neg (by omega)])))
            have bR := Bk.new v6 35 #[.int .i64 1, .int .i64 1, .int .i64 0, .int .i64 z, .int .i64 (z + l + 1), .int .i64 0, .int .i64 1, .int .i64 x, .int .i64 (x + y), .int .i64 (x + y + 5)]
            have hv7 := hv.alloc hv.size (.cells #[.int .i64 1, .int .i64 1, .int .i64 0, .int .i64 z, .int .i64 (z + l + 1), .int .i64 0, .int .i64 1, .int .i64 x, .int .i64 (x + y), .int .i64 (x + y + 5)] 35)
            have ht7 : TraceOk (v6.alloc (.cells #[.int .i64 1, .int .i64 1, .int .i64 0, .int .i64 z, .int .i64 (z + l + 1), .int .i64 0, .int .i64 1, .int .i64 x, .int .i64 (x + y), .int .i64 (x + y + 5)] 35)) (dT (some ⟨v6.heap.size, 0, none⟩) ⟨1, 1, 0, z, z + l + 1⟩ ⟨0, 1, x, x + y, x + y + 5⟩) := dt_ok (.inr ⟨_, _, rfl, fun i hi => by
                have hi : i < 2 := hi
                match i, hi with
                | 0, _ => exact ⟨bR.cell 0, bR.cell 1, bR.cell 2, bR.cell 3, bR.cell 4⟩
                | 1, _ => exact ⟨bR.cell 5, bR.cell 6, bR.cell 7, bR.cell 8, bR.cell 9⟩⟩) ⟨by unfold I64; dsimp only; omega, by unfold I64; dsimp only; omega, by unfold I64; dsimp only; omega, by unfold I64; dsimp only; omega, by unfold I64; dsimp only; omega⟩ ⟨by unfold I64; dsimp only; omega, by unfold I64; dsimp only; omega, by unfold I64; dsimp only; omega, by unfold I64; dsimp only; omega, by unfold I64; dsimp only; omega⟩
            have CC := dpass_any (dS ca cc (some ⟨N, 0, none⟩) (some ⟨gs, 0, none⟩) tc a1 c1 A2 k2) (dT (some ⟨v6.heap.size, 0, none⟩) ⟨1, 1, 0, z, z + l + 1⟩ ⟨0, 1, x, x + y, x + y + 5⟩) ⟨0, 1, x, x + y, x + y + 5⟩ (v6.alloc (.cells #[.int .i64 1, .int .i64 1, .int .i64 0, .int .i64 z, .int .i64 (z + l + 1), .int .i64 0, .int .i64 1, .int .i64 x, .int .i64 (x + y), .int .i64 (x + y + 5)] 35)) (HsF.out.keep (Keeps.of_below hv7)) ht7
            rw [HV.out] at CC
            change Calls Try.prog 16 #[.agg #[.int .i64 1, .slice ca 1 cc, .slice (some ⟨N, 0, none⟩) 2 2, .slice (some ⟨gs, 0, none⟩) 2 tc], .agg #[.int .i64 200, .slice none 0 0, .slice none 0 0, .slice (some ⟨v6.heap.size, 0, none⟩) 2 2], .agg #[.int .i64 0, .int .i64 1, .int .i64 x, .int .i64 (x + y), .int .i64 (x + y + 5)]] _ _ at CC
            have bW7 := bW.alloc (.cells #[.int .i64 1, .int .i64 1, .int .i64 0, .int .i64 z, .int .i64 (z + l + 1), .int .i64 0, .int .i64 1, .int .i64 x, .int .i64 (x + y), .int .i64 (x + y + 5)] 35)
            have q0' : (v6.alloc (.cells #[.int .i64 1, .int .i64 1, .int .i64 0, .int .i64 z, .int .i64 (z + l + 1), .int .i64 0, .int .i64 1, .int .i64 x, .int .i64 (x + y), .int .i64 (x + y + 5)] 35)).cell? ⟨p, 0, none⟩ = some (.int .i64 0) := bW7.cell 0
            have q1' : (v6.alloc (.cells #[.int .i64 1, .int .i64 1, .int .i64 0, .int .i64 z, .int .i64 (z + l + 1), .int .i64 0, .int .i64 1, .int .i64 x, .int .i64 (x + y), .int .i64 (x + y + 5)] 35)).cell? ⟨p, 1, none⟩ = some (.int .i64 1) := bW7.cell 1
            have q2' : (v6.alloc (.cells #[.int .i64 1, .int .i64 1, .int .i64 0, .int .i64 z, .int .i64 (z + l + 1), .int .i64 0, .int .i64 1, .int .i64 x, .int .i64 (x + y), .int .i64 (x + y + 5)] 35)).cell? ⟨p, 2, none⟩ = some (.int .i64 x) := bW7.cell 2
            have q3' : (v6.alloc (.cells #[.int .i64 1, .int .i64 1, .int .i64 0, .int .i64 z, .int .i64 (z + l + 1), .int .i64 0, .int .i64 1, .int .i64 x, .int .i64 (x + y), .int .i64 (x + y + 5)] 35)).cell? ⟨p, 3, none⟩ = some (.int .i64 (x + y)) := bW7.cell 3
            have q4' : (v6.alloc (.cells #[.int .i64 1, .int .i64 1, .int .i64 0, .int .i64 z, .int .i64 (z + l + 1), .int .i64 0, .int .i64 1, .int .i64 x, .int .i64 (x + y), .int .i64 (x + y + 5)] 35)).cell? ⟨p, 4, none⟩ = some (.int .i64 (x + y + 5)) := bW7.cell 4
            clear HV bR ht7 bW7
            go_wp2_with fail
            refine CC.mono ?_
            rintro e u ⟨rfl, hb9⟩
            clear CC
            go_wp2_with fail
            go_ret
            exact ⟨rfl, hbF.trans ((hv7.trans (hb9.mono hv7.size)).mono hbF.size)⟩
          · have g2 : decide (x < z + l + 1) = false := by simpa using h2
            have HV : Hid (passV (dS ca cc (some ⟨N, 0, none⟩) (some ⟨gs, 0, none⟩) tc a1 c1 A2 k2) (dT (some ⟨v6.heap.size, 0, none⟩) ⟨1, 1, 0, z, z + l + 1⟩ ⟨0, 1, x, x + y, x + y + 5⟩) ⟨0, 1, x, x + y, x + y + 5⟩ = ((0 : Nat) : Int)) := hidp (ds_v ca cc (some ⟨N, 0, none⟩) (some ⟨gs, 0, none⟩) tc a1 c1 A2 k2 _ (by rw [ds_pass]; first | (rw [if_pos (by omega)]) | (rw [if_neg (by omega)])))
            have bR := Bk.new v6 35 #[.int .i64 1, .int .i64 1, .int .i64 0, .int .i64 z, .int .i64 (z + l + 1), .int .i64 0, .int .i64 1, .int .i64 x, .int .i64 (x + y), .int .i64 (x + y + 5)]
            have hv7 := hv.alloc hv.size (.cells #[.int .i64 1, .int .i64 1, .int .i64 0, .int .i64 z, .int .i64 (z + l + 1), .int .i64 0, .int .i64 1, .int .i64 x, .int .i64 (x + y), .int .i64 (x + y + 5)] 35)
            have ht7 : TraceOk (v6.alloc (.cells #[.int .i64 1, .int .i64 1, .int .i64 0, .int .i64 z, .int .i64 (z + l + 1), .int .i64 0, .int .i64 1, .int .i64 x, .int .i64 (x + y), .int .i64 (x + y + 5)] 35)) (dT (some ⟨v6.heap.size, 0, none⟩) ⟨1, 1, 0, z, z + l + 1⟩ ⟨0, 1, x, x + y, x + y + 5⟩) := dt_ok (.inr ⟨_, _, rfl, fun i hi => by
                have hi : i < 2 := hi
                match i, hi with
                | 0, _ => exact ⟨bR.cell 0, bR.cell 1, bR.cell 2, bR.cell 3, bR.cell 4⟩
                | 1, _ => exact ⟨bR.cell 5, bR.cell 6, bR.cell 7, bR.cell 8, bR.cell 9⟩⟩) ⟨by unfold I64; dsimp only; omega, by unfold I64; dsimp only; omega, by unfold I64; dsimp only; omega, by unfold I64; dsimp only; omega, by unfold I64; dsimp only; omega⟩ ⟨by unfold I64; dsimp only; omega, by unfold I64; dsimp only; omega, by unfold I64; dsimp only; omega, by unfold I64; dsimp only; omega, by unfold I64; dsimp only; omega⟩
            have CC := dpass_any (dS ca cc (some ⟨N, 0, none⟩) (some ⟨gs, 0, none⟩) tc a1 c1 A2 k2) (dT (some ⟨v6.heap.size, 0, none⟩) ⟨1, 1, 0, z, z + l + 1⟩ ⟨0, 1, x, x + y, x + y + 5⟩) ⟨0, 1, x, x + y, x + y + 5⟩ (v6.alloc (.cells #[.int .i64 1, .int .i64 1, .int .i64 0, .int .i64 z, .int .i64 (z + l + 1), .int .i64 0, .int .i64 1, .int .i64 x, .int .i64 (x + y), .int .i64 (x + y + 5)] 35)) (HsF.out.keep (Keeps.of_below hv7)) ht7
            rw [HV.out] at CC
            change Calls Try.prog 16 #[.agg #[.int .i64 1, .slice ca 1 cc, .slice (some ⟨N, 0, none⟩) 2 2, .slice (some ⟨gs, 0, none⟩) 2 tc], .agg #[.int .i64 200, .slice none 0 0, .slice none 0 0, .slice (some ⟨v6.heap.size, 0, none⟩) 2 2], .agg #[.int .i64 0, .int .i64 1, .int .i64 x, .int .i64 (x + y), .int .i64 (x + y + 5)]] _ _ at CC
            have bW7 := bW.alloc (.cells #[.int .i64 1, .int .i64 1, .int .i64 0, .int .i64 z, .int .i64 (z + l + 1), .int .i64 0, .int .i64 1, .int .i64 x, .int .i64 (x + y), .int .i64 (x + y + 5)] 35)
            have q0' : (v6.alloc (.cells #[.int .i64 1, .int .i64 1, .int .i64 0, .int .i64 z, .int .i64 (z + l + 1), .int .i64 0, .int .i64 1, .int .i64 x, .int .i64 (x + y), .int .i64 (x + y + 5)] 35)).cell? ⟨p, 0, none⟩ = some (.int .i64 0) := bW7.cell 0
            have q1' : (v6.alloc (.cells #[.int .i64 1, .int .i64 1, .int .i64 0, .int .i64 z, .int .i64 (z + l + 1), .int .i64 0, .int .i64 1, .int .i64 x, .int .i64 (x + y), .int .i64 (x + y + 5)] 35)).cell? ⟨p, 1, none⟩ = some (.int .i64 1) := bW7.cell 1
            have q2' : (v6.alloc (.cells #[.int .i64 1, .int .i64 1, .int .i64 0, .int .i64 z, .int .i64 (z + l + 1), .int .i64 0, .int .i64 1, .int .i64 x, .int .i64 (x + y), .int .i64 (x + y + 5)] 35)).cell? ⟨p, 2, none⟩ = some (.int .i64 x) := bW7.cell 2
            have q3' : (v6.alloc (.cells #[.int .i64 1, .int .i64 1, .int .i64 0, .int .i64 z, .int .i64 (z + l + 1), .int .i64 0, .int .i64 1, .int .i64 x, .int .i64 (x + y), .int .i64 (x + y + 5)] 35)).cell? ⟨p, 3, none⟩ = some (.int .i64 (x + y)) := bW7.cell 3
            have q4' : (v6.alloc (.cells #[.int .i64 1, .int .i64 1, .int .i64 0, .int .i64 z, .int .i64 (z + l + 1), .int .i64 0, .int .i64 1, .int .i64 x, .int .i64 (x + y), .int .i64 (x + y + 5)] 35)).cell? ⟨p, 4, none⟩ = some (.int .i64 (x + y + 5)) := bW7.cell 4
            clear HV bR ht7 bW7
            go_wp2_with fail
            refine CC.mono ?_
            rintro e u ⟨rfl, hb9⟩
            clear CC
            go_wp2_with fail
            go_ret
            exact ⟨rfl, hbF.trans ((hv7.trans (hb9.mono hv7.size)).mono hbF.size)⟩
      | true =>
        have m0 := bX.cell 0
        have n0 := bX.frozen 0
        replace bX := bX.put 0 (.int .i64 0)
        replace bW := bW.far (p := ⟨q, 0, none⟩) (by simp; omega) (.int .i64 0)
        replace bB := bB.far (p := ⟨q, 0, none⟩) (by simp; omega) (.int .i64 0)
        replace hv := hv.setCell (show v2.heap.size ≤ (⟨q, 0, none⟩ : Addr).block by rw [HP.out]; simp; omega) (.int .i64 0)
        have m1 := bX.cell 1
        have n1 := bX.frozen 1
        go_upto_region 15 with fail
        replace bX := bX.put 1 (.int .i64 1)
        replace bW := bW.far (p := ⟨q, 1, none⟩) (by simp; omega) (.int .i64 1)
        replace bB := bB.far (p := ⟨q, 1, none⟩) (by simp; omega) (.int .i64 1)
        replace hv := hv.setCell (show v2.heap.size ≤ (⟨q, 1, none⟩ : Addr).block by rw [HP.out]; simp; omega) (.int .i64 1)
        obtain ⟨v6, hv6⟩ : ∃ v, (v5.setCell ⟨q, 0, none⟩ (.int .i64 0)).setCell ⟨q, 1, none⟩ (.int .i64 1) = v := ⟨_, rfl⟩
        rw [hv6] at bW bB bX hv ⊢
        clear hv6
        have s0 := bB.cell 0
        have s1 := bB.cell 1
        have s2 := bB.cell 2
        have s3 := bB.cell 3
        have y0' : v6.cell? ⟨p, 0, none⟩ = some (.int .i64 0) := bW.cell 0
        have y1' : v6.cell? ⟨p, 1, none⟩ = some (.int .i64 1) := bW.cell 1
        have y2' : v6.cell? ⟨p, 2, none⟩ = some (.int .i64 x) := bW.cell 2
        have y3' : v6.cell? ⟨p, 3, none⟩ = some (.int .i64 (x + y)) := bW.cell 3
        have y4' : v6.cell? ⟨p, 4, none⟩ = some (.int .i64 (x + y + 5)) := bW.cell 4
        have e0 := bX.cell 0
        have e1 := bX.cell 1
        have e2 := bX.cell 2
        have e3 := bX.cell 3
        have e4 := bX.cell 4
        by_cases h1 : x ≤ z
        · have g1 : decide (x ≤ z) = true := by simpa using h1
          have g3 : decide (z < x) = false := by simp; omega
          by_cases h2 : z < x + y
          · have g2 : decide (z < x + y) = true := by simpa using h2
            have HV : Hid (passV (dS ca cc (some ⟨N, 0, none⟩) (some ⟨gs, 0, none⟩) tc a1 c1 A2 k2) (dT (some ⟨v6.heap.size, 0, none⟩) ⟨0, 1, 0, z, z + l + 1⟩ ⟨0, 1, x, x + y, x + y + 5⟩) ⟨0, 1, x, x + y, x + y + 5⟩ = ((0 : Nat) : Int)) := hidp (ds_v ca cc (some ⟨N, 0, none⟩) (some ⟨gs, 0, none⟩) tc a1 c1 A2 k2 _ (ds_same ca cc (some ⟨N, 0, none⟩) (some ⟨gs, 0, none⟩) tc a1 c1 A2 k2 x (x + y) (x + y + 5) z (z + l + 1)))
            have bR := Bk.new v6 35 #[.int .i64 0, .int .i64 1, .int .i64 0, .int .i64 z, .int .i64 (z + l + 1), .int .i64 0, .int .i64 1, .int .i64 x, .int .i64 (x + y), .int .i64 (x + y + 5)]
            have hv7 := hv.alloc hv.size (.cells #[.int .i64 0, .int .i64 1, .int .i64 0, .int .i64 z, .int .i64 (z + l + 1), .int .i64 0, .int .i64 1, .int .i64 x, .int .i64 (x + y), .int .i64 (x + y + 5)] 35)
            have ht7 : TraceOk (v6.alloc (.cells #[.int .i64 0, .int .i64 1, .int .i64 0, .int .i64 z, .int .i64 (z + l + 1), .int .i64 0, .int .i64 1, .int .i64 x, .int .i64 (x + y), .int .i64 (x + y + 5)] 35)) (dT (some ⟨v6.heap.size, 0, none⟩) ⟨0, 1, 0, z, z + l + 1⟩ ⟨0, 1, x, x + y, x + y + 5⟩) := dt_ok (.inr ⟨_, _, rfl, fun i hi => by
                have hi : i < 2 := hi
                match i, hi with
                | 0, _ => exact ⟨bR.cell 0, bR.cell 1, bR.cell 2, bR.cell 3, bR.cell 4⟩
                | 1, _ => exact ⟨bR.cell 5, bR.cell 6, bR.cell 7, bR.cell 8, bR.cell 9⟩⟩) ⟨by unfold I64; dsimp only; omega, by unfold I64; dsimp only; omega, by unfold I64; dsimp only; omega, by unfold I64; dsimp only; omega, by unfold I64; dsimp only; omega⟩ ⟨by unfold I64; dsimp only; omega, by unfold I64; dsimp only; omega, by unfold I64; dsimp only; omega, by unfold I64; dsimp only; omega, by unfold I64; dsimp only; omega⟩
            have CC := dpass_any (dS ca cc (some ⟨N, 0, none⟩) (some ⟨gs, 0, none⟩) tc a1 c1 A2 k2) (dT (some ⟨v6.heap.size, 0, none⟩) ⟨0, 1, 0, z, z + l + 1⟩ ⟨0, 1, x, x + y, x + y + 5⟩) ⟨0, 1, x, x + y, x + y + 5⟩ (v6.alloc (.cells #[.int .i64 0, .int .i64 1, .int .i64 0, .int .i64 z, .int .i64 (z + l + 1), .int .i64 0, .int .i64 1, .int .i64 x, .int .i64 (x + y), .int .i64 (x + y + 5)] 35)) (HsF.out.keep (Keeps.of_below hv7)) ht7
            rw [HV.out] at CC
            change Calls Try.prog 16 #[.agg #[.int .i64 1, .slice ca 1 cc, .slice (some ⟨N, 0, none⟩) 2 2, .slice (some ⟨gs, 0, none⟩) 2 tc], .agg #[.int .i64 200, .slice none 0 0, .slice none 0 0, .slice (some ⟨v6.heap.size, 0, none⟩) 2 2], .agg #[.int .i64 0, .int .i64 1, .int .i64 x, .int .i64 (x + y), .int .i64 (x + y + 5)]] _ _ at CC
            have bW7 := bW.alloc (.cells #[.int .i64 0, .int .i64 1, .int .i64 0, .int .i64 z, .int .i64 (z + l + 1), .int .i64 0, .int .i64 1, .int .i64 x, .int .i64 (x + y), .int .i64 (x + y + 5)] 35)
            have q0' : (v6.alloc (.cells #[.int .i64 0, .int .i64 1, .int .i64 0, .int .i64 z, .int .i64 (z + l + 1), .int .i64 0, .int .i64 1, .int .i64 x, .int .i64 (x + y), .int .i64 (x + y + 5)] 35)).cell? ⟨p, 0, none⟩ = some (.int .i64 0) := bW7.cell 0
            have q1' : (v6.alloc (.cells #[.int .i64 0, .int .i64 1, .int .i64 0, .int .i64 z, .int .i64 (z + l + 1), .int .i64 0, .int .i64 1, .int .i64 x, .int .i64 (x + y), .int .i64 (x + y + 5)] 35)).cell? ⟨p, 1, none⟩ = some (.int .i64 1) := bW7.cell 1
            have q2' : (v6.alloc (.cells #[.int .i64 0, .int .i64 1, .int .i64 0, .int .i64 z, .int .i64 (z + l + 1), .int .i64 0, .int .i64 1, .int .i64 x, .int .i64 (x + y), .int .i64 (x + y + 5)] 35)).cell? ⟨p, 2, none⟩ = some (.int .i64 x) := bW7.cell 2
            have q3' : (v6.alloc (.cells #[.int .i64 0, .int .i64 1, .int .i64 0, .int .i64 z, .int .i64 (z + l + 1), .int .i64 0, .int .i64 1, .int .i64 x, .int .i64 (x + y), .int .i64 (x + y + 5)] 35)).cell? ⟨p, 3, none⟩ = some (.int .i64 (x + y)) := bW7.cell 3
            have q4' : (v6.alloc (.cells #[.int .i64 0, .int .i64 1, .int .i64 0, .int .i64 z, .int .i64 (z + l + 1), .int .i64 0, .int .i64 1, .int .i64 x, .int .i64 (x + y), .int .i64 (x + y + 5)] 35)).cell? ⟨p, 4, none⟩ = some (.int .i64 (x + y + 5)) := bW7.cell 4
            clear HV bR ht7 bW7
            go_wp2_with fail
            refine CC.mono ?_
            rintro e u ⟨rfl, hb9⟩
            clear CC
            go_wp2_with fail
            go_ret
            exact ⟨rfl, hbF.trans ((hv7.trans (hb9.mono hv7.size)).mono hbF.size)⟩
          · have g2 : decide (z < x + y) = false := by simpa using h2
            have HV : Hid (passV (dS ca cc (some ⟨N, 0, none⟩) (some ⟨gs, 0, none⟩) tc a1 c1 A2 k2) (dT (some ⟨v6.heap.size, 0, none⟩) ⟨0, 1, 0, z, z + l + 1⟩ ⟨0, 1, x, x + y, x + y + 5⟩) ⟨0, 1, x, x + y, x + y + 5⟩ = ((0 : Nat) : Int)) := hidp (ds_v ca cc (some ⟨N, 0, none⟩) (some ⟨gs, 0, none⟩) tc a1 c1 A2 k2 _ (ds_same ca cc (some ⟨N, 0, none⟩) (some ⟨gs, 0, none⟩) tc a1 c1 A2 k2 x (x + y) (x + y + 5) z (z + l + 1)))
            have bR := Bk.new v6 35 #[.int .i64 0, .int .i64 1, .int .i64 0, .int .i64 z, .int .i64 (z + l + 1), .int .i64 0, .int .i64 1, .int .i64 x, .int .i64 (x + y), .int .i64 (x + y + 5)]
            have hv7 := hv.alloc hv.size (.cells #[.int .i64 0, .int .i64 1, .int .i64 0, .int .i64 z, .int .i64 (z + l + 1), .int .i64 0, .int .i64 1, .int .i64 x, .int .i64 (x + y), .int .i64 (x + y + 5)] 35)
            have ht7 : TraceOk (v6.alloc (.cells #[.int .i64 0, .int .i64 1, .int .i64 0, .int .i64 z, .int .i64 (z + l + 1), .int .i64 0, .int .i64 1, .int .i64 x, .int .i64 (x + y), .int .i64 (x + y + 5)] 35)) (dT (some ⟨v6.heap.size, 0, none⟩) ⟨0, 1, 0, z, z + l + 1⟩ ⟨0, 1, x, x + y, x + y + 5⟩) := dt_ok (.inr ⟨_, _, rfl, fun i hi => by
                have hi : i < 2 := hi
                match i, hi with
                | 0, _ => exact ⟨bR.cell 0, bR.cell 1, bR.cell 2, bR.cell 3, bR.cell 4⟩
                | 1, _ => exact ⟨bR.cell 5, bR.cell 6, bR.cell 7, bR.cell 8, bR.cell 9⟩⟩) ⟨by unfold I64; dsimp only; omega, by unfold I64; dsimp only; omega, by unfold I64; dsimp only; omega, by unfold I64; dsimp only; omega, by unfold I64; dsimp only; omega⟩ ⟨by unfold I64; dsimp only; omega, by unfold I64; dsimp only; omega, by unfold I64; dsimp only; omega, by unfold I64; dsimp only; omega, by unfold I64; dsimp only; omega⟩
            have CC := dpass_any (dS ca cc (some ⟨N, 0, none⟩) (some ⟨gs, 0, none⟩) tc a1 c1 A2 k2) (dT (some ⟨v6.heap.size, 0, none⟩) ⟨0, 1, 0, z, z + l + 1⟩ ⟨0, 1, x, x + y, x + y + 5⟩) ⟨0, 1, x, x + y, x + y + 5⟩ (v6.alloc (.cells #[.int .i64 0, .int .i64 1, .int .i64 0, .int .i64 z, .int .i64 (z + l + 1), .int .i64 0, .int .i64 1, .int .i64 x, .int .i64 (x + y), .int .i64 (x + y + 5)] 35)) (HsF.out.keep (Keeps.of_below hv7)) ht7
            rw [HV.out] at CC
            change Calls Try.prog 16 #[.agg #[.int .i64 1, .slice ca 1 cc, .slice (some ⟨N, 0, none⟩) 2 2, .slice (some ⟨gs, 0, none⟩) 2 tc], .agg #[.int .i64 200, .slice none 0 0, .slice none 0 0, .slice (some ⟨v6.heap.size, 0, none⟩) 2 2], .agg #[.int .i64 0, .int .i64 1, .int .i64 x, .int .i64 (x + y), .int .i64 (x + y + 5)]] _ _ at CC
            have bW7 := bW.alloc (.cells #[.int .i64 0, .int .i64 1, .int .i64 0, .int .i64 z, .int .i64 (z + l + 1), .int .i64 0, .int .i64 1, .int .i64 x, .int .i64 (x + y), .int .i64 (x + y + 5)] 35)
            have q0' : (v6.alloc (.cells #[.int .i64 0, .int .i64 1, .int .i64 0, .int .i64 z, .int .i64 (z + l + 1), .int .i64 0, .int .i64 1, .int .i64 x, .int .i64 (x + y), .int .i64 (x + y + 5)] 35)).cell? ⟨p, 0, none⟩ = some (.int .i64 0) := bW7.cell 0
            have q1' : (v6.alloc (.cells #[.int .i64 0, .int .i64 1, .int .i64 0, .int .i64 z, .int .i64 (z + l + 1), .int .i64 0, .int .i64 1, .int .i64 x, .int .i64 (x + y), .int .i64 (x + y + 5)] 35)).cell? ⟨p, 1, none⟩ = some (.int .i64 1) := bW7.cell 1
            have q2' : (v6.alloc (.cells #[.int .i64 0, .int .i64 1, .int .i64 0, .int .i64 z, .int .i64 (z + l + 1), .int .i64 0, .int .i64 1, .int .i64 x, .int .i64 (x + y), .int .i64 (x + y + 5)] 35)).cell? ⟨p, 2, none⟩ = some (.int .i64 x) := bW7.cell 2
            have q3' : (v6.alloc (.cells #[.int .i64 0, .int .i64 1, .int .i64 0, .int .i64 z, .int .i64 (z + l + 1), .int .i64 0, .int .i64 1, .int .i64 x, .int .i64 (x + y), .int .i64 (x + y + 5)] 35)).cell? ⟨p, 3, none⟩ = some (.int .i64 (x + y)) := bW7.cell 3
            have q4' : (v6.alloc (.cells #[.int .i64 0, .int .i64 1, .int .i64 0, .int .i64 z, .int .i64 (z + l + 1), .int .i64 0, .int .i64 1, .int .i64 x, .int .i64 (x + y), .int .i64 (x + y + 5)] 35)).cell? ⟨p, 4, none⟩ = some (.int .i64 (x + y + 5)) := bW7.cell 4
            clear HV bR ht7 bW7
            go_wp2_with fail
            refine CC.mono ?_
            rintro e u ⟨rfl, hb9⟩
            clear CC
            go_wp2_with fail
            go_ret
            exact ⟨rfl, hbF.trans ((hv7.trans (hb9.mono hv7.size)).mono hbF.size)⟩
        · have g1 : decide (x ≤ z) = false := by simpa using h1
          have g3 : decide (z < x) = true := by simp; omega
          by_cases h2 : x < z + l + 1
          · have g2 : decide (x < z + l + 1) = true := by simpa using h2
            have HV : Hid (passV (dS ca cc (some ⟨N, 0, none⟩) (some ⟨gs, 0, none⟩) tc a1 c1 A2 k2) (dT (some ⟨v6.heap.size, 0, none⟩) ⟨0, 1, 0, z, z + l + 1⟩ ⟨0, 1, x, x + y, x + y + 5⟩) ⟨0, 1, x, x + y, x + y + 5⟩ = ((0 : Nat) : Int)) := hidp (ds_v ca cc (some ⟨N, 0, none⟩) (some ⟨gs, 0, none⟩) tc a1 c1 A2 k2 _ (ds_same ca cc (some ⟨N, 0, none⟩) (some ⟨gs, 0, none⟩) tc a1 c1 A2 k2 x (x + y) (x + y + 5) z (z + l + 1)))
            have bR := Bk.new v6 35 #[.int .i64 0, .int .i64 1, .int .i64 0, .int .i64 z, .int .i64 (z + l + 1), .int .i64 0, .int .i64 1, .int .i64 x, .int .i64 (x + y), .int .i64 (x + y + 5)]
            have hv7 := hv.alloc hv.size (.cells #[.int .i64 0, .int .i64 1, .int .i64 0, .int .i64 z, .int .i64 (z + l + 1), .int .i64 0, .int .i64 1, .int .i64 x, .int .i64 (x + y), .int .i64 (x + y + 5)] 35)
            have ht7 : TraceOk (v6.alloc (.cells #[.int .i64 0, .int .i64 1, .int .i64 0, .int .i64 z, .int .i64 (z + l + 1), .int .i64 0, .int .i64 1, .int .i64 x, .int .i64 (x + y), .int .i64 (x + y + 5)] 35)) (dT (some ⟨v6.heap.size, 0, none⟩) ⟨0, 1, 0, z, z + l + 1⟩ ⟨0, 1, x, x + y, x + y + 5⟩) := dt_ok (.inr ⟨_, _, rfl, fun i hi => by
                have hi : i < 2 := hi
                match i, hi with
                | 0, _ => exact ⟨bR.cell 0, bR.cell 1, bR.cell 2, bR.cell 3, bR.cell 4⟩
                | 1, _ => exact ⟨bR.cell 5, bR.cell 6, bR.cell 7, bR.cell 8, bR.cell 9⟩⟩) ⟨by unfold I64; dsimp only; omega, by unfold I64; dsimp only; omega, by unfold I64; dsimp only; omega, by unfold I64; dsimp only; omega, by unfold I64; dsimp only; omega⟩ ⟨by unfold I64; dsimp only; omega, by unfold I64; dsimp only; omega, by unfold I64; dsimp only; omega, by unfold I64; dsimp only; omega, by unfold I64; dsimp only; omega⟩
            have CC := dpass_any (dS ca cc (some ⟨N, 0, none⟩) (some ⟨gs, 0, none⟩) tc a1 c1 A2 k2) (dT (some ⟨v6.heap.size, 0, none⟩) ⟨0, 1, 0, z, z + l + 1⟩ ⟨0, 1, x, x + y, x + y + 5⟩) ⟨0, 1, x, x + y, x + y + 5⟩ (v6.alloc (.cells #[.int .i64 0, .int .i64 1, .int .i64 0, .int .i64 z, .int .i64 (z + l + 1), .int .i64 0, .int .i64 1, .int .i64 x, .int .i64 (x + y), .int .i64 (x + y + 5)] 35)) (HsF.out.keep (Keeps.of_below hv7)) ht7
            rw [HV.out] at CC
            change Calls Try.prog 16 #[.agg #[.int .i64 1, .slice ca 1 cc, .slice (some ⟨N, 0, none⟩) 2 2, .slice (some ⟨gs, 0, none⟩) 2 tc], .agg #[.int .i64 200, .slice none 0 0, .slice none 0 0, .slice (some ⟨v6.heap.size, 0, none⟩) 2 2], .agg #[.int .i64 0, .int .i64 1, .int .i64 x, .int .i64 (x + y), .int .i64 (x + y + 5)]] _ _ at CC
            have bW7 := bW.alloc (.cells #[.int .i64 0, .int .i64 1, .int .i64 0, .int .i64 z, .int .i64 (z + l + 1), .int .i64 0, .int .i64 1, .int .i64 x, .int .i64 (x + y), .int .i64 (x + y + 5)] 35)
            have q0' : (v6.alloc (.cells #[.int .i64 0, .int .i64 1, .int .i64 0, .int .i64 z, .int .i64 (z + l + 1), .int .i64 0, .int .i64 1, .int .i64 x, .int .i64 (x + y), .int .i64 (x + y + 5)] 35)).cell? ⟨p, 0, none⟩ = some (.int .i64 0) := bW7.cell 0
            have q1' : (v6.alloc (.cells #[.int .i64 0, .int .i64 1, .int .i64 0, .int .i64 z, .int .i64 (z + l + 1), .int .i64 0, .int .i64 1, .int .i64 x, .int .i64 (x + y), .int .i64 (x + y + 5)] 35)).cell? ⟨p, 1, none⟩ = some (.int .i64 1) := bW7.cell 1
            have q2' : (v6.alloc (.cells #[.int .i64 0, .int .i64 1, .int .i64 0, .int .i64 z, .int .i64 (z + l + 1), .int .i64 0, .int .i64 1, .int .i64 x, .int .i64 (x + y), .int .i64 (x + y + 5)] 35)).cell? ⟨p, 2, none⟩ = some (.int .i64 x) := bW7.cell 2
            have q3' : (v6.alloc (.cells #[.int .i64 0, .int .i64 1, .int .i64 0, .int .i64 z, .int .i64 (z + l + 1), .int .i64 0, .int .i64 1, .int .i64 x, .int .i64 (x + y), .int .i64 (x + y + 5)] 35)).cell? ⟨p, 3, none⟩ = some (.int .i64 (x + y)) := bW7.cell 3
            have q4' : (v6.alloc (.cells #[.int .i64 0, .int .i64 1, .int .i64 0, .int .i64 z, .int .i64 (z + l + 1), .int .i64 0, .int .i64 1, .int .i64 x, .int .i64 (x + y), .int .i64 (x + y + 5)] 35)).cell? ⟨p, 4, none⟩ = some (.int .i64 (x + y + 5)) := bW7.cell 4
            clear HV bR ht7 bW7
            go_wp2_with fail
            refine CC.mono ?_
            rintro e u ⟨rfl, hb9⟩
            clear CC
            go_wp2_with fail
            go_ret
            exact ⟨rfl, hbF.trans ((hv7.trans (hb9.mono hv7.size)).mono hbF.size)⟩
          · have g2 : decide (x < z + l + 1) = false := by simpa using h2
            have HV : Hid (passV (dS ca cc (some ⟨N, 0, none⟩) (some ⟨gs, 0, none⟩) tc a1 c1 A2 k2) (dT (some ⟨v6.heap.size, 0, none⟩) ⟨0, 1, 0, z, z + l + 1⟩ ⟨0, 1, x, x + y, x + y + 5⟩) ⟨0, 1, x, x + y, x + y + 5⟩ = ((0 : Nat) : Int)) := hidp (ds_v ca cc (some ⟨N, 0, none⟩) (some ⟨gs, 0, none⟩) tc a1 c1 A2 k2 _ (ds_same ca cc (some ⟨N, 0, none⟩) (some ⟨gs, 0, none⟩) tc a1 c1 A2 k2 x (x + y) (x + y + 5) z (z + l + 1)))
            have bR := Bk.new v6 35 #[.int .i64 0, .int .i64 1, .int .i64 0, .int .i64 z, .int .i64 (z + l + 1), .int .i64 0, .int .i64 1, .int .i64 x, .int .i64 (x + y), .int .i64 (x + y + 5)]
            have hv7 := hv.alloc hv.size (.cells #[.int .i64 0, .int .i64 1, .int .i64 0, .int .i64 z, .int .i64 (z + l + 1), .int .i64 0, .int .i64 1, .int .i64 x, .int .i64 (x + y), .int .i64 (x + y + 5)] 35)
            have ht7 : TraceOk (v6.alloc (.cells #[.int .i64 0, .int .i64 1, .int .i64 0, .int .i64 z, .int .i64 (z + l + 1), .int .i64 0, .int .i64 1, .int .i64 x, .int .i64 (x + y), .int .i64 (x + y + 5)] 35)) (dT (some ⟨v6.heap.size, 0, none⟩) ⟨0, 1, 0, z, z + l + 1⟩ ⟨0, 1, x, x + y, x + y + 5⟩) := dt_ok (.inr ⟨_, _, rfl, fun i hi => by
                have hi : i < 2 := hi
                match i, hi with
                | 0, _ => exact ⟨bR.cell 0, bR.cell 1, bR.cell 2, bR.cell 3, bR.cell 4⟩
                | 1, _ => exact ⟨bR.cell 5, bR.cell 6, bR.cell 7, bR.cell 8, bR.cell 9⟩⟩) ⟨by unfold I64; dsimp only; omega, by unfold I64; dsimp only; omega, by unfold I64; dsimp only; omega, by unfold I64; dsimp only; omega, by unfold I64; dsimp only; omega⟩ ⟨by unfold I64; dsimp only; omega, by unfold I64; dsimp only; omega, by unfold I64; dsimp only; omega, by unfold I64; dsimp only; omega, by unfold I64; dsimp only; omega⟩
            have CC := dpass_any (dS ca cc (some ⟨N, 0, none⟩) (some ⟨gs, 0, none⟩) tc a1 c1 A2 k2) (dT (some ⟨v6.heap.size, 0, none⟩) ⟨0, 1, 0, z, z + l + 1⟩ ⟨0, 1, x, x + y, x + y + 5⟩) ⟨0, 1, x, x + y, x + y + 5⟩ (v6.alloc (.cells #[.int .i64 0, .int .i64 1, .int .i64 0, .int .i64 z, .int .i64 (z + l + 1), .int .i64 0, .int .i64 1, .int .i64 x, .int .i64 (x + y), .int .i64 (x + y + 5)] 35)) (HsF.out.keep (Keeps.of_below hv7)) ht7
            rw [HV.out] at CC
            change Calls Try.prog 16 #[.agg #[.int .i64 1, .slice ca 1 cc, .slice (some ⟨N, 0, none⟩) 2 2, .slice (some ⟨gs, 0, none⟩) 2 tc], .agg #[.int .i64 200, .slice none 0 0, .slice none 0 0, .slice (some ⟨v6.heap.size, 0, none⟩) 2 2], .agg #[.int .i64 0, .int .i64 1, .int .i64 x, .int .i64 (x + y), .int .i64 (x + y + 5)]] _ _ at CC
            have bW7 := bW.alloc (.cells #[.int .i64 0, .int .i64 1, .int .i64 0, .int .i64 z, .int .i64 (z + l + 1), .int .i64 0, .int .i64 1, .int .i64 x, .int .i64 (x + y), .int .i64 (x + y + 5)] 35)
            have q0' : (v6.alloc (.cells #[.int .i64 0, .int .i64 1, .int .i64 0, .int .i64 z, .int .i64 (z + l + 1), .int .i64 0, .int .i64 1, .int .i64 x, .int .i64 (x + y), .int .i64 (x + y + 5)] 35)).cell? ⟨p, 0, none⟩ = some (.int .i64 0) := bW7.cell 0
            have q1' : (v6.alloc (.cells #[.int .i64 0, .int .i64 1, .int .i64 0, .int .i64 z, .int .i64 (z + l + 1), .int .i64 0, .int .i64 1, .int .i64 x, .int .i64 (x + y), .int .i64 (x + y + 5)] 35)).cell? ⟨p, 1, none⟩ = some (.int .i64 1) := bW7.cell 1
            have q2' : (v6.alloc (.cells #[.int .i64 0, .int .i64 1, .int .i64 0, .int .i64 z, .int .i64 (z + l + 1), .int .i64 0, .int .i64 1, .int .i64 x, .int .i64 (x + y), .int .i64 (x + y + 5)] 35)).cell? ⟨p, 2, none⟩ = some (.int .i64 x) := bW7.cell 2
            have q3' : (v6.alloc (.cells #[.int .i64 0, .int .i64 1, .int .i64 0, .int .i64 z, .int .i64 (z + l + 1), .int .i64 0, .int .i64 1, .int .i64 x, .int .i64 (x + y), .int .i64 (x + y + 5)] 35)).cell? ⟨p, 3, none⟩ = some (.int .i64 (x + y)) := bW7.cell 3
            have q4' : (v6.alloc (.cells #[.int .i64 0, .int .i64 1, .int .i64 0, .int .i64 z, .int .i64 (z + l + 1), .int .i64 0, .int .i64 1, .int .i64 x, .int .i64 (x + y), .int .i64 (x + y + 5)] 35)).cell? ⟨p, 4, none⟩ = some (.int .i64 (x + y + 5)) := bW7.cell 4
            clear HV bR ht7 bW7
            go_wp2_with fail
            refine CC.mono ?_
            rintro e u ⟨rfl, hb9⟩
            clear CC
            go_wp2_with fail
            go_ret
            exact ⟨rfl, hbF.trans ((hv7.trans (hb9.mono hv7.size)).mono hbF.size)⟩
    | true =>
      cases a5 with
      | false =>
        have m1 := bX.cell 1
        have n1 := bX.frozen 1
        go_upto_region 15 with fail
        replace bX := bX.put 1 (.int .i64 2)
        replace bW := bW.far (p := ⟨q, 1, none⟩) (by simp; omega) (.int .i64 2)
        replace bB := bB.far (p := ⟨q, 1, none⟩) (by simp; omega) (.int .i64 2)
        replace hv := hv.setCell (show v2.heap.size ≤ (⟨q, 1, none⟩ : Addr).block by rw [HP.out]; simp; omega) (.int .i64 2)
        obtain ⟨v6, hv6⟩ : ∃ v, v5.setCell ⟨q, 1, none⟩ (.int .i64 2) = v := ⟨_, rfl⟩
        rw [hv6] at bW bB bX hv ⊢
        clear hv6
        have s0 := bB.cell 0
        have s1 := bB.cell 1
        have s2 := bB.cell 2
        have s3 := bB.cell 3
        have y0' : v6.cell? ⟨p, 0, none⟩ = some (.int .i64 0) := bW.cell 0
        have y1' : v6.cell? ⟨p, 1, none⟩ = some (.int .i64 1) := bW.cell 1
        have y2' : v6.cell? ⟨p, 2, none⟩ = some (.int .i64 x) := bW.cell 2
        have y3' : v6.cell? ⟨p, 3, none⟩ = some (.int .i64 (x + y)) := bW.cell 3
        have y4' : v6.cell? ⟨p, 4, none⟩ = some (.int .i64 (x + y + 5)) := bW.cell 4
        have e0 := bX.cell 0
        have e1 := bX.cell 1
        have e2 := bX.cell 2
        have e3 := bX.cell 3
        have e4 := bX.cell 4
        by_cases h1 : x ≤ z
        · have g1 : decide (x ≤ z) = true := by simpa using h1
          have g3 : decide (z < x) = false := by simp; omega
          by_cases h2 : z < x + y
          · have g2 : decide (z < x + y) = true := by simpa using h2
            have HV : Hid (passV (dS ca cc (some ⟨N, 0, none⟩) (some ⟨gs, 0, none⟩) tc a1 c1 A2 k2) (dT (some ⟨v6.heap.size, 0, none⟩) ⟨1, 2, 0, z, z + l + 1⟩ ⟨0, 1, x, x + y, x + y + 5⟩) ⟨0, 1, x, x + y, x + y + 5⟩ = ((0 : Nat) : Int)) := hidp (ds_v ca cc (some ⟨N, 0, none⟩) (some ⟨gs, 0, none⟩) tc a1 c1 A2 k2 _ (ds_res ca cc (some ⟨N, 0, none⟩) (some ⟨gs, 0, none⟩) tc a1 c1 A2 k2 x (x + y) (x + y + 5) z (z + l + 1)))
            have bR := Bk.new v6 35 #[.int .i64 1, .int .i64 2, .int .i64 0, .int .i64 z, .int .i64 (z + l + 1), .int .i64 0, .int .i64 1, .int .i64 x, .int .i64 (x + y), .int .i64 (x + y + 5)]
            have hv7 := hv.alloc hv.size (.cells #[.int .i64 1, .int .i64 2, .int .i64 0, .int .i64 z, .int .i64 (z + l + 1), .int .i64 0, .int .i64 1, .int .i64 x, .int .i64 (x + y), .int .i64 (x + y + 5)] 35)
            have ht7 : TraceOk (v6.alloc (.cells #[.int .i64 1, .int .i64 2, .int .i64 0, .int .i64 z, .int .i64 (z + l + 1), .int .i64 0, .int .i64 1, .int .i64 x, .int .i64 (x + y), .int .i64 (x + y + 5)] 35)) (dT (some ⟨v6.heap.size, 0, none⟩) ⟨1, 2, 0, z, z + l + 1⟩ ⟨0, 1, x, x + y, x + y + 5⟩) := dt_ok (.inr ⟨_, _, rfl, fun i hi => by
                have hi : i < 2 := hi
                match i, hi with
                | 0, _ => exact ⟨bR.cell 0, bR.cell 1, bR.cell 2, bR.cell 3, bR.cell 4⟩
                | 1, _ => exact ⟨bR.cell 5, bR.cell 6, bR.cell 7, bR.cell 8, bR.cell 9⟩⟩) ⟨by unfold I64; dsimp only; omega, by unfold I64; dsimp only; omega, by unfold I64; dsimp only; omega, by unfold I64; dsimp only; omega, by unfold I64; dsimp only; omega⟩ ⟨by unfold I64; dsimp only; omega, by unfold I64; dsimp only; omega, by unfold I64; dsimp only; omega, by unfold I64; dsimp only; omega, by unfold I64; dsimp only; omega⟩
            have CC := dpass_any (dS ca cc (some ⟨N, 0, none⟩) (some ⟨gs, 0, none⟩) tc a1 c1 A2 k2) (dT (some ⟨v6.heap.size, 0, none⟩) ⟨1, 2, 0, z, z + l + 1⟩ ⟨0, 1, x, x + y, x + y + 5⟩) ⟨0, 1, x, x + y, x + y + 5⟩ (v6.alloc (.cells #[.int .i64 1, .int .i64 2, .int .i64 0, .int .i64 z, .int .i64 (z + l + 1), .int .i64 0, .int .i64 1, .int .i64 x, .int .i64 (x + y), .int .i64 (x + y + 5)] 35)) (HsF.out.keep (Keeps.of_below hv7)) ht7
            rw [HV.out] at CC
            change Calls Try.prog 16 #[.agg #[.int .i64 1, .slice ca 1 cc, .slice (some ⟨N, 0, none⟩) 2 2, .slice (some ⟨gs, 0, none⟩) 2 tc], .agg #[.int .i64 200, .slice none 0 0, .slice none 0 0, .slice (some ⟨v6.heap.size, 0, none⟩) 2 2], .agg #[.int .i64 0, .int .i64 1, .int .i64 x, .int .i64 (x + y), .int .i64 (x + y + 5)]] _ _ at CC
            have bW7 := bW.alloc (.cells #[.int .i64 1, .int .i64 2, .int .i64 0, .int .i64 z, .int .i64 (z + l + 1), .int .i64 0, .int .i64 1, .int .i64 x, .int .i64 (x + y), .int .i64 (x + y + 5)] 35)
            have q0' : (v6.alloc (.cells #[.int .i64 1, .int .i64 2, .int .i64 0, .int .i64 z, .int .i64 (z + l + 1), .int .i64 0, .int .i64 1, .int .i64 x, .int .i64 (x + y), .int .i64 (x + y + 5)] 35)).cell? ⟨p, 0, none⟩ = some (.int .i64 0) := bW7.cell 0
            have q1' : (v6.alloc (.cells #[.int .i64 1, .int .i64 2, .int .i64 0, .int .i64 z, .int .i64 (z + l + 1), .int .i64 0, .int .i64 1, .int .i64 x, .int .i64 (x + y), .int .i64 (x + y + 5)] 35)).cell? ⟨p, 1, none⟩ = some (.int .i64 1) := bW7.cell 1
            have q2' : (v6.alloc (.cells #[.int .i64 1, .int .i64 2, .int .i64 0, .int .i64 z, .int .i64 (z + l + 1), .int .i64 0, .int .i64 1, .int .i64 x, .int .i64 (x + y), .int .i64 (x + y + 5)] 35)).cell? ⟨p, 2, none⟩ = some (.int .i64 x) := bW7.cell 2
            have q3' : (v6.alloc (.cells #[.int .i64 1, .int .i64 2, .int .i64 0, .int .i64 z, .int .i64 (z + l + 1), .int .i64 0, .int .i64 1, .int .i64 x, .int .i64 (x + y), .int .i64 (x + y + 5)] 35)).cell? ⟨p, 3, none⟩ = some (.int .i64 (x + y)) := bW7.cell 3
            have q4' : (v6.alloc (.cells #[.int .i64 1, .int .i64 2, .int .i64 0, .int .i64 z, .int .i64 (z + l + 1), .int .i64 0, .int .i64 1, .int .i64 x, .int .i64 (x + y), .int .i64 (x + y + 5)] 35)).cell? ⟨p, 4, none⟩ = some (.int .i64 (x + y + 5)) := bW7.cell 4
            clear HV bR ht7 bW7
            go_wp2_with fail
            refine CC.mono ?_
            rintro e u ⟨rfl, hb9⟩
            clear CC
            go_wp2_with fail
            go_ret
            exact ⟨rfl, hbF.trans ((hv7.trans (hb9.mono hv7.size)).mono hbF.size)⟩
          · have g2 : decide (z < x + y) = false := by simpa using h2
            have HV : Hid (passV (dS ca cc (some ⟨N, 0, none⟩) (some ⟨gs, 0, none⟩) tc a1 c1 A2 k2) (dT (some ⟨v6.heap.size, 0, none⟩) ⟨1, 2, 0, z, z + l + 1⟩ ⟨0, 1, x, x + y, x + y + 5⟩) ⟨0, 1, x, x + y, x + y + 5⟩ = ((0 : Nat) : Int)) := hidp (ds_v ca cc (some ⟨N, 0, none⟩) (some ⟨gs, 0, none⟩) tc a1 c1 A2 k2 _ (ds_res ca cc (some ⟨N, 0, none⟩) (some ⟨gs, 0, none⟩) tc a1 c1 A2 k2 x (x + y) (x + y + 5) z (z + l + 1)))
            have bR := Bk.new v6 35 #[.int .i64 1, .int .i64 2, .int .i64 0, .int .i64 z, .int .i64 (z + l + 1), .int .i64 0, .int .i64 1, .int .i64 x, .int .i64 (x + y), .int .i64 (x + y + 5)]
            have hv7 := hv.alloc hv.size (.cells #[.int .i64 1, .int .i64 2, .int .i64 0, .int .i64 z, .int .i64 (z + l + 1), .int .i64 0, .int .i64 1, .int .i64 x, .int .i64 (x + y), .int .i64 (x + y + 5)] 35)
            have ht7 : TraceOk (v6.alloc (.cells #[.int .i64 1, .int .i64 2, .int .i64 0, .int .i64 z, .int .i64 (z + l + 1), .int .i64 0, .int .i64 1, .int .i64 x, .int .i64 (x + y), .int .i64 (x + y + 5)] 35)) (dT (some ⟨v6.heap.size, 0, none⟩) ⟨1, 2, 0, z, z + l + 1⟩ ⟨0, 1, x, x + y, x + y + 5⟩) := dt_ok (.inr ⟨_, _, rfl, fun i hi => by
                have hi : i < 2 := hi
                match i, hi with
                | 0, _ => exact ⟨bR.cell 0, bR.cell 1, bR.cell 2, bR.cell 3, bR.cell 4⟩
                | 1, _ => exact ⟨bR.cell 5, bR.cell 6, bR.cell 7, bR.cell 8, bR.cell 9⟩⟩) ⟨by unfold I64; dsimp only; omega, by unfold I64; dsimp only; omega, by unfold I64; dsimp only; omega, by unfold I64; dsimp only; omega, by unfold I64; dsimp only; omega⟩ ⟨by unfold I64; dsimp only; omega, by unfold I64; dsimp only; omega, by unfold I64; dsimp only; omega, by unfold I64; dsimp only; omega, by unfold I64; dsimp only; omega⟩
            have CC := dpass_any (dS ca cc (some ⟨N, 0, none⟩) (some ⟨gs, 0, none⟩) tc a1 c1 A2 k2) (dT (some ⟨v6.heap.size, 0, none⟩) ⟨1, 2, 0, z, z + l + 1⟩ ⟨0, 1, x, x + y, x + y + 5⟩) ⟨0, 1, x, x + y, x + y + 5⟩ (v6.alloc (.cells #[.int .i64 1, .int .i64 2, .int .i64 0, .int .i64 z, .int .i64 (z + l + 1), .int .i64 0, .int .i64 1, .int .i64 x, .int .i64 (x + y), .int .i64 (x + y + 5)] 35)) (HsF.out.keep (Keeps.of_below hv7)) ht7
            rw [HV.out] at CC
            change Calls Try.prog 16 #[.agg #[.int .i64 1, .slice ca 1 cc, .slice (some ⟨N, 0, none⟩) 2 2, .slice (some ⟨gs, 0, none⟩) 2 tc], .agg #[.int .i64 200, .slice none 0 0, .slice none 0 0, .slice (some ⟨v6.heap.size, 0, none⟩) 2 2], .agg #[.int .i64 0, .int .i64 1, .int .i64 x, .int .i64 (x + y), .int .i64 (x + y + 5)]] _ _ at CC
            have bW7 := bW.alloc (.cells #[.int .i64 1, .int .i64 2, .int .i64 0, .int .i64 z, .int .i64 (z + l + 1), .int .i64 0, .int .i64 1, .int .i64 x, .int .i64 (x + y), .int .i64 (x + y + 5)] 35)
            have q0' : (v6.alloc (.cells #[.int .i64 1, .int .i64 2, .int .i64 0, .int .i64 z, .int .i64 (z + l + 1), .int .i64 0, .int .i64 1, .int .i64 x, .int .i64 (x + y), .int .i64 (x + y + 5)] 35)).cell? ⟨p, 0, none⟩ = some (.int .i64 0) := bW7.cell 0
            have q1' : (v6.alloc (.cells #[.int .i64 1, .int .i64 2, .int .i64 0, .int .i64 z, .int .i64 (z + l + 1), .int .i64 0, .int .i64 1, .int .i64 x, .int .i64 (x + y), .int .i64 (x + y + 5)] 35)).cell? ⟨p, 1, none⟩ = some (.int .i64 1) := bW7.cell 1
            have q2' : (v6.alloc (.cells #[.int .i64 1, .int .i64 2, .int .i64 0, .int .i64 z, .int .i64 (z + l + 1), .int .i64 0, .int .i64 1, .int .i64 x, .int .i64 (x + y), .int .i64 (x + y + 5)] 35)).cell? ⟨p, 2, none⟩ = some (.int .i64 x) := bW7.cell 2
            have q3' : (v6.alloc (.cells #[.int .i64 1, .int .i64 2, .int .i64 0, .int .i64 z, .int .i64 (z + l + 1), .int .i64 0, .int .i64 1, .int .i64 x, .int .i64 (x + y), .int .i64 (x + y + 5)] 35)).cell? ⟨p, 3, none⟩ = some (.int .i64 (x + y)) := bW7.cell 3
            have q4' : (v6.alloc (.cells #[.int .i64 1, .int .i64 2, .int .i64 0, .int .i64 z, .int .i64 (z + l + 1), .int .i64 0, .int .i64 1, .int .i64 x, .int .i64 (x + y), .int .i64 (x + y + 5)] 35)).cell? ⟨p, 4, none⟩ = some (.int .i64 (x + y + 5)) := bW7.cell 4
            clear HV bR ht7 bW7
            go_wp2_with fail
            refine CC.mono ?_
            rintro e u ⟨rfl, hb9⟩
            clear CC
            go_wp2_with fail
            go_ret
            exact ⟨rfl, hbF.trans ((hv7.trans (hb9.mono hv7.size)).mono hbF.size)⟩
        · have g1 : decide (x ≤ z) = false := by simpa using h1
          have g3 : decide (z < x) = true := by simp; omega
          by_cases h2 : x < z + l + 1
          · have g2 : decide (x < z + l + 1) = true := by simpa using h2
            have HV : Hid (passV (dS ca cc (some ⟨N, 0, none⟩) (some ⟨gs, 0, none⟩) tc a1 c1 A2 k2) (dT (some ⟨v6.heap.size, 0, none⟩) ⟨1, 2, 0, z, z + l + 1⟩ ⟨0, 1, x, x + y, x + y + 5⟩) ⟨0, 1, x, x + y, x + y + 5⟩ = ((0 : Nat) : Int)) := hidp (ds_v ca cc (some ⟨N, 0, none⟩) (some ⟨gs, 0, none⟩) tc a1 c1 A2 k2 _ (ds_res ca cc (some ⟨N, 0, none⟩) (some ⟨gs, 0, none⟩) tc a1 c1 A2 k2 x (x + y) (x + y + 5) z (z + l + 1)))
            have bR := Bk.new v6 35 #[.int .i64 1, .int .i64 2, .int .i64 0, .int .i64 z, .int .i64 (z + l + 1), .int .i64 0, .int .i64 1, .int .i64 x, .int .i64 (x + y), .int .i64 (x + y + 5)]
            have hv7 := hv.alloc hv.size (.cells #[.int .i64 1, .int .i64 2, .int .i64 0, .int .i64 z, .int .i64 (z + l + 1), .int .i64 0, .int .i64 1, .int .i64 x, .int .i64 (x + y), .int .i64 (x + y + 5)] 35)
            have ht7 : TraceOk (v6.alloc (.cells #[.int .i64 1, .int .i64 2, .int .i64 0, .int .i64 z, .int .i64 (z + l + 1), .int .i64 0, .int .i64 1, .int .i64 x, .int .i64 (x + y), .int .i64 (x + y + 5)] 35)) (dT (some ⟨v6.heap.size, 0, none⟩) ⟨1, 2, 0, z, z + l + 1⟩ ⟨0, 1, x, x + y, x + y + 5⟩) := dt_ok (.inr ⟨_, _, rfl, fun i hi => by
                have hi : i < 2 := hi
                match i, hi with
                | 0, _ => exact ⟨bR.cell 0, bR.cell 1, bR.cell 2, bR.cell 3, bR.cell 4⟩
                | 1, _ => exact ⟨bR.cell 5, bR.cell 6, bR.cell 7, bR.cell 8, bR.cell 9⟩⟩) ⟨by unfold I64; dsimp only; omega, by unfold I64; dsimp only; omega, by unfold I64; dsimp only; omega, by unfold I64; dsimp only; omega, by unfold I64; dsimp only; omega⟩ ⟨by unfold I64; dsimp only; omega, by unfold I64; dsimp only; omega, by unfold I64; dsimp only; omega, by unfold I64; dsimp only; omega, by unfold I64; dsimp only; omega⟩
            have CC := dpass_any (dS ca cc (some ⟨N, 0, none⟩) (some ⟨gs, 0, none⟩) tc a1 c1 A2 k2) (dT (some ⟨v6.heap.size, 0, none⟩) ⟨1, 2, 0, z, z + l + 1⟩ ⟨0, 1, x, x + y, x + y + 5⟩) ⟨0, 1, x, x + y, x + y + 5⟩ (v6.alloc (.cells #[.int .i64 1, .int .i64 2, .int .i64 0, .int .i64 z, .int .i64 (z + l + 1), .int .i64 0, .int .i64 1, .int .i64 x, .int .i64 (x + y), .int .i64 (x + y + 5)] 35)) (HsF.out.keep (Keeps.of_below hv7)) ht7
            rw [HV.out] at CC
            change Calls Try.prog 16 #[.agg #[.int .i64 1, .slice ca 1 cc, .slice (some ⟨N, 0, none⟩) 2 2, .slice (some ⟨gs, 0, none⟩) 2 tc], .agg #[.int .i64 200, .slice none 0 0, .slice none 0 0, .slice (some ⟨v6.heap.size, 0, none⟩) 2 2], .agg #[.int .i64 0, .int .i64 1, .int .i64 x, .int .i64 (x + y), .int .i64 (x + y + 5)]] _ _ at CC
            have bW7 := bW.alloc (.cells #[.int .i64 1, .int .i64 2, .int .i64 0, .int .i64 z, .int .i64 (z + l + 1), .int .i64 0, .int .i64 1, .int .i64 x, .int .i64 (x + y), .int .i64 (x + y + 5)] 35)
            have q0' : (v6.alloc (.cells #[.int .i64 1, .int .i64 2, .int .i64 0, .int .i64 z, .int .i64 (z + l + 1), .int .i64 0, .int .i64 1, .int .i64 x, .int .i64 (x + y), .int .i64 (x + y + 5)] 35)).cell? ⟨p, 0, none⟩ = some (.int .i64 0) := bW7.cell 0
            have q1' : (v6.alloc (.cells #[.int .i64 1, .int .i64 2, .int .i64 0, .int .i64 z, .int .i64 (z + l + 1), .int .i64 0, .int .i64 1, .int .i64 x, .int .i64 (x + y), .int .i64 (x + y + 5)] 35)).cell? ⟨p, 1, none⟩ = some (.int .i64 1) := bW7.cell 1
            have q2' : (v6.alloc (.cells #[.int .i64 1, .int .i64 2, .int .i64 0, .int .i64 z, .int .i64 (z + l + 1), .int .i64 0, .int .i64 1, .int .i64 x, .int .i64 (x + y), .int .i64 (x + y + 5)] 35)).cell? ⟨p, 2, none⟩ = some (.int .i64 x) := bW7.cell 2
            have q3' : (v6.alloc (.cells #[.int .i64 1, .int .i64 2, .int .i64 0, .int .i64 z, .int .i64 (z + l + 1), .int .i64 0, .int .i64 1, .int .i64 x, .int .i64 (x + y), .int .i64 (x + y + 5)] 35)).cell? ⟨p, 3, none⟩ = some (.int .i64 (x + y)) := bW7.cell 3
            have q4' : (v6.alloc (.cells #[.int .i64 1, .int .i64 2, .int .i64 0, .int .i64 z, .int .i64 (z + l + 1), .int .i64 0, .int .i64 1, .int .i64 x, .int .i64 (x + y), .int .i64 (x + y + 5)] 35)).cell? ⟨p, 4, none⟩ = some (.int .i64 (x + y + 5)) := bW7.cell 4
            clear HV bR ht7 bW7
            go_wp2_with fail
            refine CC.mono ?_
            rintro e u ⟨rfl, hb9⟩
            clear CC
            go_wp2_with fail
            go_ret
            exact ⟨rfl, hbF.trans ((hv7.trans (hb9.mono hv7.size)).mono hbF.size)⟩
          · have g2 : decide (x < z + l + 1) = false := by simpa using h2
            have HV : Hid (passV (dS ca cc (some ⟨N, 0, none⟩) (some ⟨gs, 0, none⟩) tc a1 c1 A2 k2) (dT (some ⟨v6.heap.size, 0, none⟩) ⟨1, 2, 0, z, z + l + 1⟩ ⟨0, 1, x, x + y, x + y + 5⟩) ⟨0, 1, x, x + y, x + y + 5⟩ = ((0 : Nat) : Int)) := hidp (ds_v ca cc (some ⟨N, 0, none⟩) (some ⟨gs, 0, none⟩) tc a1 c1 A2 k2 _ (ds_res ca cc (some ⟨N, 0, none⟩) (some ⟨gs, 0, none⟩) tc a1 c1 A2 k2 x (x + y) (x + y + 5) z (z + l + 1)))
            have bR := Bk.new v6 35 #[.int .i64 1, .int .i64 2, .int .i64 0, .int .i64 z, .int .i64 (z + l + 1), .int .i64 0, .int .i64 1, .int .i64 x, .int .i64 (x + y), .int .i64 (x + y + 5)]
            have hv7 := hv.alloc hv.size (.cells #[.int .i64 1, .int .i64 2, .int .i64 0, .int .i64 z, .int .i64 (z + l + 1), .int .i64 0, .int .i64 1, .int .i64 x, .int .i64 (x + y), .int .i64 (x + y + 5)] 35)
            have ht7 : TraceOk (v6.alloc (.cells #[.int .i64 1, .int .i64 2, .int .i64 0, .int .i64 z, .int .i64 (z + l + 1), .int .i64 0, .int .i64 1, .int .i64 x, .int .i64 (x + y), .int .i64 (x + y + 5)] 35)) (dT (some ⟨v6.heap.size, 0, none⟩) ⟨1, 2, 0, z, z + l + 1⟩ ⟨0, 1, x, x + y, x + y + 5⟩) := dt_ok (.inr ⟨_, _, rfl, fun i hi => by
                have hi : i < 2 := hi
                match i, hi with
                | 0, _ => exact ⟨bR.cell 0, bR.cell 1, bR.cell 2, bR.cell 3, bR.cell 4⟩
                | 1, _ => exact ⟨bR.cell 5, bR.cell 6, bR.cell 7, bR.cell 8, bR.cell 9⟩⟩) ⟨by unfold I64; dsimp only; omega, by unfold I64; dsimp only; omega, by unfold I64; dsimp only; omega, by unfold I64; dsimp only; omega, by unfold I64; dsimp only; omega⟩ ⟨by unfold I64; dsimp only; omega, by unfold I64; dsimp only; omega, by unfold I64; dsimp only; omega, by unfold I64; dsimp only; omega, by unfold I64; dsimp only; omega⟩
            have CC := dpass_any (dS ca cc (some ⟨N, 0, none⟩) (some ⟨gs, 0, none⟩) tc a1 c1 A2 k2) (dT (some ⟨v6.heap.size, 0, none⟩) ⟨1, 2, 0, z, z + l + 1⟩ ⟨0, 1, x, x + y, x + y + 5⟩) ⟨0, 1, x, x + y, x + y + 5⟩ (v6.alloc (.cells #[.int .i64 1, .int .i64 2, .int .i64 0, .int .i64 z, .int .i64 (z + l + 1), .int .i64 0, .int .i64 1, .int .i64 x, .int .i64 (x + y), .int .i64 (x + y + 5)] 35)) (HsF.out.keep (Keeps.of_below hv7)) ht7
            rw [HV.out] at CC
            change Calls Try.prog 16 #[.agg #[.int .i64 1, .slice ca 1 cc, .slice (some ⟨N, 0, none⟩) 2 2, .slice (some ⟨gs, 0, none⟩) 2 tc], .agg #[.int .i64 200, .slice none 0 0, .slice none 0 0, .slice (some ⟨v6.heap.size, 0, none⟩) 2 2], .agg #[.int .i64 0, .int .i64 1, .int .i64 x, .int .i64 (x + y), .int .i64 (x + y + 5)]] _ _ at CC
            have bW7 := bW.alloc (.cells #[.int .i64 1, .int .i64 2, .int .i64 0, .int .i64 z, .int .i64 (z + l + 1), .int .i64 0, .int .i64 1, .int .i64 x, .int .i64 (x + y), .int .i64 (x + y + 5)] 35)
            have q0' : (v6.alloc (.cells #[.int .i64 1, .int .i64 2, .int .i64 0, .int .i64 z, .int .i64 (z + l + 1), .int .i64 0, .int .i64 1, .int .i64 x, .int .i64 (x + y), .int .i64 (x + y + 5)] 35)).cell? ⟨p, 0, none⟩ = some (.int .i64 0) := bW7.cell 0
            have q1' : (v6.alloc (.cells #[.int .i64 1, .int .i64 2, .int .i64 0, .int .i64 z, .int .i64 (z + l + 1), .int .i64 0, .int .i64 1, .int .i64 x, .int .i64 (x + y), .int .i64 (x + y + 5)] 35)).cell? ⟨p, 1, none⟩ = some (.int .i64 1) := bW7.cell 1
            have q2' : (v6.alloc (.cells #[.int .i64 1, .int .i64 2, .int .i64 0, .int .i64 z, .int .i64 (z + l + 1), .int .i64 0, .int .i64 1, .int .i64 x, .int .i64 (x + y), .int .i64 (x + y + 5)] 35)).cell? ⟨p, 2, none⟩ = some (.int .i64 x) := bW7.cell 2
            have q3' : (v6.alloc (.cells #[.int .i64 1, .int .i64 2, .int .i64 0, .int .i64 z, .int .i64 (z + l + 1), .int .i64 0, .int .i64 1, .int .i64 x, .int .i64 (x + y), .int .i64 (x + y + 5)] 35)).cell? ⟨p, 3, none⟩ = some (.int .i64 (x + y)) := bW7.cell 3
            have q4' : (v6.alloc (.cells #[.int .i64 1, .int .i64 2, .int .i64 0, .int .i64 z, .int .i64 (z + l + 1), .int .i64 0, .int .i64 1, .int .i64 x, .int .i64 (x + y), .int .i64 (x + y + 5)] 35)).cell? ⟨p, 4, none⟩ = some (.int .i64 (x + y + 5)) := bW7.cell 4
            clear HV bR ht7 bW7
            go_wp2_with fail
            refine CC.mono ?_
            rintro e u ⟨rfl, hb9⟩
            clear CC
            go_wp2_with fail
            go_ret
            exact ⟨rfl, hbF.trans ((hv7.trans (hb9.mono hv7.size)).mono hbF.size)⟩
      | true =>
        have m1 := bX.cell 1
        have n1 := bX.frozen 1
        replace bX := bX.put 1 (.int .i64 2)
        replace bW := bW.far (p := ⟨q, 1, none⟩) (by simp; omega) (.int .i64 2)
        replace bB := bB.far (p := ⟨q, 1, none⟩) (by simp; omega) (.int .i64 2)
        replace hv := hv.setCell (show v2.heap.size ≤ (⟨q, 1, none⟩ : Addr).block by rw [HP.out]; simp; omega) (.int .i64 2)
        have m0 := bX.cell 0
        have n0 := bX.frozen 0
        replace bX := bX.put 0 (.int .i64 0)
        replace bW := bW.far (p := ⟨q, 0, none⟩) (by simp; omega) (.int .i64 0)
        replace bB := bB.far (p := ⟨q, 0, none⟩) (by simp; omega) (.int .i64 0)
        replace hv := hv.setCell (show v2.heap.size ≤ (⟨q, 0, none⟩ : Addr).block by rw [HP.out]; simp; omega) (.int .i64 0)
        have m2 := bX.cell 1
        have n2 := bX.frozen 1
        go_upto_region 15 with fail
        replace bX := bX.put 1 (.int .i64 1)
        replace bW := bW.far (p := ⟨q, 1, none⟩) (by simp; omega) (.int .i64 1)
        replace bB := bB.far (p := ⟨q, 1, none⟩) (by simp; omega) (.int .i64 1)
        replace hv := hv.setCell (show v2.heap.size ≤ (⟨q, 1, none⟩ : Addr).block by rw [HP.out]; simp; omega) (.int .i64 1)
        obtain ⟨v6, hv6⟩ : ∃ v, ((v5.setCell ⟨q, 1, none⟩ (.int .i64 2)).setCell ⟨q, 0, none⟩ (.int .i64 0)).setCell ⟨q, 1, none⟩ (.int .i64 1) = v := ⟨_, rfl⟩
        rw [hv6] at bW bB bX hv ⊢
        clear hv6
        have s0 := bB.cell 0
        have s1 := bB.cell 1
        have s2 := bB.cell 2
        have s3 := bB.cell 3
        have y0' : v6.cell? ⟨p, 0, none⟩ = some (.int .i64 0) := bW.cell 0
        have y1' : v6.cell? ⟨p, 1, none⟩ = some (.int .i64 1) := bW.cell 1
        have y2' : v6.cell? ⟨p, 2, none⟩ = some (.int .i64 x) := bW.cell 2
        have y3' : v6.cell? ⟨p, 3, none⟩ = some (.int .i64 (x + y)) := bW.cell 3
        have y4' : v6.cell? ⟨p, 4, none⟩ = some (.int .i64 (x + y + 5)) := bW.cell 4
        have e0 := bX.cell 0
        have e1 := bX.cell 1
        have e2 := bX.cell 2
        have e3 := bX.cell 3
        have e4 := bX.cell 4
        by_cases h1 : x ≤ z
        · have g1 : decide (x ≤ z) = true := by simpa using h1
          have g3 : decide (z < x) = false := by simp; omega
          by_cases h2 : z < x + y
          · have g2 : decide (z < x + y) = true := by simpa using h2
            have HV : Hid (passV (dS ca cc (some ⟨N, 0, none⟩) (some ⟨gs, 0, none⟩) tc a1 c1 A2 k2) (dT (some ⟨v6.heap.size, 0, none⟩) ⟨0, 1, 0, z, z + l + 1⟩ ⟨0, 1, x, x + y, x + y + 5⟩) ⟨0, 1, x, x + y, x + y + 5⟩ = ((0 : Nat) : Int)) := hidp (ds_v ca cc (some ⟨N, 0, none⟩) (some ⟨gs, 0, none⟩) tc a1 c1 A2 k2 _ (ds_same ca cc (some ⟨N, 0, none⟩) (some ⟨gs, 0, none⟩) tc a1 c1 A2 k2 x (x + y) (x + y + 5) z (z + l + 1)))
            have bR := Bk.new v6 35 #[.int .i64 0, .int .i64 1, .int .i64 0, .int .i64 z, .int .i64 (z + l + 1), .int .i64 0, .int .i64 1, .int .i64 x, .int .i64 (x + y), .int .i64 (x + y + 5)]
            have hv7 := hv.alloc hv.size (.cells #[.int .i64 0, .int .i64 1, .int .i64 0, .int .i64 z, .int .i64 (z + l + 1), .int .i64 0, .int .i64 1, .int .i64 x, .int .i64 (x + y), .int .i64 (x + y + 5)] 35)
            have ht7 : TraceOk (v6.alloc (.cells #[.int .i64 0, .int .i64 1, .int .i64 0, .int .i64 z, .int .i64 (z + l + 1), .int .i64 0, .int .i64 1, .int .i64 x, .int .i64 (x + y), .int .i64 (x + y + 5)] 35)) (dT (some ⟨v6.heap.size, 0, none⟩) ⟨0, 1, 0, z, z + l + 1⟩ ⟨0, 1, x, x + y, x + y + 5⟩) := dt_ok (.inr ⟨_, _, rfl, fun i hi => by
                have hi : i < 2 := hi
                match i, hi with
                | 0, _ => exact ⟨bR.cell 0, bR.cell 1, bR.cell 2, bR.cell 3, bR.cell 4⟩
                | 1, _ => exact ⟨bR.cell 5, bR.cell 6, bR.cell 7, bR.cell 8, bR.cell 9⟩⟩) ⟨by unfold I64; dsimp only; omega, by unfold I64; dsimp only; omega, by unfold I64; dsimp only; omega, by unfold I64; dsimp only; omega, by unfold I64; dsimp only; omega⟩ ⟨by unfold I64; dsimp only; omega, by unfold I64; dsimp only; omega, by unfold I64; dsimp only; omega, by unfold I64; dsimp only; omega, by unfold I64; dsimp only; omega⟩
            have CC := dpass_any (dS ca cc (some ⟨N, 0, none⟩) (some ⟨gs, 0, none⟩) tc a1 c1 A2 k2) (dT (some ⟨v6.heap.size, 0, none⟩) ⟨0, 1, 0, z, z + l + 1⟩ ⟨0, 1, x, x + y, x + y + 5⟩) ⟨0, 1, x, x + y, x + y + 5⟩ (v6.alloc (.cells #[.int .i64 0, .int .i64 1, .int .i64 0, .int .i64 z, .int .i64 (z + l + 1), .int .i64 0, .int .i64 1, .int .i64 x, .int .i64 (x + y), .int .i64 (x + y + 5)] 35)) (HsF.out.keep (Keeps.of_below hv7)) ht7
            rw [HV.out] at CC
            change Calls Try.prog 16 #[.agg #[.int .i64 1, .slice ca 1 cc, .slice (some ⟨N, 0, none⟩) 2 2, .slice (some ⟨gs, 0, none⟩) 2 tc], .agg #[.int .i64 200, .slice none 0 0, .slice none 0 0, .slice (some ⟨v6.heap.size, 0, none⟩) 2 2], .agg #[.int .i64 0, .int .i64 1, .int .i64 x, .int .i64 (x + y), .int .i64 (x + y + 5)]] _ _ at CC
            have bW7 := bW.alloc (.cells #[.int .i64 0, .int .i64 1, .int .i64 0, .int .i64 z, .int .i64 (z + l + 1), .int .i64 0, .int .i64 1, .int .i64 x, .int .i64 (x + y), .int .i64 (x + y + 5)] 35)
            have q0' : (v6.alloc (.cells #[.int .i64 0, .int .i64 1, .int .i64 0, .int .i64 z, .int .i64 (z + l + 1), .int .i64 0, .int .i64 1, .int .i64 x, .int .i64 (x + y), .int .i64 (x + y + 5)] 35)).cell? ⟨p, 0, none⟩ = some (.int .i64 0) := bW7.cell 0
            have q1' : (v6.alloc (.cells #[.int .i64 0, .int .i64 1, .int .i64 0, .int .i64 z, .int .i64 (z + l + 1), .int .i64 0, .int .i64 1, .int .i64 x, .int .i64 (x + y), .int .i64 (x + y + 5)] 35)).cell? ⟨p, 1, none⟩ = some (.int .i64 1) := bW7.cell 1
            have q2' : (v6.alloc (.cells #[.int .i64 0, .int .i64 1, .int .i64 0, .int .i64 z, .int .i64 (z + l + 1), .int .i64 0, .int .i64 1, .int .i64 x, .int .i64 (x + y), .int .i64 (x + y + 5)] 35)).cell? ⟨p, 2, none⟩ = some (.int .i64 x) := bW7.cell 2
            have q3' : (v6.alloc (.cells #[.int .i64 0, .int .i64 1, .int .i64 0, .int .i64 z, .int .i64 (z + l + 1), .int .i64 0, .int .i64 1, .int .i64 x, .int .i64 (x + y), .int .i64 (x + y + 5)] 35)).cell? ⟨p, 3, none⟩ = some (.int .i64 (x + y)) := bW7.cell 3
            have q4' : (v6.alloc (.cells #[.int .i64 0, .int .i64 1, .int .i64 0, .int .i64 z, .int .i64 (z + l + 1), .int .i64 0, .int .i64 1, .int .i64 x, .int .i64 (x + y), .int .i64 (x + y + 5)] 35)).cell? ⟨p, 4, none⟩ = some (.int .i64 (x + y + 5)) := bW7.cell 4
            clear HV bR ht7 bW7
            go_wp2_with fail
            refine CC.mono ?_
            rintro e u ⟨rfl, hb9⟩
            clear CC
            go_wp2_with fail
            go_ret
            exact ⟨rfl, hbF.trans ((hv7.trans (hb9.mono hv7.size)).mono hbF.size)⟩
          · have g2 : decide (z < x + y) = false := by simpa using h2
            have HV : Hid (passV (dS ca cc (some ⟨N, 0, none⟩) (some ⟨gs, 0, none⟩) tc a1 c1 A2 k2) (dT (some ⟨v6.heap.size, 0, none⟩) ⟨0, 1, 0, z, z + l + 1⟩ ⟨0, 1, x, x + y, x + y + 5⟩) ⟨0, 1, x, x + y, x + y + 5⟩ = ((0 : Nat) : Int)) := hidp (ds_v ca cc (some ⟨N, 0, none⟩) (some ⟨gs, 0, none⟩) tc a1 c1 A2 k2 _ (ds_same ca cc (some ⟨N, 0, none⟩) (some ⟨gs, 0, none⟩) tc a1 c1 A2 k2 x (x + y) (x + y + 5) z (z + l + 1)))
            have bR := Bk.new v6 35 #[.int .i64 0, .int .i64 1, .int .i64 0, .int .i64 z, .int .i64 (z + l + 1), .int .i64 0, .int .i64 1, .int .i64 x, .int .i64 (x + y), .int .i64 (x + y + 5)]
            have hv7 := hv.alloc hv.size (.cells #[.int .i64 0, .int .i64 1, .int .i64 0, .int .i64 z, .int .i64 (z + l + 1), .int .i64 0, .int .i64 1, .int .i64 x, .int .i64 (x + y), .int .i64 (x + y + 5)] 35)
            have ht7 : TraceOk (v6.alloc (.cells #[.int .i64 0, .int .i64 1, .int .i64 0, .int .i64 z, .int .i64 (z + l + 1), .int .i64 0, .int .i64 1, .int .i64 x, .int .i64 (x + y), .int .i64 (x + y + 5)] 35)) (dT (some ⟨v6.heap.size, 0, none⟩) ⟨0, 1, 0, z, z + l + 1⟩ ⟨0, 1, x, x + y, x + y + 5⟩) := dt_ok (.inr ⟨_, _, rfl, fun i hi => by
                have hi : i < 2 := hi
                match i, hi with
                | 0, _ => exact ⟨bR.cell 0, bR.cell 1, bR.cell 2, bR.cell 3, bR.cell 4⟩
                | 1, _ => exact ⟨bR.cell 5, bR.cell 6, bR.cell 7, bR.cell 8, bR.cell 9⟩⟩) ⟨by unfold I64; dsimp only; omega, by unfold I64; dsimp only; omega, by unfold I64; dsimp only; omega, by unfold I64; dsimp only; omega, by unfold I64; dsimp only; omega⟩ ⟨by unfold I64; dsimp only; omega, by unfold I64; dsimp only; omega, by unfold I64; dsimp only; omega, by unfold I64; dsimp only; omega, by unfold I64; dsimp only; omega⟩
            have CC := dpass_any (dS ca cc (some ⟨N, 0, none⟩) (some ⟨gs, 0, none⟩) tc a1 c1 A2 k2) (dT (some ⟨v6.heap.size, 0, none⟩) ⟨0, 1, 0, z, z + l + 1⟩ ⟨0, 1, x, x + y, x + y + 5⟩) ⟨0, 1, x, x + y, x + y + 5⟩ (v6.alloc (.cells #[.int .i64 0, .int .i64 1, .int .i64 0, .int .i64 z, .int .i64 (z + l + 1), .int .i64 0, .int .i64 1, .int .i64 x, .int .i64 (x + y), .int .i64 (x + y + 5)] 35)) (HsF.out.keep (Keeps.of_below hv7)) ht7
            rw [HV.out] at CC
            change Calls Try.prog 16 #[.agg #[.int .i64 1, .slice ca 1 cc, .slice (some ⟨N, 0, none⟩) 2 2, .slice (some ⟨gs, 0, none⟩) 2 tc], .agg #[.int .i64 200, .slice none 0 0, .slice none 0 0, .slice (some ⟨v6.heap.size, 0, none⟩) 2 2], .agg #[.int .i64 0, .int .i64 1, .int .i64 x, .int .i64 (x + y), .int .i64 (x + y + 5)]] _ _ at CC
            have bW7 := bW.alloc (.cells #[.int .i64 0, .int .i64 1, .int .i64 0, .int .i64 z, .int .i64 (z + l + 1), .int .i64 0, .int .i64 1, .int .i64 x, .int .i64 (x + y), .int .i64 (x + y + 5)] 35)
            have q0' : (v6.alloc (.cells #[.int .i64 0, .int .i64 1, .int .i64 0, .int .i64 z, .int .i64 (z + l + 1), .int .i64 0, .int .i64 1, .int .i64 x, .int .i64 (x + y), .int .i64 (x + y + 5)] 35)).cell? ⟨p, 0, none⟩ = some (.int .i64 0) := bW7.cell 0
            have q1' : (v6.alloc (.cells #[.int .i64 0, .int .i64 1, .int .i64 0, .int .i64 z, .int .i64 (z + l + 1), .int .i64 0, .int .i64 1, .int .i64 x, .int .i64 (x + y), .int .i64 (x + y + 5)] 35)).cell? ⟨p, 1, none⟩ = some (.int .i64 1) := bW7.cell 1
            have q2' : (v6.alloc (.cells #[.int .i64 0, .int .i64 1, .int .i64 0, .int .i64 z, .int .i64 (z + l + 1), .int .i64 0, .int .i64 1, .int .i64 x, .int .i64 (x + y), .int .i64 (x + y + 5)] 35)).cell? ⟨p, 2, none⟩ = some (.int .i64 x) := bW7.cell 2
            have q3' : (v6.alloc (.cells #[.int .i64 0, .int .i64 1, .int .i64 0, .int .i64 z, .int .i64 (z + l + 1), .int .i64 0, .int .i64 1, .int .i64 x, .int .i64 (x + y), .int .i64 (x + y + 5)] 35)).cell? ⟨p, 3, none⟩ = some (.int .i64 (x + y)) := bW7.cell 3
            have q4' : (v6.alloc (.cells #[.int .i64 0, .int .i64 1, .int .i64 0, .int .i64 z, .int .i64 (z + l + 1), .int .i64 0, .int .i64 1, .int .i64 x, .int .i64 (x + y), .int .i64 (x + y + 5)] 35)).cell? ⟨p, 4, none⟩ = some (.int .i64 (x + y + 5)) := bW7.cell 4
            clear HV bR ht7 bW7
            go_wp2_with fail
            refine CC.mono ?_
            rintro e u ⟨rfl, hb9⟩
            clear CC
            go_wp2_with fail
            go_ret
            exact ⟨rfl, hbF.trans ((hv7.trans (hb9.mono hv7.size)).mono hbF.size)⟩
        · have g1 : decide (x ≤ z) = false := by simpa using h1
          have g3 : decide (z < x) = true := by simp; omega
          by_cases h2 : x < z + l + 1
          · have g2 : decide (x < z + l + 1) = true := by simpa using h2
            have HV : Hid (passV (dS ca cc (some ⟨N, 0, none⟩) (some ⟨gs, 0, none⟩) tc a1 c1 A2 k2) (dT (some ⟨v6.heap.size, 0, none⟩) ⟨0, 1, 0, z, z + l + 1⟩ ⟨0, 1, x, x + y, x + y + 5⟩) ⟨0, 1, x, x + y, x + y + 5⟩ = ((0 : Nat) : Int)) := hidp (ds_v ca cc (some ⟨N, 0, none⟩) (some ⟨gs, 0, none⟩) tc a1 c1 A2 k2 _ (ds_same ca cc (some ⟨N, 0, none⟩) (some ⟨gs, 0, none⟩) tc a1 c1 A2 k2 x (x + y) (x + y + 5) z (z + l + 1)))
            have bR := Bk.new v6 35 #[.int .i64 0, .int .i64 1, .int .i64 0, .int .i64 z, .int .i64 (z + l + 1), .int .i64 0, .int .i64 1, .int .i64 x, .int .i64 (x + y), .int .i64 (x + y + 5)]
            have hv7 := hv.alloc hv.size (.cells #[.int .i64 0, .int .i64 1, .int .i64 0, .int .i64 z, .int .i64 (z + l + 1), .int .i64 0, .int .i64 1, .int .i64 x, .int .i64 (x + y), .int .i64 (x + y + 5)] 35)
            have ht7 : TraceOk (v6.alloc (.cells #[.int .i64 0, .int .i64 1, .int .i64 0, .int .i64 z, .int .i64 (z + l + 1), .int .i64 0, .int .i64 1, .int .i64 x, .int .i64 (x + y), .int .i64 (x + y + 5)] 35)) (dT (some ⟨v6.heap.size, 0, none⟩) ⟨0, 1, 0, z, z + l + 1⟩ ⟨0, 1, x, x + y, x + y + 5⟩) := dt_ok (.inr ⟨_, _, rfl, fun i hi => by
                have hi : i < 2 := hi
                match i, hi with
                | 0, _ => exact ⟨bR.cell 0, bR.cell 1, bR.cell 2, bR.cell 3, bR.cell 4⟩
                | 1, _ => exact ⟨bR.cell 5, bR.cell 6, bR.cell 7, bR.cell 8, bR.cell 9⟩⟩) ⟨by unfold I64; dsimp only; omega, by unfold I64; dsimp only; omega, by unfold I64; dsimp only; omega, by unfold I64; dsimp only; omega, by unfold I64; dsimp only; omega⟩ ⟨by unfold I64; dsimp only; omega, by unfold I64; dsimp only; omega, by unfold I64; dsimp only; omega, by unfold I64; dsimp only; omega, by unfold I64; dsimp only; omega⟩
            have CC := dpass_any (dS ca cc (some ⟨N, 0, none⟩) (some ⟨gs, 0, none⟩) tc a1 c1 A2 k2) (dT (some ⟨v6.heap.size, 0, none⟩) ⟨0, 1, 0, z, z + l + 1⟩ ⟨0, 1, x, x + y, x + y + 5⟩) ⟨0, 1, x, x + y, x + y + 5⟩ (v6.alloc (.cells #[.int .i64 0, .int .i64 1, .int .i64 0, .int .i64 z, .int .i64 (z + l + 1), .int .i64 0, .int .i64 1, .int .i64 x, .int .i64 (x + y), .int .i64 (x + y + 5)] 35)) (HsF.out.keep (Keeps.of_below hv7)) ht7
            rw [HV.out] at CC
            change Calls Try.prog 16 #[.agg #[.int .i64 1, .slice ca 1 cc, .slice (some ⟨N, 0, none⟩) 2 2, .slice (some ⟨gs, 0, none⟩) 2 tc], .agg #[.int .i64 200, .slice none 0 0, .slice none 0 0, .slice (some ⟨v6.heap.size, 0, none⟩) 2 2], .agg #[.int .i64 0, .int .i64 1, .int .i64 x, .int .i64 (x + y), .int .i64 (x + y + 5)]] _ _ at CC
            have bW7 := bW.alloc (.cells #[.int .i64 0, .int .i64 1, .int .i64 0, .int .i64 z, .int .i64 (z + l + 1), .int .i64 0, .int .i64 1, .int .i64 x, .int .i64 (x + y), .int .i64 (x + y + 5)] 35)
            have q0' : (v6.alloc (.cells #[.int .i64 0, .int .i64 1, .int .i64 0, .int .i64 z, .int .i64 (z + l + 1), .int .i64 0, .int .i64 1, .int .i64 x, .int .i64 (x + y), .int .i64 (x + y + 5)] 35)).cell? ⟨p, 0, none⟩ = some (.int .i64 0) := bW7.cell 0
            have q1' : (v6.alloc (.cells #[.int .i64 0, .int .i64 1, .int .i64 0, .int .i64 z, .int .i64 (z + l + 1), .int .i64 0, .int .i64 1, .int .i64 x, .int .i64 (x + y), .int .i64 (x + y + 5)] 35)).cell? ⟨p, 1, none⟩ = some (.int .i64 1) := bW7.cell 1
            have q2' : (v6.alloc (.cells #[.int .i64 0, .int .i64 1, .int .i64 0, .int .i64 z, .int .i64 (z + l + 1), .int .i64 0, .int .i64 1, .int .i64 x, .int .i64 (x + y), .int .i64 (x + y + 5)] 35)).cell? ⟨p, 2, none⟩ = some (.int .i64 x) := bW7.cell 2
            have q3' : (v6.alloc (.cells #[.int .i64 0, .int .i64 1, .int .i64 0, .int .i64 z, .int .i64 (z + l + 1), .int .i64 0, .int .i64 1, .int .i64 x, .int .i64 (x + y), .int .i64 (x + y + 5)] 35)).cell? ⟨p, 3, none⟩ = some (.int .i64 (x + y)) := bW7.cell 3
            have q4' : (v6.alloc (.cells #[.int .i64 0, .int .i64 1, .int .i64 0, .int .i64 z, .int .i64 (z + l + 1), .int .i64 0, .int .i64 1, .int .i64 x, .int .i64 (x + y), .int .i64 (x + y + 5)] 35)).cell? ⟨p, 4, none⟩ = some (.int .i64 (x + y + 5)) := bW7.cell 4
            clear HV bR ht7 bW7
            go_wp2_with fail
            refine CC.mono ?_
            rintro e u ⟨rfl, hb9⟩
            clear CC
            go_wp2_with fail
            go_ret
            exact ⟨rfl, hbF.trans ((hv7.trans (hb9.mono hv7.size)).mono hbF.size)⟩
          · have g2 : decide (x < z + l + 1) = false := by simpa using h2
            have HV : Hid (passV (dS ca cc (some ⟨N, 0, none⟩) (some ⟨gs, 0, none⟩) tc a1 c1 A2 k2) (dT (some ⟨v6.heap.size, 0, none⟩) ⟨0, 1, 0, z, z + l + 1⟩ ⟨0, 1, x, x + y, x + y + 5⟩) ⟨0, 1, x, x + y, x + y + 5⟩ = ((0 : Nat) : Int)) := hidp (ds_v ca cc (some ⟨N, 0, none⟩) (some ⟨gs, 0, none⟩) tc a1 c1 A2 k2 _ (ds_same ca cc (some ⟨N, 0, none⟩) (some ⟨gs, 0, none⟩) tc a1 c1 A2 k2 x (x + y) (x + y + 5) z (z + l + 1)))
            have bR := Bk.new v6 35 #[.int .i64 0, .int .i64 1, .int .i64 0, .int .i64 z, .int .i64 (z + l + 1), .int .i64 0, .int .i64 1, .int .i64 x, .int .i64 (x + y), .int .i64 (x + y + 5)]
            have hv7 := hv.alloc hv.size (.cells #[.int .i64 0, .int .i64 1, .int .i64 0, .int .i64 z, .int .i64 (z + l + 1), .int .i64 0, .int .i64 1, .int .i64 x, .int .i64 (x + y), .int .i64 (x + y + 5)] 35)
            have ht7 : TraceOk (v6.alloc (.cells #[.int .i64 0, .int .i64 1, .int .i64 0, .int .i64 z, .int .i64 (z + l + 1), .int .i64 0, .int .i64 1, .int .i64 x, .int .i64 (x + y), .int .i64 (x + y + 5)] 35)) (dT (some ⟨v6.heap.size, 0, none⟩) ⟨0, 1, 0, z, z + l + 1⟩ ⟨0, 1, x, x + y, x + y + 5⟩) := dt_ok (.inr ⟨_, _, rfl, fun i hi => by
                have hi : i < 2 := hi
                match i, hi with
                | 0, _ => exact ⟨bR.cell 0, bR.cell 1, bR.cell 2, bR.cell 3, bR.cell 4⟩
                | 1, _ => exact ⟨bR.cell 5, bR.cell 6, bR.cell 7, bR.cell 8, bR.cell 9⟩⟩) ⟨by unfold I64; dsimp only; omega, by unfold I64; dsimp only; omega, by unfold I64; dsimp only; omega, by unfold I64; dsimp only; omega, by unfold I64; dsimp only; omega⟩ ⟨by unfold I64; dsimp only; omega, by unfold I64; dsimp only; omega, by unfold I64; dsimp only; omega, by unfold I64; dsimp only; omega, by unfold I64; dsimp only; omega⟩
            have CC := dpass_any (dS ca cc (some ⟨N, 0, none⟩) (some ⟨gs, 0, none⟩) tc a1 c1 A2 k2) (dT (some ⟨v6.heap.size, 0, none⟩) ⟨0, 1, 0, z, z + l + 1⟩ ⟨0, 1, x, x + y, x + y + 5⟩) ⟨0, 1, x, x + y, x + y + 5⟩ (v6.alloc (.cells #[.int .i64 0, .int .i64 1, .int .i64 0, .int .i64 z, .int .i64 (z + l + 1), .int .i64 0, .int .i64 1, .int .i64 x, .int .i64 (x + y), .int .i64 (x + y + 5)] 35)) (HsF.out.keep (Keeps.of_below hv7)) ht7
            rw [HV.out] at CC
            change Calls Try.prog 16 #[.agg #[.int .i64 1, .slice ca 1 cc, .slice (some ⟨N, 0, none⟩) 2 2, .slice (some ⟨gs, 0, none⟩) 2 tc], .agg #[.int .i64 200, .slice none 0 0, .slice none 0 0, .slice (some ⟨v6.heap.size, 0, none⟩) 2 2], .agg #[.int .i64 0, .int .i64 1, .int .i64 x, .int .i64 (x + y), .int .i64 (x + y + 5)]] _ _ at CC
            have bW7 := bW.alloc (.cells #[.int .i64 0, .int .i64 1, .int .i64 0, .int .i64 z, .int .i64 (z + l + 1), .int .i64 0, .int .i64 1, .int .i64 x, .int .i64 (x + y), .int .i64 (x + y + 5)] 35)
            have q0' : (v6.alloc (.cells #[.int .i64 0, .int .i64 1, .int .i64 0, .int .i64 z, .int .i64 (z + l + 1), .int .i64 0, .int .i64 1, .int .i64 x, .int .i64 (x + y), .int .i64 (x + y + 5)] 35)).cell? ⟨p, 0, none⟩ = some (.int .i64 0) := bW7.cell 0
            have q1' : (v6.alloc (.cells #[.int .i64 0, .int .i64 1, .int .i64 0, .int .i64 z, .int .i64 (z + l + 1), .int .i64 0, .int .i64 1, .int .i64 x, .int .i64 (x + y), .int .i64 (x + y + 5)] 35)).cell? ⟨p, 1, none⟩ = some (.int .i64 1) := bW7.cell 1
            have q2' : (v6.alloc (.cells #[.int .i64 0, .int .i64 1, .int .i64 0, .int .i64 z, .int .i64 (z + l + 1), .int .i64 0, .int .i64 1, .int .i64 x, .int .i64 (x + y), .int .i64 (x + y + 5)] 35)).cell? ⟨p, 2, none⟩ = some (.int .i64 x) := bW7.cell 2
            have q3' : (v6.alloc (.cells #[.int .i64 0, .int .i64 1, .int .i64 0, .int .i64 z, .int .i64 (z + l + 1), .int .i64 0, .int .i64 1, .int .i64 x, .int .i64 (x + y), .int .i64 (x + y + 5)] 35)).cell? ⟨p, 3, none⟩ = some (.int .i64 (x + y)) := bW7.cell 3
            have q4' : (v6.alloc (.cells #[.int .i64 0, .int .i64 1, .int .i64 0, .int .i64 z, .int .i64 (z + l + 1), .int .i64 0, .int .i64 1, .int .i64 x, .int .i64 (x + y), .int .i64 (x + y + 5)] 35)).cell? ⟨p, 4, none⟩ = some (.int .i64 (x + y + 5)) := bW7.cell 4
            clear HV bR ht7 bW7
            go_wp2_with fail
            refine CC.mono ?_
            rintro e u ⟨rfl, hb9⟩
            clear CC
            go_wp2_with fail
            go_ret
            exact ⟨rfl, hbF.trans ((hv7.trans (hb9.mono hv7.size)).mono hbF.size)⟩

theorem own : ownKnob Try.prog.godebug = none := by kernel_rfl
theorem laidOut : laidOutB Try.prog = true := by kernel_rfl

/-! THE ROW's STEP -/
set_option maxRecDepth 100000 in
theorem lifted (os : Os) (started : os.Started) (H : Type) (enc : TypeId × Value → H) :
    ReturnsInHanded {} Try.checked os 6 .any (Rows.delayShapesSpec.pre6 enc Try.prog Try.f6 Rows.delayShapesRow.domain false) (Rows.delayShapesSpec.post enc Try.prog Try.f6 false true false false) := by
  refine returnsInHanded_of_change (C := Try.checked) own started (by kernel_rfl) Try.func6
    (ChangeSpec.witness6 (enc := enc) (C := Try.checked) false ⟨#[], #[.int .u8 0, .int .u8 0, .int .u8 0, .int .u8 0, .bool false, .bool false], []⟩ 8 (by kernel_rfl) (by kernel_rfl) (by kernel_rfl) (by kernel_rfl)) ?_
  intro W base args ds gs before hval0 hW hcnd _
  have hval : ∀ (j : Nat) t v, Try.f6.params[j]? = some t → args[j]? = some v → Value.okWide Try.prog W .any base t v := hval0
  have hW' := hW
  obtain ⟨p, q, hA0, hV, rfl, hfz, hnd⟩ := hW
  have hA : DataW.TrodAll enc Try.prog W 0 (fun _ => true) true Try.f6.params.toList args.toList ds p := hA0
  rw [Try.params6] at hA hval
  obtain ⟨v0, vs0, d0, ds0, p0, q0, hargs, rfl, rfl, h0, r0⟩ := trodAll_cons hA
  obtain ⟨v1, vs1, d1, ds1, p1, q1, rfl, rfl, rfl, h1, r1⟩ := trodAll_cons r0
  obtain ⟨v2, vs2, d2, ds2, p2, q2, rfl, rfl, rfl, h2, r2⟩ := trodAll_cons r1
  obtain ⟨v3, vs3, d3, ds3, p3, q3, rfl, rfl, rfl, h3, r3⟩ := trodAll_cons r2
  obtain ⟨v4, vs4, d4, ds4, p4, q4, rfl, rfl, rfl, h4, r4⟩ := trodAll_cons r3
  obtain ⟨v5, vs5, d5, ds5, p5, q5, rfl, rfl, rfl, h5, r5⟩ := trodAll_cons r4
  obtain ⟨rfl, rfl, rfl⟩ := trodAll_nil r5
  obtain rfl : args = #[v0, v1, v2, v3, v4, v5] := by cases args; simp_all
  obtain ⟨rfl, rfl⟩ := trodVars_none hV
  obtain ⟨a0, rfl, rfl, rfl, w0⟩ := open_int Try.underlying5 (hval 0 5 v0 rfl rfl) h0
  obtain ⟨a1, rfl, rfl, rfl, w1⟩ := open_int Try.underlying5 (hval 1 5 v1 rfl rfl) h1
  obtain ⟨a2, rfl, rfl, rfl, w2⟩ := open_int Try.underlying5 (hval 2 5 v2 rfl rfl) h2
  obtain ⟨a3, rfl, rfl, rfl, w3⟩ := open_int Try.underlying5 (hval 3 5 v3 rfl rfl) h3
  obtain ⟨a4, rfl, rfl, rfl⟩ := open_bool Try.underlying4 (hval 4 4 v4 rfl rfl) h4
  obtain ⟨a5, rfl, rfl, rfl⟩ := open_bool Try.underlying4 (hval 5 4 v5 rfl rfl) h5
  clear hA0 hval0
  refine (walk a0 a1 a2 a3 a4 a5 W w0 w1 w2 w3).mono fun e W' ⟨he, bel⟩ => ?_
  subst he
  exact ⟨_, rfl, _, _, _, [], _, [], hW', trodAll_mk1 (shut_bool Try.underlying4 _), (trodAll_cons_mk (shut_int Try.underlying5 w0) (trodAll_cons_mk (shut_int Try.underlying5 w1) (trodAll_cons_mk (shut_int Try.underlying5 w2) (trodAll_cons_mk (shut_int Try.underlying5 w3) (trodAll_cons_mk (shut_bool Try.underlying4 a4) (trodAll_cons_mk (shut_bool Try.underlying4 a5) trodAll_mk0)))))), rfl, bel.frame _, fun h => by cases h⟩

theorem over : Rows.delayShapesRow.holds Try.pinned (OpenSpec.ofChange Rows.delayShapesSpec) :=
  OpenClaim.holds_of_wide 6 Try.f6 rfl rfl rfl rfl rfl rfl rfl ⟨rfl, rfl, rfl, rfl, rfl⟩ rfl rfl rfl rfl rfl (by kernel_rfl) Try.func6 (by kernel_rfl)
    (of_decide_eq_true (by kernel_rfl)) (by unfold Func.isWrapper; first | (rw [if_pos (by decide +kernel)]; kernel_rfl) | (rw [if_neg (by decide +kernel)]; exact ⟨rfl, rfl⟩))
    (fun os started H enc _ => lifted os started H enc)

/-- THE STATEMENT -/
theorem proved : Rows.DelayShapesSaid := over
#print axioms proved
end Go.Proofs.Ytmchjmgifipfoaa.delayShapes

