/- swingbridgelaw8's known answers are as known; few tells whether a set is few. -/
import Derived.Test.YtnfkebdbfflhdaaTaskCopy2
import Derived.Test.YtnfkebdbfflhdaaSame5
import Derived.StillTailTactics
import Derived.Test.YtnfkebdbfflhdaaOkMk
import Derived.Test.YtnfkebdbfflhdaaRef7d
namespace Go.Proofs.Ytnfkebdbfflhdaa
open Go.ChangeShapes Go.WideShapes Go.ChangeAt Go.RowKit
set_option linter.unusedVariables false
set_option linter.unusedSimpArgs false
def emptyS : SetR := ⟨0, none, 0, [], none, 0, [], none, 0, []⟩
def emptyT : TaskR := ⟨⟨#[]⟩, 0, 0, 0, 0, none, 0, []⟩
theorem empty8_ok (w : World) : SetOk w emptyS := ⟨by decide, ⟨⟨fun _ => ⟨rfl, rfl⟩, by decide, by decide⟩, .inl rfl, by simp [emptyS]⟩, ⟨⟨fun _ => ⟨rfl, rfl⟩, by decide, by decide⟩, .inl rfl, by simp [emptyS]⟩, ⟨⟨fun _ => ⟨rfl, rfl⟩, by decide, by decide⟩, .inl rfl, by simp [emptyS]⟩⟩
theorem emptyT_ok (w : World) : TaskOk w emptyT := ⟨by decide, by decide, by decide, by decide, by decide, ⟨fun _ => ⟨rfl, rfl⟩, by decide, by decide⟩, .inl rfl, by simp [emptyT]⟩
theorem oneOk {a1 a2 a3 a4 : Option Addr} {c1 c2 c3 c4 : Nat} : okS ⟨1, a1, c1, [1], a2, c2, [0], a3, c3, [⟨⟨#[97]⟩, 10, 10, 1, 0, a4, c4, [⟨3, 2, 0⟩]⟩]⟩ = true := by
  refine okS_mk (by show inB 1 1 3 = true; decide) (by show inB ((1 : Nat) : Int) 1 3 = true; decide) (by show allB [1] 1 3 = true; decide) (by show 1 ≤ 4; decide) (by show allB [0] 0 (((1 : Nat) : Int) - 1) = true; decide) (by show 1 ≤ 1; decide) (by show 1 ≤ 6; decide) (fun k hk => ?_)
  have : k = 0 := by simp at hk; omega
  subst this
  refine ⟨?_, (by show inB 0 0 (((1 : Nat) : Int) - 1) = true; decide), (by rfl), (by show partsB [⟨3, 2, 0⟩] ((1 : Nat) : Int) = true; decide)⟩
  show formB ⟨⟨#[97]⟩, 10, 10, 1, 0, a4, c4, [⟨3, 2, 0⟩]⟩ = true
  unfold formB; dsimp only; rw [nameA]; decide
theorem ok_none {s : SetR} (h : okS s = true) : chkAt s = -1 ∧ chkE s = 0 := by
  obtain ⟨h1, h2⟩ := (okS_iff s).1 h
  exact chk_none h1 h2
theorem sameS_refl (s : SetR) : sameS s s = true := by
  unfold sameS; rw [sameTs_true rfl (fun k hk => (sameF.refl _).T)]; simp
theorem k8_keep {n : Nat} {u v : World} (h : Below u.heap.size u v) (cs : ((u.cell? ⟨n + 1 + 1 + 1 + 1, 0, none⟩ = some (.int .i64 1) ∧ u.cell? ⟨n + 1 + 1 + 1 + 1, 1, none⟩ = some (.slice (some ⟨n, 0, none⟩) 1 1) ∧ u.cell? ⟨n + 1 + 1 + 1 + 1, 2, none⟩ = some (.slice (some ⟨n + 1, 0, none⟩) 1 1) ∧ u.cell? ⟨n + 1 + 1 + 1 + 1, 3, none⟩ = some (.slice (some ⟨n + 1 + 1 + 1, 0, none⟩) 1 1)) ∧ u.cell? ⟨n + 1 + 1 + 1, 0, none⟩ = some (.string ⟨#[97]⟩) ∧ u.cell? ⟨n + 1 + 1 + 1, 1, none⟩ = some (.int .i64 10) ∧ u.cell? ⟨n + 1 + 1 + 1, 2, none⟩ = some (.int .i64 10) ∧ u.cell? ⟨n + 1 + 1 + 1, 3, none⟩ = some (.int .i64 1) ∧ u.cell? ⟨n + 1 + 1 + 1, 4, none⟩ = some (.int .i64 0) ∧ u.cell? ⟨n + 1 + 1 + 1, 5, none⟩ = some (.slice (some ⟨n + 1 + 1, 0, none⟩) 1 1))) : ((v.cell? ⟨n + 1 + 1 + 1 + 1, 0, none⟩ = some (.int .i64 1) ∧ v.cell? ⟨n + 1 + 1 + 1 + 1, 1, none⟩ = some (.slice (some ⟨n, 0, none⟩) 1 1) ∧ v.cell? ⟨n + 1 + 1 + 1 + 1, 2, none⟩ = some (.slice (some ⟨n + 1, 0, none⟩) 1 1) ∧ v.cell? ⟨n + 1 + 1 + 1 + 1, 3, none⟩ = some (.slice (some ⟨n + 1 + 1 + 1, 0, none⟩) 1 1)) ∧ v.cell? ⟨n + 1 + 1 + 1, 0, none⟩ = some (.string ⟨#[97]⟩) ∧ v.cell? ⟨n + 1 + 1 + 1, 1, none⟩ = some (.int .i64 10) ∧ v.cell? ⟨n + 1 + 1 + 1, 2, none⟩ = some (.int .i64 10) ∧ v.cell? ⟨n + 1 + 1 + 1, 3, none⟩ = some (.int .i64 1) ∧ v.cell? ⟨n + 1 + 1 + 1, 4, none⟩ = some (.int .i64 0) ∧ v.cell? ⟨n + 1 + 1 + 1, 5, none⟩ = some (.slice (some ⟨n + 1 + 1, 0, none⟩) 1 1)) :=
  let k := Keeps.of_below h
  ⟨⟨k _ _ cs.1.1, k _ _ cs.1.2.1, k _ _ cs.1.2.2.1, k _ _ cs.1.2.2.2⟩, k _ _ cs.2.1, k _ _ cs.2.2.1, k _ _ cs.2.2.2.1, k _ _ cs.2.2.2.2.1, k _ _ cs.2.2.2.2.2.1, k _ _ cs.2.2.2.2.2.2⟩
set_option maxHeartbeats 4000000 in
set_option maxRecDepth 100000 in
theorem known8_any (w : World) : Calls Try.prog 18 #[] w fun e w' => e = .returned (.bool true) ∧ Below w.heap.size w w' := by
  have M := made4 w 1 [1] [0] ⟨#[97]⟩ 10 10 1 0 [⟨3, 2, 0⟩] (by decide) (by decide) (by decide) (by decide) (by decide) (by decide) (by decide) (by decide) (by simp [PartM.wf, I64]) (by decide) (by decide) (by decide)
  have hs : SetOk ((((w.alloc (.cells #[.int .i64 1] 3)).alloc (.cells #[.int .i64 0] 3)).alloc (.cells #[.int .i64 3, .int .i64 2, .int .i64 0] 40)).alloc (.cells #[.string ⟨#[97]⟩, .int .i64 10, .int .i64 10, .int .i64 1, .int .i64 0, .slice (some ⟨w.heap.size + 1 + 1, 0, none⟩) 1 1] 37)) ⟨1, some ⟨w.heap.size, 0, none⟩, 1, [1], some ⟨w.heap.size + 1, 0, none⟩, 1, [0], some ⟨w.heap.size + 1 + 1 + 1, 0, none⟩, 1, [⟨⟨#[97]⟩, 10, 10, 1, 0, some ⟨w.heap.size + 1 + 1, 0, none⟩, 1, [⟨3, 2, 0⟩]⟩]⟩ := M.1
  have hb : Below w.heap.size w ((((w.alloc (.cells #[.int .i64 1] 3)).alloc (.cells #[.int .i64 0] 3)).alloc (.cells #[.int .i64 3, .int .i64 2, .int .i64 0] 40)).alloc (.cells #[.string ⟨#[97]⟩, .int .i64 10, .int .i64 10, .int .i64 1, .int .i64 0, .slice (some ⟨w.heap.size + 1 + 1, 0, none⟩) 1 1] 37)) := M.2
  clear M
  have ok := ok_none (oneOk (a1 := some ⟨w.heap.size, 0, none⟩) (a2 := some ⟨w.heap.size + 1, 0, none⟩) (a3 := some ⟨w.heap.size + 1 + 1 + 1, 0, none⟩) (a4 := some ⟨w.heap.size + 1 + 1, 0, none⟩) (c1 := 1) (c2 := 1) (c3 := 1) (c4 := 1))
  obtain ⟨v1, v2⟩ := ok
  have bk := Bk.new ((((w.alloc (.cells #[.int .i64 1] 3)).alloc (.cells #[.int .i64 0] 3)).alloc (.cells #[.int .i64 3, .int .i64 2, .int .i64 0] 40)).alloc (.cells #[.string ⟨#[97]⟩, .int .i64 10, .int .i64 10, .int .i64 1, .int .i64 0, .slice (some ⟨w.heap.size + 1 + 1, 0, none⟩) 1 1] 37)) 25 #[.int .i64 1, .slice (some ⟨w.heap.size, 0, none⟩) 1 1, .slice (some ⟨w.heap.size + 1, 0, none⟩) 1 1, .slice (some ⟨w.heap.size + 1 + 1 + 1, 0, none⟩) 1 1]
  rw [show ((((w.alloc (.cells #[.int .i64 1] 3)).alloc (.cells #[.int .i64 0] 3)).alloc (.cells #[.int .i64 3, .int .i64 2, .int .i64 0] 40)).alloc (.cells #[.string ⟨#[97]⟩, .int .i64 10, .int .i64 10, .int .i64 1, .int .i64 0, .slice (some ⟨w.heap.size + 1 + 1, 0, none⟩) 1 1] 37)).heap.size = w.heap.size + 1 + 1 + 1 + 1 by simp] at bk
  replace hs := hs.keep (Keeps.alloc _ (.cells #[.int .i64 1, .slice (some ⟨w.heap.size, 0, none⟩) 1 1, .slice (some ⟨w.heap.size + 1, 0, none⟩) 1 1, .slice (some ⟨w.heap.size + 1 + 1 + 1, 0, none⟩) 1 1] 25))
  replace hb := hb.alloc hb.size (.cells #[.int .i64 1, .slice (some ⟨w.heap.size, 0, none⟩) 1 1, .slice (some ⟨w.heap.size + 1, 0, none⟩) 1 1, .slice (some ⟨w.heap.size + 1 + 1 + 1, 0, none⟩) 1 1] 25)
  have V1 := hidp v1
  have V2 := hidp v2
  have ve : chkAt emptyS = -1 ∧ chkE emptyS = 10 := chk_frame (by decide) (by decide)
  obtain ⟨ve1, ve2⟩ := ve
  have VE1 := hidp ve1
  have VE2 := hidp ve2
  clear v1 v2 ve1 ve2
  go_enter Try.func18, Try.ntmps18
  go_wp2_with fail
  refine (check_any ⟨1, some ⟨w.heap.size, 0, none⟩, 1, [1], some ⟨w.heap.size + 1, 0, none⟩, 1, [0], some ⟨w.heap.size + 1 + 1 + 1, 0, none⟩, 1, [⟨⟨#[97]⟩, 10, 10, 1, 0, some ⟨w.heap.size + 1 + 1, 0, none⟩, 1, [⟨3, 2, 0⟩]⟩]⟩ _ hs).mono ?_
  rw [V1.out, V2.out]
  rintro e u1 ⟨rfl, hb1⟩
  replace hs := hs.keep (Keeps.of_below hb1)
  replace hb := hb.trans (hb1.mono hb.size)
  replace bk := bk.below hb1
  clear hb1
  go_wp2_with fail
  refine (check_any emptyS _ (empty8_ok _)).mono ?_
  rw [VE1.out, VE2.out]
  rintro e u2 ⟨rfl, hb2⟩
  replace hs : SetOk u2.drew ⟨1, some ⟨w.heap.size, 0, none⟩, 1, [1], some ⟨w.heap.size + 1, 0, none⟩, 1, [0], some ⟨w.heap.size + 1 + 1 + 1, 0, none⟩, 1, [⟨⟨#[97]⟩, 10, 10, 1, 0, some ⟨w.heap.size + 1 + 1, 0, none⟩, 1, [⟨3, 2, 0⟩]⟩]⟩ := (hs.keep (Keeps.of_below hb2)).keep (Keeps.drew u2)
  replace hb : Below w.heap.size w u2.drew := below_drewN (hb.trans (hb2.mono hb.size)) 1
  replace bk : Bk u2.drew (w.heap.size + 1 + 1 + 1 + 1) 25 #[.int .i64 1, .slice (some ⟨w.heap.size, 0, none⟩) 1 1, .slice (some ⟨w.heap.size + 1, 0, none⟩) 1 1, .slice (some ⟨w.heap.size + 1 + 1 + 1, 0, none⟩) 1 1] := (bk.below hb2).drewN 1
  clear hb2
  have tcl : TaskCells u2.drew (w.heap.size + 1 + 1 + 1) 0 ⟨⟨#[97]⟩, 10, 10, 1, 0, some ⟨w.heap.size + 1 + 1, 0, none⟩, 1, [⟨3, 2, 0⟩]⟩ := by
    have := hs.tasks.at_.resolve_left (by simp)
    obtain ⟨b, o, e, h⟩ := this
    injection e with e; injection e with e1 e2; subst e1; subst e2
    have := h 0 (by simp)
    simpa using this
  have cs := And.intro (Z4 bk) tcl
  unfold TaskCells at cs
  simp only [Nat.zero_add] at cs
  dsimp only [List.length_cons, List.length_nil, Nat.zero_add] at cs
  go_wp2_with fail
  refine wp_region_held_drew (S := fun w' => (w'.cell? ⟨w.heap.size + 1 + 1 + 1 + 1, 0, none⟩ = some (.int .i64 1) ∧ w'.cell? ⟨w.heap.size + 1 + 1 + 1 + 1, 1, none⟩ = some (.slice (some ⟨w.heap.size, 0, none⟩) 1 1) ∧ w'.cell? ⟨w.heap.size + 1 + 1 + 1 + 1, 2, none⟩ = some (.slice (some ⟨w.heap.size + 1, 0, none⟩) 1 1) ∧ w'.cell? ⟨w.heap.size + 1 + 1 + 1 + 1, 3, none⟩ = some (.slice (some ⟨w.heap.size + 1 + 1 + 1, 0, none⟩) 1 1)) ∧ w'.cell? ⟨w.heap.size + 1 + 1 + 1, 0, none⟩ = some (.string ⟨#[97]⟩) ∧ w'.cell? ⟨w.heap.size + 1 + 1 + 1, 1, none⟩ = some (.int .i64 10) ∧ w'.cell? ⟨w.heap.size + 1 + 1 + 1, 2, none⟩ = some (.int .i64 10) ∧ w'.cell? ⟨w.heap.size + 1 + 1 + 1, 3, none⟩ = some (.int .i64 1) ∧ w'.cell? ⟨w.heap.size + 1 + 1 + 1, 4, none⟩ = some (.int .i64 0) ∧ w'.cell? ⟨w.heap.size + 1 + 1 + 1, 5, none⟩ = some (.slice (some ⟨w.heap.size + 1 + 1, 0, none⟩) 1 1)) (by kernel_rfl) ?_ (fun hHeld => ?_)
  · exact cs
  refine wpAnyH_take (i := 0) (v := ?_) rfl (by kernel_rfl) (by kernel_rfl) (by kernel_rfl) (fun _ _ _ h => h) (Or.inl ⟨by rfl, ?_⟩) (by assumption) ?_
  rotate_left 1
  · ((intro w hSw; (try dsimp only at hSw); go_simp); (try with_reducible rfl))
  simp only [Act.put, List.setIfInBounds_toArray, List.set_cons_zero, List.set_cons_succ, List.getElem_toArray, List.getElem_cons_zero, List.getElem_cons_succ]
  refine wpAnyH_take (i := 1) (v := ?_) rfl (by kernel_rfl) (by kernel_rfl) (by kernel_rfl) (fun _ _ _ h => h) (Or.inl ⟨by rfl, ?_⟩) (by assumption) ?_
  rotate_left 1
  · ((intro w hSw; (try dsimp only at hSw); go_simp); (try with_reducible rfl))
  simp only [Act.put, List.setIfInBounds_toArray, List.set_cons_zero, List.set_cons_succ, List.getElem_toArray, List.getElem_cons_zero, List.getElem_cons_succ]
  refine wpAnyH_take (i := 2) (v := ?_) rfl (by kernel_rfl) (by kernel_rfl) (by kernel_rfl) (fun _ _ _ h => h) (Or.inl ⟨by rfl, ?_⟩) (by assumption) ?_
  rotate_left 1
  · ((intro w hSw; (try dsimp only at hSw); go_simp); (try with_reducible rfl))
  simp only [Act.put, List.setIfInBounds_toArray, List.set_cons_zero, List.set_cons_succ, List.getElem_toArray, List.getElem_cons_zero, List.getElem_cons_succ]
  refine wpAnyH_take (i := 3) (v := ?_) rfl (by kernel_rfl) (by kernel_rfl) (by kernel_rfl) (fun _ _ _ h => h) (Or.inl ⟨by rfl, ?_⟩) (by assumption) ?_
  rotate_left 1
  · ((intro w hSw; (try dsimp only at hSw); go_simp); (try with_reducible rfl))
  simp only [Act.put, List.setIfInBounds_toArray, List.set_cons_zero, List.set_cons_succ, List.getElem_toArray, List.getElem_cons_zero, List.getElem_cons_succ]
  refine wpAnyH_take (i := 4) (v := ?_) rfl (by kernel_rfl) (by kernel_rfl) (by kernel_rfl) (fun _ _ _ h => h) (Or.inl ⟨by rfl, ?_⟩) (by assumption) ?_
  rotate_left 1
  · ((intro w hSw; (try dsimp only at hSw); go_simp); (try with_reducible rfl))
  simp only [Act.put, List.setIfInBounds_toArray, List.set_cons_zero, List.set_cons_succ, List.getElem_toArray, List.getElem_cons_zero, List.getElem_cons_succ]
  refine wpAnyH_take (i := 5) (v := ?_) rfl (by kernel_rfl) (by kernel_rfl) (by kernel_rfl) (fun _ _ _ h => h) (Or.inl ⟨by rfl, ?_⟩) (by assumption) ?_
  rotate_left 1
  · ((intro w hSw; (try dsimp only at hSw); go_simp); (try with_reducible rfl))
  simp only [Act.put, List.setIfInBounds_toArray, List.set_cons_zero, List.set_cons_succ, List.getElem_toArray, List.getElem_cons_zero, List.getElem_cons_succ]
  refine wpAnyH_take (i := 6) (v := ?_) rfl (by kernel_rfl) (by kernel_rfl) (by kernel_rfl) (fun _ _ _ h => h) (Or.inl ⟨by rfl, ?_⟩) (by assumption) ?_
  rotate_left 1
  · ((intro w hSw; (try dsimp only at hSw); go_simp); (try with_reducible rfl))
  simp only [Act.put, List.setIfInBounds_toArray, List.set_cons_zero, List.set_cons_succ, List.getElem_toArray, List.getElem_cons_zero, List.getElem_cons_succ]
  refine wpAnyH_take (i := 7) (v := ?_) rfl (by kernel_rfl) (by kernel_rfl) (by kernel_rfl) (fun _ _ _ h => h) (Or.inl ⟨by rfl, ?_⟩) (by assumption) ?_
  rotate_left 1
  · ((intro w hSw; (try dsimp only at hSw); go_simp); (try with_reducible rfl))
  simp only [Act.put, List.setIfInBounds_toArray, List.set_cons_zero, List.set_cons_succ, List.getElem_toArray, List.getElem_cons_zero, List.getElem_cons_succ]
  refine wpAnyH_take (i := 8) (v := ?_) rfl (by kernel_rfl) (by kernel_rfl) (by kernel_rfl) (fun _ _ _ h => h) (Or.inl ⟨by rfl, ?_⟩) (by assumption) ?_
  rotate_left 1
  · ((intro w hSw; (try dsimp only at hSw); go_simp); (try with_reducible rfl))
  simp only [Act.put, List.setIfInBounds_toArray, List.set_cons_zero, List.set_cons_succ, List.getElem_toArray, List.getElem_cons_zero, List.getElem_cons_succ]
  refine wpAnyH_take (i := 9) (v := ?_) rfl (by kernel_rfl) (by kernel_rfl) (by kernel_rfl) (fun _ _ _ h => h) (Or.inl ⟨by rfl, ?_⟩) (by assumption) ?_
  rotate_left 1
  · ((intro w hSw; (try dsimp only at hSw); go_simp); (try with_reducible rfl))
  simp only [Act.put, List.setIfInBounds_toArray, List.set_cons_zero, List.set_cons_succ, List.getElem_toArray, List.getElem_cons_zero, List.getElem_cons_succ]
  refine wpAnyH_take (i := 10) (v := ?_) rfl (by kernel_rfl) (by kernel_rfl) (by kernel_rfl) (fun _ _ _ h => h) (Or.inl ⟨by rfl, ?_⟩) (by assumption) ?_
  rotate_left 1
  · ((intro w hSw; (try dsimp only at hSw); go_simp); (try with_reducible rfl))
  simp only [Act.put, List.setIfInBounds_toArray, List.set_cons_zero, List.set_cons_succ, List.getElem_toArray, List.getElem_cons_zero, List.getElem_cons_succ]
  refine wpAnyH_take (i := 11) (v := ?_) rfl (by kernel_rfl) (by kernel_rfl) (by kernel_rfl) (fun _ _ _ h => h) (Or.inl ⟨by rfl, ?_⟩) (by assumption) ?_
  rotate_left 1
  · ((intro w hSw; (try dsimp only at hSw); go_simp); (try with_reducible rfl))
  simp only [Act.put, List.setIfInBounds_toArray, List.set_cons_zero, List.set_cons_succ, List.getElem_toArray, List.getElem_cons_zero, List.getElem_cons_succ]
  refine wpAnyH_take (i := 12) (v := ?_) rfl (by kernel_rfl) (by kernel_rfl) (by kernel_rfl) (fun _ _ _ h => h) (Or.inl ⟨by rfl, ?_⟩) (by assumption) ?_
  rotate_left 1
  · ((intro w hSw; (try dsimp only at hSw); go_simp); (try with_reducible rfl))
  simp only [Act.put, List.setIfInBounds_toArray, List.set_cons_zero, List.set_cons_succ, List.getElem_toArray, List.getElem_cons_zero, List.getElem_cons_succ]
  refine wpAnyH_take (i := 13) (v := ?_) rfl (by kernel_rfl) (by kernel_rfl) (by kernel_rfl) (fun _ _ _ h => h) (Or.inl ⟨by rfl, ?_⟩) (by assumption) ?_
  rotate_left 1
  · ((intro w hSw; (try dsimp only at hSw); go_simp); (try with_reducible rfl))
  simp only [Act.put, List.setIfInBounds_toArray, List.set_cons_zero, List.set_cons_succ, List.getElem_toArray, List.getElem_cons_zero, List.getElem_cons_succ]
  refine wpAnyH_take (i := 14) (v := ?_) rfl (by kernel_rfl) (by kernel_rfl) (by kernel_rfl) (fun _ _ _ h => h) (Or.inl ⟨by rfl, ?_⟩) (by assumption) ?_
  rotate_left 1
  · ((intro w hSw; (try dsimp only at hSw); go_simp); (try with_reducible rfl))
  simp only [Act.put, List.setIfInBounds_toArray, List.set_cons_zero, List.set_cons_succ, List.getElem_toArray, List.getElem_cons_zero, List.getElem_cons_succ]
  refine wpAnyH_take (i := 15) (v := ?_) rfl (by kernel_rfl) (by kernel_rfl) (by kernel_rfl) (fun _ _ _ h => h) (Or.inl ⟨by rfl, ?_⟩) (by assumption) ?_
  rotate_left 1
  · ((intro w hSw; (try dsimp only at hSw); go_simp); (try with_reducible rfl))
  simp only [Act.put, List.setIfInBounds_toArray, List.set_cons_zero, List.set_cons_succ, List.getElem_toArray, List.getElem_cons_zero, List.getElem_cons_succ]
  refine wpAnyH_take (i := 16) (v := ?_) rfl (by kernel_rfl) (by kernel_rfl) (by kernel_rfl) (fun _ _ _ h => h) (Or.inl ⟨by rfl, ?_⟩) (by assumption) ?_
  rotate_left 1
  · ((intro w hSw; (try dsimp only at hSw); go_simp); (try with_reducible rfl))
  simp only [Act.put, List.setIfInBounds_toArray, List.set_cons_zero, List.set_cons_succ, List.getElem_toArray, List.getElem_cons_zero, List.getElem_cons_succ]
  refine wpAnyH_ready (rs := [17]) (by kernel_rfl) (by simp) ?_
  refine AllReadyH.cons rfl (fun K hK => ?_) AllReadyH.nil
  go_simp
  refine (same_any ⟨1, some ⟨w.heap.size, 0, none⟩, 1, [1], some ⟨w.heap.size + 1, 0, none⟩, 1, [0], some ⟨w.heap.size + 1 + 1 + 1, 0, none⟩, 1, [⟨⟨#[97]⟩, 10, 10, 1, 0, some ⟨w.heap.size + 1 + 1, 0, none⟩, 1, [⟨3, 2, 0⟩]⟩]⟩ ⟨1, some ⟨w.heap.size, 0, none⟩, 1, [1], some ⟨w.heap.size + 1, 0, none⟩, 1, [0], some ⟨w.heap.size + 1 + 1 + 1, 0, none⟩, 1, [⟨⟨#[97]⟩, 10, 10, 1, 0, some ⟨w.heap.size + 1 + 1, 0, none⟩, 1, [⟨3, 2, 0⟩]⟩]⟩ _ hs hs).mono ?_
  rw [sameS_refl]
  rintro e u3 ⟨rfl, hb3⟩
  replace hs := hs.keep (Keeps.of_below hb3)
  replace hb := hb.trans (hb3.mono hb.size)
  replace cs := k8_keep hb3 cs
  clear hHeld hb3
  go_wp2_with fail
  refine hK.out _ _ ?_ (fun hHeld => ?_)
  · exact cs
  clear hK K
  try simp only [Act.put, List.setIfInBounds_toArray, List.set_cons_zero, List.set_cons_succ, List.getElem_toArray, List.getElem_cons_zero, List.getElem_cons_succ]
  refine wpAnyH_take (i := 18) (v := ?_) rfl (by kernel_rfl) (by kernel_rfl) (by kernel_rfl) (fun _ _ _ h => h) (Or.inl ⟨by rfl, ?_⟩) (by assumption) ?_
  rotate_left 1
  · ((intro w hSw; (try dsimp only at hSw); go_simp); (try with_reducible rfl))
  simp only [Act.put, List.setIfInBounds_toArray, List.set_cons_zero, List.set_cons_succ, List.getElem_toArray, List.getElem_cons_zero, List.getElem_cons_succ]
  refine wpAnyH_take (i := 19) (v := ?_) rfl (by kernel_rfl) (by kernel_rfl) (by kernel_rfl) (fun _ _ _ h => h) (Or.inl ⟨by rfl, ?_⟩) (by assumption) ?_
  rotate_left 1
  · ((intro w hSw; (try dsimp only at hSw); go_simp); (try with_reducible rfl))
  simp only [Act.put, List.setIfInBounds_toArray, List.set_cons_zero, List.set_cons_succ, List.getElem_toArray, List.getElem_cons_zero, List.getElem_cons_succ]
  refine wpAnyH_take (i := 20) (v := ?_) rfl (by kernel_rfl) (by kernel_rfl) (by kernel_rfl) (fun _ _ _ h => h) (Or.inl ⟨by rfl, ?_⟩) (by assumption) ?_
  rotate_left 1
  · ((intro w hSw; (try dsimp only at hSw); go_simp); (try with_reducible rfl))
  simp only [Act.put, List.setIfInBounds_toArray, List.set_cons_zero, List.set_cons_succ, List.getElem_toArray, List.getElem_cons_zero, List.getElem_cons_succ]
  refine wpAnyH_take (i := 21) (v := ?_) rfl (by kernel_rfl) (by kernel_rfl) (by kernel_rfl) (fun _ _ _ h => h) (Or.inl ⟨by rfl, ?_⟩) (by assumption) ?_
  rotate_left 1
  · ((intro w hSw; (try dsimp only at hSw); go_simp); (try with_reducible rfl))
  simp only [Act.put, List.setIfInBounds_toArray, List.set_cons_zero, List.set_cons_succ, List.getElem_toArray, List.getElem_cons_zero, List.getElem_cons_succ]
  refine wpAnyH_take (i := 22) (v := ?_) rfl (by kernel_rfl) (by kernel_rfl) (by kernel_rfl) (fun _ _ _ h => h) (Or.inl ⟨by rfl, ?_⟩) (by assumption) ?_
  rotate_left 1
  · ((intro w hSw; (try dsimp only at hSw); go_simp); (try with_reducible rfl))
  simp only [Act.put, List.setIfInBounds_toArray, List.set_cons_zero, List.set_cons_succ, List.getElem_toArray, List.getElem_cons_zero, List.getElem_cons_succ]
  refine wpAnyH_take (i := 23) (v := ?_) rfl (by kernel_rfl) (by kernel_rfl) (by kernel_rfl) (fun _ _ _ h => h) (Or.inl ⟨by rfl, ?_⟩) (by assumption) ?_
  rotate_left 1
  · ((intro w hSw; (try dsimp only at hSw); go_simp); (try with_reducible rfl))
  simp only [Act.put, List.setIfInBounds_toArray, List.set_cons_zero, List.set_cons_succ, List.getElem_toArray, List.getElem_cons_zero, List.getElem_cons_succ]
  refine wpAnyH_take (i := 24) (v := ?_) rfl (by kernel_rfl) (by kernel_rfl) (by kernel_rfl) (fun _ _ _ h => h) (Or.inl ⟨by rfl, ?_⟩) (by assumption) ?_
  rotate_left 1
  · ((intro w hSw; (try dsimp only at hSw); go_simp); (try with_reducible rfl))
  simp only [Act.put, List.setIfInBounds_toArray, List.set_cons_zero, List.set_cons_succ, List.getElem_toArray, List.getElem_cons_zero, List.getElem_cons_succ]
  refine wpAnyH_take (i := 25) (v := ?_) rfl (by kernel_rfl) (by kernel_rfl) (by kernel_rfl) (fun _ _ _ h => h) (Or.inl ⟨by rfl, ?_⟩) (by assumption) ?_
  rotate_left 1
  · ((intro w hSw; (try dsimp only at hSw); go_simp); (try with_reducible rfl))
  simp only [Act.put, List.setIfInBounds_toArray, List.set_cons_zero, List.set_cons_succ, List.getElem_toArray, List.getElem_cons_zero, List.getElem_cons_succ]
  refine wpAnyH_take (i := 26) (v := ?_) rfl (by kernel_rfl) (by kernel_rfl) (by kernel_rfl) (fun _ _ _ h => h) (Or.inl ⟨by rfl, ?_⟩) (by assumption) ?_
  rotate_left 1
  · ((intro w hSw; (try dsimp only at hSw); go_simp); (try with_reducible rfl))
  simp only [Act.put, List.setIfInBounds_toArray, List.set_cons_zero, List.set_cons_succ, List.getElem_toArray, List.getElem_cons_zero, List.getElem_cons_succ]
  refine wpAnyH_take (i := 27) (v := ?_) rfl (by kernel_rfl) (by kernel_rfl) (by kernel_rfl) (fun _ _ _ h => h) (Or.inl ⟨by rfl, ?_⟩) (by assumption) ?_
  rotate_left 1
  · ((intro w hSw; (try dsimp only at hSw); go_simp); (try with_reducible rfl))
  simp only [Act.put, List.setIfInBounds_toArray, List.set_cons_zero, List.set_cons_succ, List.getElem_toArray, List.getElem_cons_zero, List.getElem_cons_succ]
  refine wpAnyH_ready (rs := [28]) (by kernel_rfl) (by simp) ?_
  refine AllReadyH.cons rfl (fun K hK => ?_) AllReadyH.nil
  go_simp
  refine (sameTask_any ⟨⟨#[97]⟩, 10, 10, 1, 0, some ⟨w.heap.size + 1 + 1, 0, none⟩, 1, [⟨3, 2, 0⟩]⟩ ⟨⟨#[97]⟩, 10, 10, 1, 0, some ⟨w.heap.size + 1 + 1, 0, none⟩, 1, [⟨3, 2, 0⟩]⟩ _ (hs.tasks.ok _ (by simp)) (hs.tasks.ok _ (by simp))).mono ?_
  rw [(sameF.refl ⟨⟨#[97]⟩, 10, 10, 1, 0, some ⟨w.heap.size + 1 + 1, 0, none⟩, 1, [⟨3, 2, 0⟩]⟩).T]
  rintro e u4 ⟨rfl, hb3⟩
  replace hs := hs.keep (Keeps.of_below hb3)
  replace hb := hb.trans (hb3.mono hb.size)
  replace cs := k8_keep hb3 cs
  clear hHeld hb3
  go_wp2_with fail
  refine hK.out _ _ ?_ (fun hHeld => ?_)
  · exact cs
  clear hK K
  try simp only [Act.put, List.setIfInBounds_toArray, List.set_cons_zero, List.set_cons_succ, List.getElem_toArray, List.getElem_cons_zero, List.getElem_cons_succ]
  refine wpAnyH_take (i := 29) (v := ?_) rfl (by kernel_rfl) (by kernel_rfl) (by kernel_rfl) (fun _ _ _ h => h) (Or.inl ⟨by rfl, ?_⟩) (by assumption) ?_
  rotate_left 1
  · ((intro w hSw; (try dsimp only at hSw); go_simp); (try with_reducible rfl))
  simp only [Act.put, List.setIfInBounds_toArray, List.set_cons_zero, List.set_cons_succ, List.getElem_toArray, List.getElem_cons_zero, List.getElem_cons_succ]
  refine wpAnyH_take (i := 30) (v := ?_) rfl (by kernel_rfl) (by kernel_rfl) (by kernel_rfl) (fun _ _ _ h => h) (Or.inl ⟨by rfl, ?_⟩) (by assumption) ?_
  rotate_left 1
  · ((intro w hSw; (try dsimp only at hSw); go_simp); (try with_reducible rfl))
  simp only [Act.put, List.setIfInBounds_toArray, List.set_cons_zero, List.set_cons_succ, List.getElem_toArray, List.getElem_cons_zero, List.getElem_cons_succ]
  refine wpAnyH_take (i := 31) (v := ?_) rfl (by kernel_rfl) (by kernel_rfl) (by kernel_rfl) (fun _ _ _ h => h) (Or.inl ⟨by rfl, ?_⟩) (by assumption) ?_
  rotate_left 1
  · ((intro w hSw; (try dsimp only at hSw); go_simp); (try with_reducible rfl))
  simp only [Act.put, List.setIfInBounds_toArray, List.set_cons_zero, List.set_cons_succ, List.getElem_toArray, List.getElem_cons_zero, List.getElem_cons_succ]
  refine wpAnyH_take (i := 32) (v := ?_) rfl (by kernel_rfl) (by kernel_rfl) (by kernel_rfl) (fun _ _ _ h => h) (Or.inl ⟨by rfl, ?_⟩) (by assumption) ?_
  rotate_left 1
  · ((intro w hSw; (try dsimp only at hSw); go_simp); (try with_reducible rfl))
  simp only [Act.put, List.setIfInBounds_toArray, List.set_cons_zero, List.set_cons_succ, List.getElem_toArray, List.getElem_cons_zero, List.getElem_cons_succ]
  refine wpAnyH_take (i := 33) (v := ?_) rfl (by kernel_rfl) (by kernel_rfl) (by kernel_rfl) (fun _ _ _ h => h) (Or.inl ⟨by rfl, ?_⟩) (by assumption) ?_
  rotate_left 1
  · ((intro w hSw; (try dsimp only at hSw); go_simp); (try with_reducible rfl))
  simp only [Act.put, List.setIfInBounds_toArray, List.set_cons_zero, List.set_cons_succ, List.getElem_toArray, List.getElem_cons_zero, List.getElem_cons_succ]
  refine wpAnyH_take (i := 34) (v := ?_) rfl (by kernel_rfl) (by kernel_rfl) (by kernel_rfl) (fun _ _ _ h => h) (Or.inl ⟨by rfl, ?_⟩) (by assumption) ?_
  rotate_left 1
  · ((intro w hSw; (try dsimp only at hSw); go_simp); (try with_reducible rfl))
  simp only [Act.put, List.setIfInBounds_toArray, List.set_cons_zero, List.set_cons_succ, List.getElem_toArray, List.getElem_cons_zero, List.getElem_cons_succ]
  refine wpAnyH_take (i := 35) (v := ?_) rfl (by kernel_rfl) (by kernel_rfl) (by kernel_rfl) (fun _ _ _ h => h) (Or.inl ⟨by rfl, ?_⟩) (by assumption) ?_
  rotate_left 1
  · ((intro w hSw; (try dsimp only at hSw); go_simp); (try with_reducible rfl))
  simp only [Act.put, List.setIfInBounds_toArray, List.set_cons_zero, List.set_cons_succ, List.getElem_toArray, List.getElem_cons_zero, List.getElem_cons_succ]
  refine wpAnyH_ready (rs := [36]) (by kernel_rfl) (by simp) ?_
  refine AllReadyH.cons rfl (fun K hK => ?_) AllReadyH.nil
  go_simp
  refine (sameTask_any ⟨⟨#[97]⟩, 10, 10, 1, 0, some ⟨w.heap.size + 1 + 1, 0, none⟩, 1, [⟨3, 2, 0⟩]⟩ emptyT _ (hs.tasks.ok _ (by simp)) (emptyT_ok _)).mono ?_
  rw [show sameT ⟨⟨#[97]⟩, 10, 10, 1, 0, some ⟨w.heap.size + 1 + 1, 0, none⟩, 1, [⟨3, 2, 0⟩]⟩ emptyT = false by unfold sameT emptyT; simp]
  rintro e u5 ⟨rfl, hb3⟩
  replace hs := hs.keep (Keeps.of_below hb3)
  replace hb := hb.trans (hb3.mono hb.size)
  replace cs := k8_keep hb3 cs
  clear hHeld hb3
  go_wp2_with fail
  refine hK.out _ _ ?_ (fun hHeld => ?_)
  · exact cs
  clear hK K
  try simp only [Act.put, List.setIfInBounds_toArray, List.set_cons_zero, List.set_cons_succ, List.getElem_toArray, List.getElem_cons_zero, List.getElem_cons_succ]
  refine wpAnyH_take (i := 37) (v := ?_) rfl (by kernel_rfl) (by kernel_rfl) (by kernel_rfl) (fun _ _ _ h => h) (Or.inl ⟨by rfl, ?_⟩) (by assumption) ?_
  rotate_left 1
  · ((intro w hSw; (try dsimp only at hSw); go_simp); (try with_reducible rfl))
  simp only [Act.put, List.setIfInBounds_toArray, List.set_cons_zero, List.set_cons_succ, List.getElem_toArray, List.getElem_cons_zero, List.getElem_cons_succ]
  refine wpAnyH_take (i := 38) (v := ?_) rfl (by kernel_rfl) (by kernel_rfl) (by kernel_rfl) (fun _ _ _ h => h) (Or.inl ⟨by rfl, ?_⟩) (by assumption) ?_
  rotate_left 1
  · ((intro w hSw; (try dsimp only at hSw); go_simp); (try with_reducible rfl))
  simp only [Act.put, List.setIfInBounds_toArray, List.set_cons_zero, List.set_cons_succ, List.getElem_toArray, List.getElem_cons_zero, List.getElem_cons_succ]
  refine wpAnyH_take (i := 39) (v := ?_) rfl (by kernel_rfl) (by kernel_rfl) (by kernel_rfl) (fun _ _ _ h => h) (Or.inl ⟨by rfl, ?_⟩) (by assumption) ?_
  rotate_left 1
  · ((intro w hSw; (try dsimp only at hSw); go_simp); (try with_reducible rfl))
  simp only [Act.put, List.setIfInBounds_toArray, List.set_cons_zero, List.set_cons_succ, List.getElem_toArray, List.getElem_cons_zero, List.getElem_cons_succ]
  refine wpAnyH_take (i := 40) (v := ?_) rfl (by kernel_rfl) (by kernel_rfl) (by kernel_rfl) (fun _ _ _ h => h) (Or.inl ⟨by rfl, ?_⟩) (by assumption) ?_
  rotate_left 1
  · ((intro w hSw; (try dsimp only at hSw); go_simp); (try with_reducible rfl))
  simp only [Act.put, List.setIfInBounds_toArray, List.set_cons_zero, List.set_cons_succ, List.getElem_toArray, List.getElem_cons_zero, List.getElem_cons_succ]
  refine wpAnyH_take (i := 42) (v := ?_) rfl (by kernel_rfl) (by kernel_rfl) (by kernel_rfl) (fun _ _ _ h => h) (Or.inl ⟨by rfl, ?_⟩) (by assumption) ?_
  rotate_left 1
  · ((intro w hSw; (try dsimp only at hSw); go_simp); (try with_reducible rfl))
  simp only [Act.put, List.setIfInBounds_toArray, List.set_cons_zero, List.set_cons_succ, List.getElem_toArray, List.getElem_cons_zero, List.getElem_cons_succ]
  refine wpAnyH_ready (rs := [41]) (by kernel_rfl) (by simp) ?_
  refine AllReadyH.cons rfl (fun K hK => ?_) AllReadyH.nil
  go_simp
  refine (tcopy_any ⟨1, some ⟨w.heap.size, 0, none⟩, 1, [1], some ⟨w.heap.size + 1, 0, none⟩, 1, [0], some ⟨w.heap.size + 1 + 1 + 1, 0, none⟩, 1, [⟨⟨#[97]⟩, 10, 10, 1, 0, some ⟨w.heap.size + 1 + 1, 0, none⟩, 1, [⟨3, 2, 0⟩]⟩]⟩ _ hs ⟨by show 1 ≤ 1000; decide, by show 1 ≤ 1000; decide, by show 1 ≤ 1000; decide, by simp⟩).mono ?_
  rintro e u6 ⟨X, rfl, hX, hb3⟩
  have hx := hX.ok hs
  have hsm := hX.same
  replace hs := hs.keep (Keeps.of_below hb3)
  replace hb := hb.trans (hb3.mono hb.size)
  replace cs := k8_keep hb3 cs
  clear hHeld hb3 hX
  go_wp2_with fail
  refine hK.out _ _ ?_ (fun hHeld => ?_)
  · exact cs
  clear hK K
  try simp only [Act.put, List.setIfInBounds_toArray, List.set_cons_zero, List.set_cons_succ, List.getElem_toArray, List.getElem_cons_zero, List.getElem_cons_succ]
  refine wpAnyH_ready (rs := [43]) (by kernel_rfl) (by simp) ?_
  refine AllReadyH.cons rfl (fun K hK => ?_) AllReadyH.nil
  go_simp
  refine (same_any X ⟨1, some ⟨w.heap.size, 0, none⟩, 1, [1], some ⟨w.heap.size + 1, 0, none⟩, 1, [0], some ⟨w.heap.size + 1 + 1 + 1, 0, none⟩, 1, [⟨⟨#[97]⟩, 10, 10, 1, 0, some ⟨w.heap.size + 1 + 1, 0, none⟩, 1, [⟨3, 2, 0⟩]⟩]⟩ _ hx hs).mono ?_
  rw [hsm]
  rintro e u7 ⟨rfl, hb3⟩
  replace hb := hb.trans (hb3.mono hb.size)
  replace cs := k8_keep hb3 cs
  clear hHeld hb3 hx hsm hs
  go_wp2_with fail
  refine hK.out _ _ ?_ (fun hHeld => ?_)
  · exact cs
  clear hK K
  try simp only [Act.put, List.setIfInBounds_toArray, List.set_cons_zero, List.set_cons_succ, List.getElem_toArray, List.getElem_cons_zero, List.getElem_cons_succ]
  refine wpAnyH_take (i := 44) (v := ?_) rfl (by kernel_rfl) (by kernel_rfl) (by kernel_rfl) (fun _ _ _ h => h) (Or.inl ⟨by rfl, ?_⟩) (by assumption) ?_
  rotate_left 1
  · ((intro w hSw; (try dsimp only at hSw); go_simp); (try with_reducible rfl))
  simp only [Act.put, List.setIfInBounds_toArray, List.set_cons_zero, List.set_cons_succ, List.getElem_toArray, List.getElem_cons_zero, List.getElem_cons_succ]
  refine wpAnyH_take (i := 45) (v := ?_) rfl (by kernel_rfl) (by kernel_rfl) (by kernel_rfl) (fun _ _ _ h => h) (Or.inl ⟨by rfl, ?_⟩) (by assumption) ?_
  rotate_left 1
  · ((intro w hSw; (try dsimp only at hSw); go_simp); (try with_reducible rfl))
  simp only [Act.put, List.setIfInBounds_toArray, List.set_cons_zero, List.set_cons_succ, List.getElem_toArray, List.getElem_cons_zero, List.getElem_cons_succ]
  refine wpAnyH_done (by kernel_rfl) ?_ _
  go_wp2_with fail
  go_ret
  exact ⟨rfl, hb⟩
end Go.Proofs.Ytnfkebdbfflhdaa
