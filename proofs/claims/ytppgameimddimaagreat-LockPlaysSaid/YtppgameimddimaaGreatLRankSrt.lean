/- rank: SortFunc of many. (The laying SortQ: tools/lay1.sh.) -/
import Derived.Test.YtppgameimddimaaGreatSortQ
import Derived.Test.YtppgameimddimaaGreatRankP
import Derived.Test.YtppgameimddimaaGreatLRankH
namespace Go.Proofs.YtppgameimddimaaGreat
open Go.ChangeShapes Go.WideShapes Go.ChangeAt Go.RowKit
set_option linter.unusedVariables false
set_option linter.unusedSimpArgs false
set_option maxHeartbeats 2000000 in
theorem order_grow (a b : EntM) (w : World) : Calls Tryz.prog 64 #[.agg #[.int .i64 a.key, .int .i64 a.turn, .int .i64 a.id], .agg #[.int .i64 b.key, .int .i64 b.turn, .int .i64 b.id]] w fun e w' => e = .returned (.int .i64 (ordV a b)) ∧ ∃ q os', w' = Sort.grow (w.drewN q) os' := by
  obtain ⟨ak, at', ai⟩ := a
  obtain ⟨bk, bt, bi⟩ := b
  dsimp only
  obtain ⟨X, HX⟩ : ∃ X, Hid (cmpV ak bk = X) := ⟨_, hidp rfl⟩
  obtain ⟨Y, HY⟩ : ∃ Y, Hid (cmpV at' bt = Y) := ⟨_, hidp rfl⟩
  have HV : Hid (ordV ⟨ak, at', ai⟩ ⟨bk, bt, bi⟩ = orV X Y) := hidp (by rw [← HX.out, ← HY.out]; rfl)
  rw [HV.out]
  have ba := (Bk.new w 105 #[.int .i64 ak, .int .i64 at', .int .i64 ai]).alloc (.cells #[.int .i64 bk, .int .i64 bt, .int .i64 bi] 105)
  have bb := Bk.new (w.alloc (.cells #[.int .i64 ak, .int .i64 at', .int .i64 ai] 105)) 105 #[.int .i64 bk, .int .i64 bt, .int .i64 bi]
  have z1 : (w.alloc (.cells #[.int .i64 ak, .int .i64 at', .int .i64 ai] 105)).heap.size = w.heap.size + 1 := by simp
  rw [z1] at bb
  clear z1
  go_enter Tryz.func64, Tryz.ntmps64
  go_upto_region 1 with fail
  obtain ⟨w1, hw1⟩ : ∃ v, (w.alloc (.cells #[.int .i64 ak, .int .i64 at', .int .i64 ai] 105)).alloc (.cells #[.int .i64 bk, .int .i64 bt, .int .i64 bi] 105) = v := ⟨_, rfl⟩
  rw [hw1] at ba bb ⊢
  have HW1 := hidp hw1
  clear hw1
  refine wp_region_held_drew (S := fun w' => w'.cell? ⟨w.heap.size, 0, none⟩ = some (.int .i64 ak) ∧ w'.cell? ⟨w.heap.size, 1, none⟩ = some (.int .i64 at') ∧ w'.cell? ⟨w.heap.size + 1, 0, none⟩ = some (.int .i64 bk) ∧ w'.cell? ⟨w.heap.size + 1, 1, none⟩ = some (.int .i64 bt)) (by kernel_rfl) ?_ (fun hHeld => ?_)
  · exact ⟨ba.cell 0, ba.cell 1, bb.cell 0, bb.cell 1⟩
  obtain ⟨y, hy⟩ : ∃ y, w1.drew = y := ⟨_, rfl⟩
  replace ba := ba.drewN 1
  replace bb := bb.drewN 1
  change Bk w1.drew _ _ _ at ba
  change Bk w1.drew _ _ _ at bb
  rw [hy] at ba bb hHeld ⊢
  have HYW := hidp hy
  clear hy
  have hs := And.intro (ba.cell 0) (And.intro (ba.cell 1) (And.intro (bb.cell 0) (bb.cell 1)))
  refine wpAnyH_take (i := 0) (v := ?_) rfl (by kernel_rfl) (by kernel_rfl) (by kernel_rfl) (fun _ _ _ h => h) (Or.inl ⟨by rfl, ?_⟩) (by assumption) ?_
  rotate_left 1
  · ((intro w hSw; (try dsimp only at hSw); go_simp); (try with_reducible rfl))
  simp only [Act.put, List.setIfInBounds_toArray, List.set_cons_zero, List.set_cons_succ, List.getElem_toArray, List.getElem_cons_zero, List.getElem_cons_succ]
  refine wpAnyH_take (i := 1) (v := ?_) rfl (by kernel_rfl) (by kernel_rfl) (by kernel_rfl) (fun _ _ _ h => h) (Or.inl ⟨by rfl, ?_⟩) (by assumption) ?_
  rotate_left 1
  · ((intro w hSw; (try dsimp only at hSw); go_simp); (try with_reducible rfl))
  simp only [Act.put, List.setIfInBounds_toArray, List.set_cons_zero, List.set_cons_succ, List.getElem_toArray, List.getElem_cons_zero, List.getElem_cons_succ]
  refine wpAnyH_take (i := 2) (v := ?_) rfl (by kernel_rfl) (by kernel_rfl) (by kernel_rfl) (fun _ _ _ h => h) (Or.inl ⟨by rfl, ?_⟩) (by assumption) ?_
  rotate_left 1
  · ((intro w hSw; (try dsimp only at hSw); go_simp); (try with_reducible rfl))
  simp only [Act.put, List.setIfInBounds_toArray, List.set_cons_zero, List.set_cons_succ, List.getElem_toArray, List.getElem_cons_zero, List.getElem_cons_succ]
  refine wpAnyH_take (i := 3) (v := ?_) rfl (by kernel_rfl) (by kernel_rfl) (by kernel_rfl) (fun _ _ _ h => h) (Or.inl ⟨by rfl, ?_⟩) (by assumption) ?_
  rotate_left 1
  · ((intro w hSw; (try dsimp only at hSw); go_simp); (try with_reducible rfl))
  simp only [Act.put, List.setIfInBounds_toArray, List.set_cons_zero, List.set_cons_succ, List.getElem_toArray, List.getElem_cons_zero, List.getElem_cons_succ]
  refine wpAnyH_take (i := 5) (v := ?_) rfl (by kernel_rfl) (by kernel_rfl) (by kernel_rfl) (fun _ _ _ h => h) (Or.inl ⟨by rfl, ?_⟩) (by assumption) ?_
  rotate_left 1
  · ((intro w hSw; (try dsimp only at hSw); go_simp); (try with_reducible rfl))
  simp only [Act.put, List.setIfInBounds_toArray, List.set_cons_zero, List.set_cons_succ, List.getElem_toArray, List.getElem_cons_zero, List.getElem_cons_succ]
  refine wpAnyH_take (i := 6) (v := ?_) rfl (by kernel_rfl) (by kernel_rfl) (by kernel_rfl) (fun _ _ _ h => h) (Or.inl ⟨by rfl, ?_⟩) (by assumption) ?_
  rotate_left 1
  · ((intro w hSw; (try dsimp only at hSw); go_simp); (try with_reducible rfl))
  simp only [Act.put, List.setIfInBounds_toArray, List.set_cons_zero, List.set_cons_succ, List.getElem_toArray, List.getElem_cons_zero, List.getElem_cons_succ]
  refine wpAnyH_take (i := 7) (v := ?_) rfl (by kernel_rfl) (by kernel_rfl) (by kernel_rfl) (fun _ _ _ h => h) (Or.inl ⟨by rfl, ?_⟩) (by assumption) ?_
  rotate_left 1
  · ((intro w hSw; (try dsimp only at hSw); go_simp); (try with_reducible rfl))
  simp only [Act.put, List.setIfInBounds_toArray, List.set_cons_zero, List.set_cons_succ, List.getElem_toArray, List.getElem_cons_zero, List.getElem_cons_succ]
  refine wpAnyH_take (i := 8) (v := ?_) rfl (by kernel_rfl) (by kernel_rfl) (by kernel_rfl) (fun _ _ _ h => h) (Or.inl ⟨by rfl, ?_⟩) (by assumption) ?_
  rotate_left 1
  · ((intro w hSw; (try dsimp only at hSw); go_simp); (try with_reducible rfl))
  simp only [Act.put, List.setIfInBounds_toArray, List.set_cons_zero, List.set_cons_succ, List.getElem_toArray, List.getElem_cons_zero, List.getElem_cons_succ]
  refine wpAnyH_ready (rs := [4]) (by kernel_rfl) (by simp) ?_
  refine AllReadyH.cons rfl (fun K hK => ?_) AllReadyH.nil
  go_simp
  refine (cmpc_any ak bk _).mono ?_
  rintro e u ⟨rfl, rfl⟩
  rw [HX.out]
  clear hHeld
  go_wp2_with fail
  refine hK.out _ _ ?_ (fun hHeld => ?_)
  · exact hs
  clear hK K
  try simp only [Act.put, List.setIfInBounds_toArray, List.set_cons_zero, List.set_cons_succ, List.getElem_toArray, List.getElem_cons_zero, List.getElem_cons_succ]
  refine wpAnyH_ready (rs := [9]) (by kernel_rfl) (by simp) ?_
  refine AllReadyH.cons rfl (fun K hK => ?_) AllReadyH.nil
  go_simp
  refine (cmpc_any at' bt _).mono ?_
  rintro e u ⟨rfl, rfl⟩
  rw [HY.out]
  clear hHeld
  go_wp2_with fail
  refine hK.out _ _ ?_ (fun hHeld => ?_)
  · exact hs
  clear hK K
  try simp only [Act.put, List.setIfInBounds_toArray, List.set_cons_zero, List.set_cons_succ, List.getElem_toArray, List.getElem_cons_zero, List.getElem_cons_succ]
  refine wpAnyH_ready (rs := [10]) (by kernel_rfl) (by simp) ?_
  refine AllReadyH.cons rfl (fun K hK => ?_) AllReadyH.nil
  go_simp
  have a4 := ba.alloc (.cells #[.int .i64 X, .int .i64 Y] 3)
  have b4 := bb.alloc (.cells #[.int .i64 X, .int .i64 Y] 3)
  have c4 := Bk.new y 3 #[.int .i64 X, .int .i64 Y]
  clear hHeld
  go_wp2_with fail
  refine hK.out _ _ ?_ (fun hHeld => ?_)
  · exact ⟨a4.cell 0, a4.cell 1, b4.cell 0, b4.cell 1⟩
  clear hK K
  try simp only [Act.put, List.setIfInBounds_toArray, List.set_cons_zero, List.set_cons_succ, List.getElem_toArray, List.getElem_cons_zero, List.getElem_cons_succ]
  refine wpAnyH_ready (rs := [11]) (by kernel_rfl) (by simp) ?_
  refine AllReadyH.cons rfl (fun K hK => ?_) AllReadyH.nil
  go_simp
  refine (cmpor_any X Y _ y.heap.size (c4.cell 0) (c4.cell 1)).mono ?_
  rintro e u ⟨rfl, rfl⟩
  clear hHeld
  go_wp2_with fail
  refine hK.out _ _ ?_ (fun hHeld => ?_)
  · exact ⟨a4.cell 0, a4.cell 1, b4.cell 0, b4.cell 1⟩
  clear hK K
  try simp only [Act.put, List.setIfInBounds_toArray, List.set_cons_zero, List.set_cons_succ, List.getElem_toArray, List.getElem_cons_zero, List.getElem_cons_succ]
  refine wpAnyH_take (i := 12) (v := ?_) rfl (by kernel_rfl) (by kernel_rfl) (by kernel_rfl) (fun _ _ _ h => h) (Or.inl ⟨by rfl, ?_⟩) (by assumption) ?_
  rotate_left 1
  · ((intro w hSw; (try dsimp only at hSw); go_simp); (try with_reducible rfl))
  simp only [Act.put, List.setIfInBounds_toArray, List.set_cons_zero, List.set_cons_succ, List.getElem_toArray, List.getElem_cons_zero, List.getElem_cons_succ]
  refine wpAnyH_done (by kernel_rfl) ?_ _
  go_wp2_with fail
  go_ret
  refine ⟨rfl, 1, #[.cells #[.int .i64 ak, .int .i64 at', .int .i64 ai] 105, .cells #[.int .i64 bk, .int .i64 bt, .int .i64 bi] 105, .cells #[.int .i64 X, .int .i64 Y] 3], ?_⟩
  rw [← HYW.out, ← HW1.out, Sort.alloc_eq_grow, Sort.alloc_eq_grow, Sort.alloc_eq_grow, Sort.grow_grow, Sort.drew_grow, Sort.grow_grow]
  rfl
theorem atE_get0 {l : List EntM} {i : Nat} (h : i < l.length) : atE l i = l[i] := by simp [List.getD, h]
def encE (x : EntM) : List Value := [.int .i64 x.key, .int .i64 x.turn, .int .i64 x.id]
theorem ltOf_ord (x y : EntM) : ltOf ordV x y = lessE x y := by
  unfold ltOf
  cases h : lessE x y with
  | true => exact decide_eq_true ((ordV_neg x y).2 h)
  | false => exact decide_eq_false (fun g => by rw [(ordV_neg x y).1 g] at h; cases h)
theorem swoE : Sort.SWO (ltOf ordV) where
  irrefl x := by rw [ltOf_ord]; unfold lessE; simp
  trans x y z h1 h2 := by rw [ltOf_ord] at *; exact lessE_trans h1 h2
  ntrans x y z h1 h2 := by
    rw [ltOf_ord] at *
    unfold lessE at *
    rw [Bool.or_eq_false_iff, Bool.and_eq_false_imp] at *
    have a1 := of_decide_eq_false h1.1
    have a2 : x.key = y.key → ¬ x.turn < y.turn := fun e => of_decide_eq_false (h1.2 (decide_eq_true e))
    have b1 := of_decide_eq_false h2.1
    have b2 : y.key = z.key → ¬ y.turn < z.turn := fun e => of_decide_eq_false (h2.2 (decide_eq_true e))
    refine ⟨decide_eq_false (by omega), fun e => decide_eq_false ?_⟩
    have := of_decide_eq_true e
    omega
theorem cmpLaysE (blk off size : Nat) (w : World) : CmpLays Tryz.prog 64 #[] encE 3 ordV blk off size w := fun _ _ _ _ x y => order_grow x y _
theorem below_sortWorld {d : Array EntM} {B g n : Nat} {w : World} {os : Array Obj} (h1 : B ≤ g) (h2 : B ≤ w.heap.size) : Below B w (sortWorldK encE 3 w g 0 n d os) := by
  refine ⟨rfl, rfl, rfl, ?_, fun k hk => ?_⟩
  · simp [sortWorldK, Sort.grow, Sort.putRowK, Sort.putRow, Sort.mapBlock, Sort.ahead]
  · have hne : g ≠ k := by omega
    unfold sortWorldK
    rw [Sort.heap_grow_old _ _ (by simp [Sort.putRowK, Sort.putRow, Sort.mapBlock, Sort.ahead]; omega)]
    simp [Sort.putRowK, Sort.putRow, Sort.mapBlock, Sort.ahead, Array.getElem?_modify, hne]
def SortedE (l : List EntM) : Prop := ∀ i j, i < j → j < l.length → lessE (atE l j) (atE l i) = false
set_option maxHeartbeats 2000000 in
theorem sortf_many (g c : Nat) (l : List EntM) (w : World) (hg : g < w.heap.size) (hE : ∀ k, k < l.length → EntCells w g (k * 3) (atE l k)) (hF : ∀ i, w.frozen? ⟨g, i, none⟩ = false) (hl : l.length ≤ 64) :
    Calls Tryz.prog 82 #[.slice (some ⟨g, 0, none⟩) l.length c, .func (.func 64) #[] #[]] w fun e w' => e = .returned (.tuple #[]) ∧
      ∃ l', l'.Perm l ∧ SortedE l' ∧ (∀ k, k < l'.length → EntCells w' g (k * 3) (atE l' k)) ∧ ∀ B, B ≤ g → B ≤ w.heap.size → Below B w w' := by
  have eg : ∀ args w, (callFunc 64 args).run Tryz.prog w = .ok (.enter 64 args) w := enters_of Tryz.func64 (by kernel_rfl) rfl
  have hH : Sort.HoldsK encE 3 w g 0 l.toArray := by
    intro t ht
    rw [Sort.size_flatK, List.size_toArray] at ht
    rw [Sort.get_flatK _ _ _ _ (by simpa using ht), Nat.zero_add]
    refine ⟨?_, hF t⟩
    obtain ⟨k, r, hr, rfl⟩ : ∃ k r, r < 3 ∧ t = k * 3 + r := ⟨t / 3, t % 3, Nat.mod_lt _ (by decide), by omega⟩
    have hk : k < l.length := by omega
    have e1 : (k * 3 + r) / 3 = k := by omega
    have e2 : (k * 3 + r) % 3 = r := by omega
    have e3 : l.toArray[k]! = atE l k := by rw [atE_get0 hk]; simp [hk]
    rw [e1, e2, e3]
    obtain ⟨q0, q1, q2⟩ := hE k hk
    have hr3 : r = 0 ∨ r = 1 ∨ r = 2 := by omega
    rcases hr3 with rfl | rfl | rfl
    · exact q0
    · exact q1
    · exact q2
  have hcon := AnyQ.slices_SortFunc Tryz.SortQ 3 Tryz.isAgg105 Tryz.sizeOf105 encE (fun _ => rfl) (fun x v hv => by simp [encE] at hv; rcases hv with rfl | rfl | rfl <;> rfl) ordV swoE 64 #[] g 0 c l.toArray w eg (cmpLaysE g 0 l.toArray.size w) hH hg (by simp; omega)
  change Calls Tryz.prog 82 _ _ _ at hcon
  rw [List.size_toArray] at hcon
  refine hcon.mono ?_
  rintro e w' ⟨rfl, d', n, os, ⟨p1, _, p3⟩, hs, rfl⟩
  have hsz : d'.size = l.length := by rw [p1]; simp
  have hp : d'.toList.Perm l := by
    have := p3
    rw [Array.extract_eq_self_of_le (by omega), Array.extract_eq_self_of_le (by simp)] at this
    exact this
  have hat : ∀ i, i < l.length → d'[i]! = atE d'.toList i := fun i hi => by
    rw [atE_get0 (by simp; omega), getElem!_pos d' i (by omega)]; simp
  refine ⟨rfl, d'.toList, hp, fun i j hij hj => ?_, fun k hk => ?_, fun B h1 h2 => below_sortWorld h1 h2⟩
  · have hj2 : j < l.length := by rw [← hsz]; simpa using hj
    have := hs i j (Nat.zero_le _) hij hj2
    rw [ltOf_ord, hat i (by omega), hat j hj2] at this
    exact this
  · have hk2 : k < d'.size := by simpa using hk
    have hH2 := holdsK_sortWorldK encE 3 w g 0 n l.toArray d' os hg hH (by rw [p1])
    have c0 := (hH2.cell (i := k) (c := 0) hk2 (by decide)).1
    have c1 := (hH2.cell (i := k) (c := 1) hk2 (by decide)).1
    have c2 := (hH2.cell (i := k) (c := 2) hk2 (by decide)).1
    rw [hat k (by omega)] at c0 c1 c2
    simp only [Nat.zero_add, Nat.add_zero] at c0 c1 c2
    exact ⟨c0, c1, c2⟩
end Go.Proofs.YtppgameimddimaaGreat
