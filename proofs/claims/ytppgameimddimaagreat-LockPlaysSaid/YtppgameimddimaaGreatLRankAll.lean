/- rank: All: who stands in it, in order. -/
import Derived.Test.YtppgameimddimaaGreatLRankApp
import Derived.Test.YtppgameimddimaaGreatLRankSrt
namespace Go.Proofs.YtppgameimddimaaGreat
open Go.ChangeShapes Go.WideShapes Go.ChangeAt Go.RowKit
set_option linter.unusedVariables false
set_option linter.unusedSimpArgs false
theorem sortedf_many (b g c : Nat) (l : List EntM) (hl : l.length ≤ 64) (hl0 : 0 < l.length) (w : World) (hb : b < w.heap.size) (hg : g < w.heap.size) (hc : w.cell? ⟨b, 0, none⟩ = some (.slice (some ⟨g, 0, none⟩) l.length c)) (hE : ∀ k, k < l.length → EntCells w g (k * 3) (atE l k)) :
    Calls Tryz.prog 62 #[GV b, .func (.func 64) #[] #[]] w fun e W' => ∃ g' c' l', e = .returned (.slice (some ⟨g', 0, none⟩) l.length c') ∧ l'.Perm l ∧ SortedE l' ∧ (∀ k, k < l'.length → EntCells W' g' (k * 3) (atE l' k)) ∧ Below w.heap.size w W' := by
  have H := hidp (collect_many b g c l hl w hb hg hc hE)
  obtain ⟨n, hn⟩ : ∃ n, l.length = n := ⟨_, rfl⟩
  have Hn := hidp hn
  have Hl0 := hidp hl0
  have Hl := hidp hl
  rw [hn] at H ⊢
  clear hc hE hn hl0 hl
  go_enter Tryz.func62, Tryz.ntmps62
  go_wp2_with fail
  refine H.out.mono ?_
  rintro e u ⟨A', c', rfl, ho, hb2⟩
  obtain ⟨g', rfl, hg1, hg2⟩ := ho.at_ Hl0.out
  have C := hidp (sortf_many g' c' l u hg2 (fun k hk => ho.cells hk) (fun i => ownE_frozen ho.own i) Hl.out)
  rw [Hn.out] at C
  have HB := hidp hb2
  have HG := hidp hg1
  clear ho hb2 hg1 hg2 H
  go_wp2_with fail
  refine C.out.mono ?_
  rintro e u2 ⟨rfl, l', hp, hs, hE, hB⟩
  have HB3 := hidp (HB.out.trans (hB w.heap.size HG.out HB.out.size))
  have HP := hidp hp
  have HS := hidp hs
  have HE := hidp hE
  clear hp hs hE hB C
  go_wp2_with fail
  go_ret
  exact ⟨g', c', l', rfl, HP.out, HS.out, HE.out, HB3.out⟩
theorem valuesm_any (A : Option Addr) (n c : Nat) (w : World) : Calls Tryz.prog 63 #[.slice A n c] w fun e W' => e = .returned (GV w.heap.size) ∧ W' = w.alloc (.cells #[.slice A n c] 63) := by
  go_enter Tryz.func63, Tryz.ntmps63
  go_wp2
  go_ret
  exact ⟨rfl, rfl⟩
theorem infoIntR : (Tryz.prog.info? 3).map (fun i => (i.zero, i.size, i.bytes)) = some (some (.int .i64 0), 1, 8) := by kernel_rfl
theorem num1_one (x : Int) : ∀ u ∈ [x].map (Value.int .i64), u.oneCell' = true := fun u hu => by simp at hu; subst hu; rfl
theorem new_lies (w : World) (cs : List Value) (T : TypeId) : Lies (w.heap.size + 1) (w.alloc (.cells cs.toArray T)) (some ⟨w.heap.size, 0, none⟩) cs := by
  refine .inr ⟨_, 0, rfl, by omega, fun j v hj => ?_⟩
  have := (Bk.new w T cs.toArray).cell j
  rw [Nat.zero_add, this]
  simpa using hj
theorem id_step (l : List EntM) (j : Nat) (hj : j < l.length) : (l.take (j + 1)).map EntM.id = (l.take j).map EntM.id ++ [(atE l j).id] := by
  rw [List.take_succ_eq_append_getElem hj, List.map_append, atE_get0 hj]; rfl
/-- a row of numbers of the call's own -/
structure NumsAt (B : Nat) (w : World) (A : Option Addr) (n c : Nat) (zs : List Int) : Prop where
  own : w.ownsRow B 3 1 (.slice A n c) n (zs.map (Value.int .i64))
  len : n = zs.length
  cap : n ≤ c ∧ c ≤ maxLen
  nil : A = none → n = 0 ∧ c = 0
def AllP (w : World) (l : List EntM) (e : Ending) (w' : World) : Prop := ∃ A c l', l'.Perm l ∧ SortedE l' ∧ e = .returned (.slice A l.length c) ∧ NumsAt w.heap.size w' A l.length c (l'.map EntM.id) ∧ Below w.heap.size w w'
set_option maxHeartbeats 4000000 in
set_option maxRecDepth 100000 in
theorem rkall_any {w : World} {b ofs : Nat} {KT : TypeId} {kcs : Array Value} {R P : Int} {l : List EntM} {A : Option Addr} {c : Nat} (h : Rk w b ofs KT kcs R P l A c) (hl : l.length ≤ 64) : Calls Tryz.prog 38 #[.pointer (some ⟨b, ofs, none⟩)] w (AllP w l) := by
  by_cases hl0 : l.length = 0
  · have e0 : l = [] := List.eq_nil_of_length_eq_zero hl0
    subst e0
    refine (all_nil h).mono ?_
    rintro e w' ⟨rfl, hb⟩
    exact ⟨none, 0, [], .refl _, fun i j _ hj => absurd hj (by simp), rfl, ⟨World.ownsRow_nil _ _ _ _, rfl, by decide, fun _ => ⟨rfl, rfl⟩⟩, hb⟩
  obtain ⟨i0, hi0, hy0, hy1, hy2⟩ := info_parts infoIntR
  have hl1 : 0 < l.length := by omega
  obtain ⟨g, rfl, _, hg2⟩ := h.own.at_ hl1
  have c1 : w.cell? ⟨b, ofs + 2, none⟩ = some (.slice (some ⟨g, 0, none⟩) l.length c) := h.cell2
  have hb := (Below.refl w.heap.size w).alloc (Nat.le_refl _) (.cells #[.slice (some ⟨g, 0, none⟩) l.length c] 63)
  have hE2 : ∀ k, k < l.length → EntCells (w.alloc (.cells #[.slice (some ⟨g, 0, none⟩) l.length c] 63)) g (k * 3) (atE l k) := fun k hk => by
    obtain ⟨q0, q1, q2⟩ := h.own.cells hk
    exact ⟨(hb.cell (p := ⟨g, k * 3, none⟩) hg2).trans q0, (hb.cell (p := ⟨g, k * 3 + 1, none⟩) hg2).trans q1, (hb.cell (p := ⟨g, k * 3 + 2, none⟩) hg2).trans q2⟩
  have H := hidp (sortedf_many w.heap.size g c l hl hl1 (w.alloc (.cells #[.slice (some ⟨g, 0, none⟩) l.length c] 63)) (by simp) (by simp; omega) ((Bk.new w 63 #[.slice (some ⟨g, 0, none⟩) l.length c]).cell 0) hE2)
  obtain ⟨n, hn⟩ : ∃ n, l.length = n := ⟨_, rfl⟩
  have Hn := hidp hn
  have Hl := hidp hl
  unfold AllP
  rw [hn] at H c1 hb ⊢
  clear h hE2 hl0 hl1 hn hl
  go_enter Tryz.func38, Tryz.ntmps38
  go_wp2_with fail
  refine (valuesm_any (some ⟨g, 0, none⟩) n c _).mono ?_
  rintro e u ⟨rfl, rfl⟩
  clear c1
  go_wp2_with fail
  refine H.out.mono ?_
  rintro e u ⟨g2, c2, S, rfl, hp, hs, hE, hb2⟩
  have HB := hidp (hb.trans (hb2.mono hb.size))
  have HP := hidp hp
  have HS := hidp hs
  have HE := hidp hE
  have HL : Hid (S.length = n) := hidp (by rw [hp.length_eq]; exact Hn.out)
  have hn64 : n ≤ 64 := by rw [← Hn.out]; exact Hl.out
  clear hp hs hE hb2 hb H
  have o0 : u.ownsRow u.heap.size 3 1 (.slice none 0 0) 0 (((S.take 0).map EntM.id).map (Value.int .i64)) := World.ownsRow_nil _ _ _ _
  have hb0 := Below.refl u.heap.size u
  go_wp2_with fail
  go_loopg [3, 13] n (fun gg a i wr => ∃ (j c' : Nat) (A' : Option Addr), j + gg = n ∧ i = .int .i64 j ∧ a = .slice A' j c' ∧ wr.ownsRow u.heap.size 3 1 (.slice A' j c') j (((S.take j).map EntM.id).map (Value.int .i64)) ∧ Hid ((A' = none → j = 0 ∧ c' = 0) ∧ j ≤ c' ∧ c' ≤ maxLen) ∧ Below u.heap.size u wr)
  case atStart => exact ⟨0, 0, none, by omega, rfl, rfl, o0, hidp ⟨fun _ => ⟨rfl, rfl⟩, Nat.le_refl _, by decide⟩, hb0⟩
  case round =>
    clear o0 hb0
    obtain ⟨j, c', A', hj, rfl, rfl, own, Hcap, hbr⟩ := hrel
    by_cases hlt : j < n
    · have hjS : j < S.length := by rw [HL.out]; exact hlt
      obtain ⟨x, Hx⟩ : ∃ x, Hid (atE S j = x) := ⟨_, rfl⟩
      have cx := HE.out j hjS
      rw [Hx.out] at cx
      have k2 : ∀ p v, u.cell? p = some v → wr.cell? p = some v := fun p v hv => by rw [hbr.cell (cell_lt hv)]; exact hv
      have x0 := k2 _ _ cx.1
      have x1 := k2 _ _ cx.2.1
      have x2 := k2 _ _ cx.2.2
      have jI : (j : Int) < (n : Int) := by omega
      clear cx k2
      have Hs : Hid ((S.take (j + 1)).map EntM.id = (S.take j).map EntM.id ++ [x.id]) := hidp (by rw [id_step S j hjS, Hx.out])
      have N2 : Hid (j + 1 ≤ maxLen) := hidp (by unfold maxLen; omega)
      have T2 : Hid ((j + 1) * 8 ≤ 140737488355328) := hidp (by omega)
      have W1 : Below u.heap.size u ((wr.alloc (.cells #[.int .i64 x.key, .int .i64 x.turn, .int .i64 x.id] 105)).alloc (.cells #[.int .i64 x.id] 3)) := (hbr.alloc hbr.size _).alloc (hbr.alloc hbr.size _).size _
      have own4 := own_turned own (((Turned.refl [] wr).alloc (.cells #[.int .i64 x.key, .int .i64 x.turn, .int .i64 x.id] 105)).alloc (.cells #[.int .i64 x.id] 3)) (by simp)
      have s2 := new_lies (wr.alloc (.cells #[.int .i64 x.key, .int .i64 x.turn, .int .i64 x.id] 105)) [.int .i64 x.id] 3
      rw [show (wr.alloc (.cells #[.int .i64 x.key, .int .i64 x.turn, .int .i64 x.id] 105)).heap.size = wr.heap.size + 1 by simp] at s2
      have S2 := hidp s2
      clear s2
      have Z2 : Hid (u.heap.size ≤ ((wr.alloc (.cells #[.int .i64 x.key, .int .i64 x.turn, .int .i64 x.id] 105)).alloc (.cells #[.int .i64 x.id] 3)).heap.size) := hidp W1.size
      have O2 := hidp (num1_one x.id)
      have Hfp := hidp (own_fp own4)
      have hW := hidp W1
      have Hj := hidp hj
      clear own hbr W1 Hcap
      go_wp2_with (at_builtin; refine wpList_app2 _ rfl (.tmp 17) (.tmp 20) 22 rfl u.heap.size 3 i0 _ 1 8 Tryz.underlying22 hi0 hy0 hy1 hy2 rfl (by decide) A' j c' _ rfl own4 _ _ 1 1 [.int .i64 x.id] rfl (by simp) rfl S2.out O2.out N2.out T2.out Z2.out ?_; intro A9 c9 w6 happ)
      go_roundg (gk - 1)
      case measure => omega
      case rel => exact ⟨j + 1, c9, A9, by omega, by go_num, rfl, by rw [Hs.out, List.map_append]; exact happ.own, hidp ⟨happ.nil, happ.cap⟩, hW.out.trans (happ.turned.below hW.out.size (fun i hi => (Hfp.out i hi).1))⟩
    · have hjn : j = n := by omega
      have hjI : ¬ (j : Int) < (n : Int) := by omega
      have F : Hid (NumsAt w.heap.size wr A' n c' (S.map EntM.id) ∧ Below w.heap.size w wr) := hidp (by
        subst hjn
        have e1 : S.take j = S := List.take_of_length_le (by rw [HL.out]; exact Nat.le_refl _)
        rw [e1] at own
        exact ⟨⟨own_base own (fun k hk => Nat.le_trans HB.out.size (own.lt k hk).1), by rw [List.length_map, HL.out], Hcap.out.2, Hcap.out.1⟩, HB.out.trans (hbr.mono HB.out.size)⟩)
      have HJ := hidp hjn
      clear own hbr Hcap hjn
      go_wp2
      try rw [Exit.noGoto_ret]
      go_ret
      have e9 := HJ.out
      subst e9
      exact ⟨A', c', S, HP.out, HS.out, rfl, F.out.1, F.out.2⟩
end Go.Proofs.YtppgameimddimaaGreat
