/- lock: door.enter. -/
import Derived.Test.YtppgameimddimaaGreatLkD
namespace Go.Proofs.YtppgameimddimaaGreat
open Go.ChangeShapes Go.WideShapes Go.ChangeAt Go.RowKit
set_option linter.unusedVariables false
set_option linter.unusedSimpArgs false
/-- how many come in -/
def enterN (d : DrM) : Nat := min (d.cores - d.ins.length).toNat d.outs.length
/-- the door when the first k of those outside are in -/
def enterD (d : DrM) (k : Nat) : DrM := { d with ins := d.ins ++ d.outs.take k, outs := d.outs.drop k }
def DEnt (w : World) (d : DrM) (F : List Nat) (e : Ending) (w' : World) : Prop :=
  ∃ A c F', e = .returned (.slice A (enterN d) c) ∧ OwnInts w.heap.size w' A (enterN d) c (d.outs.take (enterN d)) ∧ DrOk w' (enterD d (enterN d)) F' ∧ Turned F w w' ∧ (∀ k ∈ F', k ∈ F ∨ w.heap.size ≤ k) ∧ ∀ k ∈ F', k ∉ fp A
/-- a round's state -/
structure Ent (w : World) (d : DrM) (F : List Nat) (k : Nat) (A : Option Addr) (c : Nat) (F' : List Nat) (wr : World) : Prop where
  box : Bk wr w.heap.size 76 #[.int .i64 d.cores, .pointer (some ⟨d.gb, 0, none⟩), .pointer (some ⟨d.lb, 0, none⟩)]
  own : OwnInts w.heap.size wr A k c (d.outs.take k)
  door : DrOk wr (enterD d k) F'
  turned : Turned F w wr
  news : ∀ j ∈ F', j ∈ F ∨ w.heap.size < j
  apart : ∀ j ∈ F', j ∉ fp A
  nbox : w.heap.size ∉ fp A
theorem OwnInts.turned {B : Nat} {G : List Nat} {w w' : World} {A : Option Addr} {n c : Nat} {zs : List Int} (h : OwnInts B w A n c zs) (ht : Turned G w w') (hd : ∀ k ∈ fp A, k ∉ G) : OwnInts B w' A n c zs := ⟨own_turned h.1 ht hd, h.2⟩
theorem Ent.over {w : World} {d : DrM} {F : List Nat} {k : Nat} {A : Option Addr} {c : Nat} {F' : List Nat} {wr w' : World} (h : Ent w d F k A c F' wr) (hb : Below wr.heap.size wr w') : Ent w d F k A c F' w' :=
  ⟨h.box.turned (Turned.of_below hb []) (by simp), h.own.turned (Turned.of_below hb []) (by simp), h.door.over hb, h.turned.trans (Turned.of_below hb F) (fun i hi => .inl hi), h.news, h.apart, h.nbox⟩
theorem Ent.fin {w : World} {d : DrM} {F : List Nat} {k n : Nat} {A : Option Addr} {c : Nat} {F' : List Nat} {wr : World} (h : Ent w d F k A c F' wr) (hn : n = k) (hk : k = enterN d) : DEnt w d F (.returned (.slice A n c)) wr := by
  subst hn
  subst hk
  exact ⟨A, c, F', rfl, h.own, h.door, h.turned, fun j hj => (h.news j hj).imp (fun x => x) (fun x => by omega), h.apart⟩
theorem enterN_all {d : DrM} {k : Nat} (h1 : k = d.outs.length) (h2 : (d.ins.length : Int) + k ≤ d.cores) : k = enterN d := by unfold enterN; omega
theorem enterN_full {d : DrM} {k : Nat} (h1 : k ≤ d.outs.length) (h2 : (d.ins.length : Int) + k = d.cores) : k = enterN d := by unfold enterN; omega
set_option maxHeartbeats 4000000 in
theorem denter_any {w : World} {d : DrM} {F : List Nat} (h : DrOk w d F) (hd : (d.ins ++ d.outs).Nodup) (hf : ∀ n ∈ d.outs, I64 n) (hl : d.outs.length ≤ 6) : Calls Tryz.prog 61 #[DrM.val d] w (DEnt w d F) := by
  have hb := (Below.refl w.heap.size w).alloc (Nat.le_refl _) (.cells #[.int .i64 d.cores, .pointer (some ⟨d.gb, 0, none⟩), .pointer (some ⟨d.lb, 0, none⟩)] 76)
  have BX := Bk.new w 76 #[.int .i64 d.cores, .pointer (some ⟨d.gb, 0, none⟩), .pointer (some ⟨d.lb, 0, none⟩)]
  have H0 : Hid (Ent w d F 0 none 0 F (w.alloc (.cells #[.int .i64 d.cores, .pointer (some ⟨d.gb, 0, none⟩), .pointer (some ⟨d.lb, 0, none⟩)] 76))) := hidp
    ⟨BX, ⟨World.ownsRow_nil _ _ _ _, by simp, Nat.le_refl _, by decide, fun _ => ⟨rfl, rfl⟩⟩, by have := h.over hb; simpa [enterD] using this, Turned.of_below hb _, fun j hj => .inl hj, by simp [fp], by simp [fp]⟩
  have HL : Hid (∀ j ∈ F, j < w.heap.size) := hidp h.lt
  have HC := hidp h.cores
  have HD := hidp hd
  have HF := hidp hf
  have Hl := hidp hl
  obtain ⟨i0, hi0, hz0, hz1, hz2⟩ := info_parts infoInt
  clear h hd hf hl hb BX
  unfold DrM.val
  go_enter Tryz.func61, Tryz.ntmps61
  go_wp2
  go_step3
  go_wp2
  go_step3
  go_wp2
  go_loopg [3] (d.outs.length + 1) (fun g o wr => ∃ (k n : Nat) (A : Option Addr) (c : Nat) (F' : List Nat), k + g = d.outs.length + 1 ∧ n = k ∧ k ≤ d.outs.length ∧ o = .slice A n c ∧ Hid (Ent w d F k A c F' wr))
  case atStart => exact ⟨0, 0, none, 0, F, by omega, rfl, by omega, rfl, H0⟩
  case round =>
    obtain ⟨k, n, A, c, F', hk, hnk, hkl, rfl, E⟩ := hrel
    have Hnk := hidp hnk
    obtain ⟨is, HI⟩ : ∃ is, Hid (d.ins ++ d.outs.take k = is) := ⟨_, rfl⟩
    obtain ⟨qs, HQ⟩ : ∃ qs, Hid (d.outs.drop k = qs) := ⟨_, rfl⟩
    have HIl : Hid (is.length = d.ins.length + k) := hidp (by rw [← HI.out]; simp; omega)
    have hdw : Below wr.heap.size wr wr.drew := (Below.refl _ _).drew
    have d0 := E.out.door.over hdw
    obtain ⟨⟨F1, F2, g1, g2, g3, g4⟩, gc, gf⟩ := d0
    have g1 : Gt wr.drew d.gb d.cores is [] F1 := HI.out ▸ g1
    have g2 : LnO wr.drew d.lb 6 qs F2 := HQ.out ▸ g2
    have bx := (Turned.refl [] wr).drew
    have bx := E.out.box.turned bx (by simp)
    obtain ⟨x0, x1, x2⟩ := Zd3 bx
    obtain ⟨a1, k1, a2, k2, gr, hF1⟩ := g1
    have Hlen := hidp gr.len
    have GR := hidp gr
    have G2 := hidp g2
    have G3 := hidp g3
    have G4 := hidp g4
    have BX := hidp bx
    have HF1 := hidp hF1
    clear g2 g3 g4 gf bx hF1 hnk
    by_cases hlt : (is.length : Int) < d.cores
    · go_wp2_with fail
      go_region_held3 (fun w' => w'.cell? ⟨w.heap.size, 0, none⟩ = some (.int .i64 d.cores) ∧ w'.cell? ⟨w.heap.size, 1, none⟩ = some (.pointer (some ⟨d.gb, 0, none⟩))) (first | exact ⟨x0, x1⟩ | exact hs)
        ((go_at_call 78; refine (gin_any gr).mono ?_; rintro e u ⟨A9, c9, rfl, ho9, hb9⟩; have hs := And.intro ((hb9.cell (cell_lt x0)).trans x0) ((hb9.cell (cell_lt x1)).trans x1); have HB9 := hidp hb9; clear ho9 hb9))
      have hb9 := HB9.out
      have gu := gr.over hb9
      have lu := G2.out.over hb9
      have bu := BX.out.turned (Turned.of_below hb9 []) (by simp)
      have y2 := (Zd3 bu).2.2
      have EU := hidp (E.out.over (hdw.trans (hb9.mono hdw.size)))
      clear hs x0 x1 x2 gr
      rcases qs with _ | ⟨x, qs⟩
      · have Hk : Hid (k = enterN d) := hidp (enterN_all (by have := congrArg List.length HQ.out; simp at this; omega) (by have := HIl.out; omega))
        go_wp2_with fail
        refine (lo_takeNil lu).mono ?_
        rintro e w3 ⟨rfl, rfl⟩
        go_wp2_with fail
        try rw [Exit.noGoto_ret]
        go_ret
        exact EU.out.fin Hnk.out Hk.out
      · go_wp2_with fail
        refine (lo_take lu).mono ?_
        rintro e w3 ⟨rfl, F2', gl, ht3, hf3⟩
        have hs3 := ht3.size
        have hsu := hb9.size
        simp at hsu
        have hF2 : ∀ j ∈ F2, j ∈ F ∨ w.heap.size < j := fun j hj => E.out.news j (by rw [G4.out]; exact List.mem_append_right F1 hj)
        have hF1m : ∀ j ∈ F1, j ∈ F ∨ w.heap.size < j := fun j hj => E.out.news j (by rw [G4.out]; exact List.mem_append_left F2 hj)
        have hF1s : ∀ j ∈ F1, j < wr.heap.size := fun j hj => by have := E.out.door.lt j (by rw [G4.out]; exact List.mem_append_left F2 hj); exact this
        have hF2s : ∀ j ∈ F2, j < wr.heap.size := fun j hj => by have := E.out.door.lt j (by rw [G4.out]; exact List.mem_append_right F1 hj); exact this
        have hws := E.out.turned.size
        have hwb : w.heap.size < wr.heap.size := E.out.box.lt
        have hnb2 : w.heap.size ∉ F2 := fun hm => by
          rcases hF2 _ hm with h | h
          · have := HL.out _ h; omega
          · omega
        have hnb1 : w.heap.size ∉ F1 := fun hm => by
          rcases hF1m _ hm with h | h
          · have := HL.out _ h; omega
          · omega
        have b3 := bu.turned ht3 hnb2
        have g3 : Gt w3 d.gb d.cores is [] F1 := by
          have hg : Gt u d.gb d.cores is [] F1 := ⟨a1, k1, a2, k2, gu, HF1.out⟩
          exact hg.turned ht3 G3.out
        have z1 := (Zd3 b3).2.1
        have hxm : x ∈ d.outs := List.mem_of_mem_drop (by rw [HQ.out]; exact List.mem_cons_self)
        have hxi : I64 x := HF.out x hxm
        have hxn : plK is x = false := by
          have hnd := HD.out
          have e : d.ins ++ d.outs = is ++ x :: qs := by rw [← HI.out, ← HQ.out, List.append_assoc, List.take_append_drop]
          rw [e] at hnd
          have := (List.nodup_append.1 hnd).2.2
          unfold plK
          simp only [decide_eq_false_iff_not]
          intro hm
          exact this x hm x (by simp) rfl
        have o3 := (EU.out.own).turned ht3 (fun j hj hm => E.out.apart j (by rw [G4.out]; exact List.mem_append_right F1 hm) hj)
        have AI := hidp (ask_ok g3 hxi hxn (by simp [plK]) hlt)
        go_wp2_with fail
        refine AI.out.mono ?_
        rintro e w4 ⟨rfl, F1', gg, ht4, hf4⟩
        have hs4 := ht4.size
        have o4 := o3.turned ht4 (fun j hj hm => E.out.apart j (by rw [G4.out]; exact List.mem_append_left F2 hm) hj)
        have L1 := hidp (Lies.new1 w4 (.int .i64 x) 3)
        have hown2 := o4.1.alloc (.cells #[.int .i64 x] 3)
        have K1 : Hid (∀ u ∈ [Value.int .i64 x], u.oneCell' = true) := hidp (by simp; rfl)
        have hn6 : n ≤ 6 := by have := Hl.out; have := Hnk.out; omega
        have K5 : Hid (n + 1 ≤ maxLen) := hidp (by unfold maxLen; omega)
        have K6 : Hid ((n + 1) * 8 ≤ 140737488355328) := hidp (by omega)
        have Hsz : Hid (w.heap.size ≤ (w4.alloc (.cells #[.int .i64 x] 3)).heap.size) := hidp (by simp; omega)
        have HG := hidp gg
        have Hgl := hidp gl
        have HT3 := hidp ht3
        have HT4 := hidp ht4
        have O4 := hidp o4
        have B3 := hidp b3
        clear gg gl ht3 ht4 o3 o4 b3 y2 z1 bu gu lu
        go_wp2_with (at_builtin; refine wpList_app2 _ rfl (.tmp 25) (.tmp 27) 22 rfl w.heap.size 3 i0 (.int .i64 0) 1 8 Tryz.underlying22 hi0 hz0 hz1 hz2 rfl (by decide) A n c _ rfl (Hnk.out ▸ hown2) _ _ 1 1 [.int .i64 x] rfl (by simp) rfl L1.out K1.out K5.out K6.out Hsz.out ?_; intro A' c' w5 happ)
        go_roundg (gk - 1)
        case measure => omega
        case rel =>
          have hnk := Hnk.out
          subst hnk
          have hlk : n < d.outs.length := by have := congrArg List.length HQ.out; simp at this; omega
          have hxk : d.outs[n] = x := by
            have := HQ.out
            rw [List.drop_eq_getElem_cons hlk] at this
            exact (List.cons.inj this).1
          have hqk : d.outs.drop (n + 1) = qs := by
            have := HQ.out
            rw [List.drop_eq_getElem_cons hlk] at this
            exact (List.cons.inj this).2
          have htk : d.outs.take (n + 1) = d.outs.take n ++ [x] := by rw [← hxk, List.take_append_getElem]
          have hpA : ∀ j ∈ fp A, w.heap.size ≤ j ∧ j < wr.heap.size := fun j hj => own_fp E.out.own.1 j hj
          have hA1 : ∀ j ∈ F1, j ∉ fp A := fun j hj => E.out.apart j (by rw [G4.out]; exact List.mem_append_left F2 hj)
          have hA2 : ∀ j ∈ F2, j ∉ fp A := fun j hj => E.out.apart j (by rw [G4.out]; exact List.mem_append_right F1 hj)
          have hA1' : ∀ j ∈ F1', j ∉ fp A := fun j hj hm => by
            rcases hf4 j hj with h | h
            · exact hA1 j h hm
            · have := hpA j hm; omega
          have hA2' : ∀ j ∈ F2', j ∉ fp A := fun j hj hm => by
            rcases hf3 j hj with h | h
            · exact hA2 j h hm
            · have := hpA j hm; omega
          have h12 : ∀ j ∈ F2', j ∉ F1 := fun j hj hm => by
            rcases hf3 j hj with h | h
            · exact G3.out j hm h
            · have := hF1s j hm; omega
          have hl2 := Hgl.out.lt
          have hl1 := HG.out.lt
          have h12' : ∀ j ∈ F1', j ∉ F2' := fun j hj hm => by
            rcases hf4 j hj with h | h
            · exact h12 j hm h
            · have := hl2 j hm; omega
          have hfp2 : ∀ j ∈ fp A', j ∈ fp A ∨ w4.heap.size ≤ j := fun j hj => (happ.fps j hj).imp (fun x => x) (fun x => by simp at x; omega)
          have tl : Turned [] w4 (w4.alloc (.cells #[.int .i64 x] 3)) := (Turned.refl [] w4).alloc _
          refine ⟨n + 1, n + 1, A', c', F1' ++ F2', by omega, rfl, by omega, rfl, hidp ⟨?_, ⟨?_, ?_, happ.cap.1, happ.cap.2, happ.nil⟩, ⟨⟨F1', F2', ?_, ?_, h12', rfl⟩, HC.out, ?_⟩, ?_, ?_, ?_, ?_⟩⟩
          · exact ((B3.out.turned HT4.out hnb1).turned tl (by simp)).turned happ.turned E.out.nbox
          · rw [htk]; simpa using happ.own
          · rw [htk]; simp; omega
          · show Gt w5 d.gb d.cores (d.ins ++ d.outs.take (n + 1)) [] F1'
            rw [htk, ← List.append_assoc, HI.out]
            exact (HG.out.turned tl (by simp)).turned happ.turned hA1'
          · show LnO w5 d.lb 6 (d.outs.drop (n + 1)) F2'
            rw [hqk]
            exact ((Hgl.out.turned HT4.out h12).turned tl (by simp)).turned happ.turned hA2'
          · exact fun m hm => HF.out m (List.mem_of_mem_drop hm)
          · refine (((EU.out.turned.trans HT3.out fun j hj => (hF2 j hj).imp (fun x => x) (fun h => by omega)).trans HT4.out fun j hj => (hF1m j hj).imp (fun x => x) (fun h => by omega)).alloc _).trans happ.turned fun j hj => .inr (hpA j hj).1
          · intro j hj
            rcases List.mem_append.1 hj with h | h
            · rcases hf4 j h with h | h
              · exact hF1m j h
              · right; omega
            · rcases hf3 j h with h | h
              · exact hF2 j h
              · right; omega
          · intro j hj hm
            have hlt4 : j < w4.heap.size := by
              rcases List.mem_append.1 hj with h | h
              · exact hl1 j h
              · have := hl2 j h; omega
            rcases hfp2 j hm with h | h
            · rcases List.mem_append.1 hj with h' | h'
              · exact hA1' j h' h
              · exact hA2' j h' h
            · omega
          · intro hm
            rcases hfp2 _ hm with h | h
            · exact E.out.nbox h
            · omega
    · have Hk : Hid (k = enterN d) := hidp (enterN_full hkl (by have := HIl.out; have := Hlen.out; omega))
      have hle : d.cores ≤ (is.length : Int) := by omega
      have hlf : decide ((is.length : Int) < d.cores) = false := decide_eq_false hlt
      clear hlt
      go_wp2_with fail
      go_region_held3 (fun w' => w'.cell? ⟨w.heap.size, 0, none⟩ = some (.int .i64 d.cores) ∧ w'.cell? ⟨w.heap.size, 1, none⟩ = some (.pointer (some ⟨d.gb, 0, none⟩))) (first | exact ⟨x0, x1⟩ | exact hs)
        ((go_at_call 78; refine (gin_any gr).mono ?_; rintro e u ⟨A9, c9, rfl, ho9, hb9⟩; have hs := And.intro ((hb9.cell (cell_lt x0)).trans x0) ((hb9.cell (cell_lt x1)).trans x1); have HB9 := hidp hb9; clear ho9 hb9))
      have EU := hidp (E.out.over (hdw.trans (HB9.out.mono hdw.size)))
      clear hs x0 x1 x2 gr
      go_wp2_with fail
      try rw [Exit.noGoto_ret]
      go_ret
      exact EU.out.fin Hnk.out Hk.out
end Go.Proofs.YtppgameimddimaaGreat
