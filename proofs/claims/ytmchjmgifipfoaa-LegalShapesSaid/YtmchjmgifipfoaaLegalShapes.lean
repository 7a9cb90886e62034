/- LegalShapes: what isn't right isn't told to be. No condition. Printed by tools/legal/shapes.py. -/
import Derived.Test.YtmchjmgifipfoaaKnown25
import Derived.Test.YtmchjmgifipfoaaShp25
import Derived.Test.YtmchjmgifipfoaaOwnS
import Derived.Test.YtmchjmgifipfoaaLit
import Derived.Test.YtmchjmgifipfoaaUp
import Derived.Test.YtmchjmgifipfoaaOk3
import Derived.Test.YtmchjmgifipfoaaRegD
import Derived.Deep.CutBlock
set_option linter.unusedSimpArgs false
set_option linter.unusedVariables false
namespace Go.Proofs.Ytmchjmgifipfoaa
open Go.ChangeShapes Go.WideShapes Go.ChangeAt Go.RowKit
theorem infoDone : (Try.prog.info? 32).map (fun i => (i.zero, i.size, i.bytes)) = some (some (.agg #[.int .i64 0, .int .i64 0, .int .i64 0]), 3, 24) := by kernel_rfl
theorem infoWait : (Try.prog.info? 35).map (fun i => (i.zero, i.size, i.bytes)) = some (some (.agg #[.int .i64 0, .int .i64 0, .int .i64 0, .int .i64 0, .int .i64 0]), 5, 40) := by kernel_rfl
/-- the cells of the three rows -/
def cSl (k : Int) : List Value := [.int .i64 k, .int .i64 0, .int .i64 0, .bool false, .int .i64 (k + 1), .int .i64 0, .int .i64 1, .bool false]
def cDn (k : Int) : List Value := [.int .i64 0, .int .i64 k, .int .i64 (k + 5), .int .i64 0, .int .i64 (k + 100), .int .i64 (k + 105)]
def cWt (k : Int) : List Value := [.int .i64 0, .int .i64 1, .int .i64 k, .int .i64 k, .int .i64 (k + 3), .int .i64 1, .int .i64 1, .int .i64 k, .int .i64 (k + 3), .int .i64 (k + 6)]
theorem one_sl (k : Int) : ∀ u ∈ cSl k, u.oneCell' = true := fun u hu => by
  unfold cSl at hu
  rcases List.mem_cons.1 hu with rfl | hu
  · rfl
  rcases List.mem_cons.1 hu with rfl | hu
  · rfl
  rcases List.mem_cons.1 hu with rfl | hu
  · rfl
  rcases List.mem_cons.1 hu with rfl | hu
  · rfl
  rcases List.mem_cons.1 hu with rfl | hu
  · rfl
  rcases List.mem_cons.1 hu with rfl | hu
  · rfl
  rcases List.mem_cons.1 hu with rfl | hu
  · rfl
  rcases List.mem_cons.1 hu with rfl | hu
  · rfl
  cases hu
theorem one_dn (k : Int) : ∀ u ∈ cDn k, u.oneCell' = true := fun u hu => by
  unfold cDn at hu
  rcases List.mem_cons.1 hu with rfl | hu
  · rfl
  rcases List.mem_cons.1 hu with rfl | hu
  · rfl
  rcases List.mem_cons.1 hu with rfl | hu
  · rfl
  rcases List.mem_cons.1 hu with rfl | hu
  · rfl
  rcases List.mem_cons.1 hu with rfl | hu
  · rfl
  rcases List.mem_cons.1 hu with rfl | hu
  · rfl
  cases hu
theorem one_wt (k : Int) : ∀ u ∈ cWt k, u.oneCell' = true := fun u hu => by
  unfold cWt at hu
  rcases List.mem_cons.1 hu with rfl | hu
  · rfl
  rcases List.mem_cons.1 hu with rfl | hu
  · rfl
  rcases List.mem_cons.1 hu with rfl | hu
  · rfl
  rcases List.mem_cons.1 hu with rfl | hu
  · rfl
  rcases List.mem_cons.1 hu with rfl | hu
  · rfl
  rcases List.mem_cons.1 hu with rfl | hu
  · rfl
  rcases List.mem_cons.1 hu with rfl | hu
  · rfl
  rcases List.mem_cons.1 hu with rfl | hu
  · rfl
  rcases List.mem_cons.1 hu with rfl | hu
  · rfl
  rcases List.mem_cons.1 hu with rfl | hu
  · rfl
  cases hu
theorem lies_bk {w : World} {g : Nat} {T : TypeId} {cs : List Value} (h : Bk w g T cs.toArray) : Lies w.heap.size w (some ⟨g, 0, none⟩) cs := .inr ⟨g, 0, rfl, h.lt, fun j v hj => by rw [Nat.zero_add, h.cell j, List.getElem?_toArray]; exact hj⟩
theorem row_cell {w : World} {base : Nat} {e : TypeId} {size n m c g : Nat} {xs : List Value} (h : w.ownsRow base e size (.slice (some ⟨g, 0, none⟩) m c) n xs) {j : Nat} {v : Value} (hj : xs[j]? = some v) : w.cell? ⟨g, j, none⟩ = some v := by
  have := h.cells (g := g) rfl j v hj
  simpa [Addr.add_lit] using this
/-- the bad trace's box g, its rows gs, gd, gw; all of it made since u0 -/
structure Bad25 (u0 wx : World) (k : Int) (g gs gd gw c1 c2 c3 : Nat) (xs ds ws : List Value) (tk : Int) : Prop where
  bb : Bk wx g 38 #[.int .i64 tk, .slice (some ⟨gs, 0, none⟩) 2 c1, .slice (some ⟨gd, 0, none⟩) 2 c2, .slice (some ⟨gw, 0, none⟩) 2 c3]
  s : wx.ownsRow u0.heap.size 29 4 (.slice (some ⟨gs, 0, none⟩) 2 c1) 2 xs
  d : wx.ownsRow u0.heap.size 32 3 (.slice (some ⟨gd, 0, none⟩) 2 c2) 2 ds
  w : wx.ownsRow u0.heap.size 35 5 (.slice (some ⟨gw, 0, none⟩) 2 c3) 2 ws
  k1 : 2 ≤ c1 ∧ c1 ≤ maxLen
  k2 : 2 ≤ c2 ∧ c2 ≤ maxLen
  k3 : 2 ≤ c3 ∧ c3 ≤ maxLen
  g0 : u0.heap.size ≤ g
  ne : g ≠ gs ∧ g ≠ gd ∧ g ≠ gw ∧ gs ≠ gd ∧ gs ≠ gw ∧ gd ≠ gw
  b : Below u0.heap.size u0 wx
theorem own_far {w : World} {base : Nat} {e : TypeId} {size n m c g : Nat} {xs : List Value} (h : w.ownsRow base e size (.slice (some ⟨g, 0, none⟩) m c) n xs) {p : Addr} (hp : g ≠ p.block) (u : Value) : (w.setCell p u).ownsRow base e size (.slice (some ⟨g, 0, none⟩) m c) n xs := own_setCell h (by simp [fp]; omega) u
section
variable {u0 wx : World} {k : Int} {g gs gd gw c1 c2 c3 : Nat} {xs ds ws : List Value} {tk : Int}
theorem Bad25.putS (h : Bad25 u0 wx k g gs gd gw c1 c2 c3 xs ds ws tk) (j : Nat) (hj : j < 8) (u : Value) : Bad25 u0 (wx.setCell ⟨gs, j, none⟩ u) k g gs gd gw c1 c2 c3 (xs.set j u) ds ws tk :=
  ⟨h.bb.far h.ne.1 u, own_put h.s j (by omega) u, own_far h.d (Ne.symm h.ne.2.2.2.1) u, own_far h.w (Ne.symm h.ne.2.2.2.2.1) u, h.k1, h.k2, h.k3, h.g0, h.ne, h.b.setCell (own_fp h.s gs (by simp [fp])).1 u⟩
theorem Bad25.putD (h : Bad25 u0 wx k g gs gd gw c1 c2 c3 xs ds ws tk) (j : Nat) (hj : j < 6) (u : Value) : Bad25 u0 (wx.setCell ⟨gd, j, none⟩ u) k g gs gd gw c1 c2 c3 xs (ds.set j u) ws tk :=
  ⟨h.bb.far h.ne.2.1 u, own_far h.s h.ne.2.2.2.1 u, own_put h.d j (by omega) u, own_far h.w (Ne.symm h.ne.2.2.2.2.2) u, h.k1, h.k2, h.k3, h.g0, h.ne, h.b.setCell (own_fp h.d gd (by simp [fp])).1 u⟩
theorem Bad25.putW (h : Bad25 u0 wx k g gs gd gw c1 c2 c3 xs ds ws tk) (j : Nat) (hj : j < 10) (u : Value) : Bad25 u0 (wx.setCell ⟨gw, j, none⟩ u) k g gs gd gw c1 c2 c3 xs ds (ws.set j u) tk :=
  ⟨h.bb.far h.ne.2.2.1 u, own_far h.s h.ne.2.2.2.2.1 u, own_far h.d h.ne.2.2.2.2.2 u, own_put h.w j (by omega) u, h.k1, h.k2, h.k3, h.g0, h.ne, h.b.setCell (own_fp h.w gw (by simp [fp])).1 u⟩
theorem Bad25.drew (h : Bad25 u0 wx k g gs gd gw c1 c2 c3 xs ds ws tk) : Bad25 u0 wx.drew k g gs gd gw c1 c2 c3 xs ds ws tk :=
  ⟨h.bb.drewN 1, own_turned h.s (Turned.refl [] wx).drew (by simp), own_turned h.d (Turned.refl [] wx).drew (by simp), own_turned h.w (Turned.refl [] wx).drew (by simp), h.k1, h.k2, h.k3, h.g0, h.ne, below_drewN h.b 1⟩
theorem Bad25.putT (h : Bad25 u0 wx k g gs gd gw c1 c2 c3 xs ds ws tk) (z : Int) : Bad25 u0 (wx.setCell ⟨g, 0, none⟩ (.int .i64 z)) k g gs gd gw c1 c2 c3 xs ds ws z :=
  ⟨h.bb.put 0 _, own_far h.s (Ne.symm h.ne.1) _, own_far h.d (Ne.symm h.ne.2.1) _, own_far h.w (Ne.symm h.ne.2.2.1) _, h.k1, h.k2, h.k3, h.g0, h.ne, h.b.setCell h.g0 _⟩
/-- the cells of two slots, two jobs, two waits -/
def c2S (a b : SlotM) : List Value := [.int .i64 a.time, .int .i64 a.cl, .int .i64 a.task, .bool a.held, .int .i64 b.time, .int .i64 b.cl, .int .i64 b.task, .bool b.held]
def c2D (a b : DoneM) : List Value := [.int .i64 a.task, .int .i64 a.rel, .int .i64 a.fin, .int .i64 b.task, .int .i64 b.rel, .int .i64 b.fin]
def c2W (a b : WaitM) : List Value := [.int .i64 a.task, .int .i64 a.part, .int .i64 a.ask, .int .i64 a.got, .int .i64 a.fin, .int .i64 b.task, .int .i64 b.part, .int .i64 b.ask, .int .i64 b.got, .int .i64 b.fin]
theorem Bad25.ok {a b : SlotM} {d e : DoneM} {x y : WaitM} (h : Bad25 u0 wx k g gs gd gw c1 c2 c3 (c2S a b) (c2D d e) (c2W x y) tk) (hk : I64 tk) (ha : a.wf) (hb : b.wf) (hd : d.wf) (he : e.wf) (hx : x.wf) (hy : y.wf) :
    TraceOk wx (pT tk (some ⟨gs, 0, none⟩) c1 [a, b] (some ⟨gd, 0, none⟩) c2 [d, e] (some ⟨gw, 0, none⟩) c3 [x, y]) :=
  ⟨hk, ⟨(fun e => by cases e), h.k1⟩, .inr ⟨gs, 0, rfl, fun i hi => by
    have hi : i < 2 := hi
    match i, hi with
    | 0, _ => exact ⟨row_cell h.s (j := 0) rfl, row_cell h.s (j := 1) rfl, row_cell h.s (j := 2) rfl, row_cell h.s (j := 3) rfl⟩
    | 1, _ => exact ⟨row_cell h.s (j := 4) rfl, row_cell h.s (j := 5) rfl, row_cell h.s (j := 6) rfl, row_cell h.s (j := 7) rfl⟩⟩, (fun z hz => by
    have hz : z ∈ [a, b] := hz
    simp at hz
    rcases hz with rfl | rfl <;> assumption), ⟨(fun e => by cases e), h.k2⟩, .inr ⟨gd, 0, rfl, fun i hi => by
    have hi : i < 2 := hi
    match i, hi with
    | 0, _ => exact ⟨row_cell h.d (j := 0) rfl, row_cell h.d (j := 1) rfl, row_cell h.d (j := 2) rfl⟩
    | 1, _ => exact ⟨row_cell h.d (j := 3) rfl, row_cell h.d (j := 4) rfl, row_cell h.d (j := 5) rfl⟩⟩, (fun z hz => by
    have hz : z ∈ [d, e] := hz
    simp at hz
    rcases hz with rfl | rfl <;> assumption), ⟨(fun e => by cases e), h.k3⟩, .inr ⟨gw, 0, rfl, fun i hi => by
    have hi : i < 2 := hi
    match i, hi with
    | 0, _ => exact ⟨row_cell h.w (j := 0) rfl, row_cell h.w (j := 1) rfl, row_cell h.w (j := 2) rfl, row_cell h.w (j := 3) rfl, row_cell h.w (j := 4) rfl⟩
    | 1, _ => exact ⟨row_cell h.w (j := 5) rfl, row_cell h.w (j := 6) rfl, row_cell h.w (j := 7) rfl, row_cell h.w (j := 8) rfl, row_cell h.w (j := 9) rfl⟩⟩, (fun z hz => by
    have hz : z ∈ [x, y] := hz
    simp at hz
    rcases hz with rfl | rfl <;> assumption)⟩
end
end Go.Proofs.Ytmchjmgifipfoaa
set_option maxHeartbeats 8000000
set_option maxRecDepth 100000
namespace Go.Proofs.Ytmchjmgifipfoaa.legalShapes
open Go.ChangeShapes Go.WideShapes Go.ChangeAt Go.RowKit
open Go.ChangeMaps (open_string shut_string)
set_option linter.unusedVariables false

/-- THE WALK: the Go text returns true, and writes nothing that was there. -/
theorem walk (a0 : Int) (a1 : Int) (w : World) (w0 : (Lit.int .u8 a0).wf = true) (w1 : (Lit.int .u8 a1).wf = true) :
    Calls Try.prog 3 #[.int .u8 a0, .int .u8 a1] w fun e w' => e = .returned (.bool true) ∧ Below w.heap.size w w' := by
  obtain ⟨m, m0, m1, hm⟩ := mod_u8 9 w0 (by decide)
  obtain ⟨k, k0, k1, hk⟩ := mod_u8 20 w1 (by decide)
  have v1 : IntKind.i64.wrap (k + 1) = k + 1 := IntWalk.i64_in _ (by omega)
  have HM := hidp hm
  clear hm
  obtain ⟨i0, hi0, hy0, hy1, hy2⟩ := info_parts infoSlot
  obtain ⟨j0, hj0, hq0, hq1, hq2⟩ := info_parts infoDone
  obtain ⟨l0, hl0, hr0, hr1, hr2⟩ := info_parts infoWait
  go_enter Try.func3, Try.ntmps3
  have hb := Below.refl w.heap.size w
  go_wp2_with fail
  refine (known25_any _).mono ?_
  rintro e u1 ⟨rfl, hb2⟩
  replace hb := hb.trans (hb2.mono hb.size)
  clear hb2
  go_wp2_with fail
  refine (two25_any 1 1 3 1 3 _ (by decide) (by decide) (by decide) (by decide) (by decide)).mono ?_
  rintro e u2 ⟨⟨S, rfl, hs, hS⟩, hb2⟩
  replace hb := hb.trans (hb2.mono hb.size)
  clear hb2
  obtain ⟨q1, q2, q3, a1, a2, c1, c2, q4⟩ := hS
  obtain ⟨proto, ca, cc, cores, ha, hc, homes, ta, tc, tasks⟩ := S
  dsimp only at q1 q2 q3 q4 ⊢
  subst q1
  subst q2
  subst q3
  subst q4
  have hs : SetOk u2 (pS ca cc ha hc ta tc a1 c1 a2 c2) := hs
  obtain ⟨B, hB⟩ : ∃ x, u2.heap.size = x := ⟨_, rfl⟩
  have bS : Bk (u2.alloc (.cells #[.int .i64 1, .slice ca 1 cc, .slice ha 1 hc, .slice ta 2 tc] 26)) B 26 #[.int .i64 1, .slice ca 1 cc, .slice ha 1 hc, .slice ta 2 tc] := Bk.at_ hB rfl
  replace hs := hs.keep (Keeps.alloc u2 (.cells #[.int .i64 1, .slice ca 1 cc, .slice ha 1 hc, .slice ta 2 tc] 26))
  replace hb := hb.alloc hb.size (.cells #[.int .i64 1, .slice ca 1 cc, .slice ha 1 hc, .slice ta 2 tc] 26)
  go_upto_region 5 with fail
  obtain ⟨u3, hu3⟩ : ∃ v, u2.alloc (.cells #[.int .i64 1, .slice ca 1 cc, .slice ha 1 hc, .slice ta 2 tc] 26) = v := ⟨_, rfl⟩
  rw [hu3] at bS hs hb ⊢
  try rw [hB]
  clear hu3 hB
  obtain ⟨N, hN⟩ : ∃ x, u3.heap.size = x := ⟨_, rfl⟩
  have bs := Bk.at_ (w := u3) (g := N) (t := 29) (cs := #[.int .i64 k, .int .i64 0, .int .i64 0, .bool false, .int .i64 (k + 1), .int .i64 0, .int .i64 1, .bool false]) hN rfl
  replace bS := bS.alloc (.cells #[.int .i64 k, .int .i64 0, .int .i64 0, .bool false, .int .i64 (k + 1), .int .i64 0, .int .i64 1, .bool false] 29)
  replace hs := hs.keep (Keeps.alloc _ (.cells #[.int .i64 k, .int .i64 0, .int .i64 0, .bool false, .int .i64 (k + 1), .int .i64 0, .int .i64 1, .bool false] 29))
  replace hb := hb.alloc hb.size (.cells #[.int .i64 k, .int .i64 0, .int .i64 0, .bool false, .int .i64 (k + 1), .int .i64 0, .int .i64 1, .bool false] 29)
  have bd := Bk.at_ (w := (u3.alloc (.cells #[.int .i64 k, .int .i64 0, .int .i64 0, .bool false, .int .i64 (k + 1), .int .i64 0, .int .i64 1, .bool false] 29))) (g := N + 1) (t := 32) (cs := #[.int .i64 0, .int .i64 k, .int .i64 (k + 5), .int .i64 0, .int .i64 (k + 100), .int .i64 (k + 105)]) (by simp; omega) rfl
  replace bs := bs.alloc (.cells #[.int .i64 0, .int .i64 k, .int .i64 (k + 5), .int .i64 0, .int .i64 (k + 100), .int .i64 (k + 105)] 32)
  replace bS := bS.alloc (.cells #[.int .i64 0, .int .i64 k, .int .i64 (k + 5), .int .i64 0, .int .i64 (k + 100), .int .i64 (k + 105)] 32)
  replace hs := hs.keep (Keeps.alloc _ (.cells #[.int .i64 0, .int .i64 k, .int .i64 (k + 5), .int .i64 0, .int .i64 (k + 100), .int .i64 (k + 105)] 32))
  replace hb := hb.alloc hb.size (.cells #[.int .i64 0, .int .i64 k, .int .i64 (k + 5), .int .i64 0, .int .i64 (k + 100), .int .i64 (k + 105)] 32)
  have bw := Bk.at_ (w := ((u3.alloc (.cells #[.int .i64 k, .int .i64 0, .int .i64 0, .bool false, .int .i64 (k + 1), .int .i64 0, .int .i64 1, .bool false] 29)).alloc (.cells #[.int .i64 0, .int .i64 k, .int .i64 (k + 5), .int .i64 0, .int .i64 (k + 100), .int .i64 (k + 105)] 32))) (g := N + 1 + 1) (t := 35) (cs := #[.int .i64 0, .int .i64 1, .int .i64 k, .int .i64 k, .int .i64 (k + 3), .int .i64 1, .int .i64 1, .int .i64 k, .int .i64 (k + 3), .int .i64 (k + 6)]) (by simp; omega) rfl
  replace bs := bs.alloc (.cells #[.int .i64 0, .int .i64 1, .int .i64 k, .int .i64 k, .int .i64 (k + 3), .int .i64 1, .int .i64 1, .int .i64 k, .int .i64 (k + 3), .int .i64 (k + 6)] 35)
  replace bd := bd.alloc (.cells #[.int .i64 0, .int .i64 1, .int .i64 k, .int .i64 k, .int .i64 (k + 3), .int .i64 1, .int .i64 1, .int .i64 k, .int .i64 (k + 3), .int .i64 (k + 6)] 35)
  replace bS := bS.alloc (.cells #[.int .i64 0, .int .i64 1, .int .i64 k, .int .i64 k, .int .i64 (k + 3), .int .i64 1, .int .i64 1, .int .i64 k, .int .i64 (k + 3), .int .i64 (k + 6)] 35)
  replace hs := hs.keep (Keeps.alloc _ (.cells #[.int .i64 0, .int .i64 1, .int .i64 k, .int .i64 k, .int .i64 (k + 3), .int .i64 1, .int .i64 1, .int .i64 k, .int .i64 (k + 3), .int .i64 (k + 6)] 35))
  replace hb := hb.alloc hb.size (.cells #[.int .i64 0, .int .i64 1, .int .i64 k, .int .i64 k, .int .i64 (k + 3), .int .i64 1, .int .i64 1, .int .i64 k, .int .i64 (k + 3), .int .i64 (k + 6)] 35)
  have bg := Bk.at_ (w := (((u3.alloc (.cells #[.int .i64 k, .int .i64 0, .int .i64 0, .bool false, .int .i64 (k + 1), .int .i64 0, .int .i64 1, .bool false] 29)).alloc (.cells #[.int .i64 0, .int .i64 k, .int .i64 (k + 5), .int .i64 0, .int .i64 (k + 100), .int .i64 (k + 105)] 32)).alloc (.cells #[.int .i64 0, .int .i64 1, .int .i64 k, .int .i64 k, .int .i64 (k + 3), .int .i64 1, .int .i64 1, .int .i64 k, .int .i64 (k + 3), .int .i64 (k + 6)] 35))) (g := N + 1 + 1 + 1) (t := 38) (cs := #[.int .i64 500, .slice (some ⟨N, 0, none⟩) 2 2, .slice (some ⟨N + 1, 0, none⟩) 2 2, .slice (some ⟨N + 1 + 1, 0, none⟩) 2 2]) (by simp; omega) rfl
  replace bs := bs.alloc (.cells #[.int .i64 500, .slice (some ⟨N, 0, none⟩) 2 2, .slice (some ⟨N + 1, 0, none⟩) 2 2, .slice (some ⟨N + 1 + 1, 0, none⟩) 2 2] 38)
  replace bd := bd.alloc (.cells #[.int .i64 500, .slice (some ⟨N, 0, none⟩) 2 2, .slice (some ⟨N + 1, 0, none⟩) 2 2, .slice (some ⟨N + 1 + 1, 0, none⟩) 2 2] 38)
  replace bw := bw.alloc (.cells #[.int .i64 500, .slice (some ⟨N, 0, none⟩) 2 2, .slice (some ⟨N + 1, 0, none⟩) 2 2, .slice (some ⟨N + 1 + 1, 0, none⟩) 2 2] 38)
  replace bS := bS.alloc (.cells #[.int .i64 500, .slice (some ⟨N, 0, none⟩) 2 2, .slice (some ⟨N + 1, 0, none⟩) 2 2, .slice (some ⟨N + 1 + 1, 0, none⟩) 2 2] 38)
  replace hs := hs.keep (Keeps.alloc _ (.cells #[.int .i64 500, .slice (some ⟨N, 0, none⟩) 2 2, .slice (some ⟨N + 1, 0, none⟩) 2 2, .slice (some ⟨N + 1 + 1, 0, none⟩) 2 2] 38))
  replace hb := hb.alloc hb.size (.cells #[.int .i64 500, .slice (some ⟨N, 0, none⟩) 2 2, .slice (some ⟨N + 1, 0, none⟩) 2 2, .slice (some ⟨N + 1 + 1, 0, none⟩) 2 2] 38)
  go_upto_region 6 with fail
  obtain ⟨u0, hu0⟩ : ∃ v, ((((u3.alloc (.cells #[.int .i64 k, .int .i64 0, .int .i64 0, .bool false, .int .i64 (k + 1), .int .i64 0, .int .i64 1, .bool false] 29)).alloc (.cells #[.int .i64 0, .int .i64 k, .int .i64 (k + 5), .int .i64 0, .int .i64 (k + 100), .int .i64 (k + 105)] 32)).alloc (.cells #[.int .i64 0, .int .i64 1, .int .i64 k, .int .i64 k, .int .i64 (k + 3), .int .i64 1, .int .i64 1, .int .i64 k, .int .i64 (k + 3), .int .i64 (k + 6)] 35)).alloc (.cells #[.int .i64 500, .slice (some ⟨N, 0, none⟩) 2 2, .slice (some ⟨N + 1, 0, none⟩) 2 2, .slice (some ⟨N + 1 + 1, 0, none⟩) 2 2] 38)) = v := ⟨_, rfl⟩
  rw [hu0] at bS bs bd bw bg hs hb ⊢
  try rw [hN]
  try simp only [hN]
  clear hu0 hN
  obtain ⟨G, hG⟩ : ∃ x, N + 1 + 1 + 1 = x := ⟨_, rfl⟩
  rw [hG] at bg ⊢
  clear hG
  have HT : Hid (TraceOk u0 (pT 500 (some ⟨N, 0, none⟩) 2 (gSl k) (some ⟨N + 1, 0, none⟩) 2 (gDn k) (some ⟨N + 1 + 1, 0, none⟩) 2 (gWt k))) := hidp ⟨by show I64 500; decide, ⟨(fun e => by cases e), by show 2 ≤ 2; decide, by show 2 ≤ maxLen; decide⟩, .inr ⟨_, _, rfl, fun i hi => by
    have hi : i < 2 := hi
    match i, hi with
    | 0, _ => exact ⟨bs.cell 0, bs.cell 1, bs.cell 2, bs.cell 3⟩
    | 1, _ => exact ⟨bs.cell 4, bs.cell 5, bs.cell 6, bs.cell 7⟩⟩, (fun z hz => by
    have hz : z ∈ [_, _] := hz
    simp at hz
    rcases hz with rfl | rfl <;> exact ⟨by unfold I64; dsimp only; omega, by unfold I64; dsimp only; omega, by unfold I64; dsimp only; omega⟩), ⟨(fun e => by cases e), by show 2 ≤ 2; decide, by show 2 ≤ maxLen; decide⟩, .inr ⟨_, _, rfl, fun i hi => by
    have hi : i < 2 := hi
    match i, hi with
    | 0, _ => exact ⟨bd.cell 0, bd.cell 1, bd.cell 2⟩
    | 1, _ => exact ⟨bd.cell 3, bd.cell 4, bd.cell 5⟩⟩, (fun z hz => by
    have hz : z ∈ [_, _] := hz
    simp at hz
    rcases hz with rfl | rfl <;> exact ⟨by unfold I64; dsimp only; omega, by unfold I64; dsimp only; omega, by unfold I64; dsimp only; omega⟩), ⟨(fun e => by cases e), by show 2 ≤ 2; decide, by show 2 ≤ maxLen; decide⟩, .inr ⟨_, _, rfl, fun i hi => by
    have hi : i < 2 := hi
    match i, hi with
    | 0, _ => exact ⟨bw.cell 0, bw.cell 1, bw.cell 2, bw.cell 3, bw.cell 4⟩
    | 1, _ => exact ⟨bw.cell 5, bw.cell 6, bw.cell 7, bw.cell 8, bw.cell 9⟩⟩, (fun z hz => by
    have hz : z ∈ [_, _] := hz
    simp at hz
    rcases hz with rfl | rfl <;> exact ⟨by unfold I64; dsimp only; omega, by unfold I64; dsimp only; omega, by unfold I64; dsimp only; omega, by unfold I64; dsimp only; omega, by unfold I64; dsimp only; omega⟩)⟩
  have HLs := hidp (lies_bk (cs := cSl k) bs)
  have HLd := hidp (lies_bk (cs := cDn k) bd)
  have HLw := hidp (lies_bk (cs := cWt k) bw)
  have HS := hidp hs
  have Hb := hidp hb
  have HbS := hidp bS
  have Hbg := hidp bg
  have N0 := bs.lt
  have G0 : u0.cell? ⟨G, 0, none⟩ = some (.int .i64 500) := bg.cell 0
  have G1 : u0.cell? ⟨G, 1, none⟩ = some (.slice (some ⟨N, 0, none⟩) 2 2) := bg.cell 1
  have G2 : u0.cell? ⟨G, 2, none⟩ = some (.slice (some ⟨N + 1, 0, none⟩) 2 2) := bg.cell 2
  have G3 : u0.cell? ⟨G, 3, none⟩ = some (.slice (some ⟨N + 1 + 1, 0, none⟩) 2 2) := bg.cell 3
  have HGc := hidp (And.intro G0 (And.intro G1 (And.intro G2 G3)))
  clear G0 G1 G2 G3
  clear bs bd bw hs hb bS bg v1
  go_cut [8] from 44 to 55 (fun b wx => ∃ g gs gd gw d1 d2 d3 : Nat, b = .pointer (some ⟨g, 0, none⟩) ∧ Bad25 u0 wx k g gs gd gw d1 d2 d3 (cSl k) (cDn k) (cWt k) 500)
  case first =>
    refine wp_region_held_drew (S := (fun w' => w'.cell? ⟨G, 0, none⟩ = some (.int .i64 500) ∧ w'.cell? ⟨G, 1, none⟩ = some (.slice (some ⟨N, 0, none⟩) 2 2) ∧ w'.cell? ⟨G, 2, none⟩ = some (.slice (some ⟨N + 1, 0, none⟩) 2 2) ∧ w'.cell? ⟨G, 3, none⟩ = some (.slice (some ⟨N + 1 + 1, 0, none⟩) 2 2))) (by kernel_rfl) ?_ (fun hHeld => ?_)
    · exact HGc.out
    have hbv : Below u0.heap.size u0 u0.drew := (Below.refl _ _).drew
    generalize u0.drew = v at *
    refine wpAnyH_take (i := 0) (v := ?_) rfl (by kernel_rfl) (by kernel_rfl) (by kernel_rfl) (fun _ _ _ h => h) (Or.inl ⟨by rfl, ?_⟩) (by assumption) ?_
    rotate_left 1
    · ((intro w hSw; (try dsimp only at hSw); go_simp); (try with_reducible rfl))
    simp only [Act.put, List.setIfInBounds_toArray, List.set_cons_zero, List.set_cons_succ, List.getElem_toArray, List.getElem_cons_zero, List.getElem_cons_succ]
    refine wpAnyH_take (i := 1) (v := ?_) rfl (by kernel_rfl) (by kernel_rfl) (by kernel_rfl) (fun _ _ _ h => h) (Or.inl ⟨by rfl, ?_⟩) (by assumption) ?_
    rotate_left 1
    · ((intro w hSw; (try dsimp only at hSw); go_simp); (try with_reducible rfl))
    simp only [Act.put, List.setIfInBounds_toArray, List.set_cons_zero, List.set_cons_succ, List.getElem_toArray, List.getElem_cons_zero, List.getElem_cons_succ]
    refine wpAnyH_take (i := 2) (v := ?_) rfl (by kernel_rfl) (by kernel_rfl) (by kernel_rfl) (fun _ _ _ h => h) (Or.inl ⟨by rfl, ?_⟩) (by assumption) ?_
    rotate_left 1
    · ((intro w hSw; (try dsimp only at hSw); go_simp); (try with_reducible rfl))
    simp only [Act.put, List.setIfInBounds_toArray, List.set_cons_zero, List.set_cons_succ, List.getElem_toArray, List.getElem_cons_zero, List.getElem_cons_succ]
    refine wpAnyH_take (i := 3) (v := ?_) rfl (by kernel_rfl) (by kernel_rfl) (by kernel_rfl) (fun _ _ _ h => h) (Or.inl ⟨by rfl, ?_⟩) (by assumption) ?_
    rotate_left 1
    · ((intro w hSw; (try dsimp only at hSw); go_simp); (try with_reducible rfl))
    simp only [Act.put, List.setIfInBounds_toArray, List.set_cons_zero, List.set_cons_succ, List.getElem_toArray, List.getElem_cons_zero, List.getElem_cons_succ]
    refine wpAnyH_take (i := 5) (v := ?_) rfl (by kernel_rfl) (by kernel_rfl) (by kernel_rfl) (fun _ _ _ h => h) (Or.inl ⟨by rfl, ?_⟩) (by assumption) ?_
    rotate_left 1
    · ((intro w hSw; (try dsimp only at hSw); go_simp); (try with_reducible rfl))
    simp only [Act.put, List.setIfInBounds_toArray, List.set_cons_zero, List.set_cons_succ, List.getElem_toArray, List.getElem_cons_zero, List.getElem_cons_succ]
    refine wpAnyH_take (i := 6) (v := ?_) rfl (by kernel_rfl) (by kernel_rfl) (by kernel_rfl) (fun _ _ _ h => h) (Or.inl ⟨by rfl, ?_⟩) (by assumption) ?_
    rotate_left 1
    · ((intro w hSw; (try dsimp only at hSw); go_simp); (try with_reducible rfl))
    simp only [Act.put, List.setIfInBounds_toArray, List.set_cons_zero, List.set_cons_succ, List.getElem_toArray, List.getElem_cons_zero, List.getElem_cons_succ]
    refine wpAnyH_take (i := 8) (v := ?_) rfl (by kernel_rfl) (by kernel_rfl) (by kernel_rfl) (fun _ _ _ h => h) (Or.inl ⟨by rfl, ?_⟩) (by assumption) ?_
    rotate_left 1
    · ((intro w hSw; (try dsimp only at hSw); go_simp); (try with_reducible rfl))
    simp only [Act.put, List.setIfInBounds_toArray, List.set_cons_zero, List.set_cons_succ, List.getElem_toArray, List.getElem_cons_zero, List.getElem_cons_succ]
    refine wpAnyH_take (i := 9) (v := ?_) rfl (by kernel_rfl) (by kernel_rfl) (by kernel_rfl) (fun _ _ _ h => h) (Or.inl ⟨by rfl, ?_⟩) (by assumption) ?_
    rotate_left 1
    · ((intro w hSw; (try dsimp only at hSw); go_simp); (try with_reducible rfl))
    simp only [Act.put, List.setIfInBounds_toArray, List.set_cons_zero, List.set_cons_succ, List.getElem_toArray, List.getElem_cons_zero, List.getElem_cons_succ]
    refine wpAnyH_ready (rs := [4, 12]) (by kernel_rfl) (by simp) ?_
    refine AllReadyH.cons rfl (fun K hK => ?_) (AllReadyH.cons rfl (fun K hK => ?_) AllReadyH.nil)
    · have Sx := hidp (HLs.out.below (B := u0.heap.size) hbv)
      have Ox := hidp (one_sl k)
      have Zx := hidp hbv.size
      refine step_app2 v rfl (.const (.slice none 0 0)) (.tmp 47) 30 rfl u0.heap.size 29 i0 _ 4 32 Try.underlying30 hi0 hy0 hy1 hy2 rfl (by decide) none 0 0 [] rfl (World.ownsRow_nil _ _ _ _) _ (some ⟨N, 0, none⟩) 2 2 (cSl k) rfl (by simp) (by rfl) Sx.out Ox.out (by decide) (by decide) Zx.out ?_
      intro AA dA v1 happ
      try simp only [Nat.zero_add, List.nil_append] at happ
      have TA := happ.turned
      have oA := happ.own
      have kA := happ.cap
      have fA : ∀ i ∈ fp AA, v.heap.size ≤ i := fun i hi => (happ.fps i hi).resolve_left (by simp [fp])
      replace hbv := hbv.trans (TA.below hbv.size (by simp [fp]))
      clear TA happ hHeld Sx Ox Zx
      refine hK.out _ _ ?_ (fun hHeld => ?_)
      · exact ⟨Keeps.of_below hbv _ _ HGc.out.1, Keeps.of_below hbv _ _ HGc.out.2.1, Keeps.of_below hbv _ _ HGc.out.2.2.1, Keeps.of_below hbv _ _ HGc.out.2.2.2⟩
      clear hK K
      try simp only [Act.put, List.setIfInBounds_toArray, List.set_cons_zero, List.set_cons_succ, List.getElem_toArray, List.getElem_cons_zero, List.getElem_cons_succ]
      refine wpAnyH_ready (rs := [7, 12]) (by kernel_rfl) (by simp) ?_
      refine AllReadyH.cons rfl (fun K hK => ?_) (AllReadyH.cons rfl (fun K hK => ?_) AllReadyH.nil)
      · have Sx := hidp (HLd.out.below (B := u0.heap.size) hbv)
        have Ox := hidp (one_dn k)
        have Zx := hidp hbv.size
        refine step_app2 v1 rfl (.const (.slice none 0 0)) (.tmp 50) 33 rfl u0.heap.size 32 j0 _ 3 24 Try.underlying33 hj0 hq0 hq1 hq2 rfl (by decide) none 0 0 [] rfl (World.ownsRow_nil _ _ _ _) _ (some ⟨N + 1, 0, none⟩) 2 2 (cDn k) rfl (by simp) (by rfl) Sx.out Ox.out (by decide) (by decide) Zx.out ?_
        intro AD dD v2 happ
        try simp only [Nat.zero_add, List.nil_append] at happ
        have TA := happ.turned
        have oD := happ.own
        have kD := happ.cap
        have fD : ∀ i ∈ fp AD, v1.heap.size ≤ i := fun i hi => (happ.fps i hi).resolve_left (by simp [fp])
        have nAD : ∀ i ∈ fp AA, i ∉ fp AD := fun i hi hi2 => by have h1 := (own_fp oA i hi).2; have h2 := fD i hi2; omega
        replace oA := own_turned oA TA (by simp [fp])
        replace hbv := hbv.trans (TA.below hbv.size (by simp [fp]))
        clear TA happ hHeld Sx Ox Zx
        refine hK.out _ _ ?_ (fun hHeld => ?_)
        · exact ⟨Keeps.of_below hbv _ _ HGc.out.1, Keeps.of_below hbv _ _ HGc.out.2.1, Keeps.of_below hbv _ _ HGc.out.2.2.1, Keeps.of_below hbv _ _ HGc.out.2.2.2⟩
        clear hK K
        try simp only [Act.put, List.setIfInBounds_toArray, List.set_cons_zero, List.set_cons_succ, List.getElem_toArray, List.getElem_cons_zero, List.getElem_cons_succ]
        refine wpAnyH_ready (rs := [10, 12]) (by kernel_rfl) (by simp) ?_
        refine AllReadyH.cons rfl (fun K hK => ?_) (AllReadyH.cons rfl (fun K hK => ?_) AllReadyH.nil)
        · have Sx := hidp (HLw.out.below (B := u0.heap.size) hbv)
          have Ox := hidp (one_wt k)
          have Zx := hidp hbv.size
          refine step_app2 v2 rfl (.const (.slice none 0 0)) (.tmp 53) 36 rfl u0.heap.size 35 l0 _ 5 40 Try.underlying36 hl0 hr0 hr1 hr2 rfl (by decide) none 0 0 [] rfl (World.ownsRow_nil _ _ _ _) _ (some ⟨N + 1 + 1, 0, none⟩) 2 2 (cWt k) rfl (by simp) (by rfl) Sx.out Ox.out (by decide) (by decide) Zx.out ?_
          intro AW dW v3 happ
          try simp only [Nat.zero_add, List.nil_append] at happ
          have TA := happ.turned
          have oW := happ.own
          have kW := happ.cap
          have fW : ∀ i ∈ fp AW, v2.heap.size ≤ i := fun i hi => (happ.fps i hi).resolve_left (by simp [fp])
          have nAW : ∀ i ∈ fp AA, i ∉ fp AW := fun i hi hi2 => by have h1 := (own_fp oA i hi).2; have h2 := fW i hi2; omega
          replace oA := own_turned oA TA (by simp [fp])
          have nDW : ∀ i ∈ fp AD, i ∉ fp AW := fun i hi hi2 => by have h1 := (own_fp oD i hi).2; have h2 := fW i hi2; omega
          replace oD := own_turned oD TA (by simp [fp])
          replace hbv := hbv.trans (TA.below hbv.size (by simp [fp]))
          clear TA happ hHeld Sx Ox Zx
          refine hK.out _ _ ?_ (fun hHeld => ?_)
          · exact ⟨Keeps.of_below hbv _ _ HGc.out.1, Keeps.of_below hbv _ _ HGc.out.2.1, Keeps.of_below hbv _ _ HGc.out.2.2.1, Keeps.of_below hbv _ _ HGc.out.2.2.2⟩
          clear hK K
          try simp only [Act.put, List.setIfInBounds_toArray, List.set_cons_zero, List.set_cons_succ, List.getElem_toArray, List.getElem_cons_zero, List.getElem_cons_succ]
          refine wpAnyH_take (i := 11) (v := ?_) rfl (by kernel_rfl) (by kernel_rfl) (by kernel_rfl) (fun _ _ _ h => h) (Or.inl ⟨by rfl, ?_⟩) (by assumption) ?_
          rotate_left 1
          · ((intro w hSw; (try dsimp only at hSw); go_simp); (try with_reducible rfl))
          simp only [Act.put, List.setIfInBounds_toArray, List.set_cons_zero, List.set_cons_succ, List.getElem_toArray, List.getElem_cons_zero, List.getElem_cons_succ]
          refine wpAnyH_ready (rs := [12]) (by kernel_rfl) (by simp) ?_
          refine AllReadyH.cons rfl (fun K hK => ?_) AllReadyH.nil
          · go_simp
            have hX0 := hbv.size
            have hbn := hbv.alloc hbv.size (.cells #[.int .i64 0, .slice none 0 0, .slice none 0 0, .slice none 0 0] 38)
            replace hbv := hbn
            clear hbn hHeld
            refine hK.out _ _ ?_ (fun hHeld => ?_)
            · exact ⟨Keeps.of_below hbv _ _ HGc.out.1, Keeps.of_below hbv _ _ HGc.out.2.1, Keeps.of_below hbv _ _ HGc.out.2.2.1, Keeps.of_below hbv _ _ HGc.out.2.2.2⟩
            clear hK K
            try simp only [Act.put, List.setIfInBounds_toArray, List.set_cons_zero, List.set_cons_succ, List.getElem_toArray, List.getElem_cons_zero, List.getElem_cons_succ]
            have TA := (Turned.refl [] v3).alloc (.cells #[.int .i64 0, .slice none 0 0, .slice none 0 0, .slice none 0 0] 38)
            have bX := Bk.new v3 38 #[.int .i64 0, .slice none 0 0, .slice none 0 0, .slice none 0 0]
            have nXA : v3.heap.size ∉ fp AA := fun hi => by have h1 := (own_fp oA _ hi).2; omega
            replace oA := own_turned oA TA (by simp)
            have nXD : v3.heap.size ∉ fp AD := fun hi => by have h1 := (own_fp oD _ hi).2; omega
            replace oD := own_turned oD TA (by simp)
            have nXW : v3.heap.size ∉ fp AW := fun hi => by have h1 := (own_fp oW _ hi).2; omega
            replace oW := own_turned oW TA (by simp)
            obtain ⟨v4, hvx⟩ : ∃ x, v3.alloc (.cells #[.int .i64 0, .slice none 0 0, .slice none 0 0, .slice none 0 0] 38) = x := ⟨_, rfl⟩
            rw [hvx] at bX hbv hHeld oA oD oW ⊢
            have X0 : u0.heap.size ≤ v3.heap.size := hX0
            obtain ⟨X, hX⟩ : ∃ x, v3.heap.size = x := ⟨_, rfl⟩
            rw [hX] at bX X0 nXA nXD nXW ⊢
            clear hvx hX TA
            obtain ⟨gs, rfl, _, _⟩ := own_at oA (by decide)
            obtain ⟨gd, rfl, _, _⟩ := own_at oD (by decide)
            obtain ⟨gw, rfl, _, _⟩ := own_at oW (by decide)
            have ne : X ≠ gs ∧ X ≠ gd ∧ X ≠ gw ∧ gs ≠ gd ∧ gs ≠ gw ∧ gd ≠ gw := ⟨fun e => nXA (by simp [fp, e]), fun e => nXD (by simp [fp, e]), fun e => nXW (by simp [fp, e]), fun e => nAD gs (by simp [fp]) (by simp [fp, e]), fun e => nAW gs (by simp [fp]) (by simp [fp, e]), fun e => nDW gd (by simp [fp]) (by simp [fp, e])⟩
            have x0 := bX.cell 0
            have f0 := bX.frozen 0
            have x1 := bX.cell 1
            have f1 := bX.frozen 1
            have x2 := bX.cell 2
            have f2 := bX.frozen 2
            have x3 := bX.cell 3
            have f3 := bX.frozen 3
            have bY := put4_bk (v0 := .int .i64 500) (v1 := .slice (some ⟨gs, 0, none⟩) 2 dA) (v2 := .slice (some ⟨gd, 0, none⟩) 2 dD) (v3 := .slice (some ⟨gw, 0, none⟩) 2 dW) bX
            have tY := put4_turned v4 X (.int .i64 500) (.slice (some ⟨gs, 0, none⟩) 2 dA) (.slice (some ⟨gd, 0, none⟩) 2 dD) (.slice (some ⟨gw, 0, none⟩) 2 dW)
            have HBad : Hid (Bad25 u0 (put4 v4 X (.int .i64 500) (.slice (some ⟨gs, 0, none⟩) 2 dA) (.slice (some ⟨gd, 0, none⟩) 2 dD) (.slice (some ⟨gw, 0, none⟩) 2 dW)) k X gs gd gw dA dD dW (cSl k) (cDn k) (cWt k) 500) := hidp ⟨bY, own_turned oA tY (by simp [fp]; exact fun e => ne.1 e.symm), own_turned oD tY (by simp [fp]; exact fun e => ne.2.1 e.symm), own_turned oW tY (by simp [fp]; exact fun e => ne.2.2.1 e.symm), kA, kD, kW, X0, ne, hbv.trans (tY.below hbv.size (fun i hi => by simp at hi; rw [hi]; exact X0))⟩
            unfold put4 at HBad
            replace hbv := HBad.out.b
            clear bY tY oA oD oW bX hHeld
            refine wpAnyH_ready (rs := [13]) (by kernel_rfl) (by simp) ?_
            refine AllReadyH.cons rfl (fun K hK => ?_) AllReadyH.nil
            go_simp
            refine hK.out _ _ ?_ (fun hHeld => ?_)
            · exact ⟨Keeps.of_below hbv _ _ HGc.out.1, Keeps.of_below hbv _ _ HGc.out.2.1, Keeps.of_below hbv _ _ HGc.out.2.2.1, Keeps.of_below hbv _ _ HGc.out.2.2.2⟩
            clear hK K
            try simp only [Act.put, List.setIfInBounds_toArray, List.set_cons_zero, List.set_cons_succ, List.getElem_toArray, List.getElem_cons_zero, List.getElem_cons_succ]
            refine wpAnyH_done (by kernel_rfl) ?_ _
            go_wp2_with fail
            go_meet
            case rel => exact ⟨X, gs, gd, gw, dA, dD, dW, rfl, HBad.out⟩
        · go_simp
          have hX0 := hbv.size
          have hbn := hbv.alloc hbv.size (.cells #[.int .i64 0, .slice none 0 0, .slice none 0 0, .slice none 0 0] 38)
          replace hbv := hbn
          clear hbn hHeld
          refine hK.out _ _ ?_ (fun hHeld => ?_)
          · exact ⟨Keeps.of_below hbv _ _ HGc.out.1, Keeps.of_below hbv _ _ HGc.out.2.1, Keeps.of_below hbv _ _ HGc.out.2.2.1, Keeps.of_below hbv _ _ HGc.out.2.2.2⟩
          clear hK K
          try simp only [Act.put, List.setIfInBounds_toArray, List.set_cons_zero, List.set_cons_succ, List.getElem_toArray, List.getElem_cons_zero, List.getElem_cons_succ]
          have TA := (Turned.refl [] v2).alloc (.cells #[.int .i64 0, .slice none 0 0, .slice none 0 0, .slice none 0 0] 38)
          have bX := Bk.new v2 38 #[.int .i64 0, .slice none 0 0, .slice none 0 0, .slice none 0 0]
          have nXA : v2.heap.size ∉ fp AA := fun hi => by have h1 := (own_fp oA _ hi).2; omega
          replace oA := own_turned oA TA (by simp)
          have nXD : v2.heap.size ∉ fp AD := fun hi => by have h1 := (own_fp oD _ hi).2; omega
          replace oD := own_turned oD TA (by simp)
          obtain ⟨v5, hvx⟩ : ∃ x, v2.alloc (.cells #[.int .i64 0, .slice none 0 0, .slice none 0 0, .slice none 0 0] 38) = x := ⟨_, rfl⟩
          rw [hvx] at bX hbv hHeld oA oD ⊢
          have X0 : u0.heap.size ≤ v2.heap.size := hX0
          obtain ⟨X, hX⟩ : ∃ x, v2.heap.size = x := ⟨_, rfl⟩
          rw [hX] at bX X0 nXA nXD ⊢
          clear hvx hX TA
          refine wpAnyH_ready (rs := [10]) (by kernel_rfl) (by simp) ?_
          refine AllReadyH.cons rfl (fun K hK => ?_) AllReadyH.nil
          · have Sx := hidp (HLw.out.below (B := u0.heap.size) hbv)
            have Ox := hidp (one_wt k)
            have Zx := hidp hbv.size
            refine step_app2 v5 rfl (.const (.slice none 0 0)) (.tmp 53) 36 rfl u0.heap.size 35 l0 _ 5 40 Try.underlying36 hl0 hr0 hr1 hr2 rfl (by decide) none 0 0 [] rfl (World.ownsRow_nil _ _ _ _) _ (some ⟨N + 1 + 1, 0, none⟩) 2 2 (cWt k) rfl (by simp) (by rfl) Sx.out Ox.out (by decide) (by decide) Zx.out ?_
            intro AW dW v6 happ
            try simp only [Nat.zero_add, List.nil_append] at happ
            have TA := happ.turned
            have oW := happ.own
            have kW := happ.cap
            have fW : ∀ i ∈ fp AW, v5.heap.size ≤ i := fun i hi => (happ.fps i hi).resolve_left (by simp [fp])
            have nAW : ∀ i ∈ fp AA, i ∉ fp AW := fun i hi hi2 => by have h1 := (own_fp oA i hi).2; have h2 := fW i hi2; omega
            replace oA := own_turned oA TA (by simp [fp])
            have nDW : ∀ i ∈ fp AD, i ∉ fp AW := fun i hi hi2 => by have h1 := (own_fp oD i hi).2; have h2 := fW i hi2; omega
            replace oD := own_turned oD TA (by simp [fp])
            have nXW : X ∉ fp AW := fun hi => by have h1 := bX.lt; have h2 := fW X hi; omega
            replace bX := bX.turned TA (by simp [fp])
            replace hbv := hbv.trans (TA.below hbv.size (by simp [fp]))
            clear TA happ hHeld Sx Ox Zx
            refine hK.out _ _ ?_ (fun hHeld => ?_)
            · exact ⟨Keeps.of_below hbv _ _ HGc.out.1, Keeps.of_below hbv _ _ HGc.out.2.1, Keeps.of_below hbv _ _ HGc.out.2.2.1, Keeps.of_below hbv _ _ HGc.out.2.2.2⟩
            clear hK K
            try simp only [Act.put, List.setIfInBounds_toArray, List.set_cons_zero, List.set_cons_succ, List.getElem_toArray, List.getElem_cons_zero, List.getElem_cons_succ]
            refine wpAnyH_take (i := 11) (v := ?_) rfl (by kernel_rfl) (by kernel_rfl) (by kernel_rfl) (fun _ _ _ h => h) (Or.inl ⟨by rfl, ?_⟩) (by assumption) ?_
            rotate_left 1
            · ((intro w hSw; (try dsimp only at hSw); go_simp); (try with_reducible rfl))
            simp only [Act.put, List.setIfInBounds_toArray, List.set_cons_zero, List.set_cons_succ, List.getElem_toArray, List.getElem_cons_zero, List.getElem_cons_succ]
            obtain ⟨gs, rfl, _, _⟩ := own_at oA (by decide)
            obtain ⟨gd, rfl, _, _⟩ := own_at oD (by decide)
            obtain ⟨gw, rfl, _, _⟩ := own_at oW (by decide)
            have ne : X ≠ gs ∧ X ≠ gd ∧ X ≠ gw ∧ gs ≠ gd ∧ gs ≠ gw ∧ gd ≠ gw := ⟨fun e => nXA (by simp [fp, e]), fun e => nXD (by simp [fp, e]), fun e => nXW (by simp [fp, e]), fun e => nAD gs (by simp [fp]) (by simp [fp, e]), fun e => nAW gs (by simp [fp]) (by simp [fp, e]), fun e => nDW gd (by simp [fp]) (by simp [fp, e])⟩
            have x0 := bX.cell 0
            have f0 := bX.frozen 0
            have x1 := bX.cell 1
            have f1 := bX.frozen 1
            have x2 := bX.cell 2
            have f2 := bX.frozen 2
            have x3 := bX.cell 3
            have f3 := bX.frozen 3
            have bY := put4_bk (v0 := .int .i64 500) (v1 := .slice (some ⟨gs, 0, none⟩) 2 dA) (v2 := .slice (some ⟨gd, 0, none⟩) 2 dD) (v3 := .slice (some ⟨gw, 0, none⟩) 2 dW) bX
            have tY := put4_turned v6 X (.int .i64 500) (.slice (some ⟨gs, 0, none⟩) 2 dA) (.slice (some ⟨gd, 0, none⟩) 2 dD) (.slice (some ⟨gw, 0, none⟩) 2 dW)
            have HBad : Hid (Bad25 u0 (put4 v6 X (.int .i64 500) (.slice (some ⟨gs, 0, none⟩) 2 dA) (.slice (some ⟨gd, 0, none⟩) 2 dD) (.slice (some ⟨gw, 0, none⟩) 2 dW)) k X gs gd gw dA dD dW (cSl k) (cDn k) (cWt k) 500) := hidp ⟨bY, own_turned oA tY (by simp [fp]; exact fun e => ne.1 e.symm), own_turned oD tY (by simp [fp]; exact fun e => ne.2.1 e.symm), own_turned oW tY (by simp [fp]; exact fun e => ne.2.2.1 e.symm), kA, kD, kW, X0, ne, hbv.trans (tY.below hbv.size (fun i hi => by simp at hi; rw [hi]; exact X0))⟩
            unfold put4 at HBad
            replace hbv := HBad.out.b
            clear bY tY oA oD oW bX hHeld
            refine wpAnyH_ready (rs := [13]) (by kernel_rfl) (by simp) ?_
            refine AllReadyH.cons rfl (fun K hK => ?_) AllReadyH.nil
            go_simp
            refine hK.out _ _ ?_ (fun hHeld => ?_)
            · exact ⟨Keeps.of_below hbv _ _ HGc.out.1, Keeps.of_below hbv _ _ HGc.out.2.1, Keeps.of_below hbv _ _ HGc.out.2.2.1, Keeps.of_below hbv _ _ HGc.out.2.2.2⟩
            clear hK K
            try simp only [Act.put, List.setIfInBounds_toArray, List.set_cons_zero, List.set_cons_succ, List.getElem_toArray, List.getElem_cons_zero, List.getElem_cons_succ]
            refine wpAnyH_done (by kernel_rfl) ?_ _
            go_wp2_with fail
            go_meet
            case rel => exact ⟨X, gs, gd, gw, dA, dD, dW, rfl, HBad.out⟩
      · go_simp
        have hX0 := hbv.size
        have hbn := hbv.alloc hbv.size (.cells #[.int .i64 0, .slice none 0 0, .slice none 0 0, .slice none 0 0] 38)
        replace hbv := hbn
        clear hbn hHeld
        refine hK.out _ _ ?_ (fun hHeld => ?_)
        · exact ⟨Keeps.of_below hbv _ _ HGc.out.1, Keeps.of_below hbv _ _ HGc.out.2.1, Keeps.of_below hbv _ _ HGc.out.2.2.1, Keeps.of_below hbv _ _ HGc.out.2.2.2⟩
        clear hK K
        try simp only [Act.put, List.setIfInBounds_toArray, List.set_cons_zero, List.set_cons_succ, List.getElem_toArray, List.getElem_cons_zero, List.getElem_cons_succ]
        have TA := (Turned.refl [] v1).alloc (.cells #[.int .i64 0, .slice none 0 0, .slice none 0 0, .slice none 0 0] 38)
        have bX := Bk.new v1 38 #[.int .i64 0, .slice none 0 0, .slice none 0 0, .slice none 0 0]
        have nXA : v1.heap.size ∉ fp AA := fun hi => by have h1 := (own_fp oA _ hi).2; omega
        replace oA := own_turned oA TA (by simp)
        obtain ⟨v7, hvx⟩ : ∃ x, v1.alloc (.cells #[.int .i64 0, .slice none 0 0, .slice none 0 0, .slice none 0 0] 38) = x := ⟨_, rfl⟩
        rw [hvx] at bX hbv hHeld oA ⊢
        have X0 : u0.heap.size ≤ v1.heap.size := hX0
        obtain ⟨X, hX⟩ : ∃ x, v1.heap.size = x := ⟨_, rfl⟩
        rw [hX] at bX X0 nXA ⊢
        clear hvx hX TA
        refine wpAnyH_ready (rs := [7]) (by kernel_rfl) (by simp) ?_
        refine AllReadyH.cons rfl (fun K hK => ?_) AllReadyH.nil
        · have Sx := hidp (HLd.out.below (B := u0.heap.size) hbv)
          have Ox := hidp (one_dn k)
          have Zx := hidp hbv.size
          refine step_app2 v7 rfl (.const (.slice none 0 0)) (.tmp 50) 33 rfl u0.heap.size 32 j0 _ 3 24 Try.underlying33 hj0 hq0 hq1 hq2 rfl (by decide) none 0 0 [] rfl (World.ownsRow_nil _ _ _ _) _ (some ⟨N + 1, 0, none⟩) 2 2 (cDn k) rfl (by simp) (by rfl) Sx.out Ox.out (by decide) (by decide) Zx.out ?_
          intro AD dD v8 happ
          try simp only [Nat.zero_add, List.nil_append] at happ
          have TA := happ.turned
          have oD := happ.own
          have kD := happ.cap
          have fD : ∀ i ∈ fp AD, v7.heap.size ≤ i := fun i hi => (happ.fps i hi).resolve_left (by simp [fp])
          have nAD : ∀ i ∈ fp AA, i ∉ fp AD := fun i hi hi2 => by have h1 := (own_fp oA i hi).2; have h2 := fD i hi2; omega
          replace oA := own_turned oA TA (by simp [fp])
          have nXD : X ∉ fp AD := fun hi => by have h1 := bX.lt; have h2 := fD X hi; omega
          replace bX := bX.turned TA (by simp [fp])
          replace hbv := hbv.trans (TA.below hbv.size (by simp [fp]))
          clear TA happ hHeld Sx Ox Zx
          refine hK.out _ _ ?_ (fun hHeld => ?_)
          · exact ⟨Keeps.of_below hbv _ _ HGc.out.1, Keeps.of_below hbv _ _ HGc.out.2.1, Keeps.of_below hbv _ _ HGc.out.2.2.1, Keeps.of_below hbv _ _ HGc.out.2.2.2⟩
          clear hK K
          try simp only [Act.put, List.setIfInBounds_toArray, List.set_cons_zero, List.set_cons_succ, List.getElem_toArray, List.getElem_cons_zero, List.getElem_cons_succ]
          refine wpAnyH_ready (rs := [10]) (by kernel_rfl) (by simp) ?_
          refine AllReadyH.cons rfl (fun K hK => ?_) AllReadyH.nil
          · have Sx := hidp (HLw.out.below (B := u0.heap.size) hbv)
            have Ox := hidp (one_wt k)
            have Zx := hidp hbv.size
            refine step_app2 v8 rfl (.const (.slice none 0 0)) (.tmp 53) 36 rfl u0.heap.size 35 l0 _ 5 40 Try.underlying36 hl0 hr0 hr1 hr2 rfl (by decide) none 0 0 [] rfl (World.ownsRow_nil _ _ _ _) _ (some ⟨N + 1 + 1, 0, none⟩) 2 2 (cWt k) rfl (by simp) (by rfl) Sx.out Ox.out (by decide) (by decide) Zx.out ?_
            intro AW dW v9 happ
            try simp only [Nat.zero_add, List.nil_append] at happ
            have TA := happ.turned
            have oW := happ.own
            have kW := happ.cap
            have fW : ∀ i ∈ fp AW, v8.heap.size ≤ i := fun i hi => (happ.fps i hi).resolve_left (by simp [fp])
            have nAW : ∀ i ∈ fp AA, i ∉ fp AW := fun i hi hi2 => by have h1 := (own_fp oA i hi).2; have h2 := fW i hi2; omega
            replace oA := own_turned oA TA (by simp [fp])
            have nDW : ∀ i ∈ fp AD, i ∉ fp AW := fun i hi hi2 => by have h1 := (own_fp oD i hi).2; have h2 := fW i hi2; omega
            replace oD := own_turned oD TA (by simp [fp])
            have nXW : X ∉ fp AW := fun hi => by have h1 := bX.lt; have h2 := fW X hi; omega
            replace bX := bX.turned TA (by simp [fp])
            replace hbv := hbv.trans (TA.below hbv.size (by simp [fp]))
            clear TA happ hHeld Sx Ox Zx
            refine hK.out _ _ ?_ (fun hHeld => ?_)
            · exact ⟨Keeps.of_below hbv _ _ HGc.out.1, Keeps.of_below hbv _ _ HGc.out.2.1, Keeps.of_below hbv _ _ HGc.out.2.2.1, Keeps.of_below hbv _ _ HGc.out.2.2.2⟩
            clear hK K
            try simp only [Act.put, List.setIfInBounds_toArray, List.set_cons_zero, List.set_cons_succ, List.getElem_toArray, List.getElem_cons_zero, List.getElem_cons_succ]
            refine wpAnyH_take (i := 11) (v := ?_) rfl (by kernel_rfl) (by kernel_rfl) (by kernel_rfl) (fun _ _ _ h => h) (Or.inl ⟨by rfl, ?_⟩) (by assumption) ?_
            rotate_left 1
            · ((intro w hSw; (try dsimp only at hSw); go_simp); (try with_reducible rfl))
            simp only [Act.put, List.setIfInBounds_toArray, List.set_cons_zero, List.set_cons_succ, List.getElem_toArray, List.getElem_cons_zero, List.getElem_cons_succ]
            obtain ⟨gs, rfl, _, _⟩ := own_at oA (by decide)
            obtain ⟨gd, rfl, _, _⟩ := own_at oD (by decide)
            obtain ⟨gw, rfl, _, _⟩ := own_at oW (by decide)
            have ne : X ≠ gs ∧ X ≠ gd ∧ X ≠ gw ∧ gs ≠ gd ∧ gs ≠ gw ∧ gd ≠ gw := ⟨fun e => nXA (by simp [fp, e]), fun e => nXD (by simp [fp, e]), fun e => nXW (by simp [fp, e]), fun e => nAD gs (by simp [fp]) (by simp [fp, e]), fun e => nAW gs (by simp [fp]) (by simp [fp, e]), fun e => nDW gd (by simp [fp]) (by simp [fp, e])⟩
            have x0 := bX.cell 0
            have f0 := bX.frozen 0
            have x1 := bX.cell 1
            have f1 := bX.frozen 1
            have x2 := bX.cell 2
            have f2 := bX.frozen 2
            have x3 := bX.cell 3
            have f3 := bX.frozen 3
            have bY := put4_bk (v0 := .int .i64 500) (v1 := .slice (some ⟨gs, 0, none⟩) 2 dA) (v2 := .slice (some ⟨gd, 0, none⟩) 2 dD) (v3 := .slice (some ⟨gw, 0, none⟩) 2 dW) bX
            have tY := put4_turned v9 X (.int .i64 500) (.slice (some ⟨gs, 0, none⟩) 2 dA) (.slice (some ⟨gd, 0, none⟩) 2 dD) (.slice (some ⟨gw, 0, none⟩) 2 dW)
            have HBad : Hid (Bad25 u0 (put4 v9 X (.int .i64 500) (.slice (some ⟨gs, 0, none⟩) 2 dA) (.slice (some ⟨gd, 0, none⟩) 2 dD) (.slice (some ⟨gw, 0, none⟩) 2 dW)) k X gs gd gw dA dD dW (cSl k) (cDn k) (cWt k) 500) := hidp ⟨bY, own_turned oA tY (by simp [fp]; exact fun e => ne.1 e.symm), own_turned oD tY (by simp [fp]; exact fun e => ne.2.1 e.symm), own_turned oW tY (by simp [fp]; exact fun e => ne.2.2.1 e.symm), kA, kD, kW, X0, ne, hbv.trans (tY.below hbv.size (fun i hi => by simp at hi; rw [hi]; exact X0))⟩
            unfold put4 at HBad
            replace hbv := HBad.out.b
            clear bY tY oA oD oW bX hHeld
            refine wpAnyH_ready (rs := [13]) (by kernel_rfl) (by simp) ?_
            refine AllReadyH.cons rfl (fun K hK => ?_) AllReadyH.nil
            go_simp
            refine hK.out _ _ ?_ (fun hHeld => ?_)
            · exact ⟨Keeps.of_below hbv _ _ HGc.out.1, Keeps.of_below hbv _ _ HGc.out.2.1, Keeps.of_below hbv _ _ HGc.out.2.2.1, Keeps.of_below hbv _ _ HGc.out.2.2.2⟩
            clear hK K
            try simp only [Act.put, List.setIfInBounds_toArray, List.set_cons_zero, List.set_cons_succ, List.getElem_toArray, List.getElem_cons_zero, List.getElem_cons_succ]
            refine wpAnyH_done (by kernel_rfl) ?_ _
            go_wp2_with fail
            go_meet
            case rel => exact ⟨X, gs, gd, gw, dA, dD, dW, rfl, HBad.out⟩
    · go_simp
      have hX0 := hbv.size
      have hbn := hbv.alloc hbv.size (.cells #[.int .i64 0, .slice none 0 0, .slice none 0 0, .slice none 0 0] 38)
      replace hbv := hbn
      clear hbn hHeld
      refine hK.out _ _ ?_ (fun hHeld => ?_)
      · exact ⟨Keeps.of_below hbv _ _ HGc.out.1, Keeps.of_below hbv _ _ HGc.out.2.1, Keeps.of_below hbv _ _ HGc.out.2.2.1, Keeps.of_below hbv _ _ HGc.out.2.2.2⟩
      clear hK K
      try simp only [Act.put, List.setIfInBounds_toArray, List.set_cons_zero, List.set_cons_succ, List.getElem_toArray, List.getElem_cons_zero, List.getElem_cons_succ]
      have TA := (Turned.refl [] v).alloc (.cells #[.int .i64 0, .slice none 0 0, .slice none 0 0, .slice none 0 0] 38)
      have bX := Bk.new v 38 #[.int .i64 0, .slice none 0 0, .slice none 0 0, .slice none 0 0]
      obtain ⟨v10, hvx⟩ : ∃ x, v.alloc (.cells #[.int .i64 0, .slice none 0 0, .slice none 0 0, .slice none 0 0] 38) = x := ⟨_, rfl⟩
      rw [hvx] at bX hbv hHeld ⊢
      have X0 : u0.heap.size ≤ v.heap.size := hX0
      obtain ⟨X, hX⟩ : ∃ x, v.heap.size = x := ⟨_, rfl⟩
      rw [hX] at bX X0 ⊢
      clear hvx hX TA
      refine wpAnyH_ready (rs := [4]) (by kernel_rfl) (by simp) ?_
      refine AllReadyH.cons rfl (fun K hK => ?_) AllReadyH.nil
      · have Sx := hidp (HLs.out.below (B := u0.heap.size) hbv)
        have Ox := hidp (one_sl k)
        have Zx := hidp hbv.size
        refine step_app2 v10 rfl (.const (.slice none 0 0)) (.tmp 47) 30 rfl u0.heap.size 29 i0 _ 4 32 Try.underlying30 hi0 hy0 hy1 hy2 rfl (by decide) none 0 0 [] rfl (World.ownsRow_nil _ _ _ _) _ (some ⟨N, 0, none⟩) 2 2 (cSl k) rfl (by simp) (by rfl) Sx.out Ox.out (by decide) (by decide) Zx.out ?_
        intro AA dA v11 happ
        try simp only [Nat.zero_add, List.nil_append] at happ
        have TA := happ.turned
        have oA := happ.own
        have kA := happ.cap
        have fA : ∀ i ∈ fp AA, v10.heap.size ≤ i := fun i hi => (happ.fps i hi).resolve_left (by simp [fp])
        have nXA : X ∉ fp AA := fun hi => by have h1 := bX.lt; have h2 := fA X hi; omega
        replace bX := bX.turned TA (by simp [fp])
        replace hbv := hbv.trans (TA.below hbv.size (by simp [fp]))
        clear TA happ hHeld Sx Ox Zx
        refine hK.out _ _ ?_ (fun hHeld => ?_)
        · exact ⟨Keeps.of_below hbv _ _ HGc.out.1, Keeps.of_below hbv _ _ HGc.out.2.1, Keeps.of_below hbv _ _ HGc.out.2.2.1, Keeps.of_below hbv _ _ HGc.out.2.2.2⟩
        clear hK K
        try simp only [Act.put, List.setIfInBounds_toArray, List.set_cons_zero, List.set_cons_succ, List.getElem_toArray, List.getElem_cons_zero, List.getElem_cons_succ]
        refine wpAnyH_ready (rs := [7]) (by kernel_rfl) (by simp) ?_
        refine AllReadyH.cons rfl (fun K hK => ?_) AllReadyH.nil
        · have Sx := hidp (HLd.out.below (B := u0.heap.size) hbv)
          have Ox := hidp (one_dn k)
          have Zx := hidp hbv.size
          refine step_app2 v11 rfl (.const (.slice none 0 0)) (.tmp 50) 33 rfl u0.heap.size 32 j0 _ 3 24 Try.underlying33 hj0 hq0 hq1 hq2 rfl (by decide) none 0 0 [] rfl (World.ownsRow_nil _ _ _ _) _ (some ⟨N + 1, 0, none⟩) 2 2 (cDn k) rfl (by simp) (by rfl) Sx.out Ox.out (by decide) (by decide) Zx.out ?_
          intro AD dD v12 happ
          try simp only [Nat.zero_add, List.nil_append] at happ
          have TA := happ.turned
          have oD := happ.own
          have kD := happ.cap
          have fD : ∀ i ∈ fp AD, v11.heap.size ≤ i := fun i hi => (happ.fps i hi).resolve_left (by simp [fp])
          have nAD : ∀ i ∈ fp AA, i ∉ fp AD := fun i hi hi2 => by have h1 := (own_fp oA i hi).2; have h2 := fD i hi2; omega
          replace oA := own_turned oA TA (by simp [fp])
          have nXD : X ∉ fp AD := fun hi => by have h1 := bX.lt; have h2 := fD X hi; omega
          replace bX := bX.turned TA (by simp [fp])
          replace hbv := hbv.trans (TA.below hbv.size (by simp [fp]))
          clear TA happ hHeld Sx Ox Zx
          refine hK.out _ _ ?_ (fun hHeld => ?_)
          · exact ⟨Keeps.of_below hbv _ _ HGc.out.1, Keeps.of_below hbv _ _ HGc.out.2.1, Keeps.of_below hbv _ _ HGc.out.2.2.1, Keeps.of_below hbv _ _ HGc.out.2.2.2⟩
          clear hK K
          try simp only [Act.put, List.setIfInBounds_toArray, List.set_cons_zero, List.set_cons_succ, List.getElem_toArray, List.getElem_cons_zero, List.getElem_cons_succ]
          refine wpAnyH_ready (rs := [10]) (by kernel_rfl) (by simp) ?_
          refine AllReadyH.cons rfl (fun K hK => ?_) AllReadyH.nil
          · have Sx := hidp (HLw.out.below (B := u0.heap.size) hbv)
            have Ox := hidp (one_wt k)
            have Zx := hidp hbv.size
            refine step_app2 v12 rfl (.const (.slice none 0 0)) (.tmp 53) 36 rfl u0.heap.size 35 l0 _ 5 40 Try.underlying36 hl0 hr0 hr1 hr2 rfl (by decide) none 0 0 [] rfl (World.ownsRow_nil _ _ _ _) _ (some ⟨N + 1 + 1, 0, none⟩) 2 2 (cWt k) rfl (by simp) (by rfl) Sx.out Ox.out (by decide) (by decide) Zx.out ?_
            intro AW dW v13 happ
            try simp only [Nat.zero_add, List.nil_append] at happ
            have TA := happ.turned
            have oW := happ.own
            have kW := happ.cap
            have fW : ∀ i ∈ fp AW, v12.heap.size ≤ i := fun i hi => (happ.fps i hi).resolve_left (by simp [fp])
            have nAW : ∀ i ∈ fp AA, i ∉ fp AW := fun i hi hi2 => by have h1 := (own_fp oA i hi).2; have h2 := fW i hi2; omega
            replace oA := own_turned oA TA (by simp [fp])
            have nDW : ∀ i ∈ fp AD, i ∉ fp AW := fun i hi hi2 => by have h1 := (own_fp oD i hi).2; have h2 := fW i hi2; omega
            replace oD := own_turned oD TA (by simp [fp])
            have nXW : X ∉ fp AW := fun hi => by have h1 := bX.lt; have h2 := fW X hi; omega
            replace bX := bX.turned TA (by simp [fp])
            replace hbv := hbv.trans (TA.below hbv.size (by simp [fp]))
            clear TA happ hHeld Sx Ox Zx
            refine hK.out _ _ ?_ (fun hHeld => ?_)
            · exact ⟨Keeps.of_below hbv _ _ HGc.out.1, Keeps.of_below hbv _ _ HGc.out.2.1, Keeps.of_below hbv _ _ HGc.out.2.2.1, Keeps.of_below hbv _ _ HGc.out.2.2.2⟩
            clear hK K
            try simp only [Act.put, List.setIfInBounds_toArray, List.set_cons_zero, List.set_cons_succ, List.getElem_toArray, List.getElem_cons_zero, List.getElem_cons_succ]
            refine wpAnyH_take (i := 11) (v := ?_) rfl (by kernel_rfl) (by kernel_rfl) (by kernel_rfl) (fun _ _ _ h => h) (Or.inl ⟨by rfl, ?_⟩) (by assumption) ?_
            rotate_left 1
            · ((intro w hSw; (try dsimp only at hSw); go_simp); (try with_reducible rfl))
            simp only [Act.put, List.setIfInBounds_toArray, List.set_cons_zero, List.set_cons_succ, List.getElem_toArray, List.getElem_cons_zero, List.getElem_cons_succ]
            obtain ⟨gs, rfl, _, _⟩ := own_at oA (by decide)
            obtain ⟨gd, rfl, _, _⟩ := own_at oD (by decide)
            obtain ⟨gw, rfl, _, _⟩ := own_at oW (by decide)
            have ne : X ≠ gs ∧ X ≠ gd ∧ X ≠ gw ∧ gs ≠ gd ∧ gs ≠ gw ∧ gd ≠ gw := ⟨fun e => nXA (by simp [fp, e]), fun e => nXD (by simp [fp, e]), fun e => nXW (by simp [fp, e]), fun e => nAD gs (by simp [fp]) (by simp [fp, e]), fun e => nAW gs (by simp [fp]) (by simp [fp, e]), fun e => nDW gd (by simp [fp]) (by simp [fp, e])⟩
            have x0 := bX.cell 0
            have f0 := bX.frozen 0
            have x1 := bX.cell 1
            have f1 := bX.frozen 1
            have x2 := bX.cell 2
            have f2 := bX.frozen 2
            have x3 := bX.cell 3
            have f3 := bX.frozen 3
            have bY := put4_bk (v0 := .int .i64 500) (v1 := .slice (some ⟨gs, 0, none⟩) 2 dA) (v2 := .slice (some ⟨gd, 0, none⟩) 2 dD) (v3 := .slice (some ⟨gw, 0, none⟩) 2 dW) bX
            have tY := put4_turned v13 X (.int .i64 500) (.slice (some ⟨gs, 0, none⟩) 2 dA) (.slice (some ⟨gd, 0, none⟩) 2 dD) (.slice (some ⟨gw, 0, none⟩) 2 dW)
            have HBad : Hid (Bad25 u0 (put4 v13 X (.int .i64 500) (.slice (some ⟨gs, 0, none⟩) 2 dA) (.slice (some ⟨gd, 0, none⟩) 2 dD) (.slice (some ⟨gw, 0, none⟩) 2 dW)) k X gs gd gw dA dD dW (cSl k) (cDn k) (cWt k) 500) := hidp ⟨bY, own_turned oA tY (by simp [fp]; exact fun e => ne.1 e.symm), own_turned oD tY (by simp [fp]; exact fun e => ne.2.1 e.symm), own_turned oW tY (by simp [fp]; exact fun e => ne.2.2.1 e.symm), kA, kD, kW, X0, ne, hbv.trans (tY.below hbv.size (fun i hi => by simp at hi; rw [hi]; exact X0))⟩
            unfold put4 at HBad
            replace hbv := HBad.out.b
            clear bY tY oA oD oW bX hHeld
            refine wpAnyH_ready (rs := [13]) (by kernel_rfl) (by simp) ?_
            refine AllReadyH.cons rfl (fun K hK => ?_) AllReadyH.nil
            go_simp
            refine hK.out _ _ ?_ (fun hHeld => ?_)
            · exact ⟨Keeps.of_below hbv _ _ HGc.out.1, Keeps.of_below hbv _ _ HGc.out.2.1, Keeps.of_below hbv _ _ HGc.out.2.2.1, Keeps.of_below hbv _ _ HGc.out.2.2.2⟩
            clear hK K
            try simp only [Act.put, List.setIfInBounds_toArray, List.set_cons_zero, List.set_cons_succ, List.getElem_toArray, List.getElem_cons_zero, List.getElem_cons_succ]
            refine wpAnyH_done (by kernel_rfl) ?_ _
            go_wp2_with fail
            go_meet
            case rel => exact ⟨X, gs, gd, gw, dA, dD, dW, rfl, HBad.out⟩
  case rest =>
    obtain ⟨g, gs, gd, gw, d1, d2, d3, rfl, HBd⟩ := hcut
    have HBad := hidp HBd
    clear HBd
    have hm := HM.out
    rcases (show m = 0 ∨ m = 1 ∨ m = 2 ∨ m = 3 ∨ m = 4 ∨ m = 5 ∨ m = 6 ∨ m = 7 ∨ m = 8 by omega) with rfl | rfl | rfl | rfl | rfl | rfl | rfl | rfl | rfl
    · skip
      have x0 := HBad.out.bb.cell 0
      have x1 := HBad.out.bb.cell 1
      have x2 := HBad.out.bb.cell 2
      have x3 := HBad.out.bb.cell 3
      go_upto_region 10 with fail
      have HD : Hid (Bad25 u0 wc.drew k g gs gd gw d1 d2 d3 (cSl k) (cDn k) (cWt k) 500) := hidp HBad.out.drew
      refine wp_region_d_drew [13, 14, 15] (S0 := (fun w' => w'.cell? ⟨g, 1, none⟩ = some (.slice (some ⟨gs, 0, none⟩) 2 d1))) (S := (fun w' => w'.cell? ⟨gs, 0, none⟩ = some (.int .i64 k) ∧ w'.cell? ⟨gs, 1, none⟩ = some (.int .i64 0) ∧ w'.cell? ⟨gs, 2, none⟩ = some (.int .i64 0) ∧ w'.cell? ⟨gs, 3, none⟩ = some (.bool false) ∧ w'.cell? ⟨gs, 4, none⟩ = some (.int .i64 (k + 1)) ∧ w'.cell? ⟨gs, 5, none⟩ = some (.int .i64 0) ∧ w'.cell? ⟨gs, 6, none⟩ = some (.int .i64 1) ∧ w'.cell? ⟨gs, 7, none⟩ = some (.bool false))) (by kernel_rfl) ?_ ?_ (fun hHeld0 hHeld => ?_)
      · exact HD.out.bb.cell 1
      · exact ⟨row_cell HD.out.s (j := 0) rfl, row_cell HD.out.s (j := 1) rfl, row_cell HD.out.s (j := 2) rfl, row_cell HD.out.s (j := 3) rfl, row_cell HD.out.s (j := 4) rfl, row_cell HD.out.s (j := 5) rfl, row_cell HD.out.s (j := 6) rfl, row_cell HD.out.s (j := 7) rfl⟩
      obtain ⟨y, hy⟩ : ∃ y, wc.drew = y := ⟨_, rfl⟩
      rw [hy] at HD hHeld hHeld0 ⊢
      clear hy x0 x1 x2 x3
      refine wpAnyD_take0 (i := 0) (v := ?_) rfl (by decide) (by kernel_rfl) (by kernel_rfl) (by kernel_rfl) (fun _ _ _ h => h) (Or.inl ⟨by rfl, ?_⟩) (by assumption) (by assumption) ?_
      rotate_left 1
      · ((intro w hSw; (try dsimp only at hSw); go_simp); (try with_reducible rfl))
      simp only [Act.put, List.setIfInBounds_toArray, List.set_cons_zero, List.set_cons_succ, List.getElem_toArray, List.getElem_cons_zero, List.getElem_cons_succ]
      refine wpAnyD_take0 (i := 1) (v := ?_) rfl (by decide) (by kernel_rfl) (by kernel_rfl) (by kernel_rfl) (fun _ _ _ h => h) (Or.inl ⟨by rfl, ?_⟩) (by assumption) (by assumption) ?_
      rotate_left 1
      · ((intro w hSw; (try dsimp only at hSw); go_simp); (try with_reducible rfl))
      simp only [Act.put, List.setIfInBounds_toArray, List.set_cons_zero, List.set_cons_succ, List.getElem_toArray, List.getElem_cons_zero, List.getElem_cons_succ]
      refine wpAnyD_take0 (i := 2) (v := ?_) rfl (by decide) (by kernel_rfl) (by kernel_rfl) (by kernel_rfl) (fun _ _ _ h => h) (Or.inl ⟨by rfl, ?_⟩) (by assumption) (by assumption) ?_
      rotate_left 1
      · ((intro w hSw; (try dsimp only at hSw); go_simp); (try with_reducible rfl))
      simp only [Act.put, List.setIfInBounds_toArray, List.set_cons_zero, List.set_cons_succ, List.getElem_toArray, List.getElem_cons_zero, List.getElem_cons_succ]
      refine wpAnyD_take0 (i := 3) (v := ?_) rfl (by decide) (by kernel_rfl) (by kernel_rfl) (by kernel_rfl) (fun _ _ _ h => h) (Or.inl ⟨by rfl, ?_⟩) (by assumption) (by assumption) ?_
      rotate_left 1
      · ((intro w hSw; (try dsimp only at hSw); go_simp); (try with_reducible rfl))
      simp only [Act.put, List.setIfInBounds_toArray, List.set_cons_zero, List.set_cons_succ, List.getElem_toArray, List.getElem_cons_zero, List.getElem_cons_succ]
      refine wpAnyD_take0 (i := 4) (v := ?_) rfl (by decide) (by kernel_rfl) (by kernel_rfl) (by kernel_rfl) (fun _ _ _ h => h) (Or.inl ⟨by rfl, ?_⟩) (by assumption) (by assumption) ?_
      rotate_left 1
      · ((intro w hSw; (try dsimp only at hSw); go_simp); (try with_reducible rfl))
      simp only [Act.put, List.setIfInBounds_toArray, List.set_cons_zero, List.set_cons_succ, List.getElem_toArray, List.getElem_cons_zero, List.getElem_cons_succ]
      refine wpAnyD_take0 (i := 5) (v := ?_) rfl (by decide) (by kernel_rfl) (by kernel_rfl) (by kernel_rfl) (fun _ _ _ h => h) (Or.inl ⟨by rfl, ?_⟩) (by assumption) (by assumption) ?_
      rotate_left 1
      · ((intro w hSw; (try dsimp only at hSw); go_simp); (try with_reducible rfl))
      simp only [Act.put, List.setIfInBounds_toArray, List.set_cons_zero, List.set_cons_succ, List.getElem_toArray, List.getElem_cons_zero, List.getElem_cons_succ]
      refine wpAnyD_take0 (i := 6) (v := ?_) rfl (by decide) (by kernel_rfl) (by kernel_rfl) (by kernel_rfl) (fun _ _ _ h => h) (Or.inl ⟨by rfl, ?_⟩) (by assumption) (by assumption) ?_
      rotate_left 1
      · ((intro w hSw; (try dsimp only at hSw); go_simp); (try with_reducible rfl))
      simp only [Act.put, List.setIfInBounds_toArray, List.set_cons_zero, List.set_cons_succ, List.getElem_toArray, List.getElem_cons_zero, List.getElem_cons_succ]
      refine wpAnyD_take (i := 7) (v := ?_) rfl (by kernel_rfl) (by kernel_rfl) (by kernel_rfl) (by kernel_rfl) (by kernel_rfl) (fun _ _ _ h => h) (Or.inl ⟨by rfl, ?_⟩) (by assumption) (by assumption) ?_
      rotate_left 1
      · ((intro w hSw; (try dsimp only at hSw); go_simp); (try with_reducible rfl))
      simp only [Act.put, List.setIfInBounds_toArray, List.set_cons_zero, List.set_cons_succ, List.getElem_toArray, List.getElem_cons_zero, List.getElem_cons_succ]
      refine wpAnyD_take0 (i := 8) (v := ?_) rfl (by decide) (by kernel_rfl) (by kernel_rfl) (by kernel_rfl) (fun _ _ _ h => h) (Or.inl ⟨by rfl, ?_⟩) (by assumption) (by assumption) ?_
      rotate_left 1
      · ((intro w hSw; (try dsimp only at hSw); go_simp); (try with_reducible rfl))
      simp only [Act.put, List.setIfInBounds_toArray, List.set_cons_zero, List.set_cons_succ, List.getElem_toArray, List.getElem_cons_zero, List.getElem_cons_succ]
      refine wpAnyD_take0 (i := 9) (v := ?_) rfl (by decide) (by kernel_rfl) (by kernel_rfl) (by kernel_rfl) (fun _ _ _ h => h) (Or.inl ⟨by rfl, ?_⟩) (by assumption) (by assumption) ?_
      rotate_left 1
      · ((intro w hSw; (try dsimp only at hSw); go_simp); (try with_reducible rfl))
      simp only [Act.put, List.setIfInBounds_toArray, List.set_cons_zero, List.set_cons_succ, List.getElem_toArray, List.getElem_cons_zero, List.getElem_cons_succ]
      refine wpAnyD_take0 (i := 10) (v := ?_) rfl (by decide) (by kernel_rfl) (by kernel_rfl) (by kernel_rfl) (fun _ _ _ h => h) (Or.inl ⟨by rfl, ?_⟩) (by assumption) (by assumption) ?_
      rotate_left 1
      · ((intro w hSw; (try dsimp only at hSw); go_simp); (try with_reducible rfl))
      simp only [Act.put, List.setIfInBounds_toArray, List.set_cons_zero, List.set_cons_succ, List.getElem_toArray, List.getElem_cons_zero, List.getElem_cons_succ]
      refine wpAnyD_take (i := 11) (v := ?_) rfl (by kernel_rfl) (by kernel_rfl) (by kernel_rfl) (by kernel_rfl) (by kernel_rfl) (fun _ _ _ h => h) (Or.inl ⟨by rfl, ?_⟩) (by assumption) (by assumption) ?_
      rotate_left 1
      · ((intro w hSw; (try dsimp only at hSw); go_simp); (try with_reducible rfl))
      simp only [Act.put, List.setIfInBounds_toArray, List.set_cons_zero, List.set_cons_succ, List.getElem_toArray, List.getElem_cons_zero, List.getElem_cons_succ]
      refine wpAnyD_take0 (i := 12) (v := ?_) rfl (by decide) (by kernel_rfl) (by kernel_rfl) (by kernel_rfl) (fun _ _ _ h => h) (Or.inl ⟨by rfl, ?_⟩) (by assumption) (by assumption) ?_
      rotate_left 1
      · ((intro w hSw; (try dsimp only at hSw); go_simp); (try with_reducible rfl))
      simp only [Act.put, List.setIfInBounds_toArray, List.set_cons_zero, List.set_cons_succ, List.getElem_toArray, List.getElem_cons_zero, List.getElem_cons_succ]
      have HZ := HD
      have y0 : y.cell? ⟨gs, 0, none⟩ = some (.int .i64 k) := row_cell HD.out.s (j := 0) rfl
      have m0 := own_frozen HD.out.s 0
      have y1 : y.cell? ⟨gs, 1, none⟩ = some (.int .i64 0) := row_cell HD.out.s (j := 1) rfl
      have m1 := own_frozen HD.out.s 1
      have y2 : y.cell? ⟨gs, 2, none⟩ = some (.int .i64 0) := row_cell HD.out.s (j := 2) rfl
      have m2 := own_frozen HD.out.s 2
      have y3 : y.cell? ⟨gs, 3, none⟩ = some (.bool false) := row_cell HD.out.s (j := 3) rfl
      have m3 := own_frozen HD.out.s 3
      have y4 : y.cell? ⟨gs, 4, none⟩ = some (.int .i64 (k + 1)) := row_cell HD.out.s (j := 4) rfl
      have m4 := own_frozen HD.out.s 4
      have y5 : y.cell? ⟨gs, 5, none⟩ = some (.int .i64 0) := row_cell HD.out.s (j := 5) rfl
      have m5 := own_frozen HD.out.s 5
      have y6 : y.cell? ⟨gs, 6, none⟩ = some (.int .i64 1) := row_cell HD.out.s (j := 6) rfl
      have m6 := own_frozen HD.out.s 6
      have y7 : y.cell? ⟨gs, 7, none⟩ = some (.bool false) := row_cell HD.out.s (j := 7) rfl
      have m7 := own_frozen HD.out.s 7
      replace HZ := hidp (HZ.out.putS 0 (by decide) (.int .i64 (k + 1)))
      replace HZ := hidp (HZ.out.putS 1 (by decide) (.int .i64 0))
      replace HZ := hidp (HZ.out.putS 2 (by decide) (.int .i64 1))
      replace HZ := hidp (HZ.out.putS 3 (by decide) (.bool false))
      have HZ4 := HZ
      replace HZ := hidp (HZ.out.putS 4 (by decide) (.int .i64 k))
      replace HZ := hidp (HZ.out.putS 5 (by decide) (.int .i64 0))
      replace HZ := hidp (HZ.out.putS 6 (by decide) (.int .i64 0))
      replace HZ := hidp (HZ.out.putS 7 (by decide) (.bool false))
      clear hHeld hHeld0
      refine wpAnyD_ready (rs := [13]) (by kernel_rfl) (by simp) ?_
      refine AllReadyD.last (by kernel_rfl) rfl (fun K hK => ?_)
      go_simp
      refine hK.out _ _ ?_ ?_
      · exact HZ4.out.bb.cell 1
      clear hK K
      try simp only [Act.put, List.setIfInBounds_toArray, List.set_cons_zero, List.set_cons_succ, List.getElem_toArray, List.getElem_cons_zero, List.getElem_cons_succ]
      refine wpAnyD_ready (rs := [14]) (by kernel_rfl) (by simp) ?_
      refine AllReadyD.last (by kernel_rfl) rfl (fun K hK => ?_)
      go_simp
      refine hK.out _ _ ?_ ?_
      · exact HZ4.out.bb.cell 1
      clear hK K
      try simp only [Act.put, List.setIfInBounds_toArray, List.set_cons_zero, List.set_cons_succ, List.getElem_toArray, List.getElem_cons_zero, List.getElem_cons_succ]
      have p4 : ((((y.setCell ⟨gs, 0, none⟩ (.int .i64 (k + 1))).setCell ⟨gs, 1, none⟩ (.int .i64 0)).setCell ⟨gs, 2, none⟩ (.int .i64 1)).setCell ⟨gs, 3, none⟩ (.bool false)).cell? ⟨gs, 4, none⟩ = some (.int .i64 (k + 1)) := row_cell HZ4.out.s (j := 4) rfl
      have q4 : ((((y.setCell ⟨gs, 0, none⟩ (.int .i64 (k + 1))).setCell ⟨gs, 1, none⟩ (.int .i64 0)).setCell ⟨gs, 2, none⟩ (.int .i64 1)).setCell ⟨gs, 3, none⟩ (.bool false)).frozen? ⟨gs, 4, none⟩ = false := own_frozen HZ4.out.s 4
      have p5 : ((((y.setCell ⟨gs, 0, none⟩ (.int .i64 (k + 1))).setCell ⟨gs, 1, none⟩ (.int .i64 0)).setCell ⟨gs, 2, none⟩ (.int .i64 1)).setCell ⟨gs, 3, none⟩ (.bool false)).cell? ⟨gs, 5, none⟩ = some (.int .i64 0) := row_cell HZ4.out.s (j := 5) rfl
      have q5 : ((((y.setCell ⟨gs, 0, none⟩ (.int .i64 (k + 1))).setCell ⟨gs, 1, none⟩ (.int .i64 0)).setCell ⟨gs, 2, none⟩ (.int .i64 1)).setCell ⟨gs, 3, none⟩ (.bool false)).frozen? ⟨gs, 5, none⟩ = false := own_frozen HZ4.out.s 5
      have p6 : ((((y.setCell ⟨gs, 0, none⟩ (.int .i64 (k + 1))).setCell ⟨gs, 1, none⟩ (.int .i64 0)).setCell ⟨gs, 2, none⟩ (.int .i64 1)).setCell ⟨gs, 3, none⟩ (.bool false)).cell? ⟨gs, 6, none⟩ = some (.int .i64 1) := row_cell HZ4.out.s (j := 6) rfl
      have q6 : ((((y.setCell ⟨gs, 0, none⟩ (.int .i64 (k + 1))).setCell ⟨gs, 1, none⟩ (.int .i64 0)).setCell ⟨gs, 2, none⟩ (.int .i64 1)).setCell ⟨gs, 3, none⟩ (.bool false)).frozen? ⟨gs, 6, none⟩ = false := own_frozen HZ4.out.s 6
      have p7 : ((((y.setCell ⟨gs, 0, none⟩ (.int .i64 (k + 1))).setCell ⟨gs, 1, none⟩ (.int .i64 0)).setCell ⟨gs, 2, none⟩ (.int .i64 1)).setCell ⟨gs, 3, none⟩ (.bool false)).cell? ⟨gs, 7, none⟩ = some (.bool false) := row_cell HZ4.out.s (j := 7) rfl
      have q7 : ((((y.setCell ⟨gs, 0, none⟩ (.int .i64 (k + 1))).setCell ⟨gs, 1, none⟩ (.int .i64 0)).setCell ⟨gs, 2, none⟩ (.int .i64 1)).setCell ⟨gs, 3, none⟩ (.bool false)).frozen? ⟨gs, 7, none⟩ = false := own_frozen HZ4.out.s 7
      refine wpAnyD_ready (rs := [15]) (by kernel_rfl) (by simp) ?_
      refine AllReadyD.last (by kernel_rfl) rfl (fun K hK => ?_)
      go_simp
      refine hK.out _ _ ?_ ?_
      · exact HZ.out.bb.cell 1
      clear hK K
      try simp only [Act.put, List.setIfInBounds_toArray, List.set_cons_zero, List.set_cons_succ, List.getElem_toArray, List.getElem_cons_zero, List.getElem_cons_succ]
      refine wpAnyD_done (by kernel_rfl) ?_ _
      go_upto_region 25 with fail
      have HTb : Hid (TraceOk ((((((((y.setCell ⟨gs, 0, none⟩ (.int .i64 (k + 1))).setCell ⟨gs, 1, none⟩ (.int .i64 0)).setCell ⟨gs, 2, none⟩ (.int .i64 1)).setCell ⟨gs, 3, none⟩ (.bool false)).setCell ⟨gs, 4, none⟩ (.int .i64 k)).setCell ⟨gs, 5, none⟩ (.int .i64 0)).setCell ⟨gs, 6, none⟩ (.int .i64 0)).setCell ⟨gs, 7, none⟩ (.bool false)) (pT 500 (some ⟨gs, 0, none⟩) d1 [⟨k + 1, 0, 1, false⟩, ⟨k, 0, 0, false⟩] (some ⟨gd, 0, none⟩) d2 [⟨0, k, k + 5⟩, ⟨0, k + 100, k + 105⟩] (some ⟨gw, 0, none⟩) d3 [⟨0, 1, k, k, k + 3⟩, ⟨1, 1, k, k + 3, k + 6⟩])) := hidp (Bad25.ok (k := k) (a := ⟨k + 1, 0, 1, false⟩) (b := ⟨k, 0, 0, false⟩) (d := ⟨0, k, k + 5⟩) (e := ⟨0, k + 100, k + 105⟩) (x := ⟨0, 1, k, k, k + 3⟩) (y := ⟨1, 1, k, k + 3, k + 6⟩) HZ.out (by unfold I64; omega) ⟨by unfold I64; dsimp only; omega, by unfold I64; dsimp only; omega, by unfold I64; dsimp only; omega⟩ ⟨by unfold I64; dsimp only; omega, by unfold I64; dsimp only; omega, by unfold I64; dsimp only; omega⟩ ⟨by unfold I64; dsimp only; omega, by unfold I64; dsimp only; omega, by unfold I64; dsimp only; omega⟩ ⟨by unfold I64; dsimp only; omega, by unfold I64; dsimp only; omega, by unfold I64; dsimp only; omega⟩ ⟨by unfold I64; dsimp only; omega, by unfold I64; dsimp only; omega, by unfold I64; dsimp only; omega, by unfold I64; dsimp only; omega, by unfold I64; dsimp only; omega⟩ ⟨by unfold I64; dsimp only; omega, by unfold I64; dsimp only; omega, by unfold I64; dsimp only; omega, by unfold I64; dsimp only; omega, by unfold I64; dsimp only; omega⟩)
      obtain ⟨z, hz⟩ : ∃ x, ((((((((y.setCell ⟨gs, 0, none⟩ (.int .i64 (k + 1))).setCell ⟨gs, 1, none⟩ (.int .i64 0)).setCell ⟨gs, 2, none⟩ (.int .i64 1)).setCell ⟨gs, 3, none⟩ (.bool false)).setCell ⟨gs, 4, none⟩ (.int .i64 k)).setCell ⟨gs, 5, none⟩ (.int .i64 0)).setCell ⟨gs, 6, none⟩ (.int .i64 0)).setCell ⟨gs, 7, none⟩ (.bool false)) = x := ⟨_, rfl⟩
      rw [hz] at HZ HTb ⊢
      clear hz
      have hbz := HZ.out.b
      have HSz := hidp (HS.out.keep (Keeps.of_below hbz))
      have HTz := hidp (HT.out.keep (Keeps.of_below hbz))
      have bSz := HbS.out.below hbz
      have bGz := Hbg.out.below hbz
      have bBz := HZ.out.bb
      have hbw := Hb.out.trans (hbz.mono Hb.out.size)
      try clear x0 x1 x2 x3
      try clear y0 m0
      try clear f0
      have s0 := bSz.cell 0
      have t0 := bGz.cell 0
      have s1 := bSz.cell 1
      have t1 := bGz.cell 1
      have s2 := bSz.cell 2
      have t2 := bGz.cell 2
      have s3 := bSz.cell 3
      have t3 := bGz.cell 3
      have V1 := hidp (c_good ca cc ha hc ta tc a1 c1 a2 c2 (some ⟨N, 0, none⟩) 2 (some ⟨N + 1, 0, none⟩) 2 (some ⟨N + 1 + 1, 0, none⟩) 2 k0 k1)
      have V2 := hidp (c_bad0 ca cc ha hc ta tc a1 c1 a2 c2 (some ⟨gs, 0, none⟩) d1 (some ⟨gd, 0, none⟩) d2 (some ⟨gw, 0, none⟩) d3 k0 k1)
      go_wp2_with fail
      refine (lcheck_any (pS ca cc ha hc ta tc a1 c1 a2 c2) (pT 500 (some ⟨N, 0, none⟩) 2 (gSl k) (some ⟨N + 1, 0, none⟩) 2 (gDn k) (some ⟨N + 1 + 1, 0, none⟩) 2 (gWt k)) _ HSz.out HTz.out).mono ?_
      rintro e v2 ⟨rfl, hb2⟩
      rw [V1.out]
      replace bSz := bSz.below hb2
      replace bBz := bBz.below hb2
      replace HSz := hidp (HSz.out.keep (Keeps.of_below hb2))
      replace HTb := hidp (HTb.out.keep (Keeps.of_below hb2))
      replace hbw := hbw.trans (hb2.mono hbw.size)
      clear hb2 s0 s1 s2 s3 t0 t1 t2 t3
      have s0 := bSz.cell 0
      have t0 := bBz.cell 0
      have s1 := bSz.cell 1
      have t1 := bBz.cell 1
      have s2 := bSz.cell 2
      have t2 := bBz.cell 2
      have s3 := bSz.cell 3
      have t3 := bBz.cell 3
      go_wp2_with fail
      refine (lcheck_any (pS ca cc ha hc ta tc a1 c1 a2 c2) (pT 500 (some ⟨gs, 0, none⟩) d1 [⟨k + 1, 0, 1, false⟩, ⟨k, 0, 0, false⟩] (some ⟨gd, 0, none⟩) d2 [⟨0, k, k + 5⟩, ⟨0, k + 100, k + 105⟩] (some ⟨gw, 0, none⟩) d3 [⟨0, 1, k, k, k + 3⟩, ⟨1, 1, k, k + 3, k + 6⟩]) _ HSz.out HTb.out).mono ?_
      rintro e v3 ⟨rfl, hb2⟩
      rw [V2.out]
      replace hbw := hbw.trans (hb2.mono hbw.size)
      clear hb2 s0 s1 s2 s3 t0 t1 t2 t3
      go_wp2_with fail
      go_ret
      exact ⟨rfl, hbw⟩
    · skip
      have x0 := HBad.out.bb.cell 0
      have x1 := HBad.out.bb.cell 1
      have x2 := HBad.out.bb.cell 2
      have x3 := HBad.out.bb.cell 3
      have y0 := row_cell HBad.out.s (j := 4) rfl
      have m0 := own_frozen HBad.out.s 4
      have HZ := hidp (HBad.out.putS 4 (by decide) (.int .i64 k))
      go_upto_region 25 with fail
      have HTb : Hid (TraceOk (wc.setCell ⟨gs, 4, none⟩ (.int .i64 k)) (pT 500 (some ⟨gs, 0, none⟩) d1 [⟨k, 0, 0, false⟩, ⟨k, 0, 1, false⟩] (some ⟨gd, 0, none⟩) d2 [⟨0, k, k + 5⟩, ⟨0, k + 100, k + 105⟩] (some ⟨gw, 0, none⟩) d3 [⟨0, 1, k, k, k + 3⟩, ⟨1, 1, k, k + 3, k + 6⟩])) := hidp (Bad25.ok (k := k) (a := ⟨k, 0, 0, false⟩) (b := ⟨k, 0, 1, false⟩) (d := ⟨0, k, k + 5⟩) (e := ⟨0, k + 100, k + 105⟩) (x := ⟨0, 1, k, k, k + 3⟩) (y := ⟨1, 1, k, k + 3, k + 6⟩) HZ.out (by unfold I64; omega) ⟨by unfold I64; dsimp only; omega, by unfold I64; dsimp only; omega, by unfold I64; dsimp only; omega⟩ ⟨by unfold I64; dsimp only; omega, by unfold I64; dsimp only; omega, by unfold I64; dsimp only; omega⟩ ⟨by unfold I64; dsimp only; omega, by unfold I64; dsimp only; omega, by unfold I64; dsimp only; omega⟩ ⟨by unfold I64; dsimp only; omega, by unfold I64; dsimp only; omega, by unfold I64; dsimp only; omega⟩ ⟨by unfold I64; dsimp only; omega, by unfold I64; dsimp only; omega, by unfold I64; dsimp only; omega, by unfold I64; dsimp only; omega, by unfold I64; dsimp only; omega⟩ ⟨by unfold I64; dsimp only; omega, by unfold I64; dsimp only; omega, by unfold I64; dsimp only; omega, by unfold I64; dsimp only; omega, by unfold I64; dsimp only; omega⟩)
      obtain ⟨z, hz⟩ : ∃ x, (wc.setCell ⟨gs, 4, none⟩ (.int .i64 k)) = x := ⟨_, rfl⟩
      rw [hz] at HZ HTb ⊢
      clear hz
      have hbz := HZ.out.b
      have HSz := hidp (HS.out.keep (Keeps.of_below hbz))
      have HTz := hidp (HT.out.keep (Keeps.of_below hbz))
      have bSz := HbS.out.below hbz
      have bGz := Hbg.out.below hbz
      have bBz := HZ.out.bb
      have hbw := Hb.out.trans (hbz.mono Hb.out.size)
      try clear x0 x1 x2 x3
      try clear y0 m0
      try clear f0
      have s0 := bSz.cell 0
      have t0 := bGz.cell 0
      have s1 := bSz.cell 1
      have t1 := bGz.cell 1
      have s2 := bSz.cell 2
      have t2 := bGz.cell 2
      have s3 := bSz.cell 3
      have t3 := bGz.cell 3
      have V1 := hidp (c_good ca cc ha hc ta tc a1 c1 a2 c2 (some ⟨N, 0, none⟩) 2 (some ⟨N + 1, 0, none⟩) 2 (some ⟨N + 1 + 1, 0, none⟩) 2 k0 k1)
      have V2 := hidp (c_bad1 ca cc ha hc ta tc a1 c1 a2 c2 (some ⟨gs, 0, none⟩) d1 (some ⟨gd, 0, none⟩) d2 (some ⟨gw, 0, none⟩) d3 k0 k1)
      go_wp2_with fail
      refine (lcheck_any (pS ca cc ha hc ta tc a1 c1 a2 c2) (pT 500 (some ⟨N, 0, none⟩) 2 (gSl k) (some ⟨N + 1, 0, none⟩) 2 (gDn k) (some ⟨N + 1 + 1, 0, none⟩) 2 (gWt k)) _ HSz.out HTz.out).mono ?_
      rintro e v2 ⟨rfl, hb2⟩
      rw [V1.out]
      replace bSz := bSz.below hb2
      replace bBz := bBz.below hb2
      replace HSz := hidp (HSz.out.keep (Keeps.of_below hb2))
      replace HTb := hidp (HTb.out.keep (Keeps.of_below hb2))
      replace hbw := hbw.trans (hb2.mono hbw.size)
      clear hb2 s0 s1 s2 s3 t0 t1 t2 t3
      have s0 := bSz.cell 0
      have t0 := bBz.cell 0
      have s1 := bSz.cell 1
      have t1 := bBz.cell 1
      have s2 := bSz.cell 2
      have t2 := bBz.cell 2
      have s3 := bSz.cell 3
      have t3 := bBz.cell 3
      go_wp2_with fail
      refine (lcheck_any (pS ca cc ha hc ta tc a1 c1 a2 c2) (pT 500 (some ⟨gs, 0, none⟩) d1 [⟨k, 0, 0, false⟩, ⟨k, 0, 1, false⟩] (some ⟨gd, 0, none⟩) d2 [⟨0, k, k + 5⟩, ⟨0, k + 100, k + 105⟩] (some ⟨gw, 0, none⟩) d3 [⟨0, 1, k, k, k + 3⟩, ⟨1, 1, k, k + 3, k + 6⟩]) _ HSz.out HTb.out).mono ?_
      rintro e v3 ⟨rfl, hb2⟩
      rw [V2.out]
      replace hbw := hbw.trans (hb2.mono hbw.size)
      clear hb2 s0 s1 s2 s3 t0 t1 t2 t3
      go_wp2_with fail
      go_ret
      exact ⟨rfl, hbw⟩
    · skip
      have x0 := HBad.out.bb.cell 0
      have x1 := HBad.out.bb.cell 1
      have x2 := HBad.out.bb.cell 2
      have x3 := HBad.out.bb.cell 3
      have y0 := row_cell HBad.out.s (j := 1) rfl
      have m0 := own_frozen HBad.out.s 1
      have HZ := hidp (HBad.out.putS 1 (by decide) (.int .i64 1))
      go_upto_region 25 with fail
      have HTb : Hid (TraceOk (wc.setCell ⟨gs, 1, none⟩ (.int .i64 1)) (pT 500 (some ⟨gs, 0, none⟩) d1 [⟨k, 1, 0, false⟩, ⟨k + 1, 0, 1, false⟩] (some ⟨gd, 0, none⟩) d2 [⟨0, k, k + 5⟩, ⟨0, k + 100, k + 105⟩] (some ⟨gw, 0, none⟩) d3 [⟨0, 1, k, k, k + 3⟩, ⟨1, 1, k, k + 3, k + 6⟩])) := hidp (Bad25.ok (k := k) (a := ⟨k, 1, 0, false⟩) (b := ⟨k + 1, 0, 1, false⟩) (d := ⟨0, k, k + 5⟩) (e := ⟨0, k + 100, k + 105⟩) (x := ⟨0, 1, k, k, k + 3⟩) (y := ⟨1, 1, k, k + 3, k + 6⟩) HZ.out (by unfold I64; omega) ⟨by unfold I64; dsimp only; omega, by unfold I64; dsimp only; omega, by unfold I64; dsimp only; omega⟩ ⟨by unfold I64; dsimp only; omega, by unfold I64; dsimp only; omega, by unfold I64; dsimp only; omega⟩ ⟨by unfold I64; dsimp only; omega, by unfold I64; dsimp only; omega, by unfold I64; dsimp only; omega⟩ ⟨by unfold I64; dsimp only; omega, by unfold I64; dsimp only; omega, by unfold I64; dsimp only; omega⟩ ⟨by unfold I64; dsimp only; omega, by unfold I64; dsimp only; omega, by unfold I64; dsimp only; omega, by unfold I64; dsimp only; omega, by unfold I64; dsimp only; omega⟩ ⟨by unfold I64; dsimp only; omega, by unfold I64; dsimp only; omega, by unfold I64; dsimp only; omega, by unfold I64; dsimp only; omega, by unfold I64; dsimp only; omega⟩)
      obtain ⟨z, hz⟩ : ∃ x, (wc.setCell ⟨gs, 1, none⟩ (.int .i64 1)) = x := ⟨_, rfl⟩
      rw [hz] at HZ HTb ⊢
      clear hz
      have hbz := HZ.out.b
      have HSz := hidp (HS.out.keep (Keeps.of_below hbz))
      have HTz := hidp (HT.out.keep (Keeps.of_below hbz))
      have bSz := HbS.out.below hbz
      have bGz := Hbg.out.below hbz
      have bBz := HZ.out.bb
      have hbw := Hb.out.trans (hbz.mono Hb.out.size)
      try clear x0 x1 x2 x3
      try clear y0 m0
      try clear f0
      have s0 := bSz.cell 0
      have t0 := bGz.cell 0
      have s1 := bSz.cell 1
      have t1 := bGz.cell 1
      have s2 := bSz.cell 2
      have t2 := bGz.cell 2
      have s3 := bSz.cell 3
      have t3 := bGz.cell 3
      have V1 := hidp (c_good ca cc ha hc ta tc a1 c1 a2 c2 (some ⟨N, 0, none⟩) 2 (some ⟨N + 1, 0, none⟩) 2 (some ⟨N + 1 + 1, 0, none⟩) 2 k0 k1)
      have V2 := hidp (c_bad2 ca cc ha hc ta tc a1 c1 a2 c2 (some ⟨gs, 0, none⟩) d1 (some ⟨gd, 0, none⟩) d2 (some ⟨gw, 0, none⟩) d3 k0 k1)
      go_wp2_with fail
      refine (lcheck_any (pS ca cc ha hc ta tc a1 c1 a2 c2) (pT 500 (some ⟨N, 0, none⟩) 2 (gSl k) (some ⟨N + 1, 0, none⟩) 2 (gDn k) (some ⟨N + 1 + 1, 0, none⟩) 2 (gWt k)) _ HSz.out HTz.out).mono ?_
      rintro e v2 ⟨rfl, hb2⟩
      rw [V1.out]
      replace bSz := bSz.below hb2
      replace bBz := bBz.below hb2
      replace HSz := hidp (HSz.out.keep (Keeps.of_below hb2))
      replace HTb := hidp (HTb.out.keep (Keeps.of_below hb2))
      replace hbw := hbw.trans (hb2.mono hbw.size)
      clear hb2 s0 s1 s2 s3 t0 t1 t2 t3
      have s0 := bSz.cell 0
      have t0 := bBz.cell 0
      have s1 := bSz.cell 1
      have t1 := bBz.cell 1
      have s2 := bSz.cell 2
      have t2 := bBz.cell 2
      have s3 := bSz.cell 3
      have t3 := bBz.cell 3
      go_wp2_with fail
      refine (lcheck_any (pS ca cc ha hc ta tc a1 c1 a2 c2) (pT 500 (some ⟨gs, 0, none⟩) d1 [⟨k, 1, 0, false⟩, ⟨k + 1, 0, 1, false⟩] (some ⟨gd, 0, none⟩) d2 [⟨0, k, k + 5⟩, ⟨0, k + 100, k + 105⟩] (some ⟨gw, 0, none⟩) d3 [⟨0, 1, k, k, k + 3⟩, ⟨1, 1, k, k + 3, k + 6⟩]) _ HSz.out HTb.out).mono ?_
      rintro e v3 ⟨rfl, hb2⟩
      rw [V2.out]
      replace hbw := hbw.trans (hb2.mono hbw.size)
      clear hb2 s0 s1 s2 s3 t0 t1 t2 t3
      go_wp2_with fail
      go_ret
      exact ⟨rfl, hbw⟩
    · skip
      have x0 := HBad.out.bb.cell 0
      have x1 := HBad.out.bb.cell 1
      have x2 := HBad.out.bb.cell 2
      have x3 := HBad.out.bb.cell 3
      have y0 := row_cell HBad.out.d (j := 4) rfl
      have m0 := own_frozen HBad.out.d 4
      have HZ := hidp (HBad.out.putD 4 (by decide) (.int .i64 (k + 99)))
      go_upto_region 25 with fail
      have HTb : Hid (TraceOk (wc.setCell ⟨gd, 4, none⟩ (.int .i64 (k + 99))) (pT 500 (some ⟨gs, 0, none⟩) d1 [⟨k, 0, 0, false⟩, ⟨k + 1, 0, 1, false⟩] (some ⟨gd, 0, none⟩) d2 [⟨0, k, k + 5⟩, ⟨0, k + 99, k + 105⟩] (some ⟨gw, 0, none⟩) d3 [⟨0, 1, k, k, k + 3⟩, ⟨1, 1, k, k + 3, k + 6⟩])) := hidp (Bad25.ok (k := k) (a := ⟨k, 0, 0, false⟩) (b := ⟨k + 1, 0, 1, false⟩) (d := ⟨0, k, k + 5⟩) (e := ⟨0, k + 99, k + 105⟩) (x := ⟨0, 1, k, k, k + 3⟩) (y := ⟨1, 1, k, k + 3, k + 6⟩) HZ.out (by unfold I64; omega) ⟨by unfold I64; dsimp only; omega, by unfold I64; dsimp only; omega, by unfold I64; dsimp only; omega⟩ ⟨by unfold I64; dsimp only; omega, by unfold I64; dsimp only; omega, by unfold I64; dsimp only; omega⟩ ⟨by unfold I64; dsimp only; omega, by unfold I64; dsimp only; omega, by unfold I64; dsimp only; omega⟩ ⟨by unfold I64; dsimp only; omega, by unfold I64; dsimp only; omega, by unfold I64; dsimp only; omega⟩ ⟨by unfold I64; dsimp only; omega, by unfold I64; dsimp only; omega, by unfold I64; dsimp only; omega, by unfold I64; dsimp only; omega, by unfold I64; dsimp only; omega⟩ ⟨by unfold I64; dsimp only; omega, by unfold I64; dsimp only; omega, by unfold I64; dsimp only; omega, by unfold I64; dsimp only; omega, by unfold I64; dsimp only; omega⟩)
      obtain ⟨z, hz⟩ : ∃ x, (wc.setCell ⟨gd, 4, none⟩ (.int .i64 (k + 99))) = x := ⟨_, rfl⟩
      rw [hz] at HZ HTb ⊢
      clear hz
      have hbz := HZ.out.b
      have HSz := hidp (HS.out.keep (Keeps.of_below hbz))
      have HTz := hidp (HT.out.keep (Keeps.of_below hbz))
      have bSz := HbS.out.below hbz
      have bGz := Hbg.out.below hbz
      have bBz := HZ.out.bb
      have hbw := Hb.out.trans (hbz.mono Hb.out.size)
      try clear x0 x1 x2 x3
      try clear y0 m0
      try clear f0
      have s0 := bSz.cell 0
      have t0 := bGz.cell 0
      have s1 := bSz.cell 1
      have t1 := bGz.cell 1
      have s2 := bSz.cell 2
      have t2 := bGz.cell 2
      have s3 := bSz.cell 3
      have t3 := bGz.cell 3
      have V1 := hidp (c_good ca cc ha hc ta tc a1 c1 a2 c2 (some ⟨N, 0, none⟩) 2 (some ⟨N + 1, 0, none⟩) 2 (some ⟨N + 1 + 1, 0, none⟩) 2 k0 k1)
      have V2 := hidp (c_bad3 ca cc ha hc ta tc a1 c1 a2 c2 (some ⟨gs, 0, none⟩) d1 (some ⟨gd, 0, none⟩) d2 (some ⟨gw, 0, none⟩) d3 k0 k1)
      go_wp2_with fail
      refine (lcheck_any (pS ca cc ha hc ta tc a1 c1 a2 c2) (pT 500 (some ⟨N, 0, none⟩) 2 (gSl k) (some ⟨N + 1, 0, none⟩) 2 (gDn k) (some ⟨N + 1 + 1, 0, none⟩) 2 (gWt k)) _ HSz.out HTz.out).mono ?_
      rintro e v2 ⟨rfl, hb2⟩
      rw [V1.out]
      replace bSz := bSz.below hb2
      replace bBz := bBz.below hb2
      replace HSz := hidp (HSz.out.keep (Keeps.of_below hb2))
      replace HTb := hidp (HTb.out.keep (Keeps.of_below hb2))
      replace hbw := hbw.trans (hb2.mono hbw.size)
      clear hb2 s0 s1 s2 s3 t0 t1 t2 t3
      have s0 := bSz.cell 0
      have t0 := bBz.cell 0
      have s1 := bSz.cell 1
      have t1 := bBz.cell 1
      have s2 := bSz.cell 2
      have t2 := bBz.cell 2
      have s3 := bSz.cell 3
      have t3 := bBz.cell 3
      go_wp2_with fail
      refine (lcheck_any (pS ca cc ha hc ta tc a1 c1 a2 c2) (pT 500 (some ⟨gs, 0, none⟩) d1 [⟨k, 0, 0, false⟩, ⟨k + 1, 0, 1, false⟩] (some ⟨gd, 0, none⟩) d2 [⟨0, k, k + 5⟩, ⟨0, k + 99, k + 105⟩] (some ⟨gw, 0, none⟩) d3 [⟨0, 1, k, k, k + 3⟩, ⟨1, 1, k, k + 3, k + 6⟩]) _ HSz.out HTb.out).mono ?_
      rintro e v3 ⟨rfl, hb2⟩
      rw [V2.out]
      replace hbw := hbw.trans (hb2.mono hbw.size)
      clear hb2 s0 s1 s2 s3 t0 t1 t2 t3
      go_wp2_with fail
      go_ret
      exact ⟨rfl, hbw⟩
    · skip
      have x0 := HBad.out.bb.cell 0
      have x1 := HBad.out.bb.cell 1
      have x2 := HBad.out.bb.cell 2
      have x3 := HBad.out.bb.cell 3
      have y0 := row_cell HBad.out.d (j := 2) rfl
      have m0 := own_frozen HBad.out.d 2
      have HZ := hidp (HBad.out.putD 2 (by decide) (.int .i64 k))
      go_upto_region 25 with fail
      have HTb : Hid (TraceOk (wc.setCell ⟨gd, 2, none⟩ (.int .i64 k)) (pT 500 (some ⟨gs, 0, none⟩) d1 [⟨k, 0, 0, false⟩, ⟨k + 1, 0, 1, false⟩] (some ⟨gd, 0, none⟩) d2 [⟨0, k, k⟩, ⟨0, k + 100, k + 105⟩] (some ⟨gw, 0, none⟩) d3 [⟨0, 1, k, k, k + 3⟩, ⟨1, 1, k, k + 3, k + 6⟩])) := hidp (Bad25.ok (k := k) (a := ⟨k, 0, 0, false⟩) (b := ⟨k + 1, 0, 1, false⟩) (d := ⟨0, k, k⟩) (e := ⟨0, k + 100, k + 105⟩) (x := ⟨0, 1, k, k, k + 3⟩) (y := ⟨1, 1, k, k + 3, k + 6⟩) HZ.out (by unfold I64; omega) ⟨by unfold I64; dsimp only; omega, by unfold I64; dsimp only; omega, by unfold I64; dsimp only; omega⟩ ⟨by unfold I64; dsimp only; omega, by unfold I64; dsimp only; omega, by unfold I64; dsimp only; omega⟩ ⟨by unfold I64; dsimp only; omega, by unfold I64; dsimp only; omega, by unfold I64; dsimp only; omega⟩ ⟨by unfold I64; dsimp only; omega, by unfold I64; dsimp only; omega, by unfold I64; dsimp only; omega⟩ ⟨by unfold I64; dsimp only; omega, by unfold I64; dsimp only; omega, by unfold I64; dsimp only; omega, by unfold I64; dsimp only; omega, by unfold I64; dsimp only; omega⟩ ⟨by unfold I64; dsimp only; omega, by unfold I64; dsimp only; omega, by unfold I64; dsimp only; omega, by unfold I64; dsimp only; omega, by unfold I64; dsimp only; omega⟩)
      obtain ⟨z, hz⟩ : ∃ x, (wc.setCell ⟨gd, 2, none⟩ (.int .i64 k)) = x := ⟨_, rfl⟩
      rw [hz] at HZ HTb ⊢
      clear hz
      have hbz := HZ.out.b
      have HSz := hidp (HS.out.keep (Keeps.of_below hbz))
      have HTz := hidp (HT.out.keep (Keeps.of_below hbz))
      have bSz := HbS.out.below hbz
      have bGz := Hbg.out.below hbz
      have bBz := HZ.out.bb
      have hbw := Hb.out.trans (hbz.mono Hb.out.size)
      try clear x0 x1 x2 x3
      try clear y0 m0
      try clear f0
      have s0 := bSz.cell 0
      have t0 := bGz.cell 0
      have s1 := bSz.cell 1
      have t1 := bGz.cell 1
      have s2 := bSz.cell 2
      have t2 := bGz.cell 2
      have s3 := bSz.cell 3
      have t3 := bGz.cell 3
      have V1 := hidp (c_good ca cc ha hc ta tc a1 c1 a2 c2 (some ⟨N, 0, none⟩) 2 (some ⟨N + 1, 0, none⟩) 2 (some ⟨N + 1 + 1, 0, none⟩) 2 k0 k1)
      have V2 := hidp (c_bad4 ca cc ha hc ta tc a1 c1 a2 c2 (some ⟨gs, 0, none⟩) d1 (some ⟨gd, 0, none⟩) d2 (some ⟨gw, 0, none⟩) d3 k0 k1)
      go_wp2_with fail
      refine (lcheck_any (pS ca cc ha hc ta tc a1 c1 a2 c2) (pT 500 (some ⟨N, 0, none⟩) 2 (gSl k) (some ⟨N + 1, 0, none⟩) 2 (gDn k) (some ⟨N + 1 + 1, 0, none⟩) 2 (gWt k)) _ HSz.out HTz.out).mono ?_
      rintro e v2 ⟨rfl, hb2⟩
      rw [V1.out]
      replace bSz := bSz.below hb2
      replace bBz := bBz.below hb2
      replace HSz := hidp (HSz.out.keep (Keeps.of_below hb2))
      replace HTb := hidp (HTb.out.keep (Keeps.of_below hb2))
      replace hbw := hbw.trans (hb2.mono hbw.size)
      clear hb2 s0 s1 s2 s3 t0 t1 t2 t3
      have s0 := bSz.cell 0
      have t0 := bBz.cell 0
      have s1 := bSz.cell 1
      have t1 := bBz.cell 1
      have s2 := bSz.cell 2
      have t2 := bBz.cell 2
      have s3 := bSz.cell 3
      have t3 := bBz.cell 3
      go_wp2_with fail
      refine (lcheck_any (pS ca cc ha hc ta tc a1 c1 a2 c2) (pT 500 (some ⟨gs, 0, none⟩) d1 [⟨k, 0, 0, false⟩, ⟨k + 1, 0, 1, false⟩] (some ⟨gd, 0, none⟩) d2 [⟨0, k, k⟩, ⟨0, k + 100, k + 105⟩] (some ⟨gw, 0, none⟩) d3 [⟨0, 1, k, k, k + 3⟩, ⟨1, 1, k, k + 3, k + 6⟩]) _ HSz.out HTb.out).mono ?_
      rintro e v3 ⟨rfl, hb2⟩
      rw [V2.out]
      replace hbw := hbw.trans (hb2.mono hbw.size)
      clear hb2 s0 s1 s2 s3 t0 t1 t2 t3
      go_wp2_with fail
      go_ret
      exact ⟨rfl, hbw⟩
    · skip
      have x0 := HBad.out.bb.cell 0
      have x1 := HBad.out.bb.cell 1
      have x2 := HBad.out.bb.cell 2
      have x3 := HBad.out.bb.cell 3
      have y0 := row_cell HBad.out.w (j := 8) rfl
      have m0 := own_frozen HBad.out.w 8
      have HZ := hidp (HBad.out.putW 8 (by decide) (.int .i64 (k + 2)))
      go_upto_region 25 with fail
      have HTb : Hid (TraceOk (wc.setCell ⟨gw, 8, none⟩ (.int .i64 (k + 2))) (pT 500 (some ⟨gs, 0, none⟩) d1 [⟨k, 0, 0, false⟩, ⟨k + 1, 0, 1, false⟩] (some ⟨gd, 0, none⟩) d2 [⟨0, k, k + 5⟩, ⟨0, k + 100, k + 105⟩] (some ⟨gw, 0, none⟩) d3 [⟨0, 1, k, k, k + 3⟩, ⟨1, 1, k, k + 2, k + 6⟩])) := hidp (Bad25.ok (k := k) (a := ⟨k, 0, 0, false⟩) (b := ⟨k + 1, 0, 1, false⟩) (d := ⟨0, k, k + 5⟩) (e := ⟨0, k + 100, k + 105⟩) (x := ⟨0, 1, k, k, k + 3⟩) (y := ⟨1, 1, k, k + 2, k + 6⟩) HZ.out (by unfold I64; omega) ⟨by unfold I64; dsimp only; omega, by unfold I64; dsimp only; omega, by unfold I64; dsimp only; omega⟩ ⟨by unfold I64; dsimp only; omega, by unfold I64; dsimp only; omega, by unfold I64; dsimp only; omega⟩ ⟨by unfold I64; dsimp only; omega, by unfold I64; dsimp only; omega, by unfold I64; dsimp only; omega⟩ ⟨by unfold I64; dsimp only; omega, by unfold I64; dsimp only; omega, by unfold I64; dsimp only; omega⟩ ⟨by unfold I64; dsimp only; omega, by unfold I64; dsimp only; omega, by unfold I64; dsimp only; omega, by unfold I64; dsimp only; omega, by unfold I64; dsimp only; omega⟩ ⟨by unfold I64; dsimp only; omega, by unfold I64; dsimp only; omega, by unfold I64; dsimp only; omega, by unfold I64; dsimp only; omega, by unfold I64; dsimp only; omega⟩)
      obtain ⟨z, hz⟩ : ∃ x, (wc.setCell ⟨gw, 8, none⟩ (.int .i64 (k + 2))) = x := ⟨_, rfl⟩
      rw [hz] at HZ HTb ⊢
      clear hz
      have hbz := HZ.out.b
      have HSz := hidp (HS.out.keep (Keeps.of_below hbz))
      have HTz := hidp (HT.out.keep (Keeps.of_below hbz))
      have bSz := HbS.out.below hbz
      have bGz := Hbg.out.below hbz
      have bBz := HZ.out.bb
      have hbw := Hb.out.trans (hbz.mono Hb.out.size)
      try clear x0 x1 x2 x3
      try clear y0 m0
      try clear f0
      have s0 := bSz.cell 0
      have t0 := bGz.cell 0
      have s1 := bSz.cell 1
      have t1 := bGz.cell 1
      have s2 := bSz.cell 2
      have t2 := bGz.cell 2
      have s3 := bSz.cell 3
      have t3 := bGz.cell 3
      have V1 := hidp (c_good ca cc ha hc ta tc a1 c1 a2 c2 (some ⟨N, 0, none⟩) 2 (some ⟨N + 1, 0, none⟩) 2 (some ⟨N + 1 + 1, 0, none⟩) 2 k0 k1)
      have V2 := hidp (c_bad5 ca cc ha hc ta tc a1 c1 a2 c2 (some ⟨gs, 0, none⟩) d1 (some ⟨gd, 0, none⟩) d2 (some ⟨gw, 0, none⟩) d3 k0 k1)
      go_wp2_with fail
      refine (lcheck_any (pS ca cc ha hc ta tc a1 c1 a2 c2) (pT 500 (some ⟨N, 0, none⟩) 2 (gSl k) (some ⟨N + 1, 0, none⟩) 2 (gDn k) (some ⟨N + 1 + 1, 0, none⟩) 2 (gWt k)) _ HSz.out HTz.out).mono ?_
      rintro e v2 ⟨rfl, hb2⟩
      rw [V1.out]
      replace bSz := bSz.below hb2
      replace bBz := bBz.below hb2
      replace HSz := hidp (HSz.out.keep (Keeps.of_below hb2))
      replace HTb := hidp (HTb.out.keep (Keeps.of_below hb2))
      replace hbw := hbw.trans (hb2.mono hbw.size)
      clear hb2 s0 s1 s2 s3 t0 t1 t2 t3
      have s0 := bSz.cell 0
      have t0 := bBz.cell 0
      have s1 := bSz.cell 1
      have t1 := bBz.cell 1
      have s2 := bSz.cell 2
      have t2 := bBz.cell 2
      have s3 := bSz.cell 3
      have t3 := bBz.cell 3
      go_wp2_with fail
      refine (lcheck_any (pS ca cc ha hc ta tc a1 c1 a2 c2) (pT 500 (some ⟨gs, 0, none⟩) d1 [⟨k, 0, 0, false⟩, ⟨k + 1, 0, 1, false⟩] (some ⟨gd, 0, none⟩) d2 [⟨0, k, k + 5⟩, ⟨0, k + 100, k + 105⟩] (some ⟨gw, 0, none⟩) d3 [⟨0, 1, k, k, k + 3⟩, ⟨1, 1, k, k + 2, k + 6⟩]) _ HSz.out HTb.out).mono ?_
      rintro e v3 ⟨rfl, hb2⟩
      rw [V2.out]
      replace hbw := hbw.trans (hb2.mono hbw.size)
      clear hb2 s0 s1 s2 s3 t0 t1 t2 t3
      go_wp2_with fail
      go_ret
      exact ⟨rfl, hbw⟩
    · skip
      have x0 := HBad.out.bb.cell 0
      have x1 := HBad.out.bb.cell 1
      have x2 := HBad.out.bb.cell 2
      have x3 := HBad.out.bb.cell 3
      have y0 := row_cell HBad.out.w (j := 1) rfl
      have m0 := own_frozen HBad.out.w 1
      have HZ := hidp (HBad.out.putW 1 (by decide) (.int .i64 0))
      go_upto_region 25 with fail
      have HTb : Hid (TraceOk (wc.setCell ⟨gw, 1, none⟩ (.int .i64 0)) (pT 500 (some ⟨gs, 0, none⟩) d1 [⟨k, 0, 0, false⟩, ⟨k + 1, 0, 1, false⟩] (some ⟨gd, 0, none⟩) d2 [⟨0, k, k + 5⟩, ⟨0, k + 100, k + 105⟩] (some ⟨gw, 0, none⟩) d3 [⟨0, 0, k, k, k + 3⟩, ⟨1, 1, k, k + 3, k + 6⟩])) := hidp (Bad25.ok (k := k) (a := ⟨k, 0, 0, false⟩) (b := ⟨k + 1, 0, 1, false⟩) (d := ⟨0, k, k + 5⟩) (e := ⟨0, k + 100, k + 105⟩) (x := ⟨0, 0, k, k, k + 3⟩) (y := ⟨1, 1, k, k + 3, k + 6⟩) HZ.out (by unfold I64; omega) ⟨by unfold I64; dsimp only; omega, by unfold I64; dsimp only; omega, by unfold I64; dsimp only; omega⟩ ⟨by unfold I64; dsimp only; omega, by unfold I64; dsimp only; omega, by unfold I64; dsimp only; omega⟩ ⟨by unfold I64; dsimp only; omega, by unfold I64; dsimp only; omega, by unfold I64; dsimp only; omega⟩ ⟨by unfold I64; dsimp only; omega, by unfold I64; dsimp only; omega, by unfold I64; dsimp only; omega⟩ ⟨by unfold I64; dsimp only; omega, by unfold I64; dsimp only; omega, by unfold I64; dsimp only; omega, by unfold I64; dsimp only; omega, by unfold I64; dsimp only; omega⟩ ⟨by unfold I64; dsimp only; omega, by unfold I64; dsimp only; omega, by unfold I64; dsimp only; omega, by unfold I64; dsimp only; omega, by unfold I64; dsimp only; omega⟩)
      obtain ⟨z, hz⟩ : ∃ x, (wc.setCell ⟨gw, 1, none⟩ (.int .i64 0)) = x := ⟨_, rfl⟩
      rw [hz] at HZ HTb ⊢
      clear hz
      have hbz := HZ.out.b
      have HSz := hidp (HS.out.keep (Keeps.of_below hbz))
      have HTz := hidp (HT.out.keep (Keeps.of_below hbz))
      have bSz := HbS.out.below hbz
      have bGz := Hbg.out.below hbz
      have bBz := HZ.out.bb
      have hbw := Hb.out.trans (hbz.mono Hb.out.size)
      try clear x0 x1 x2 x3
      try clear y0 m0
      try clear f0
      have s0 := bSz.cell 0
      have t0 := bGz.cell 0
      have s1 := bSz.cell 1
      have t1 := bGz.cell 1
      have s2 := bSz.cell 2
      have t2 := bGz.cell 2
      have s3 := bSz.cell 3
      have t3 := bGz.cell 3
      have V1 := hidp (c_good ca cc ha hc ta tc a1 c1 a2 c2 (some ⟨N, 0, none⟩) 2 (some ⟨N + 1, 0, none⟩) 2 (some ⟨N + 1 + 1, 0, none⟩) 2 k0 k1)
      have V2 := hidp (c_bad6 ca cc ha hc ta tc a1 c1 a2 c2 (some ⟨gs, 0, none⟩) d1 (some ⟨gd, 0, none⟩) d2 (some ⟨gw, 0, none⟩) d3 k0 k1)
      go_wp2_with fail
      refine (lcheck_any (pS ca cc ha hc ta tc a1 c1 a2 c2) (pT 500 (some ⟨N, 0, none⟩) 2 (gSl k) (some ⟨N + 1, 0, none⟩) 2 (gDn k) (some ⟨N + 1 + 1, 0, none⟩) 2 (gWt k)) _ HSz.out HTz.out).mono ?_
      rintro e v2 ⟨rfl, hb2⟩
      rw [V1.out]
      replace bSz := bSz.below hb2
      replace bBz := bBz.below hb2
      replace HSz := hidp (HSz.out.keep (Keeps.of_below hb2))
      replace HTb := hidp (HTb.out.keep (Keeps.of_below hb2))
      replace hbw := hbw.trans (hb2.mono hbw.size)
      clear hb2 s0 s1 s2 s3 t0 t1 t2 t3
      have s0 := bSz.cell 0
      have t0 := bBz.cell 0
      have s1 := bSz.cell 1
      have t1 := bBz.cell 1
      have s2 := bSz.cell 2
      have t2 := bBz.cell 2
      have s3 := bSz.cell 3
      have t3 := bBz.cell 3
      go_wp2_with fail
      refine (lcheck_any (pS ca cc ha hc ta tc a1 c1 a2 c2) (pT 500 (some ⟨gs, 0, none⟩) d1 [⟨k, 0, 0, false⟩, ⟨k + 1, 0, 1, false⟩] (some ⟨gd, 0, none⟩) d2 [⟨0, k, k + 5⟩, ⟨0, k + 100, k + 105⟩] (some ⟨gw, 0, none⟩) d3 [⟨0, 0, k, k, k + 3⟩, ⟨1, 1, k, k + 3, k + 6⟩]) _ HSz.out HTb.out).mono ?_
      rintro e v3 ⟨rfl, hb2⟩
      rw [V2.out]
      replace hbw := hbw.trans (hb2.mono hbw.size)
      clear hb2 s0 s1 s2 s3 t0 t1 t2 t3
      go_wp2_with fail
      go_ret
      exact ⟨rfl, hbw⟩
    · skip
      have x0 := HBad.out.bb.cell 0
      have x1 := HBad.out.bb.cell 1
      have x2 := HBad.out.bb.cell 2
      have x3 := HBad.out.bb.cell 3
      have y0 := row_cell HBad.out.w (j := 2) rfl
      have m0 := own_frozen HBad.out.w 2
      have HZ := hidp (HBad.out.putW 2 (by decide) (.int .i64 (k + 1)))
      go_upto_region 25 with fail
      have HTb : Hid (TraceOk (wc.setCell ⟨gw, 2, none⟩ (.int .i64 (k + 1))) (pT 500 (some ⟨gs, 0, none⟩) d1 [⟨k, 0, 0, false⟩, ⟨k + 1, 0, 1, false⟩] (some ⟨gd, 0, none⟩) d2 [⟨0, k, k + 5⟩, ⟨0, k + 100, k + 105⟩] (some ⟨gw, 0, none⟩) d3 [⟨0, 1, k + 1, k, k + 3⟩, ⟨1, 1, k, k + 3, k + 6⟩])) := hidp (Bad25.ok (k := k) (a := ⟨k, 0, 0, false⟩) (b := ⟨k + 1, 0, 1, false⟩) (d := ⟨0, k, k + 5⟩) (e := ⟨0, k + 100, k + 105⟩) (x := ⟨0, 1, k + 1, k, k + 3⟩) (y := ⟨1, 1, k, k + 3, k + 6⟩) HZ.out (by unfold I64; omega) ⟨by unfold I64; dsimp only; omega, by unfold I64; dsimp only; omega, by unfold I64; dsimp only; omega⟩ ⟨by unfold I64; dsimp only; omega, by unfold I64; dsimp only; omega, by unfold I64; dsimp only; omega⟩ ⟨by unfold I64; dsimp only; omega, by unfold I64; dsimp only; omega, by unfold I64; dsimp only; omega⟩ ⟨by unfold I64; dsimp only; omega, by unfold I64; dsimp only; omega, by unfold I64; dsimp only; omega⟩ ⟨by unfold I64; dsimp only; omega, by unfold I64; dsimp only; omega, by unfold I64; dsimp only; omega, by unfold I64; dsimp only; omega, by unfold I64; dsimp only; omega⟩ ⟨by unfold I64; dsimp only; omega, by unfold I64; dsimp only; omega, by unfold I64; dsimp only; omega, by unfold I64; dsimp only; omega, by unfold I64; dsimp only; omega⟩)
      obtain ⟨z, hz⟩ : ∃ x, (wc.setCell ⟨gw, 2, none⟩ (.int .i64 (k + 1))) = x := ⟨_, rfl⟩
      rw [hz] at HZ HTb ⊢
      clear hz
      have hbz := HZ.out.b
      have HSz := hidp (HS.out.keep (Keeps.of_below hbz))
      have HTz := hidp (HT.out.keep (Keeps.of_below hbz))
      have bSz := HbS.out.below hbz
      have bGz := Hbg.out.below hbz
      have bBz := HZ.out.bb
      have hbw := Hb.out.trans (hbz.mono Hb.out.size)
      try clear x0 x1 x2 x3
      try clear y0 m0
      try clear f0
      have s0 := bSz.cell 0
      have t0 := bGz.cell 0
      have s1 := bSz.cell 1
      have t1 := bGz.cell 1
      have s2 := bSz.cell 2
      have t2 := bGz.cell 2
      have s3 := bSz.cell 3
      have t3 := bGz.cell 3
      have V1 := hidp (c_good ca cc ha hc ta tc a1 c1 a2 c2 (some ⟨N, 0, none⟩) 2 (some ⟨N + 1, 0, none⟩) 2 (some ⟨N + 1 + 1, 0, none⟩) 2 k0 k1)
      have V2 := hidp (c_bad7 ca cc ha hc ta tc a1 c1 a2 c2 (some ⟨gs, 0, none⟩) d1 (some ⟨gd, 0, none⟩) d2 (some ⟨gw, 0, none⟩) d3 k0 k1)
      go_wp2_with fail
      refine (lcheck_any (pS ca cc ha hc ta tc a1 c1 a2 c2) (pT 500 (some ⟨N, 0, none⟩) 2 (gSl k) (some ⟨N + 1, 0, none⟩) 2 (gDn k) (some ⟨N + 1 + 1, 0, none⟩) 2 (gWt k)) _ HSz.out HTz.out).mono ?_
      rintro e v2 ⟨rfl, hb2⟩
      rw [V1.out]
      replace bSz := bSz.below hb2
      replace bBz := bBz.below hb2
      replace HSz := hidp (HSz.out.keep (Keeps.of_below hb2))
      replace HTb := hidp (HTb.out.keep (Keeps.of_below hb2))
      replace hbw := hbw.trans (hb2.mono hbw.size)
      clear hb2 s0 s1 s2 s3 t0 t1 t2 t3
      have s0 := bSz.cell 0
      have t0 := bBz.cell 0
      have s1 := bSz.cell 1
      have t1 := bBz.cell 1
      have s2 := bSz.cell 2
      have t2 := bBz.cell 2
      have s3 := bSz.cell 3
      have t3 := bBz.cell 3
      go_wp2_with fail
      refine (lcheck_any (pS ca cc ha hc ta tc a1 c1 a2 c2) (pT 500 (some ⟨gs, 0, none⟩) d1 [⟨k, 0, 0, false⟩, ⟨k + 1, 0, 1, false⟩] (some ⟨gd, 0, none⟩) d2 [⟨0, k, k + 5⟩, ⟨0, k + 100, k + 105⟩] (some ⟨gw, 0, none⟩) d3 [⟨0, 1, k + 1, k, k + 3⟩, ⟨1, 1, k, k + 3, k + 6⟩]) _ HSz.out HTb.out).mono ?_
      rintro e v3 ⟨rfl, hb2⟩
      rw [V2.out]
      replace hbw := hbw.trans (hb2.mono hbw.size)
      clear hb2 s0 s1 s2 s3 t0 t1 t2 t3
      go_wp2_with fail
      go_ret
      exact ⟨rfl, hbw⟩
    · skip
      have x0 := HBad.out.bb.cell 0
      have x1 := HBad.out.bb.cell 1
      have x2 := HBad.out.bb.cell 2
      have x3 := HBad.out.bb.cell 3
      have f0 := HBad.out.bb.frozen 0
      have HZ := hidp (HBad.out.putT (-1))
      go_upto_region 25 with fail
      have HTb : Hid (TraceOk (wc.setCell ⟨g, 0, none⟩ (.int .i64 (-1))) (pT (-1) (some ⟨gs, 0, none⟩) d1 [⟨k, 0, 0, false⟩, ⟨k + 1, 0, 1, false⟩] (some ⟨gd, 0, none⟩) d2 [⟨0, k, k + 5⟩, ⟨0, k + 100, k + 105⟩] (some ⟨gw, 0, none⟩) d3 [⟨0, 1, k, k, k + 3⟩, ⟨1, 1, k, k + 3, k + 6⟩])) := hidp (Bad25.ok (k := k) (a := ⟨k, 0, 0, false⟩) (b := ⟨k + 1, 0, 1, false⟩) (d := ⟨0, k, k + 5⟩) (e := ⟨0, k + 100, k + 105⟩) (x := ⟨0, 1, k, k, k + 3⟩) (y := ⟨1, 1, k, k + 3, k + 6⟩) HZ.out (by unfold I64; omega) ⟨by unfold I64; dsimp only; omega, by unfold I64; dsimp only; omega, by unfold I64; dsimp only; omega⟩ ⟨by unfold I64; dsimp only; omega, by unfold I64; dsimp only; omega, by unfold I64; dsimp only; omega⟩ ⟨by unfold I64; dsimp only; omega, by unfold I64; dsimp only; omega, by unfold I64; dsimp only; omega⟩ ⟨by unfold I64; dsimp only; omega, by unfold I64; dsimp only; omega, by unfold I64; dsimp only; omega⟩ ⟨by unfold I64; dsimp only; omega, by unfold I64; dsimp only; omega, by unfold I64; dsimp only; omega, by unfold I64; dsimp only; omega, by unfold I64; dsimp only; omega⟩ ⟨by unfold I64; dsimp only; omega, by unfold I64; dsimp only; omega, by unfold I64; dsimp only; omega, by unfold I64; dsimp only; omega, by unfold I64; dsimp only; omega⟩)
      obtain ⟨z, hz⟩ : ∃ x, (wc.setCell ⟨g, 0, none⟩ (.int .i64 (-1))) = x := ⟨_, rfl⟩
      rw [hz] at HZ HTb ⊢
      clear hz
      have hbz := HZ.out.b
      have HSz := hidp (HS.out.keep (Keeps.of_below hbz))
      have HTz := hidp (HT.out.keep (Keeps.of_below hbz))
      have bSz := HbS.out.below hbz
      have bGz := Hbg.out.below hbz
      have bBz := HZ.out.bb
      have hbw := Hb.out.trans (hbz.mono Hb.out.size)
      try clear x0 x1 x2 x3
      try clear y0 m0
      try clear f0
      have s0 := bSz.cell 0
      have t0 := bGz.cell 0
      have s1 := bSz.cell 1
      have t1 := bGz.cell 1
      have s2 := bSz.cell 2
      have t2 := bGz.cell 2
      have s3 := bSz.cell 3
      have t3 := bGz.cell 3
      have V1 := hidp (c_good ca cc ha hc ta tc a1 c1 a2 c2 (some ⟨N, 0, none⟩) 2 (some ⟨N + 1, 0, none⟩) 2 (some ⟨N + 1 + 1, 0, none⟩) 2 k0 k1)
      have V2 := hidp (c_bad8 ca cc ha hc ta tc a1 c1 a2 c2 (some ⟨gs, 0, none⟩) d1 (some ⟨gd, 0, none⟩) d2 (some ⟨gw, 0, none⟩) d3 k0 k1)
      go_wp2_with fail
      refine (lcheck_any (pS ca cc ha hc ta tc a1 c1 a2 c2) (pT 500 (some ⟨N, 0, none⟩) 2 (gSl k) (some ⟨N + 1, 0, none⟩) 2 (gDn k) (some ⟨N + 1 + 1, 0, none⟩) 2 (gWt k)) _ HSz.out HTz.out).mono ?_
      rintro e v2 ⟨rfl, hb2⟩
      rw [V1.out]
      replace bSz := bSz.below hb2
      replace bBz := bBz.below hb2
      replace HSz := hidp (HSz.out.keep (Keeps.of_below hb2))
      replace HTb := hidp (HTb.out.keep (Keeps.of_below hb2))
      replace hbw := hbw.trans (hb2.mono hbw.size)
      clear hb2 s0 s1 s2 s3 t0 t1 t2 t3
      have s0 := bSz.cell 0
      have t0 := bBz.cell 0
      have s1 := bSz.cell 1
      have t1 := bBz.cell 1
      have s2 := bSz.cell 2
      have t2 := bBz.cell 2
      have s3 := bSz.cell 3
      have t3 := bBz.cell 3
      go_wp2_with fail
      refine (lcheck_any (pS ca cc ha hc ta tc a1 c1 a2 c2) (pT (-1) (some ⟨gs, 0, none⟩) d1 [⟨k, 0, 0, false⟩, ⟨k + 1, 0, 1, false⟩] (some ⟨gd, 0, none⟩) d2 [⟨0, k, k + 5⟩, ⟨0, k + 100, k + 105⟩] (some ⟨gw, 0, none⟩) d3 [⟨0, 1, k, k, k + 3⟩, ⟨1, 1, k, k + 3, k + 6⟩]) _ HSz.out HTb.out).mono ?_
      rintro e v3 ⟨rfl, hb2⟩
      rw [V2.out]
      replace hbw := hbw.trans (hb2.mono hbw.size)
      clear hb2 s0 s1 s2 s3 t0 t1 t2 t3
      go_wp2_with fail
      go_ret
      exact ⟨rfl, hbw⟩

theorem own : ownKnob Try.prog.godebug = none := by kernel_rfl
theorem laidOut : laidOutB Try.prog = true := by kernel_rfl

/-! THE ROW's STEP -/
set_option maxRecDepth 100000 in
theorem lifted (os : Os) (started : os.Started) (H : Type) (enc : TypeId × Value → H) :
    ReturnsInHanded {} Try.checked os 3 .any (Rows.legalShapesSpec.pre6 enc Try.prog Try.f3 Rows.legalShapesRow.domain false) (Rows.legalShapesSpec.post enc Try.prog Try.f3 false true false false) := by
  refine returnsInHanded_of_change (C := Try.checked) own started (by kernel_rfl) Try.func3
    (ChangeSpec.witness6 (enc := enc) (C := Try.checked) false ⟨#[], #[.int .u8 0, .int .u8 0], []⟩ 8 (by kernel_rfl) (by kernel_rfl) (by kernel_rfl) (by kernel_rfl)) ?_
  intro W base args ds gs before hval0 hW hcnd _
  have hval : ∀ (j : Nat) t v, Try.f3.params[j]? = some t → args[j]? = some v → Value.okWide Try.prog W .any base t v := hval0
  have hW' := hW
  obtain ⟨p, q, hA0, hV, rfl, hfz, hnd⟩ := hW
  have hA : DataW.TrodAll enc Try.prog W 0 (fun _ => true) true Try.f3.params.toList args.toList ds p := hA0
  rw [Try.params3] at hA hval
  obtain ⟨v0, vs0, d0, ds0, p0, q0, hargs, rfl, rfl, h0, r0⟩ := trodAll_cons hA
  obtain ⟨v1, vs1, d1, ds1, p1, q1, rfl, rfl, rfl, h1, r1⟩ := trodAll_cons r0
  obtain ⟨rfl, rfl, rfl⟩ := trodAll_nil r1
  obtain rfl : args = #[v0, v1] := by cases args; simp_all
  obtain ⟨rfl, rfl⟩ := trodVars_none hV
  obtain ⟨a0, rfl, rfl, rfl, w0⟩ := open_int Try.underlying5 (hval 0 5 v0 rfl rfl) h0
  obtain ⟨a1, rfl, rfl, rfl, w1⟩ := open_int Try.underlying5 (hval 1 5 v1 rfl rfl) h1
  clear hA0 hval0
  refine (walk a0 a1 W w0 w1).mono fun e W' ⟨he, bel⟩ => ?_
  subst he
  exact ⟨_, rfl, _, _, _, [], _, [], hW', trodAll_mk1 (shut_bool Try.underlying4 _), (trodAll_cons_mk (shut_int Try.underlying5 w0) (trodAll_cons_mk (shut_int Try.underlying5 w1) trodAll_mk0)), rfl, bel.frame _, fun h => by cases h⟩

theorem over : Rows.legalShapesRow.holds Try.pinned (OpenSpec.ofChange Rows.legalShapesSpec) :=
  OpenClaim.holds_of_wide 3 Try.f3 rfl rfl rfl rfl rfl rfl rfl ⟨rfl, rfl, rfl, rfl, rfl⟩ rfl rfl rfl rfl rfl (by kernel_rfl) Try.func3 (by kernel_rfl)
    (of_decide_eq_true (by kernel_rfl)) (by unfold Func.isWrapper; first | (rw [if_pos (by decide +kernel)]; kernel_rfl) | (rw [if_neg (by decide +kernel)]; exact ⟨rfl, rfl⟩))
    (fun os started H enc _ => lifted os started H enc)

/-- THE STATEMENT -/
theorem proved : Rows.LegalShapesSaid := over
#print axioms proved
end Go.Proofs.Ytmchjmgifipfoaa.legalShapes

