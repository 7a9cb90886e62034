/- CanonSlices: what is turned round, put in order has slices of its own. No condition. -/
import Derived.Test.YtnfkebdbfflhdaaKnown10
import Derived.Test.YtnfkebdbfflhdaaFews10
import Derived.Test.YtnfkebdbfflhdaaSame7
import Derived.Test.YtnfkebdbfflhdaaRef7d
import Derived.Test.YtnfkebdbfflhdaaCanonMath
import Derived.Test.YtnfkebdbfflhdaaMarked
import Derived.Test.YtnfkebdbfflhdaaOk3
set_option linter.unusedSimpArgs false
namespace Go.Proofs.Ytnfkebdbfflhdaa
open Go.ChangeShapes Go.WideShapes Go.ChangeAt Go.RowKit
theorem turL_low {b : Int} {s : SetR} : ∀ z ∈ turL (startN b s.tasks.length) s.tasks.length s.tasks.length, 0 ≤ z ∧ z < (s.tasks.length : Int) := fun z hz => by
  have h0 : 0 < s.tasks.length := by
    rcases Nat.eq_zero_or_pos s.tasks.length with e | e
    · rw [e] at hz; simp [turL] at hz
    · exact e
  exact turL_in h0 hz
theorem arr_len {s x : SetR} {zs : List Int} (h : Arr s x zs) (hz : ∀ z ∈ zs, 0 ≤ z ∧ z < (s.tasks.length : Int)) (hp : ∀ t ∈ s.tasks, 1 ≤ t.parts.length) : ∀ j, j < x.tasks.length → 1 ≤ (x.tasks.getD j default).parts.length := fun j hj => by
  have hm : core (x.tasks.getD j default) ∈ x.tasks.map core := List.mem_map.2 ⟨_, getD_mem hj, rfl⟩
  rw [arr_cores h] at hm
  obtain ⟨z, hzm, e⟩ := List.mem_map.1 hm
  have := hz z hzm
  have e2 := congrArg TaskR.parts e
  simp only [coreAt, core] at e2
  rw [← e2]
  exact hp _ (getD_mem (by omega))
end Go.Proofs.Ytnfkebdbfflhdaa
set_option maxHeartbeats 16000000
set_option maxRecDepth 100000
namespace Go.Proofs.Ytnfkebdbfflhdaa.canonSlices
open Go.ChangeShapes Go.WideShapes Go.ChangeAt Go.RowKit
open Go.ChangeMaps (open_string shut_string)
set_option linter.unusedVariables false

/-- THE WALK: the Go text returns true, and writes nothing that was there. -/
theorem walk (s0 : SetR) (a1 : Int) (w : World) (w0 : SetOk w s0) (w1 : (Lit.int .u8 a1).wf = true) :
    Calls Try.prog 5 #[.agg #[.int .i64 s0.proto, .slice s0.ca s0.cores.length s0.cc, .slice s0.ha s0.homes.length s0.hc, .slice s0.ta s0.tasks.length s0.tc], .int .u8 a1] w fun e w' => e = .returned (.bool true) ∧ Below w.heap.size w w' := by
  have hb := (Below.refl w.heap.size w).alloc (Nat.le_refl _) (.cells #[.int .i64 s0.proto, .slice s0.ca s0.cores.length s0.cc, .slice s0.ha s0.homes.length s0.hc, .slice s0.ta s0.tasks.length s0.tc] 25)
  have sb : SetBox (w.alloc (.cells #[.int .i64 s0.proto, .slice s0.ca s0.cores.length s0.cc, .slice s0.ha s0.homes.length s0.hc, .slice s0.ta s0.tasks.length s0.tc] 25)) w.heap.size s0 := Z4 (Bk.new w 25 #[.int .i64 s0.proto, .slice s0.ca s0.cores.length s0.cc, .slice s0.ha s0.homes.length s0.hc, .slice s0.ta s0.tasks.length s0.tc])
  have hs := w0.keep (Keeps.of_below hb)
  obtain ⟨wh, hn⟩ : ∃ n : Nat, a1 = n := nat_u8 w1
  have wh255 : wh ≤ 255 := u8_le w1 hn
  subst hn
  have hI : Hid (I64 (wh : Int)) := hidp (by unfold I64; omega)
  have hwwh : IntKind.i64.wrap (wh : Int) = (wh : Int) := IntWalk.i64_in _ (by omega)
  clear w0 w1
  go_enter Try.func5, Try.ntmps5
  go_wp2_with fail
  refine (known10_any _).mono ?_
  rintro e u1 ⟨rfl, hb2⟩
  replace hb := hb.trans (hb2.mono hb.size)
  replace sb := sb.keep (Keeps.of_below hb2)
  replace hs := hs.keep (Keeps.of_below hb2)
  clear hb2
  obtain ⟨c0, c1, c2, c3⟩ := id sb
  go_wp2_with fail
  refine (fews10_any s0 _ hs).mono ?_
  rintro e u2 ⟨⟨b, rfl, hfew⟩, hb2⟩
  replace hb := hb.trans (hb2.mono hb.size)
  replace sb := sb.keep (Keeps.of_below hb2)
  replace hs := hs.keep (Keeps.of_below hb2)
  clear hb2 c0 c1 c2 c3
  cases b
  · go_wp2_with fail
    go_ret
    exact ⟨rfl, hb⟩
  have HF := hidp (hfew rfl).1
  have HL : Hid (s0.tasks.length ≤ 800) := hidp (Nat.le_trans (hfew rfl).2 (by omega))
  have hlen9 : s0.tasks.length ≤ 9 := (hfew rfl).2
  clear hfew
  obtain ⟨c0, c1, c2, c3⟩ := id sb
  obtain ⟨q, HQ⟩ : ∃ q, Hid (okS s0 = q) := ⟨_, rfl⟩
  have CK := rok_any s0 u2 hs
  rw [HQ.out] at CK
  go_wp2_with fail
  refine CK.mono ?_
  rintro e u3 ⟨rfl, hb2⟩
  replace hb := hb.trans (hb2.mono hb.size)
  replace sb := sb.keep (Keeps.of_below hb2)
  replace hs := hs.keep (Keeps.of_below hb2)
  clear hb2 c0 c1 c2 c3 CK
  cases q
  · go_wp2_with fail
    go_ret
    exact ⟨rfl, hb⟩
  obtain ⟨j0, hj0, hk0, hk1, hk2⟩ := info_parts infoTask
  obtain ⟨q0, hq0, hr0, hr1, hr2⟩ := info_parts infoPart
  have HG := hidp (Good.of HQ.out)
  have HS3 := hidp hs
  have HTA := hidp hs.tasks.at_
  have HTO := hidp hs.tasks.ok
  obtain ⟨v0, HV0, b5, sb0, hb0, hsv0, hb2v⟩ : ∃ v, Hid (u3.alloc (.cells #[.int .i64 s0.proto, .slice s0.ca s0.cores.length s0.cc, .slice s0.ha s0.homes.length s0.hc, .slice none 0 0] 25) = v) ∧ Bk v u3.heap.size 25 #[.int .i64 s0.proto, .slice s0.ca s0.cores.length s0.cc, .slice s0.ha s0.homes.length s0.hc, .slice none 0 0] ∧ SetBox v w.heap.size s0 ∧ Below w.heap.size w v ∧ v.heap.size = u3.heap.size + 1 ∧ Below u3.heap.size u3 v :=
    ⟨_, hidp rfl, Bk.new u3 25 #[.int .i64 s0.proto, .slice s0.ca s0.cores.length s0.cc, .slice s0.ha s0.homes.length s0.hc, .slice none 0 0], sb.keep (Keeps.alloc u3 _), hb.alloc hb.size _, by simp, (Below.refl _ _).alloc (Nat.le_refl _) _⟩
  have HSV0 := hidp hsv0
  have HSB3 := hidp sb
  have hbox : w.heap.size < u3.heap.size := cell_lt sb.1
  obtain ⟨c0, c1, c2, c3⟩ := id sb
  clear hsv0 hs sb hb
  go_wp2_with fail
  rw [HV0.out]
  clear c0 c1 c2 c3
  go_loopg [6] s0.tasks.length (fun g i wr => ∃ (k : Nat) (D : Option Addr) (d : Nat) (ts : List TaskR), k + g = s0.tasks.length ∧ i = .int .i64 k ∧ OwnT v0.heap.size wr D k d ts ∧ Bk wr u3.heap.size 25 #[.int .i64 s0.proto, .slice s0.ca s0.cores.length s0.cc, .slice s0.ha s0.homes.length s0.hc, .slice D k d] ∧ Hid (ts.map core = (s0.tasks.take k).map core) ∧ (∀ t ∈ ts, TaskOk wr t) ∧ (∀ t ∈ ts, ∀ b ∈ fp t.pa, b ∉ fp D ∧ v0.heap.size ≤ b ∧ b < wr.heap.size) ∧ Turned [u3.heap.size] v0 wr)
  case atStart => exact ⟨0, none, 0, [], by omega, rfl, OwnT.none _ _, b5, hidp rfl, by simp, by simp, Turned.refl _ _⟩
  case round =>
    clear b5
    obtain ⟨k, D, d, ts, hk, rfl, o, b5, Hts, htok, hfar, ht⟩ := hrel
    have sbr : SetBox wr w.heap.size s0 := ⟨ht.cell sb0.1 (by simp; omega), ht.cell sb0.2.1 (by simp; omega), ht.cell sb0.2.2.1 (by simp; omega), ht.cell sb0.2.2.2 (by simp; omega)⟩
    have kw : ∀ (p : Addr) (z : Value), u3.cell? p = some z → wr.cell? p = some z := fun p z h => ht.cell ((Keeps.of_below hb2v) _ _ h) (by have := cell_lt h; simp; omega)
    obtain ⟨c0, c1, c2, c3⟩ := id sbr
    by_cases hlt : k < s0.tasks.length
    · obtain ⟨t, HT⟩ : ∃ t, Hid (s0.tasks.getD k default = t) := ⟨_, rfl⟩
      obtain ⟨g, off, hA, hcl⟩ := HTA.out.resolve_left (by intro e; rw [e] at hlt; simp at hlt)
      have tc := HT.out ▸ hcl k hlt
      obtain ⟨d0, d1, d2, d3, d4, d5⟩ : TaskCells wr g (off + k * 6) t := ⟨kw _ _ tc.1, kw _ _ tc.2.1, kw _ _ tc.2.2.1, kw _ _ tc.2.2.2.1, kw _ _ tc.2.2.2.2.1, kw _ _ tc.2.2.2.2.2⟩
      have tok := HTO.out t (HT.out ▸ getD_mem hlt)
      have tat : PartsAt wr t.pa t.parts := tok.at_.keep kw
      have tpl : t.parts.length ≤ 1000 := Nat.le_trans (HG.out.parts t (HT.out ▸ getD_mem hlt)).len.2 (by omega)
      have Htc : Hid ((s0.tasks.take (k + 1)).map core = (s0.tasks.take k).map core ++ [core t]) := hidp (by rw [take_snocD _ _ hlt, List.map_append, HT.out]; rfl)
      rw [hA] at c3
      have HA := hidp hA
      have TOK := hidp tok
      -- the box of the task
      obtain ⟨u1, HU1, b7, t1, hz1⟩ : ∃ u, Hid (wr.alloc (.cells #[.string t.name, .int .i64 t.per, .int .i64 t.dl, .int .i64 t.prio, .int .i64 t.cl, .slice t.pa t.parts.length t.pc] 37) = u) ∧ Bk u wr.heap.size 37 #[.string t.name, .int .i64 t.per, .int .i64 t.dl, .int .i64 t.prio, .int .i64 t.cl, .slice t.pa t.parts.length t.pc] ∧ Turned [] wr u ∧ u.heap.size = wr.heap.size + 1 :=
        ⟨_, hidp rfl, Bk.new wr 37 #[.string t.name, .int .i64 t.per, .int .i64 t.dl, .int .i64 t.prio, .int .i64 t.cl, .slice t.pa t.parts.length t.pc], (Turned.refl [] wr).alloc _, by simp⟩
      have Qp : Hid (t.pa = none → t.parts.length = 0 ∧ t.pc = 0) := hidp tok.sl.1
      have Lp : Hid ((ptc t.parts).length = t.parts.length * 3) := hidp (ptc_len _)
      have Sp : Hid (Lies u1.heap.size u1 t.pa (ptc t.parts)) := hidp (lies_parts (tat.keep (fun p z h => t1.cell h (by simp))))
      have Op := hidp (ptc_one t.parts)
      have Mp : Hid (0 + t.parts.length ≤ maxLen) := hidp (by unfold maxLen; omega)
      have Tp : Hid ((0 + t.parts.length) * 24 ≤ 140737488355328) := hidp (by omega)
      have HZ1 := hidp hz1
      have HVR : Hid (v0.heap.size ≤ u1.heap.size) := hidp (Nat.le_trans ht.size t1.size)
      clear hcl tc tok tat tpl hA hz1 sbr
      go_upto_region 11 with fail
      rw [HU1.out]
      obtain ⟨-, -, -, -, -, e5⟩ : u1.cell? ⟨wr.heap.size, 0, none⟩ = some (.string t.name) ∧ u1.cell? ⟨wr.heap.size, 1, none⟩ = some (.int .i64 t.per) ∧ u1.cell? ⟨wr.heap.size, 2, none⟩ = some (.int .i64 t.dl) ∧ u1.cell? ⟨wr.heap.size, 3, none⟩ = some (.int .i64 t.prio) ∧ u1.cell? ⟨wr.heap.size, 4, none⟩ = some (.int .i64 t.cl) ∧ u1.cell? ⟨wr.heap.size, 5, none⟩ = some (.slice t.pa t.parts.length t.pc) := ⟨b7.cell 0, b7.cell 1, b7.cell 2, b7.cell 3, b7.cell 4, b7.cell 5⟩
      go_upto_region 12 with (at_builtin; ((refine wpList_app2 u1 rfl (.const (.slice none 0 0)) (.tmp 36) 35 rfl v0.heap.size 40 q0 _ 3 24 Try.underlying35 hq0 hr0 hr1 hr2 rfl (by decide) none 0 0 [] rfl (World.ownsRow_nil _ _ _ _) u1.heap.size t.pa t.parts.length t.pc (ptc t.parts) rfl Qp.out Lp.out Sp.out Op.out Mp.out Tp.out HVR.out ?_); intro A2 c2 u2 happ; have b72 := b7.turned happ.turned (by simp [fp]); have fz := b72.frozen 5; have cz : u2.cell? ⟨wr.heap.size, 5, none⟩ = some (.slice t.pa t.parts.length t.pc) := b72.cell 5))
      rw [Nat.zero_add, List.nil_append] at happ
      have t12 : Turned [] u1 u2 := happ.turned
      have TS : Turned [wr.heap.size] u2 (u2.setCell ⟨wr.heap.size, 5, none⟩ (.slice A2 t.parts.length c2)) := (Turned.refl [wr.heap.size] u2).setCell (p := ⟨wr.heap.size, 5, none⟩) (.inl (by simp)) _
      have b73 : Bk (u2.setCell ⟨wr.heap.size, 5, none⟩ (.slice A2 t.parts.length c2)) wr.heap.size 37 #[.string t.name, .int .i64 t.per, .int .i64 t.dl, .int .i64 t.prio, .int .i64 t.cl, .slice A2 t.parts.length c2] := b72.put 5 (.slice A2 t.parts.length c2)
      have hA2 : ∀ b ∈ fp A2, wr.heap.size < b := fun b hb => by
        rcases happ.fps b hb with h | h
        · simp [fp] at h
        · have := HZ1.out; omega
      have p2 : OwnP v0.heap.size u2 A2 t.parts.length c2 t.parts := ⟨happ.own, rfl, happ.cap, happ.nil⟩
      replace p2 := p2.turned TS (fun b hb hm => by simp at hm; subst hm; have := hA2 _ hb; omega)
      have T13 : Turned [] wr (u2.setCell ⟨wr.heap.size, 5, none⟩ (.slice A2 t.parts.length c2)) := ((t1.trans t12 (by simp)).trans TS (fun i hi => by simp at hi; subst hi; exact .inr (Nat.le_refl _)))
      have hp2 := own_fp p2.own
      obtain ⟨v1, hv1⟩ : ∃ v, u2.setCell ⟨wr.heap.size, 5, none⟩ (.slice A2 t.parts.length c2) = v := ⟨_, rfl⟩
      rw [hv1] at b73 p2 T13 hp2 ⊢
      clear hv1 TS happ b72 fz cz t12 e5 b7 t1 Qp Lp Sp Op Mp Tp
      have o1 := o.turned T13 (by simp)
      have b51 := b5.turned T13 (by simp)
      have hF := own_fp o.own
      have LTX : ∀ b ∈ fp D, b < wr.heap.size := fun b hb => (hF b hb).2
      obtain ⟨y0, y1, y2, y3, y4, y5⟩ : v1.cell? ⟨wr.heap.size, 0, none⟩ = some (.string t.name) ∧ v1.cell? ⟨wr.heap.size, 1, none⟩ = some (.int .i64 t.per) ∧ v1.cell? ⟨wr.heap.size, 2, none⟩ = some (.int .i64 t.dl) ∧ v1.cell? ⟨wr.heap.size, 3, none⟩ = some (.int .i64 t.prio) ∧ v1.cell? ⟨wr.heap.size, 4, none⟩ = some (.int .i64 t.cl) ∧ v1.cell? ⟨wr.heap.size, 5, none⟩ = some (.slice A2 t.parts.length c2) := ⟨b73.cell 0, b73.cell 1, b73.cell 2, b73.cell 3, b73.cell 4, b73.cell 5⟩
      obtain ⟨-, -, -, o3⟩ := Z4 b51
      obtain ⟨t2, Ht2⟩ : ∃ x : TaskR, Hid (x = ⟨t.name, t.per, t.dl, t.prio, t.cl, A2, c2, t.parts⟩) := ⟨_, hidp rfl⟩
      have HLT : Hid ((.cells (ttc [t2]).toArray 37 : Obj) = (.cells #[.string t.name, .int .i64 t.per, .int .i64 t.dl, .int .i64 t.prio, .int .i64 t.cl, .slice A2 t.parts.length c2] 37)) := hidp (by rw [Ht2.out]; rfl)
      have hown2 := World.ownsRow.alloc o1.own (.cells #[.string t.name, .int .i64 t.per, .int .i64 t.dl, .int .i64 t.prio, .int .i64 t.cl, .slice A2 t.parts.length c2] 37)
      have S2 : Hid (Lies (v1.heap.size + 1) (v1.alloc (.cells #[.string t.name, .int .i64 t.per, .int .i64 t.dl, .int .i64 t.prio, .int .i64 t.cl, .slice A2 t.parts.length c2] 37)) (some ⟨v1.heap.size, 0, none⟩) (ttc [t2])) := hidp (by rw [← HLT.out]; exact Lies.newCells' v1 (ttc [t2]) 37)
      have O2 := hidp (ttc_one [t2])
      have L2 : Hid ((ttc [t2]).length = 1 * 6) := hidp (ttc_len _)
      have N2 : Hid (k + 1 ≤ maxLen) := hidp (by unfold maxLen; have := HG.out.ntasks.2; omega)
      have T2 : Hid ((k + 1) * 72 ≤ 140737488355328) := hidp (by have := HG.out.ntasks.2; omega)
      have TL : Turned [] v1 (v1.alloc (.cells #[.string t.name, .int .i64 t.per, .int .i64 t.dl, .int .i64 t.prio, .int .i64 t.cl, .slice A2 t.parts.length c2] 37)) := (Turned.refl [] v1).alloc _
      have Z2 : Hid (v0.heap.size ≤ (v1.alloc (.cells #[.string t.name, .int .i64 t.per, .int .i64 t.dl, .int .i64 t.prio, .int .i64 t.cl, .slice A2 t.parts.length c2] 37)).heap.size) := hidp (Nat.le_trans ht.size (Nat.le_trans T13.size TL.size))
      have HFv := hidp hF
      have b52 := b51.turned TL (by simp)
      have G5 : Hid (u3.heap.size ∉ fp D) := hidp (fun h => by have := (HFv.out _ h).1; have := HSV0.out; omega)
      have o1a := hidp (o1.turned TL (by simp))
      go_wp2_with (at_builtin; go_loud (refine wpList_app2 _ rfl (.tmp 40) (.tmp 42) 23 rfl v0.heap.size 37 j0 _ 6 72 Try.underlying23 hj0 hk0 hk1 hk2 rfl (by decide) D k d _ rfl hown2 _ _ 1 1 (ttc [t2]) rfl (by simp) L2.out S2.out O2.out N2.out T2.out Z2.out ?_); intro A' c' w1 happ2; have b53 := b52.turned happ2.turned G5.out; have fz := b53.frozen 3; have cz : w1.cell? ⟨u3.heap.size, 3, none⟩ = some (.slice D k d) := b53.cell 3)
      have hw1 := happ2.turned
      have TS2 : Turned [u3.heap.size] w1 (w1.setCell ⟨u3.heap.size, 3, none⟩ (.slice A' (k + 1) c')) := (Turned.refl [u3.heap.size] w1).setCell (p := ⟨u3.heap.size, 3, none⟩) (.inl (by simp)) _
      have oo := o1a.out.app (ts := [t2]) happ2 rfl
      have hFo := own_fp oo.own
      have hsv := HSV0.out
      have oo2 := oo.turned TS2 (fun b hb hm => by simp at hm; subst hm; have := (hFo _ hb).1; omega)
      have T1w : Turned [] wr (v1.alloc (.cells #[.string t.name, .int .i64 t.per, .int .i64 t.dl, .int .i64 t.prio, .int .i64 t.cl, .slice A2 t.parts.length c2] 37)) := T13.trans TL (by simp)
      have TT : Turned (fp D ++ [u3.heap.size]) wr (w1.setCell ⟨u3.heap.size, 3, none⟩ (.slice A' (k + 1) c')) := ((T1w.mono (G := fp D ++ [u3.heap.size]) (by simp)).trans hw1 (fun i hi => .inl (by simp [hi]))).trans TS2 (fun i hi => .inl (by simp at hi; simp [hi]))
      have pF := (((p2.turned TL (by simp)).turned hw1 (fun b hb hm => by have h1 := (hF b hm).2; have h2 := hA2 b hb; omega)).turned TS2 (fun b hb hm => by simp at hm; subst hm; have := (hp2 _ hb).1; omega))
      have HTT := hidp TT
      have HT13 := T13.size
      have HTLs : (v1.alloc (.cells #[.string t.name, .int .i64 t.per, .int .i64 t.dl, .int .i64 t.prio, .int .i64 t.cl, .slice A2 t.parts.length c2] 37)).heap.size = v1.heap.size + 1 := by simp
      have hws : v1.heap.size + 1 ≤ (w1.setCell ⟨u3.heap.size, 3, none⟩ (.slice A' (k + 1) c')).heap.size := by rw [← HTLs]; exact Nat.le_trans hw1.size TS2.size
      have R1 : Hid (∀ q ∈ ts ++ [t2], TaskOk (w1.setCell ⟨u3.heap.size, 3, none⟩ (.slice A' (k + 1) c')) q) := hidp (fun q hq => by
        rcases List.mem_append.1 hq with h | h
        · exact (htok q h).turned HTT.out (fun b hb hm => by
            obtain ⟨f1, f2, f3⟩ := hfar q h b hb
            rcases List.mem_append.1 hm with hm | hm
            · exact f1 hm
            · simp at hm; omega)
        · simp at h
          rw [h, Ht2.out]
          have tk := TOK.out
          exact ⟨tk.name, tk.per, tk.dl, tk.prio, tk.cl, pF.sl, pF.parts, tk.wf⟩)
      have R2 : Hid (∀ q ∈ ts ++ [t2], ∀ b ∈ fp q.pa, b ∉ fp A' ∧ v0.heap.size ≤ b ∧ b < (w1.setCell ⟨u3.heap.size, 3, none⟩ (.slice A' (k + 1) c')).heap.size) := hidp (fun q hq b hb => by
        rcases List.mem_append.1 hq with h | h
        · obtain ⟨f1, f2, f3⟩ := hfar q h b hb
          refine ⟨fun hm => ?_, f2, by omega⟩
          rcases happ2.fps b hm with g1 | g1
          · exact f1 g1
          · rw [HTLs] at g1; omega
        · simp at h
          rw [h, Ht2.out] at hb
          dsimp only at hb
          have g2 := hp2 b hb
          refine ⟨fun hm => ?_, g2.1, by omega⟩
          rcases happ2.fps b hm with g1 | g1
          · have := hA2 b hb; have := LTX b g1; omega
          · rw [HTLs] at g1; omega)
      have R3 : Hid ((ts ++ [t2]).map core = (s0.tasks.take (k + 1)).map core) := hidp (by rw [Htc.out, List.map_append, Hts.out, Ht2.out]; rfl)
      have R4 : Turned [u3.heap.size] v0 (w1.setCell ⟨u3.heap.size, 3, none⟩ (.slice A' (k + 1) c')) := ht.trans HTT.out (fun i hi => by
        rcases List.mem_append.1 hi with h | h
        · exact .inr (HFv.out i h).1
        · exact .inl h)
      have b54 : Bk (w1.setCell ⟨u3.heap.size, 3, none⟩ (.slice A' (k + 1) c')) u3.heap.size 25 #[.int .i64 s0.proto, .slice s0.ca s0.cores.length s0.cc, .slice s0.ha s0.homes.length s0.hc, .slice A' (k + 1) c'] := b53.put 3 (.slice A' (k + 1) c')
      go_roundg (gk - 1)
      case measure => omega
      case rel => exact ⟨k + 1, A', c', ts ++ [t2], by omega, by go_num, oo2, b54, R3, R1.out, R2.out, R4⟩
    · obtain rfl : k = s0.tasks.length := by omega
      have htm : ts.map core = s0.tasks.map core := by rw [Hts.out, List.take_length]
      have hlts : ts.length = s0.tasks.length := by have := congrArg List.length htm; simpa using this
      obtain ⟨O, HO⟩ : ∃ O : SetR, Hid (O = ⟨s0.proto, s0.ca, s0.cc, s0.cores, s0.ha, s0.hc, s0.homes, D, d, ts⟩) := ⟨_, hidp rfl⟩
      have s0r := HS3.out.keep kw
      have okO : SetOk wr O := by rw [HO.out]; exact ⟨s0r.proto, s0r.cores, s0r.homes, ⟨by dsimp only; rw [hlts]; exact o.len ▸ o.sl, o.tasks, htok⟩⟩
      have hOl : O.tasks.length = s0.tasks.length := by rw [HO.out]; exact hlts
      have sbO : SetBox wr u3.heap.size O := by
        have z := Z4 b5
        rw [HO.out]
        exact ⟨z.1, z.2.1, z.2.2.1, by dsimp only; rw [hlts]; exact z.2.2.2⟩
      have HFO : Hid (FewS O) := hidp (by
        rw [HO.out]
        refine ⟨HF.out.cores, HF.out.homes, by dsimp only; rw [hlts]; exact HF.out.tasks, fun t ht => ?_⟩
        have hm : core t ∈ ts.map core := List.mem_map.2 ⟨t, ht, rfl⟩
        rw [htm] at hm
        obtain ⟨z, hz, e⟩ := List.mem_map.1 hm
        have e2 := congrArg TaskR.parts e
        simp only [core] at e2
        rw [← e2]; exact HF.out.parts z hz)
      have HSame : Hid (sameS O s0 = true) := hidp (same_cores (by rw [HO.out]) (by rw [HO.out]) (by rw [HO.out]) (by rw [HO.out]; exact htm))
      have HPO : Hid (∀ t ∈ O.tasks, 1 ≤ t.parts.length) := hidp (fun t ht => by
        rw [HO.out] at ht
        have hm : core t ∈ ts.map core := List.mem_map.2 ⟨t, ht, rfl⟩
        rw [htm] at hm
        obtain ⟨z, hz, e⟩ := List.mem_map.1 hm
        have e2 := congrArg TaskR.parts e
        simp only [core] at e2
        rw [← e2]; exact (HG.out.parts z hz).len.1)
      have HLO : Hid (O.tasks.length ≤ 800) := hidp (by rw [hOl]; exact HL.out)
      have HOL := hidp hOl
      have hbw : Below w.heap.size w wr := (hb0.trans (ht.below hb0.size (by simp; omega)))
      clear htm hlts Hts htok hfar o b5 ht kw hOl
      go_upto_region 13 with fail
      clear c0 c1 c2 c3
      obtain ⟨gO, hgO⟩ : ∃ g, u3.heap.size = g := ⟨_, rfl⟩
      rw [hgO] at sbO ⊢
      obtain ⟨v, hv⟩ : ∃ v, wr = v := ⟨_, rfl⟩
      rw [hv] at sbO okO sbr s0r hbw ⊢
      clear hv hgO
      have SB := hidp sbO
      have HS := hidp okO
      have HSB0 := hidp sbr
      have HS0 := hidp s0r
      have HBW := hidp hbw
      replace HF := HFO
      replace HL := HLO
      have HI := hI
      clear sbr s0r hbw okO
      go_cut [8, 9] from 45 to 50 (fun a b wx => ∃ ga gb x y B2, a = .pointer (some ⟨ga, 0, none⟩) ∧ b = .pointer (some ⟨gb, 0, none⟩) ∧ TwoSets v O (ordL O.tasks) (turL (startN (wh : Int) O.tasks.length) O.tasks.length O.tasks.length) ga gb x y B2 wx)
      case first =>
        obtain ⟨b0, b1, b2, b3⟩ := sbO
        have hbv : Below v.heap.size v v.drew := (Below.refl _ _).drew
        refine wp_region_held_drew (S := fun w' => w'.cell? ⟨gO, 0, none⟩ = some (.int .i64 O.proto) ∧ w'.cell? ⟨gO, 1, none⟩ = some (.slice O.ca O.cores.length O.cc) ∧ w'.cell? ⟨gO, 2, none⟩ = some (.slice O.ha O.homes.length O.hc) ∧ w'.cell? ⟨gO, 3, none⟩ = some (.slice O.ta O.tasks.length O.tc)) (by kernel_rfl) ?_ (fun hHeld => ?_)
        · exact SB.out.keep (Keeps.of_below hbv)
        obtain ⟨vd, hvd⟩ : ∃ u, v.drew = u := ⟨_, rfl⟩
        rw [hvd] at hbv hHeld ⊢
        clear hvd
        refine wpAnyH_take (i := 0) (v := ?_) rfl (by kernel_rfl) (by kernel_rfl) (by kernel_rfl) (fun _ _ _ h => h) (Or.inl ⟨by rfl, ?_⟩) (by assumption) ?_
        rotate_left 1
        · ((intro w hSw; (try dsimp only at hSw); go_simp); (try with_reducible rfl))
        simp only [Act.put, List.setIfInBounds_toArray, List.set_cons_zero, List.set_cons_succ, List.getElem_toArray, List.getElem_cons_zero, List.getElem_cons_succ]
        refine wpAnyH_take (i := 2) (v := ?_) rfl (by kernel_rfl) (by kernel_rfl) (by kernel_rfl) (fun _ _ _ h => h) (Or.inl ⟨by rfl, ?_⟩) (by assumption) ?_
        rotate_left 1
        · ((intro w hSw; (try dsimp only at hSw); go_simp); (try with_reducible rfl))
        simp only [Act.put, List.setIfInBounds_toArray, List.set_cons_zero, List.set_cons_succ, List.getElem_toArray, List.getElem_cons_zero, List.getElem_cons_succ]
        refine wpAnyH_take (i := 3) (v := ?_) rfl (by kernel_rfl) (by kernel_rfl) (by kernel_rfl) (fun _ _ _ h => h) (Or.inl ⟨by rfl, ?_⟩) (by assumption) ?_
        rotate_left 1
        · ((intro w hSw; (try dsimp only at hSw); go_simp); (try with_reducible rfl))
        simp only [Act.put, List.setIfInBounds_toArray, List.set_cons_zero, List.set_cons_succ, List.getElem_toArray, List.getElem_cons_zero, List.getElem_cons_succ]
        refine wpAnyH_take (i := 4) (v := ?_) rfl (by kernel_rfl) (by kernel_rfl) (by kernel_rfl) (fun _ _ _ h => h) (Or.inl ⟨by rfl, ?_⟩) (by assumption) ?_
        rotate_left 1
        · ((intro w hSw; (try dsimp only at hSw); go_simp); (try with_reducible rfl))
        simp only [Act.put, List.setIfInBounds_toArray, List.set_cons_zero, List.set_cons_succ, List.getElem_toArray, List.getElem_cons_zero, List.getElem_cons_succ]
        refine wpAnyH_ready (rs := [1, 6, 7]) (by kernel_rfl) (by simp) ?_
        refine AllReadyH.cons rfl (fun K hK => ?_) (AllReadyH.cons rfl (fun K hK => ?_) (AllReadyH.cons rfl (fun K hK => ?_) AllReadyH.nil))
        · go_simp
          refine (canon_any O _ (HS.out.keep (Keeps.of_below hbv)) HF.out HL.out).mono ?_
          rintro e u1 ⟨x, rfl, ax, ox, kx, hb2⟩
          replace ox := ox.low hbv.size
          replace hbv := hbv.trans (hb2.mono hbv.size)
          clear hb2 hHeld
          go_wp2_with fail
          refine hK.out _ _ ?_ (fun hHeld => ?_)
          · exact SB.out.keep (Keeps.of_below hbv)
          clear hK K
          try simp only [Act.put, List.setIfInBounds_toArray, List.set_cons_zero, List.set_cons_succ, List.getElem_toArray, List.getElem_cons_zero, List.getElem_cons_succ]
          refine wpAnyH_ready (rs := [5, 6, 7]) (by kernel_rfl) (by simp) ?_
          refine AllReadyH.cons rfl (fun K hK => ?_) (AllReadyH.cons rfl (fun K hK => ?_) (AllReadyH.cons rfl (fun K hK => ?_) AllReadyH.nil))
          · go_simp
            refine (move_any O (wh : Int) _ (HS.out.keep (Keeps.of_below hbv)) HF.out HL.out HI.out).mono ?_
            rintro e u2 ⟨y, rfl, ay, oy, ky, hb2⟩
            have xB := ox.under
            have hB2 := hbv.size
            replace ox := ox.turned (Turned.of_below hb2 []) (by simp)
            replace kx := kx.keep (Keeps.of_below hb2)
            replace hbv := hbv.trans (hb2.mono hbv.size)
            clear hb2 hHeld
            go_wp2_with fail
            refine hK.out _ _ ?_ (fun hHeld => ?_)
            · exact SB.out.keep (Keeps.of_below hbv)
            clear hK K
            try simp only [Act.put, List.setIfInBounds_toArray, List.set_cons_zero, List.set_cons_succ, List.getElem_toArray, List.getElem_cons_zero, List.getElem_cons_succ]
            refine wpAnyH_ready (rs := [6, 7]) (by kernel_rfl) (by simp) ?_
            refine AllReadyH.cons rfl (fun K hK => ?_) (AllReadyH.cons rfl (fun K hK => ?_) AllReadyH.nil)
            · go_simp
              have fxP := ox.far (.inr (Nat.le_refl _))
              replace ox := ox.turned ((Turned.refl [] u2).alloc (.cells #[.int .i64 0, .slice none 0 0, .slice none 0 0, .slice none 0 0] 25)) (by simp)
              replace kx := kx.keep (Keeps.alloc _ (.cells #[.int .i64 0, .slice none 0 0, .slice none 0 0, .slice none 0 0] 25))
              have fyP := oy.far (.inr (Nat.le_refl _))
              replace oy := oy.turned ((Turned.refl [] u2).alloc (.cells #[.int .i64 0, .slice none 0 0, .slice none 0 0, .slice none 0 0] 25)) (by simp)
              replace ky := ky.keep (Keeps.alloc _ (.cells #[.int .i64 0, .slice none 0 0, .slice none 0 0, .slice none 0 0] 25))
              have bP := Bk.new u2 25 #[.int .i64 0, .slice none 0 0, .slice none 0 0, .slice none 0 0]
              have vP := hbv.size
              replace hbv := hbv.alloc hbv.size (.cells #[.int .i64 0, .slice none 0 0, .slice none 0 0, .slice none 0 0] 25)
              obtain ⟨u3, hu3⟩ : ∃ u, u2.alloc (.cells #[.int .i64 0, .slice none 0 0, .slice none 0 0, .slice none 0 0] 25) = u := ⟨_, rfl⟩
              rw [hu3] at bP hbv ox kx oy ky ⊢
              clear hu3 hHeld
              refine hK.out _ _ ?_ (fun hHeld => ?_)
              · exact SB.out.keep (Keeps.of_below hbv)
              clear hK K
              try simp only [Act.put, List.setIfInBounds_toArray, List.set_cons_zero, List.set_cons_succ, List.getElem_toArray, List.getElem_cons_zero, List.getElem_cons_succ]
              refine wpAnyH_ready (rs := [7]) (by kernel_rfl) (by simp) ?_
              refine AllReadyH.cons rfl (fun K hK => ?_) AllReadyH.nil
              · go_simp
                have fxQ := ox.far (.inr (Nat.le_refl _))
                replace ox := ox.turned ((Turned.refl [] u3).alloc (.cells #[.int .i64 0, .slice none 0 0, .slice none 0 0, .slice none 0 0] 25)) (by simp)
                replace kx := kx.keep (Keeps.alloc _ (.cells #[.int .i64 0, .slice none 0 0, .slice none 0 0, .slice none 0 0] 25))
                have fyQ := oy.far (.inr (Nat.le_refl _))
                replace oy := oy.turned ((Turned.refl [] u3).alloc (.cells #[.int .i64 0, .slice none 0 0, .slice none 0 0, .slice none 0 0] 25)) (by simp)
                replace ky := ky.keep (Keeps.alloc _ (.cells #[.int .i64 0, .slice none 0 0, .slice none 0 0, .slice none 0 0] 25))
                have ne : u2.heap.size ≠ u3.heap.size := Nat.ne_of_lt bP.lt
                replace bP := bP.alloc (.cells #[.int .i64 0, .slice none 0 0, .slice none 0 0, .slice none 0 0] 25)
                have bQ := Bk.new u3 25 #[.int .i64 0, .slice none 0 0, .slice none 0 0, .slice none 0 0]
                have vQ := hbv.size
                replace hbv := hbv.alloc hbv.size (.cells #[.int .i64 0, .slice none 0 0, .slice none 0 0, .slice none 0 0] 25)
                obtain ⟨u4, hu4⟩ : ∃ u, u3.alloc (.cells #[.int .i64 0, .slice none 0 0, .slice none 0 0, .slice none 0 0] 25) = u := ⟨_, rfl⟩
                rw [hu4] at bQ hbv bP ox kx oy ky ⊢
                clear hu4 hHeld
                refine hK.out _ _ ?_ (fun hHeld => ?_)
                · exact SB.out.keep (Keeps.of_below hbv)
                clear hK K
                try simp only [Act.put, List.setIfInBounds_toArray, List.set_cons_zero, List.set_cons_succ, List.getElem_toArray, List.getElem_cons_zero, List.getElem_cons_succ]
                have neX : u2.heap.size ≠ u3.heap.size := by first | exact ne | exact ne.symm
                clear ne
                obtain ⟨f0, f1, f2, f3⟩ := ZF4 bP
                obtain ⟨z0, z1, z2, z3⟩ := Z4 bP
                have PB := put4_bk bP (v0 := .int .i64 x.proto) (v1 := .slice x.ca x.cores.length x.cc) (v2 := .slice x.ha x.homes.length x.hc) (v3 := .slice x.ta x.tasks.length x.tc)
                have PT := put4_turned u4 (u2.heap.size) (.int .i64 x.proto) (.slice x.ca x.cores.length x.cc) (.slice x.ha x.homes.length x.hc) (.slice x.ta x.tasks.length x.tc)
                replace bQ := bQ.turned PT (by simpa using neX.symm)
                replace ox := ox.farF PT (by intro q hq; simp at hq; subst hq; exact fxP)
                replace kx := kx.farF PT (by intro q hq; simp at hq; subst hq; exact fxP)
                replace oy := oy.farF PT (by intro q hq; simp at hq; subst hq; exact fyP)
                replace ky := ky.farF PT (by intro q hq; simp at hq; subst hq; exact fyP)
                replace hbv := hbv.trans (PT.below hbv.size (by intro q hq; simp at hq; subst hq; exact vP))
                clear bP
                have bP := PB
                clear PB PT
                obtain ⟨ut8, hut⟩ : ∃ u, put4 u4 (u2.heap.size) (.int .i64 x.proto) (.slice x.ca x.cores.length x.cc) (.slice x.ha x.homes.length x.hc) (.slice x.ta x.tasks.length x.tc) = u := ⟨_, rfl⟩
                rw [hut] at bP bQ ox kx oy ky hbv
                unfold put4 at hut
                refine wpAnyH_ready (rs := [8]) (by kernel_rfl) (by simp) ?_
                refine AllReadyH.cons rfl (fun K hK => ?_) AllReadyH.nil
                go_simp
                try rw [hut]
                clear hut f0 f1 f2 f3 z0 z1 z2 z3 hHeld
                refine hK.out _ _ ?_ (fun hHeld => ?_)
                · exact SB.out.keep (Keeps.of_below hbv)
                clear hK K
                try simp only [Act.put, List.setIfInBounds_toArray, List.set_cons_zero, List.set_cons_succ, List.getElem_toArray, List.getElem_cons_zero, List.getElem_cons_succ]
                obtain ⟨f0, f1, f2, f3⟩ := ZF4 bQ
                obtain ⟨z0, z1, z2, z3⟩ := Z4 bQ
                have PB := put4_bk bQ (v0 := .int .i64 y.proto) (v1 := .slice y.ca y.cores.length y.cc) (v2 := .slice y.ha y.homes.length y.hc) (v3 := .slice y.ta y.tasks.length y.tc)
                have PT := put4_turned ut8 (u3.heap.size) (.int .i64 y.proto) (.slice y.ca y.cores.length y.cc) (.slice y.ha y.homes.length y.hc) (.slice y.ta y.tasks.length y.tc)
                replace bP := bP.turned PT (by simpa using neX)
                replace ox := ox.farF PT (by intro q hq; simp at hq; subst hq; exact fxQ)
                replace kx := kx.farF PT (by intro q hq; simp at hq; subst hq; exact fxQ)
                replace oy := oy.farF PT (by intro q hq; simp at hq; subst hq; exact fyQ)
                replace ky := ky.farF PT (by intro q hq; simp at hq; subst hq; exact fyQ)
                replace hbv := hbv.trans (PT.below hbv.size (by intro q hq; simp at hq; subst hq; exact vQ))
                clear bQ
                have bQ := PB
                clear PB PT
                obtain ⟨ut9, hut⟩ : ∃ u, put4 ut8 (u3.heap.size) (.int .i64 y.proto) (.slice y.ca y.cores.length y.cc) (.slice y.ha y.homes.length y.hc) (.slice y.ta y.tasks.length y.tc) = u := ⟨_, rfl⟩
                rw [hut] at bP bQ ox kx oy ky hbv
                unfold put4 at hut
                refine wpAnyH_ready (rs := [9]) (by kernel_rfl) (by simp) ?_
                refine AllReadyH.cons rfl (fun K hK => ?_) AllReadyH.nil
                go_simp
                try rw [hut]
                clear hut f0 f1 f2 f3 z0 z1 z2 z3 hHeld
                refine hK.out _ _ ?_ (fun hHeld => ?_)
                · exact SB.out.keep (Keeps.of_below hbv)
                clear hK K
                try simp only [Act.put, List.setIfInBounds_toArray, List.set_cons_zero, List.set_cons_succ, List.getElem_toArray, List.getElem_cons_zero, List.getElem_cons_succ]
                refine wpAnyH_done (by kernel_rfl) ?_ _
                clear hHeld
                go_wp2_with fail
                go_meet
                exact ⟨_, _, x, y, _, rfl, rfl, ax, ay, ox, kx, oy, ky, hB2, xB, bP, bQ, fxP, fxQ, fyP, fyQ, neX, vP, vQ, hbv⟩
            · go_simp
              have fxQ := ox.far (.inr (Nat.le_refl _))
              replace ox := ox.turned ((Turned.refl [] u2).alloc (.cells #[.int .i64 0, .slice none 0 0, .slice none 0 0, .slice none 0 0] 25)) (by simp)
              replace kx := kx.keep (Keeps.alloc _ (.cells #[.int .i64 0, .slice none 0 0, .slice none 0 0, .slice none 0 0] 25))
              have fyQ := oy.far (.inr (Nat.le_refl _))
              replace oy := oy.turned ((Turned.refl [] u2).alloc (.cells #[.int .i64 0, .slice none 0 0, .slice none 0 0, .slice none 0 0] 25)) (by simp)
              replace ky := ky.keep (Keeps.alloc _ (.cells #[.int .i64 0, .slice none 0 0, .slice none 0 0, .slice none 0 0] 25))
              have bQ := Bk.new u2 25 #[.int .i64 0, .slice none 0 0, .slice none 0 0, .slice none 0 0]
              have vQ := hbv.size
              replace hbv := hbv.alloc hbv.size (.cells #[.int .i64 0, .slice none 0 0, .slice none 0 0, .slice none 0 0] 25)
              obtain ⟨u5, hu5⟩ : ∃ u, u2.alloc (.cells #[.int .i64 0, .slice none 0 0, .slice none 0 0, .slice none 0 0] 25) = u := ⟨_, rfl⟩
              rw [hu5] at bQ hbv ox kx oy ky ⊢
              clear hu5 hHeld
              refine hK.out _ _ ?_ (fun hHeld => ?_)
              · exact SB.out.keep (Keeps.of_below hbv)
              clear hK K
              try simp only [Act.put, List.setIfInBounds_toArray, List.set_cons_zero, List.set_cons_succ, List.getElem_toArray, List.getElem_cons_zero, List.getElem_cons_succ]
              refine wpAnyH_ready (rs := [6]) (by kernel_rfl) (by simp) ?_
              refine AllReadyH.cons rfl (fun K hK => ?_) AllReadyH.nil
              · go_simp
                have fxP := ox.far (.inr (Nat.le_refl _))
                replace ox := ox.turned ((Turned.refl [] u5).alloc (.cells #[.int .i64 0, .slice none 0 0, .slice none 0 0, .slice none 0 0] 25)) (by simp)
                replace kx := kx.keep (Keeps.alloc _ (.cells #[.int .i64 0, .slice none 0 0, .slice none 0 0, .slice none 0 0] 25))
                have fyP := oy.far (.inr (Nat.le_refl _))
                replace oy := oy.turned ((Turned.refl [] u5).alloc (.cells #[.int .i64 0, .slice none 0 0, .slice none 0 0, .slice none 0 0] 25)) (by simp)
                replace ky := ky.keep (Keeps.alloc _ (.cells #[.int .i64 0, .slice none 0 0, .slice none 0 0, .slice none 0 0] 25))
                have ne : u2.heap.size ≠ u5.heap.size := Nat.ne_of_lt bQ.lt
                replace bQ := bQ.alloc (.cells #[.int .i64 0, .slice none 0 0, .slice none 0 0, .slice none 0 0] 25)
                have bP := Bk.new u5 25 #[.int .i64 0, .slice none 0 0, .slice none 0 0, .slice none 0 0]
                have vP := hbv.size
                replace hbv := hbv.alloc hbv.size (.cells #[.int .i64 0, .slice none 0 0, .slice none 0 0, .slice none 0 0] 25)
                obtain ⟨u6, hu6⟩ : ∃ u, u5.alloc (.cells #[.int .i64 0, .slice none 0 0, .slice none 0 0, .slice none 0 0] 25) = u := ⟨_, rfl⟩
                rw [hu6] at bP hbv bQ ox kx oy ky ⊢
                clear hu6 hHeld
                refine hK.out _ _ ?_ (fun hHeld => ?_)
                · exact SB.out.keep (Keeps.of_below hbv)
                clear hK K
                try simp only [Act.put, List.setIfInBounds_toArray, List.set_cons_zero, List.set_cons_succ, List.getElem_toArray, List.getElem_cons_zero, List.getElem_cons_succ]
                have neX : u5.heap.size ≠ u2.heap.size := by first | exact ne | exact ne.symm
                clear ne
                obtain ⟨f0, f1, f2, f3⟩ := ZF4 bP
                obtain ⟨z0, z1, z2, z3⟩ := Z4 bP
                have PB := put4_bk bP (v0 := .int .i64 x.proto) (v1 := .slice x.ca x.cores.length x.cc) (v2 := .slice x.ha x.homes.length x.hc) (v3 := .slice x.ta x.tasks.length x.tc)
                have PT := put4_turned u6 (u5.heap.size) (.int .i64 x.proto) (.slice x.ca x.cores.length x.cc) (.slice x.ha x.homes.length x.hc) (.slice x.ta x.tasks.length x.tc)
                replace bQ := bQ.turned PT (by simpa using neX.symm)
                replace ox := ox.farF PT (by intro q hq; simp at hq; subst hq; exact fxP)
                replace kx := kx.farF PT (by intro q hq; simp at hq; subst hq; exact fxP)
                replace oy := oy.farF PT (by intro q hq; simp at hq; subst hq; exact fyP)
                replace ky := ky.farF PT (by intro q hq; simp at hq; subst hq; exact fyP)
                replace hbv := hbv.trans (PT.below hbv.size (by intro q hq; simp at hq; subst hq; exact vP))
                clear bP
                have bP := PB
                clear PB PT
                obtain ⟨ut8, hut⟩ : ∃ u, put4 u6 (u5.heap.size) (.int .i64 x.proto) (.slice x.ca x.cores.length x.cc) (.slice x.ha x.homes.length x.hc) (.slice x.ta x.tasks.length x.tc) = u := ⟨_, rfl⟩
                rw [hut] at bP bQ ox kx oy ky hbv
                unfold put4 at hut
                refine wpAnyH_ready (rs := [8]) (by kernel_rfl) (by simp) ?_
                refine AllReadyH.cons rfl (fun K hK => ?_) AllReadyH.nil
                go_simp
                try rw [hut]
                clear hut f0 f1 f2 f3 z0 z1 z2 z3 hHeld
                refine hK.out _ _ ?_ (fun hHeld => ?_)
                · exact SB.out.keep (Keeps.of_below hbv)
                clear hK K
                try simp only [Act.put, List.setIfInBounds_toArray, List.set_cons_zero, List.set_cons_succ, List.getElem_toArray, List.getElem_cons_zero, List.getElem_cons_succ]
                obtain ⟨f0, f1, f2, f3⟩ := ZF4 bQ
                obtain ⟨z0, z1, z2, z3⟩ := Z4 bQ
                have PB := put4_bk bQ (v0 := .int .i64 y.proto) (v1 := .slice y.ca y.cores.length y.cc) (v2 := .slice y.ha y.homes.length y.hc) (v3 := .slice y.ta y.tasks.length y.tc)
                have PT := put4_turned ut8 (u2.heap.size) (.int .i64 y.proto) (.slice y.ca y.cores.length y.cc) (.slice y.ha y.homes.length y.hc) (.slice y.ta y.tasks.length y.tc)
                replace bP := bP.turned PT (by simpa using neX)
                replace ox := ox.farF PT (by intro q hq; simp at hq; subst hq; exact fxQ)
                replace kx := kx.farF PT (by intro q hq; simp at hq; subst hq; exact fxQ)
                replace oy := oy.farF PT (by intro q hq; simp at hq; subst hq; exact fyQ)
                replace ky := ky.farF PT (by intro q hq; simp at hq; subst hq; exact fyQ)
                replace hbv := hbv.trans (PT.below hbv.size (by intro q hq; simp at hq; subst hq; exact vQ))
                clear bQ
                have bQ := PB
                clear PB PT
                obtain ⟨ut9, hut⟩ : ∃ u, put4 ut8 (u2.heap.size) (.int .i64 y.proto) (.slice y.ca y.cores.length y.cc) (.slice y.ha y.homes.length y.hc) (.slice y.ta y.tasks.length y.tc) = u := ⟨_, rfl⟩
                rw [hut] at bP bQ ox kx oy ky hbv
                unfold put4 at hut
                refine wpAnyH_ready (rs := [9]) (by kernel_rfl) (by simp) ?_
                refine AllReadyH.cons rfl (fun K hK => ?_) AllReadyH.nil
                go_simp
                try rw [hut]
                clear hut f0 f1 f2 f3 z0 z1 z2 z3 hHeld
                refine hK.out _ _ ?_ (fun hHeld => ?_)
                · exact SB.out.keep (Keeps.of_below hbv)
                clear hK K
                try simp only [Act.put, List.setIfInBounds_toArray, List.set_cons_zero, List.set_cons_succ, List.getElem_toArray, List.getElem_cons_zero, List.getElem_cons_succ]
                refine wpAnyH_done (by kernel_rfl) ?_ _
                clear hHeld
                go_wp2_with fail
                go_meet
                exact ⟨_, _, x, y, _, rfl, rfl, ax, ay, ox, kx, oy, ky, hB2, xB, bP, bQ, fxP, fxQ, fyP, fyQ, neX, vP, vQ, hbv⟩
          · go_simp
            have fxP := ox.far (.inr (Nat.le_refl _))
            replace ox := ox.turned ((Turned.refl [] u1).alloc (.cells #[.int .i64 0, .slice none 0 0, .slice none 0 0, .slice none 0 0] 25)) (by simp)
            replace kx := kx.keep (Keeps.alloc _ (.cells #[.int .i64 0, .slice none 0 0, .slice none 0 0, .slice none 0 0] 25))
            have bP := Bk.new u1 25 #[.int .i64 0, .slice none 0 0, .slice none 0 0, .slice none 0 0]
            have vP := hbv.size
            replace hbv := hbv.alloc hbv.size (.cells #[.int .i64 0, .slice none 0 0, .slice none 0 0, .slice none 0 0] 25)
            obtain ⟨u7, hu7⟩ : ∃ u, u1.alloc (.cells #[.int .i64 0, .slice none 0 0, .slice none 0 0, .slice none 0 0] 25) = u := ⟨_, rfl⟩
            rw [hu7] at bP hbv ox kx ⊢
            clear hu7 hHeld
            refine hK.out _ _ ?_ (fun hHeld => ?_)
            · exact SB.out.keep (Keeps.of_below hbv)
            clear hK K
            try simp only [Act.put, List.setIfInBounds_toArray, List.set_cons_zero, List.set_cons_succ, List.getElem_toArray, List.getElem_cons_zero, List.getElem_cons_succ]
            refine wpAnyH_ready (rs := [5, 7]) (by kernel_rfl) (by simp) ?_
            refine AllReadyH.cons rfl (fun K hK => ?_) (AllReadyH.cons rfl (fun K hK => ?_) AllReadyH.nil)
            · go_simp
              refine (move_any O (wh : Int) _ (HS.out.keep (Keeps.of_below hbv)) HF.out HL.out HI.out).mono ?_
              rintro e u8 ⟨y, rfl, ay, oy, ky, hb2⟩
              have fyP := oy.far (.inl bP.lt)
              replace bP := bP.below hb2
              have xB := ox.under
              have hB2 := hbv.size
              replace ox := ox.turned (Turned.of_below hb2 []) (by simp)
              replace kx := kx.keep (Keeps.of_below hb2)
              replace hbv := hbv.trans (hb2.mono hbv.size)
              clear hb2 hHeld
              go_wp2_with fail
              refine hK.out _ _ ?_ (fun hHeld => ?_)
              · exact SB.out.keep (Keeps.of_below hbv)
              clear hK K
              try simp only [Act.put, List.setIfInBounds_toArray, List.set_cons_zero, List.set_cons_succ, List.getElem_toArray, List.getElem_cons_zero, List.getElem_cons_succ]
              refine wpAnyH_ready (rs := [7]) (by kernel_rfl) (by simp) ?_
              refine AllReadyH.cons rfl (fun K hK => ?_) AllReadyH.nil
              · go_simp
                have fxQ := ox.far (.inr (Nat.le_refl _))
                replace ox := ox.turned ((Turned.refl [] u8).alloc (.cells #[.int .i64 0, .slice none 0 0, .slice none 0 0, .slice none 0 0] 25)) (by simp)
                replace kx := kx.keep (Keeps.alloc _ (.cells #[.int .i64 0, .slice none 0 0, .slice none 0 0, .slice none 0 0] 25))
                have fyQ := oy.far (.inr (Nat.le_refl _))
                replace oy := oy.turned ((Turned.refl [] u8).alloc (.cells #[.int .i64 0, .slice none 0 0, .slice none 0 0, .slice none 0 0] 25)) (by simp)
                replace ky := ky.keep (Keeps.alloc _ (.cells #[.int .i64 0, .slice none 0 0, .slice none 0 0, .slice none 0 0] 25))
                have ne : u1.heap.size ≠ u8.heap.size := Nat.ne_of_lt bP.lt
                replace bP := bP.alloc (.cells #[.int .i64 0, .slice none 0 0, .slice none 0 0, .slice none 0 0] 25)
                have bQ := Bk.new u8 25 #[.int .i64 0, .slice none 0 0, .slice none 0 0, .slice none 0 0]
                have vQ := hbv.size
                replace hbv := hbv.alloc hbv.size (.cells #[.int .i64 0, .slice none 0 0, .slice none 0 0, .slice none 0 0] 25)
                obtain ⟨u9, hu9⟩ : ∃ u, u8.alloc (.cells #[.int .i64 0, .slice none 0 0, .slice none 0 0, .slice none 0 0] 25) = u := ⟨_, rfl⟩
                rw [hu9] at bQ hbv bP ox kx oy ky ⊢
                clear hu9 hHeld
                refine hK.out _ _ ?_ (fun hHeld => ?_)
                · exact SB.out.keep (Keeps.of_below hbv)
                clear hK K
                try simp only [Act.put, List.setIfInBounds_toArray, List.set_cons_zero, List.set_cons_succ, List.getElem_toArray, List.getElem_cons_zero, List.getElem_cons_succ]
                have neX : u1.heap.size ≠ u8.heap.size := by first | exact ne | exact ne.symm
                clear ne
                obtain ⟨f0, f1, f2, f3⟩ := ZF4 bP
                obtain ⟨z0, z1, z2, z3⟩ := Z4 bP
                have PB := put4_bk bP (v0 := .int .i64 x.proto) (v1 := .slice x.ca x.cores.length x.cc) (v2 := .slice x.ha x.homes.length x.hc) (v3 := .slice x.ta x.tasks.length x.tc)
                have PT := put4_turned u9 (u1.heap.size) (.int .i64 x.proto) (.slice x.ca x.cores.length x.cc) (.slice x.ha x.homes.length x.hc) (.slice x.ta x.tasks.length x.tc)
                replace bQ := bQ.turned PT (by simpa using neX.symm)
                replace ox := ox.farF PT (by intro q hq; simp at hq; subst hq; exact fxP)
                replace kx := kx.farF PT (by intro q hq; simp at hq; subst hq; exact fxP)
                replace oy := oy.farF PT (by intro q hq; simp at hq; subst hq; exact fyP)
                replace ky := ky.farF PT (by intro q hq; simp at hq; subst hq; exact fyP)
                replace hbv := hbv.trans (PT.below hbv.size (by intro q hq; simp at hq; subst hq; exact vP))
                clear bP
                have bP := PB
                clear PB PT
                obtain ⟨ut8, hut⟩ : ∃ u, put4 u9 (u1.heap.size) (.int .i64 x.proto) (.slice x.ca x.cores.length x.cc) (.slice x.ha x.homes.length x.hc) (.slice x.ta x.tasks.length x.tc) = u := ⟨_, rfl⟩
                rw [hut] at bP bQ ox kx oy ky hbv
                unfold put4 at hut
                refine wpAnyH_ready (rs := [8]) (by kernel_rfl) (by simp) ?_
                refine AllReadyH.cons rfl (fun K hK => ?_) AllReadyH.nil
                go_simp
                try rw [hut]
                clear hut f0 f1 f2 f3 z0 z1 z2 z3 hHeld
                refine hK.out _ _ ?_ (fun hHeld => ?_)
                · exact SB.out.keep (Keeps.of_below hbv)
                clear hK K
                try simp only [Act.put, List.setIfInBounds_toArray, List.set_cons_zero, List.set_cons_succ, List.getElem_toArray, List.getElem_cons_zero, List.getElem_cons_succ]
                obtain ⟨f0, f1, f2, f3⟩ := ZF4 bQ
                obtain ⟨z0, z1, z2, z3⟩ := Z4 bQ
                have PB := put4_bk bQ (v0 := .int .i64 y.proto) (v1 := .slice y.ca y.cores.length y.cc) (v2 := .slice y.ha y.homes.length y.hc) (v3 := .slice y.ta y.tasks.length y.tc)
                have PT := put4_turned ut8 (u8.heap.size) (.int .i64 y.proto) (.slice y.ca y.cores.length y.cc) (.slice y.ha y.homes.length y.hc) (.slice y.ta y.tasks.length y.tc)
                replace bP := bP.turned PT (by simpa using neX)
                replace ox := ox.farF PT (by intro q hq; simp at hq; subst hq; exact fxQ)
                replace kx := kx.farF PT (by intro q hq; simp at hq; subst hq; exact fxQ)
                replace oy := oy.farF PT (by intro q hq; simp at hq; subst hq; exact fyQ)
                replace ky := ky.farF PT (by intro q hq; simp at hq; subst hq; exact fyQ)
                replace hbv := hbv.trans (PT.below hbv.size (by intro q hq; simp at hq; subst hq; exact vQ))
                clear bQ
                have bQ := PB
                clear PB PT
                obtain ⟨ut9, hut⟩ : ∃ u, put4 ut8 (u8.heap.size) (.int .i64 y.proto) (.slice y.ca y.cores.length y.cc) (.slice y.ha y.homes.length y.hc) (.slice y.ta y.tasks.length y.tc) = u := ⟨_, rfl⟩
                rw [hut] at bP bQ ox kx oy ky hbv
                unfold put4 at hut
                refine wpAnyH_ready (rs := [9]) (by kernel_rfl) (by simp) ?_
                refine AllReadyH.cons rfl (fun K hK => ?_) AllReadyH.nil
                go_simp
                try rw [hut]
                clear hut f0 f1 f2 f3 z0 z1 z2 z3 hHeld
                refine hK.out _ _ ?_ (fun hHeld => ?_)
                · exact SB.out.keep (Keeps.of_below hbv)
                clear hK K
                try simp only [Act.put, List.setIfInBounds_toArray, List.set_cons_zero, List.set_cons_succ, List.getElem_toArray, List.getElem_cons_zero, List.getElem_cons_succ]
                refine wpAnyH_done (by kernel_rfl) ?_ _
                clear hHeld
                go_wp2_with fail
                go_meet
                exact ⟨_, _, x, y, _, rfl, rfl, ax, ay, ox, kx, oy, ky, hB2, xB, bP, bQ, fxP, fxQ, fyP, fyQ, neX, vP, vQ, hbv⟩
            · go_simp
              have fxQ := ox.far (.inr (Nat.le_refl _))
              replace ox := ox.turned ((Turned.refl [] u7).alloc (.cells #[.int .i64 0, .slice none 0 0, .slice none 0 0, .slice none 0 0] 25)) (by simp)
              replace kx := kx.keep (Keeps.alloc _ (.cells #[.int .i64 0, .slice none 0 0, .slice none 0 0, .slice none 0 0] 25))
              have ne : u1.heap.size ≠ u7.heap.size := Nat.ne_of_lt bP.lt
              replace bP := bP.alloc (.cells #[.int .i64 0, .slice none 0 0, .slice none 0 0, .slice none 0 0] 25)
              have bQ := Bk.new u7 25 #[.int .i64 0, .slice none 0 0, .slice none 0 0, .slice none 0 0]
              have vQ := hbv.size
              replace hbv := hbv.alloc hbv.size (.cells #[.int .i64 0, .slice none 0 0, .slice none 0 0, .slice none 0 0] 25)
              obtain ⟨u10, hu10⟩ : ∃ u, u7.alloc (.cells #[.int .i64 0, .slice none 0 0, .slice none 0 0, .slice none 0 0] 25) = u := ⟨_, rfl⟩
              rw [hu10] at bQ hbv bP ox kx ⊢
              clear hu10 hHeld
              refine hK.out _ _ ?_ (fun hHeld => ?_)
              · exact SB.out.keep (Keeps.of_below hbv)
              clear hK K
              try simp only [Act.put, List.setIfInBounds_toArray, List.set_cons_zero, List.set_cons_succ, List.getElem_toArray, List.getElem_cons_zero, List.getElem_cons_succ]
              refine wpAnyH_ready (rs := [5]) (by kernel_rfl) (by simp) ?_
              refine AllReadyH.cons rfl (fun K hK => ?_) AllReadyH.nil
              · go_simp
                refine (move_any O (wh : Int) _ (HS.out.keep (Keeps.of_below hbv)) HF.out HL.out HI.out).mono ?_
                rintro e u11 ⟨y, rfl, ay, oy, ky, hb2⟩
                have fyP := oy.far (.inl bP.lt)
                replace bP := bP.below hb2
                have fyQ := oy.far (.inl bQ.lt)
                replace bQ := bQ.below hb2
                have xB := ox.under
                have hB2 := hbv.size
                replace ox := ox.turned (Turned.of_below hb2 []) (by simp)
                replace kx := kx.keep (Keeps.of_below hb2)
                replace hbv := hbv.trans (hb2.mono hbv.size)
                clear hb2 hHeld
                go_wp2_with fail
                refine hK.out _ _ ?_ (fun hHeld => ?_)
                · exact SB.out.keep (Keeps.of_below hbv)
                clear hK K
                try simp only [Act.put, List.setIfInBounds_toArray, List.set_cons_zero, List.set_cons_succ, List.getElem_toArray, List.getElem_cons_zero, List.getElem_cons_succ]
                have neX : u1.heap.size ≠ u7.heap.size := by first | exact ne | exact ne.symm
                clear ne
                obtain ⟨f0, f1, f2, f3⟩ := ZF4 bP
                obtain ⟨z0, z1, z2, z3⟩ := Z4 bP
                have PB := put4_bk bP (v0 := .int .i64 x.proto) (v1 := .slice x.ca x.cores.length x.cc) (v2 := .slice x.ha x.homes.length x.hc) (v3 := .slice x.ta x.tasks.length x.tc)
                have PT := put4_turned u11 (u1.heap.size) (.int .i64 x.proto) (.slice x.ca x.cores.length x.cc) (.slice x.ha x.homes.length x.hc) (.slice x.ta x.tasks.length x.tc)
                replace bQ := bQ.turned PT (by simpa using neX.symm)
                replace ox := ox.farF PT (by intro q hq; simp at hq; subst hq; exact fxP)
                replace kx := kx.farF PT (by intro q hq; simp at hq; subst hq; exact fxP)
                replace oy := oy.farF PT (by intro q hq; simp at hq; subst hq; exact fyP)
                replace ky := ky.farF PT (by intro q hq; simp at hq; subst hq; exact fyP)
                replace hbv := hbv.trans (PT.below hbv.size (by intro q hq; simp at hq; subst hq; exact vP))
                clear bP
                have bP := PB
                clear PB PT
                obtain ⟨ut8, hut⟩ : ∃ u, put4 u11 (u1.heap.size) (.int .i64 x.proto) (.slice x.ca x.cores.length x.cc) (.slice x.ha x.homes.length x.hc) (.slice x.ta x.tasks.length x.tc) = u := ⟨_, rfl⟩
                rw [hut] at bP bQ ox kx oy ky hbv
                unfold put4 at hut
                refine wpAnyH_ready (rs := [8]) (by kernel_rfl) (by simp) ?_
                refine AllReadyH.cons rfl (fun K hK => ?_) AllReadyH.nil
                go_simp
                try rw [hut]
                clear hut f0 f1 f2 f3 z0 z1 z2 z3 hHeld
                refine hK.out _ _ ?_ (fun hHeld => ?_)
                · exact SB.out.keep (Keeps.of_below hbv)
                clear hK K
                try simp only [Act.put, List.setIfInBounds_toArray, List.set_cons_zero, List.set_cons_succ, List.getElem_toArray, List.getElem_cons_zero, List.getElem_cons_succ]
                obtain ⟨f0, f1, f2, f3⟩ := ZF4 bQ
                obtain ⟨z0, z1, z2, z3⟩ := Z4 bQ
                have PB := put4_bk bQ (v0 := .int .i64 y.proto) (v1 := .slice y.ca y.cores.length y.cc) (v2 := .slice y.ha y.homes.length y.hc) (v3 := .slice y.ta y.tasks.length y.tc)
                have PT := put4_turned ut8 (u7.heap.size) (.int .i64 y.proto) (.slice y.ca y.cores.length y.cc) (.slice y.ha y.homes.length y.hc) (.slice y.ta y.tasks.length y.tc)
                replace bP := bP.turned PT (by simpa using neX)
                replace ox := ox.farF PT (by intro q hq; simp at hq; subst hq; exact fxQ)
                replace kx := kx.farF PT (by intro q hq; simp at hq; subst hq; exact fxQ)
                replace oy := oy.farF PT (by intro q hq; simp at hq; subst hq; exact fyQ)
                replace ky := ky.farF PT (by intro q hq; simp at hq; subst hq; exact fyQ)
                replace hbv := hbv.trans (PT.below hbv.size (by intro q hq; simp at hq; subst hq; exact vQ))
                clear bQ
                have bQ := PB
                clear PB PT
                obtain ⟨ut9, hut⟩ : ∃ u, put4 ut8 (u7.heap.size) (.int .i64 y.proto) (.slice y.ca y.cores.length y.cc) (.slice y.ha y.homes.length y.hc) (.slice y.ta y.tasks.length y.tc) = u := ⟨_, rfl⟩
                rw [hut] at bP bQ ox kx oy ky hbv
                unfold put4 at hut
                refine wpAnyH_ready (rs := [9]) (by kernel_rfl) (by simp) ?_
                refine AllReadyH.cons rfl (fun K hK => ?_) AllReadyH.nil
                go_simp
                try rw [hut]
                clear hut f0 f1 f2 f3 z0 z1 z2 z3 hHeld
                refine hK.out _ _ ?_ (fun hHeld => ?_)
                · exact SB.out.keep (Keeps.of_below hbv)
                clear hK K
                try simp only [Act.put, List.setIfInBounds_toArray, List.set_cons_zero, List.set_cons_succ, List.getElem_toArray, List.getElem_cons_zero, List.getElem_cons_succ]
                refine wpAnyH_done (by kernel_rfl) ?_ _
                clear hHeld
                go_wp2_with fail
                go_meet
                exact ⟨_, _, x, y, _, rfl, rfl, ax, ay, ox, kx, oy, ky, hB2, xB, bP, bQ, fxP, fxQ, fyP, fyQ, neX, vP, vQ, hbv⟩
          · go_simp
            have fxQ := ox.far (.inr (Nat.le_refl _))
            replace ox := ox.turned ((Turned.refl [] u1).alloc (.cells #[.int .i64 0, .slice none 0 0, .slice none 0 0, .slice none 0 0] 25)) (by simp)
            replace kx := kx.keep (Keeps.alloc _ (.cells #[.int .i64 0, .slice none 0 0, .slice none 0 0, .slice none 0 0] 25))
            have bQ := Bk.new u1 25 #[.int .i64 0, .slice none 0 0, .slice none 0 0, .slice none 0 0]
            have vQ := hbv.size
            replace hbv := hbv.alloc hbv.size (.cells #[.int .i64 0, .slice none 0 0, .slice none 0 0, .slice none 0 0] 25)
            obtain ⟨u12, hu12⟩ : ∃ u, u1.alloc (.cells #[.int .i64 0, .slice none 0 0, .slice none 0 0, .slice none 0 0] 25) = u := ⟨_, rfl⟩
            rw [hu12] at bQ hbv ox kx ⊢
            clear hu12 hHeld
            refine hK.out _ _ ?_ (fun hHeld => ?_)
            · exact SB.out.keep (Keeps.of_below hbv)
            clear hK K
            try simp only [Act.put, List.setIfInBounds_toArray, List.set_cons_zero, List.set_cons_succ, List.getElem_toArray, List.getElem_cons_zero, List.getElem_cons_succ]
            refine wpAnyH_ready (rs := [5, 6]) (by kernel_rfl) (by simp) ?_
            refine AllReadyH.cons rfl (fun K hK => ?_) (AllReadyH.cons rfl (fun K hK => ?_) AllReadyH.nil)
            · go_simp
              refine (move_any O (wh : Int) _ (HS.out.keep (Keeps.of_below hbv)) HF.out HL.out HI.out).mono ?_
              rintro e u13 ⟨y, rfl, ay, oy, ky, hb2⟩
              have fyQ := oy.far (.inl bQ.lt)
              replace bQ := bQ.below hb2
              have xB := ox.under
              have hB2 := hbv.size
              replace ox := ox.turned (Turned.of_below hb2 []) (by simp)
              replace kx := kx.keep (Keeps.of_below hb2)
              replace hbv := hbv.trans (hb2.mono hbv.size)
              clear hb2 hHeld
              go_wp2_with fail
              refine hK.out _ _ ?_ (fun hHeld => ?_)
              · exact SB.out.keep (Keeps.of_below hbv)
              clear hK K
              try simp only [Act.put, List.setIfInBounds_toArray, List.set_cons_zero, List.set_cons_succ, List.getElem_toArray, List.getElem_cons_zero, List.getElem_cons_succ]
              refine wpAnyH_ready (rs := [6]) (by kernel_rfl) (by simp) ?_
              refine AllReadyH.cons rfl (fun K hK => ?_) AllReadyH.nil
              · go_simp
                have fxP := ox.far (.inr (Nat.le_refl _))
                replace ox := ox.turned ((Turned.refl [] u13).alloc (.cells #[.int .i64 0, .slice none 0 0, .slice none 0 0, .slice none 0 0] 25)) (by simp)
                replace kx := kx.keep (Keeps.alloc _ (.cells #[.int .i64 0, .slice none 0 0, .slice none 0 0, .slice none 0 0] 25))
                have fyP := oy.far (.inr (Nat.le_refl _))
                replace oy := oy.turned ((Turned.refl [] u13).alloc (.cells #[.int .i64 0, .slice none 0 0, .slice none 0 0, .slice none 0 0] 25)) (by simp)
                replace ky := ky.keep (Keeps.alloc _ (.cells #[.int .i64 0, .slice none 0 0, .slice none 0 0, .slice none 0 0] 25))
                have ne : u1.heap.size ≠ u13.heap.size := Nat.ne_of_lt bQ.lt
                replace bQ := bQ.alloc (.cells #[.int .i64 0, .slice none 0 0, .slice none 0 0, .slice none 0 0] 25)
                have bP := Bk.new u13 25 #[.int .i64 0, .slice none 0 0, .slice none 0 0, .slice none 0 0]
                have vP := hbv.size
                replace hbv := hbv.alloc hbv.size (.cells #[.int .i64 0, .slice none 0 0, .slice none 0 0, .slice none 0 0] 25)
                obtain ⟨u14, hu14⟩ : ∃ u, u13.alloc (.cells #[.int .i64 0, .slice none 0 0, .slice none 0 0, .slice none 0 0] 25) = u := ⟨_, rfl⟩
                rw [hu14] at bP hbv bQ ox kx oy ky ⊢
                clear hu14 hHeld
                refine hK.out _ _ ?_ (fun hHeld => ?_)
                · exact SB.out.keep (Keeps.of_below hbv)
                clear hK K
                try simp only [Act.put, List.setIfInBounds_toArray, List.set_cons_zero, List.set_cons_succ, List.getElem_toArray, List.getElem_cons_zero, List.getElem_cons_succ]
                have neX : u13.heap.size ≠ u1.heap.size := by first | exact ne | exact ne.symm
                clear ne
                obtain ⟨f0, f1, f2, f3⟩ := ZF4 bP
                obtain ⟨z0, z1, z2, z3⟩ := Z4 bP
                have PB := put4_bk bP (v0 := .int .i64 x.proto) (v1 := .slice x.ca x.cores.length x.cc) (v2 := .slice x.ha x.homes.length x.hc) (v3 := .slice x.ta x.tasks.length x.tc)
                have PT := put4_turned u14 (u13.heap.size) (.int .i64 x.proto) (.slice x.ca x.cores.length x.cc) (.slice x.ha x.homes.length x.hc) (.slice x.ta x.tasks.length x.tc)
                replace bQ := bQ.turned PT (by simpa using neX.symm)
                replace ox := ox.farF PT (by intro q hq; simp at hq; subst hq; exact fxP)
                replace kx := kx.farF PT (by intro q hq; simp at hq; subst hq; exact fxP)
                replace oy := oy.farF PT (by intro q hq; simp at hq; subst hq; exact fyP)
                replace ky := ky.farF PT (by intro q hq; simp at hq; subst hq; exact fyP)
                replace hbv := hbv.trans (PT.below hbv.size (by intro q hq; simp at hq; subst hq; exact vP))
                clear bP
                have bP := PB
                clear PB PT
                obtain ⟨ut8, hut⟩ : ∃ u, put4 u14 (u13.heap.size) (.int .i64 x.proto) (.slice x.ca x.cores.length x.cc) (.slice x.ha x.homes.length x.hc) (.slice x.ta x.tasks.length x.tc) = u := ⟨_, rfl⟩
                rw [hut] at bP bQ ox kx oy ky hbv
                unfold put4 at hut
                refine wpAnyH_ready (rs := [8]) (by kernel_rfl) (by simp) ?_
                refine AllReadyH.cons rfl (fun K hK => ?_) AllReadyH.nil
                go_simp
                try rw [hut]
                clear hut f0 f1 f2 f3 z0 z1 z2 z3 hHeld
                refine hK.out _ _ ?_ (fun hHeld => ?_)
                · exact SB.out.keep (Keeps.of_below hbv)
                clear hK K
                try simp only [Act.put, List.setIfInBounds_toArray, List.set_cons_zero, List.set_cons_succ, List.getElem_toArray, List.getElem_cons_zero, List.getElem_cons_succ]
                obtain ⟨f0, f1, f2, f3⟩ := ZF4 bQ
                obtain ⟨z0, z1, z2, z3⟩ := Z4 bQ
                have PB := put4_bk bQ (v0 := .int .i64 y.proto) (v1 := .slice y.ca y.cores.length y.cc) (v2 := .slice y.ha y.homes.length y.hc) (v3 := .slice y.ta y.tasks.length y.tc)
                have PT := put4_turned ut8 (u1.heap.size) (.int .i64 y.proto) (.slice y.ca y.cores.length y.cc) (.slice y.ha y.homes.length y.hc) (.slice y.ta y.tasks.length y.tc)
                replace bP := bP.turned PT (by simpa using neX)
                replace ox := ox.farF PT (by intro q hq; simp at hq; subst hq; exact fxQ)
                replace kx := kx.farF PT (by intro q hq; simp at hq; subst hq; exact fxQ)
                replace oy := oy.farF PT (by intro q hq; simp at hq; subst hq; exact fyQ)
                replace ky := ky.farF PT (by intro q hq; simp at hq; subst hq; exact fyQ)
                replace hbv := hbv.trans (PT.below hbv.size (by intro q hq; simp at hq; subst hq; exact vQ))
                clear bQ
                have bQ := PB
                clear PB PT
                obtain ⟨ut9, hut⟩ : ∃ u, put4 ut8 (u1.heap.size) (.int .i64 y.proto) (.slice y.ca y.cores.length y.cc) (.slice y.ha y.homes.length y.hc) (.slice y.ta y.tasks.length y.tc) = u := ⟨_, rfl⟩
                rw [hut] at bP bQ ox kx oy ky hbv
                unfold put4 at hut
                refine wpAnyH_ready (rs := [9]) (by kernel_rfl) (by simp) ?_
                refine AllReadyH.cons rfl (fun K hK => ?_) AllReadyH.nil
                go_simp
                try rw [hut]
                clear hut f0 f1 f2 f3 z0 z1 z2 z3 hHeld
                refine hK.out _ _ ?_ (fun hHeld => ?_)
                · exact SB.out.keep (Keeps.of_below hbv)
                clear hK K
                try simp only [Act.put, List.setIfInBounds_toArray, List.set_cons_zero, List.set_cons_succ, List.getElem_toArray, List.getElem_cons_zero, List.getElem_cons_succ]
                refine wpAnyH_done (by kernel_rfl) ?_ _
                clear hHeld
                go_wp2_with fail
                go_meet
                exact ⟨_, _, x, y, _, rfl, rfl, ax, ay, ox, kx, oy, ky, hB2, xB, bP, bQ, fxP, fxQ, fyP, fyQ, neX, vP, vQ, hbv⟩
            · go_simp
              have fxP := ox.far (.inr (Nat.le_refl _))
              replace ox := ox.turned ((Turned.refl [] u12).alloc (.cells #[.int .i64 0, .slice none 0 0, .slice none 0 0, .slice none 0 0] 25)) (by simp)
              replace kx := kx.keep (Keeps.alloc _ (.cells #[.int .i64 0, .slice none 0 0, .slice none 0 0, .slice none 0 0] 25))
              have ne : u1.heap.size ≠ u12.heap.size := Nat.ne_of_lt bQ.lt
              replace bQ := bQ.alloc (.cells #[.int .i64 0, .slice none 0 0, .slice none 0 0, .slice none 0 0] 25)
              have bP := Bk.new u12 25 #[.int .i64 0, .slice none 0 0, .slice none 0 0, .slice none 0 0]
              have vP := hbv.size
              replace hbv := hbv.alloc hbv.size (.cells #[.int .i64 0, .slice none 0 0, .slice none 0 0, .slice none 0 0] 25)
              obtain ⟨u15, hu15⟩ : ∃ u, u12.alloc (.cells #[.int .i64 0, .slice none 0 0, .slice none 0 0, .slice none 0 0] 25) = u := ⟨_, rfl⟩
              rw [hu15] at bP hbv bQ ox kx ⊢
              clear hu15 hHeld
              refine hK.out _ _ ?_ (fun hHeld => ?_)
              · exact SB.out.keep (Keeps.of_below hbv)
              clear hK K
              try simp only [Act.put, List.setIfInBounds_toArray, List.set_cons_zero, List.set_cons_succ, List.getElem_toArray, List.getElem_cons_zero, List.getElem_cons_succ]
              refine wpAnyH_ready (rs := [5]) (by kernel_rfl) (by simp) ?_
              refine AllReadyH.cons rfl (fun K hK => ?_) AllReadyH.nil
              · go_simp
                refine (move_any O (wh : Int) _ (HS.out.keep (Keeps.of_below hbv)) HF.out HL.out HI.out).mono ?_
                rintro e u16 ⟨y, rfl, ay, oy, ky, hb2⟩
                have fyP := oy.far (.inl bP.lt)
                replace bP := bP.below hb2
                have fyQ := oy.far (.inl bQ.lt)
                replace bQ := bQ.below hb2
                have xB := ox.under
                have hB2 := hbv.size
                replace ox := ox.turned (Turned.of_below hb2 []) (by simp)
                replace kx := kx.keep (Keeps.of_below hb2)
                replace hbv := hbv.trans (hb2.mono hbv.size)
                clear hb2 hHeld
                go_wp2_with fail
                refine hK.out _ _ ?_ (fun hHeld => ?_)
                · exact SB.out.keep (Keeps.of_below hbv)
                clear hK K
                try simp only [Act.put, List.setIfInBounds_toArray, List.set_cons_zero, List.set_cons_succ, List.getElem_toArray, List.getElem_cons_zero, List.getElem_cons_succ]
                have neX : u12.heap.size ≠ u1.heap.size := by first | exact ne | exact ne.symm
                clear ne
                obtain ⟨f0, f1, f2, f3⟩ := ZF4 bP
                obtain ⟨z0, z1, z2, z3⟩ := Z4 bP
                have PB := put4_bk bP (v0 := .int .i64 x.proto) (v1 := .slice x.ca x.cores.length x.cc) (v2 := .slice x.ha x.homes.length x.hc) (v3 := .slice x.ta x.tasks.length x.tc)
                have PT := put4_turned u16 (u12.heap.size) (.int .i64 x.proto) (.slice x.ca x.cores.length x.cc) (.slice x.ha x.homes.length x.hc) (.slice x.ta x.tasks.length x.tc)
                replace bQ := bQ.turned PT (by simpa using neX.symm)
                replace ox := ox.farF PT (by intro q hq; simp at hq; subst hq; exact fxP)
                replace kx := kx.farF PT (by intro q hq; simp at hq; subst hq; exact fxP)
                replace oy := oy.farF PT (by intro q hq; simp at hq; subst hq; exact fyP)
                replace ky := ky.farF PT (by intro q hq; simp at hq; subst hq; exact fyP)
                replace hbv := hbv.trans (PT.below hbv.size (by intro q hq; simp at hq; subst hq; exact vP))
                clear bP
                have bP := PB
                clear PB PT
                obtain ⟨ut8, hut⟩ : ∃ u, put4 u16 (u12.heap.size) (.int .i64 x.proto) (.slice x.ca x.cores.length x.cc) (.slice x.ha x.homes.length x.hc) (.slice x.ta x.tasks.length x.tc) = u := ⟨_, rfl⟩
                rw [hut] at bP bQ ox kx oy ky hbv
                unfold put4 at hut
                refine wpAnyH_ready (rs := [8]) (by kernel_rfl) (by simp) ?_
                refine AllReadyH.cons rfl (fun K hK => ?_) AllReadyH.nil
                go_simp
                try rw [hut]
                clear hut f0 f1 f2 f3 z0 z1 z2 z3 hHeld
                refine hK.out _ _ ?_ (fun hHeld => ?_)
                · exact SB.out.keep (Keeps.of_below hbv)
                clear hK K
                try simp only [Act.put, List.setIfInBounds_toArray, List.set_cons_zero, List.set_cons_succ, List.getElem_toArray, List.getElem_cons_zero, List.getElem_cons_succ]
                obtain ⟨f0, f1, f2, f3⟩ := ZF4 bQ
                obtain ⟨z0, z1, z2, z3⟩ := Z4 bQ
                have PB := put4_bk bQ (v0 := .int .i64 y.proto) (v1 := .slice y.ca y.cores.length y.cc) (v2 := .slice y.ha y.homes.length y.hc) (v3 := .slice y.ta y.tasks.length y.tc)
                have PT := put4_turned ut8 (u1.heap.size) (.int .i64 y.proto) (.slice y.ca y.cores.length y.cc) (.slice y.ha y.homes.length y.hc) (.slice y.ta y.tasks.length y.tc)
                replace bP := bP.turned PT (by simpa using neX)
                replace ox := ox.farF PT (by intro q hq; simp at hq; subst hq; exact fxQ)
                replace kx := kx.farF PT (by intro q hq; simp at hq; subst hq; exact fxQ)
                replace oy := oy.farF PT (by intro q hq; simp at hq; subst hq; exact fyQ)
                replace ky := ky.farF PT (by intro q hq; simp at hq; subst hq; exact fyQ)
                replace hbv := hbv.trans (PT.below hbv.size (by intro q hq; simp at hq; subst hq; exact vQ))
                clear bQ
                have bQ := PB
                clear PB PT
                obtain ⟨ut9, hut⟩ : ∃ u, put4 ut8 (u1.heap.size) (.int .i64 y.proto) (.slice y.ca y.cores.length y.cc) (.slice y.ha y.homes.length y.hc) (.slice y.ta y.tasks.length y.tc) = u := ⟨_, rfl⟩
                rw [hut] at bP bQ ox kx oy ky hbv
                unfold put4 at hut
                refine wpAnyH_ready (rs := [9]) (by kernel_rfl) (by simp) ?_
                refine AllReadyH.cons rfl (fun K hK => ?_) AllReadyH.nil
                go_simp
                try rw [hut]
                clear hut f0 f1 f2 f3 z0 z1 z2 z3 hHeld
                refine hK.out _ _ ?_ (fun hHeld => ?_)
                · exact SB.out.keep (Keeps.of_below hbv)
                clear hK K
                try simp only [Act.put, List.setIfInBounds_toArray, List.set_cons_zero, List.set_cons_succ, List.getElem_toArray, List.getElem_cons_zero, List.getElem_cons_succ]
                refine wpAnyH_done (by kernel_rfl) ?_ _
                clear hHeld
                go_wp2_with fail
                go_meet
                exact ⟨_, _, x, y, _, rfl, rfl, ax, ay, ox, kx, oy, ky, hB2, xB, bP, bQ, fxP, fxQ, fyP, fyQ, neX, vP, vQ, hbv⟩
        · go_simp
          have bP := Bk.new vd 25 #[.int .i64 0, .slice none 0 0, .slice none 0 0, .slice none 0 0]
          have vP := hbv.size
          replace hbv := hbv.alloc hbv.size (.cells #[.int .i64 0, .slice none 0 0, .slice none 0 0, .slice none 0 0] 25)
          obtain ⟨u17, hu17⟩ : ∃ u, vd.alloc (.cells #[.int .i64 0, .slice none 0 0, .slice none 0 0, .slice none 0 0] 25) = u := ⟨_, rfl⟩
          rw [hu17] at bP hbv ⊢
          clear hu17 hHeld
          refine hK.out _ _ ?_ (fun hHeld => ?_)
          · exact SB.out.keep (Keeps.of_below hbv)
          clear hK K
          try simp only [Act.put, List.setIfInBounds_toArray, List.set_cons_zero, List.set_cons_succ, List.getElem_toArray, List.getElem_cons_zero, List.getElem_cons_succ]
          refine wpAnyH_ready (rs := [1, 7]) (by kernel_rfl) (by simp) ?_
          refine AllReadyH.cons rfl (fun K hK => ?_) (AllReadyH.cons rfl (fun K hK => ?_) AllReadyH.nil)
          · go_simp
            refine (canon_any O _ (HS.out.keep (Keeps.of_below hbv)) HF.out HL.out).mono ?_
            rintro e u18 ⟨x, rfl, ax, ox, kx, hb2⟩
            have fxP := ox.far (.inl bP.lt)
            replace bP := bP.below hb2
            replace ox := ox.low hbv.size
            replace hbv := hbv.trans (hb2.mono hbv.size)
            clear hb2 hHeld
            go_wp2_with fail
            refine hK.out _ _ ?_ (fun hHeld => ?_)
            · exact SB.out.keep (Keeps.of_below hbv)
            clear hK K
            try simp only [Act.put, List.setIfInBounds_toArray, List.set_cons_zero, List.set_cons_succ, List.getElem_toArray, List.getElem_cons_zero, List.getElem_cons_succ]
            refine wpAnyH_ready (rs := [5, 7]) (by kernel_rfl) (by simp) ?_
            refine AllReadyH.cons rfl (fun K hK => ?_) (AllReadyH.cons rfl (fun K hK => ?_) AllReadyH.nil)
            · go_simp
              refine (move_any O (wh : Int) _ (HS.out.keep (Keeps.of_below hbv)) HF.out HL.out HI.out).mono ?_
              rintro e u19 ⟨y, rfl, ay, oy, ky, hb2⟩
              have fyP := oy.far (.inl bP.lt)
              replace bP := bP.below hb2
              have xB := ox.under
              have hB2 := hbv.size
              replace ox := ox.turned (Turned.of_below hb2 []) (by simp)
              replace kx := kx.keep (Keeps.of_below hb2)
              replace hbv := hbv.trans (hb2.mono hbv.size)
              clear hb2 hHeld
              go_wp2_with fail
              refine hK.out _ _ ?_ (fun hHeld => ?_)
              · exact SB.out.keep (Keeps.of_below hbv)
              clear hK K
              try simp only [Act.put, List.setIfInBounds_toArray, List.set_cons_zero, List.set_cons_succ, List.getElem_toArray, List.getElem_cons_zero, List.getElem_cons_succ]
              refine wpAnyH_ready (rs := [7]) (by kernel_rfl) (by simp) ?_
              refine AllReadyH.cons rfl (fun K hK => ?_) AllReadyH.nil
              · go_simp
                have fxQ := ox.far (.inr (Nat.le_refl _))
                replace ox := ox.turned ((Turned.refl [] u19).alloc (.cells #[.int .i64 0, .slice none 0 0, .slice none 0 0, .slice none 0 0] 25)) (by simp)
                replace kx := kx.keep (Keeps.alloc _ (.cells #[.int .i64 0, .slice none 0 0, .slice none 0 0, .slice none 0 0] 25))
                have fyQ := oy.far (.inr (Nat.le_refl _))
                replace oy := oy.turned ((Turned.refl [] u19).alloc (.cells #[.int .i64 0, .slice none 0 0, .slice none 0 0, .slice none 0 0] 25)) (by simp)
                replace ky := ky.keep (Keeps.alloc _ (.cells #[.int .i64 0, .slice none 0 0, .slice none 0 0, .slice none 0 0] 25))
                have ne : vd.heap.size ≠ u19.heap.size := Nat.ne_of_lt bP.lt
                replace bP := bP.alloc (.cells #[.int .i64 0, .slice none 0 0, .slice none 0 0, .slice none 0 0] 25)
                have bQ := Bk.new u19 25 #[.int .i64 0, .slice none 0 0, .slice none 0 0, .slice none 0 0]
                have vQ := hbv.size
                replace hbv := hbv.alloc hbv.size (.cells #[.int .i64 0, .slice none 0 0, .slice none 0 0, .slice none 0 0] 25)
                obtain ⟨u20, hu20⟩ : ∃ u, u19.alloc (.cells #[.int .i64 0, .slice none 0 0, .slice none 0 0, .slice none 0 0] 25) = u := ⟨_, rfl⟩
                rw [hu20] at bQ hbv bP ox kx oy ky ⊢
                clear hu20 hHeld
                refine hK.out _ _ ?_ (fun hHeld => ?_)
                · exact SB.out.keep (Keeps.of_below hbv)
                clear hK K
                try simp only [Act.put, List.setIfInBounds_toArray, List.set_cons_zero, List.set_cons_succ, List.getElem_toArray, List.getElem_cons_zero, List.getElem_cons_succ]
                have neX : vd.heap.size ≠ u19.heap.size := by first | exact ne | exact ne.symm
                clear ne
                obtain ⟨f0, f1, f2, f3⟩ := ZF4 bP
                obtain ⟨z0, z1, z2, z3⟩ := Z4 bP
                have PB := put4_bk bP (v0 := .int .i64 x.proto) (v1 := .slice x.ca x.cores.length x.cc) (v2 := .slice x.ha x.homes.length x.hc) (v3 := .slice x.ta x.tasks.length x.tc)
                have PT := put4_turned u20 (vd.heap.size) (.int .i64 x.proto) (.slice x.ca x.cores.length x.cc) (.slice x.ha x.homes.length x.hc) (.slice x.ta x.tasks.length x.tc)
                replace bQ := bQ.turned PT (by simpa using neX.symm)
                replace ox := ox.farF PT (by intro q hq; simp at hq; subst hq; exact fxP)
                replace kx := kx.farF PT (by intro q hq; simp at hq; subst hq; exact fxP)
                replace oy := oy.farF PT (by intro q hq; simp at hq; subst hq; exact fyP)
                replace ky := ky.farF PT (by intro q hq; simp at hq; subst hq; exact fyP)
                replace hbv := hbv.trans (PT.below hbv.size (by intro q hq; simp at hq; subst hq; exact vP))
                clear bP
                have bP := PB
                clear PB PT
                obtain ⟨ut8, hut⟩ : ∃ u, put4 u20 (vd.heap.size) (.int .i64 x.proto) (.slice x.ca x.cores.length x.cc) (.slice x.ha x.homes.length x.hc) (.slice x.ta x.tasks.length x.tc) = u := ⟨_, rfl⟩
                rw [hut] at bP bQ ox kx oy ky hbv
                unfold put4 at hut
                refine wpAnyH_ready (rs := [8]) (by kernel_rfl) (by simp) ?_
                refine AllReadyH.cons rfl (fun K hK => ?_) AllReadyH.nil
                go_simp
                try rw [hut]
                clear hut f0 f1 f2 f3 z0 z1 z2 z3 hHeld
                refine hK.out _ _ ?_ (fun hHeld => ?_)
                · exact SB.out.keep (Keeps.of_below hbv)
                clear hK K
                try simp only [Act.put, List.setIfInBounds_toArray, List.set_cons_zero, List.set_cons_succ, List.getElem_toArray, List.getElem_cons_zero, List.getElem_cons_succ]
                obtain ⟨f0, f1, f2, f3⟩ := ZF4 bQ
                obtain ⟨z0, z1, z2, z3⟩ := Z4 bQ
                have PB := put4_bk bQ (v0 := .int .i64 y.proto) (v1 := .slice y.ca y.cores.length y.cc) (v2 := .slice y.ha y.homes.length y.hc) (v3 := .slice y.ta y.tasks.length y.tc)
                have PT := put4_turned ut8 (u19.heap.size) (.int .i64 y.proto) (.slice y.ca y.cores.length y.cc) (.slice y.ha y.homes.length y.hc) (.slice y.ta y.tasks.length y.tc)
                replace bP := bP.turned PT (by simpa using neX)
                replace ox := ox.farF PT (by intro q hq; simp at hq; subst hq; exact fxQ)
                replace kx := kx.farF PT (by intro q hq; simp at hq; subst hq; exact fxQ)
                replace oy := oy.farF PT (by intro q hq; simp at hq; subst hq; exact fyQ)
                replace ky := ky.farF PT (by intro q hq; simp at hq; subst hq; exact fyQ)
                replace hbv := hbv.trans (PT.below hbv.size (by intro q hq; simp at hq; subst hq; exact vQ))
                clear bQ
                have bQ := PB
                clear PB PT
                obtain ⟨ut9, hut⟩ : ∃ u, put4 ut8 (u19.heap.size) (.int .i64 y.proto) (.slice y.ca y.cores.length y.cc) (.slice y.ha y.homes.length y.hc) (.slice y.ta y.tasks.length y.tc) = u := ⟨_, rfl⟩
                rw [hut] at bP bQ ox kx oy ky hbv
                unfold put4 at hut
                refine wpAnyH_ready (rs := [9]) (by kernel_rfl) (by simp) ?_
                refine AllReadyH.cons rfl (fun K hK => ?_) AllReadyH.nil
                go_simp
                try rw [hut]
                clear hut f0 f1 f2 f3 z0 z1 z2 z3 hHeld
                refine hK.out _ _ ?_ (fun hHeld => ?_)
                · exact SB.out.keep (Keeps.of_below hbv)
                clear hK K
                try simp only [Act.put, List.setIfInBounds_toArray, List.set_cons_zero, List.set_cons_succ, List.getElem_toArray, List.getElem_cons_zero, List.getElem_cons_succ]
                refine wpAnyH_done (by kernel_rfl) ?_ _
                clear hHeld
                go_wp2_with fail
                go_meet
                exact ⟨_, _, x, y, _, rfl, rfl, ax, ay, ox, kx, oy, ky, hB2, xB, bP, bQ, fxP, fxQ, fyP, fyQ, neX, vP, vQ, hbv⟩
            · go_simp
              have fxQ := ox.far (.inr (Nat.le_refl _))
              replace ox := ox.turned ((Turned.refl [] u18).alloc (.cells #[.int .i64 0, .slice none 0 0, .slice none 0 0, .slice none 0 0] 25)) (by simp)
              replace kx := kx.keep (Keeps.alloc _ (.cells #[.int .i64 0, .slice none 0 0, .slice none 0 0, .slice none 0 0] 25))
              have ne : vd.heap.size ≠ u18.heap.size := Nat.ne_of_lt bP.lt
              replace bP := bP.alloc (.cells #[.int .i64 0, .slice none 0 0, .slice none 0 0, .slice none 0 0] 25)
              have bQ := Bk.new u18 25 #[.int .i64 0, .slice none 0 0, .slice none 0 0, .slice none 0 0]
              have vQ := hbv.size
              replace hbv := hbv.alloc hbv.size (.cells #[.int .i64 0, .slice none 0 0, .slice none 0 0, .slice none 0 0] 25)
              obtain ⟨u21, hu21⟩ : ∃ u, u18.alloc (.cells #[.int .i64 0, .slice none 0 0, .slice none 0 0, .slice none 0 0] 25) = u := ⟨_, rfl⟩
              rw [hu21] at bQ hbv bP ox kx ⊢
              clear hu21 hHeld
              refine hK.out _ _ ?_ (fun hHeld => ?_)
              · exact SB.out.keep (Keeps.of_below hbv)
              clear hK K
              try simp only [Act.put, List.setIfInBounds_toArray, List.set_cons_zero, List.set_cons_succ, List.getElem_toArray, List.getElem_cons_zero, List.getElem_cons_succ]
              refine wpAnyH_ready (rs := [5]) (by kernel_rfl) (by simp) ?_
              refine AllReadyH.cons rfl (fun K hK => ?_) AllReadyH.nil
              · go_simp
                refine (move_any O (wh : Int) _ (HS.out.keep (Keeps.of_below hbv)) HF.out HL.out HI.out).mono ?_
                rintro e u22 ⟨y, rfl, ay, oy, ky, hb2⟩
                have fyP := oy.far (.inl bP.lt)
                replace bP := bP.below hb2
                have fyQ := oy.far (.inl bQ.lt)
                replace bQ := bQ.below hb2
                have xB := ox.under
                have hB2 := hbv.size
                replace ox := ox.turned (Turned.of_below hb2 []) (by simp)
                replace kx := kx.keep (Keeps.of_below hb2)
                replace hbv := hbv.trans (hb2.mono hbv.size)
                clear hb2 hHeld
                go_wp2_with fail
                refine hK.out _ _ ?_ (fun hHeld => ?_)
                · exact SB.out.keep (Keeps.of_below hbv)
                clear hK K
                try simp only [Act.put, List.setIfInBounds_toArray, List.set_cons_zero, List.set_cons_succ, List.getElem_toArray, List.getElem_cons_zero, List.getElem_cons_succ]
                have neX : vd.heap.size ≠ u18.heap.size := by first | exact ne | exact ne.symm
                clear ne
                obtain ⟨f0, f1, f2, f3⟩ := ZF4 bP
                obtain ⟨z0, z1, z2, z3⟩ := Z4 bP
                have PB := put4_bk bP (v0 := .int .i64 x.proto) (v1 := .slice x.ca x.cores.length x.cc) (v2 := .slice x.ha x.homes.length x.hc) (v3 := .slice x.ta x.tasks.length x.tc)
                have PT := put4_turned u22 (vd.heap.size) (.int .i64 x.proto) (.slice x.ca x.cores.length x.cc) (.slice x.ha x.homes.length x.hc) (.slice x.ta x.tasks.length x.tc)
                replace bQ := bQ.turned PT (by simpa using neX.symm)
                replace ox := ox.farF PT (by intro q hq; simp at hq; subst hq; exact fxP)
                replace kx := kx.farF PT (by intro q hq; simp at hq; subst hq; exact fxP)
                replace oy := oy.farF PT (by intro q hq; simp at hq; subst hq; exact fyP)
                replace ky := ky.farF PT (by intro q hq; simp at hq; subst hq; exact fyP)
                replace hbv := hbv.trans (PT.below hbv.size (by intro q hq; simp at hq; subst hq; exact vP))
                clear bP
                have bP := PB
                clear PB PT
                obtain ⟨ut8, hut⟩ : ∃ u, put4 u22 (vd.heap.size) (.int .i64 x.proto) (.slice x.ca x.cores.length x.cc) (.slice x.ha x.homes.length x.hc) (.slice x.ta x.tasks.length x.tc) = u := ⟨_, rfl⟩
                rw [hut] at bP bQ ox kx oy ky hbv
                unfold put4 at hut
                refine wpAnyH_ready (rs := [8]) (by kernel_rfl) (by simp) ?_
                refine AllReadyH.cons rfl (fun K hK => ?_) AllReadyH.nil
                go_simp
                try rw [hut]
                clear hut f0 f1 f2 f3 z0 z1 z2 z3 hHeld
                refine hK.out _ _ ?_ (fun hHeld => ?_)
                · exact SB.out.keep (Keeps.of_below hbv)
                clear hK K
                try simp only [Act.put, List.setIfInBounds_toArray, List.set_cons_zero, List.set_cons_succ, List.getElem_toArray, List.getElem_cons_zero, List.getElem_cons_succ]
                obtain ⟨f0, f1, f2, f3⟩ := ZF4 bQ
                obtain ⟨z0, z1, z2, z3⟩ := Z4 bQ
                have PB := put4_bk bQ (v0 := .int .i64 y.proto) (v1 := .slice y.ca y.cores.length y.cc) (v2 := .slice y.ha y.homes.length y.hc) (v3 := .slice y.ta y.tasks.length y.tc)
                have PT := put4_turned ut8 (u18.heap.size) (.int .i64 y.proto) (.slice y.ca y.cores.length y.cc) (.slice y.ha y.homes.length y.hc) (.slice y.ta y.tasks.length y.tc)
                replace bP := bP.turned PT (by simpa using neX)
                replace ox := ox.farF PT (by intro q hq; simp at hq; subst hq; exact fxQ)
                replace kx := kx.farF PT (by intro q hq; simp at hq; subst hq; exact fxQ)
                replace oy := oy.farF PT (by intro q hq; simp at hq; subst hq; exact fyQ)
                replace ky := ky.farF PT (by intro q hq; simp at hq; subst hq; exact fyQ)
                replace hbv := hbv.trans (PT.below hbv.size (by intro q hq; simp at hq; subst hq; exact vQ))
                clear bQ
                have bQ := PB
                clear PB PT
                obtain ⟨ut9, hut⟩ : ∃ u, put4 ut8 (u18.heap.size) (.int .i64 y.proto) (.slice y.ca y.cores.length y.cc) (.slice y.ha y.homes.length y.hc) (.slice y.ta y.tasks.length y.tc) = u := ⟨_, rfl⟩
                rw [hut] at bP bQ ox kx oy ky hbv
                unfold put4 at hut
                refine wpAnyH_ready (rs := [9]) (by kernel_rfl) (by simp) ?_
                refine AllReadyH.cons rfl (fun K hK => ?_) AllReadyH.nil
                go_simp
                try rw [hut]
                clear hut f0 f1 f2 f3 z0 z1 z2 z3 hHeld
                refine hK.out _ _ ?_ (fun hHeld => ?_)
                · exact SB.out.keep (Keeps.of_below hbv)
                clear hK K
                try simp only [Act.put, List.setIfInBounds_toArray, List.set_cons_zero, List.set_cons_succ, List.getElem_toArray, List.getElem_cons_zero, List.getElem_cons_succ]
                refine wpAnyH_done (by kernel_rfl) ?_ _
                clear hHeld
                go_wp2_with fail
                go_meet
                exact ⟨_, _, x, y, _, rfl, rfl, ax, ay, ox, kx, oy, ky, hB2, xB, bP, bQ, fxP, fxQ, fyP, fyQ, neX, vP, vQ, hbv⟩
          · go_simp
            have ne : vd.heap.size ≠ u17.heap.size := Nat.ne_of_lt bP.lt
            replace bP := bP.alloc (.cells #[.int .i64 0, .slice none 0 0, .slice none 0 0, .slice none 0 0] 25)
            have bQ := Bk.new u17 25 #[.int .i64 0, .slice none 0 0, .slice none 0 0, .slice none 0 0]
            have vQ := hbv.size
            replace hbv := hbv.alloc hbv.size (.cells #[.int .i64 0, .slice none 0 0, .slice none 0 0, .slice none 0 0] 25)
            obtain ⟨u23, hu23⟩ : ∃ u, u17.alloc (.cells #[.int .i64 0, .slice none 0 0, .slice none 0 0, .slice none 0 0] 25) = u := ⟨_, rfl⟩
            rw [hu23] at bQ hbv bP ⊢
            clear hu23 hHeld
            refine hK.out _ _ ?_ (fun hHeld => ?_)
            · exact SB.out.keep (Keeps.of_below hbv)
            clear hK K
            try simp only [Act.put, List.setIfInBounds_toArray, List.set_cons_zero, List.set_cons_succ, List.getElem_toArray, List.getElem_cons_zero, List.getElem_cons_succ]
            refine wpAnyH_ready (rs := [1]) (by kernel_rfl) (by simp) ?_
            refine AllReadyH.cons rfl (fun K hK => ?_) AllReadyH.nil
            · go_simp
              refine (canon_any O _ (HS.out.keep (Keeps.of_below hbv)) HF.out HL.out).mono ?_
              rintro e u24 ⟨x, rfl, ax, ox, kx, hb2⟩
              have fxP := ox.far (.inl bP.lt)
              replace bP := bP.below hb2
              have fxQ := ox.far (.inl bQ.lt)
              replace bQ := bQ.below hb2
              replace ox := ox.low hbv.size
              replace hbv := hbv.trans (hb2.mono hbv.size)
              clear hb2 hHeld
              go_wp2_with fail
              refine hK.out _ _ ?_ (fun hHeld => ?_)
              · exact SB.out.keep (Keeps.of_below hbv)
              clear hK K
              try simp only [Act.put, List.setIfInBounds_toArray, List.set_cons_zero, List.set_cons_succ, List.getElem_toArray, List.getElem_cons_zero, List.getElem_cons_succ]
              refine wpAnyH_ready (rs := [5]) (by kernel_rfl) (by simp) ?_
              refine AllReadyH.cons rfl (fun K hK => ?_) AllReadyH.nil
              · go_simp
                refine (move_any O (wh : Int) _ (HS.out.keep (Keeps.of_below hbv)) HF.out HL.out HI.out).mono ?_
                rintro e u25 ⟨y, rfl, ay, oy, ky, hb2⟩
                have fyP := oy.far (.inl bP.lt)
                replace bP := bP.below hb2
                have fyQ := oy.far (.inl bQ.lt)
                replace bQ := bQ.below hb2
                have xB := ox.under
                have hB2 := hbv.size
                replace ox := ox.turned (Turned.of_below hb2 []) (by simp)
                replace kx := kx.keep (Keeps.of_below hb2)
                replace hbv := hbv.trans (hb2.mono hbv.size)
                clear hb2 hHeld
                go_wp2_with fail
                refine hK.out _ _ ?_ (fun hHeld => ?_)
                · exact SB.out.keep (Keeps.of_below hbv)
                clear hK K
                try simp only [Act.put, List.setIfInBounds_toArray, List.set_cons_zero, List.set_cons_succ, List.getElem_toArray, List.getElem_cons_zero, List.getElem_cons_succ]
                have neX : vd.heap.size ≠ u17.heap.size := by first | exact ne | exact ne.symm
                clear ne
                obtain ⟨f0, f1, f2, f3⟩ := ZF4 bP
                obtain ⟨z0, z1, z2, z3⟩ := Z4 bP
                have PB := put4_bk bP (v0 := .int .i64 x.proto) (v1 := .slice x.ca x.cores.length x.cc) (v2 := .slice x.ha x.homes.length x.hc) (v3 := .slice x.ta x.tasks.length x.tc)
                have PT := put4_turned u25 (vd.heap.size) (.int .i64 x.proto) (.slice x.ca x.cores.length x.cc) (.slice x.ha x.homes.length x.hc) (.slice x.ta x.tasks.length x.tc)
                replace bQ := bQ.turned PT (by simpa using neX.symm)
                replace ox := ox.farF PT (by intro q hq; simp at hq; subst hq; exact fxP)
                replace kx := kx.farF PT (by intro q hq; simp at hq; subst hq; exact fxP)
                replace oy := oy.farF PT (by intro q hq; simp at hq; subst hq; exact fyP)
                replace ky := ky.farF PT (by intro q hq; simp at hq; subst hq; exact fyP)
                replace hbv := hbv.trans (PT.below hbv.size (by intro q hq; simp at hq; subst hq; exact vP))
                clear bP
                have bP := PB
                clear PB PT
                obtain ⟨ut8, hut⟩ : ∃ u, put4 u25 (vd.heap.size) (.int .i64 x.proto) (.slice x.ca x.cores.length x.cc) (.slice x.ha x.homes.length x.hc) (.slice x.ta x.tasks.length x.tc) = u := ⟨_, rfl⟩
                rw [hut] at bP bQ ox kx oy ky hbv
                unfold put4 at hut
                refine wpAnyH_ready (rs := [8]) (by kernel_rfl) (by simp) ?_
                refine AllReadyH.cons rfl (fun K hK => ?_) AllReadyH.nil
                go_simp
                try rw [hut]
                clear hut f0 f1 f2 f3 z0 z1 z2 z3 hHeld
                refine hK.out _ _ ?_ (fun hHeld => ?_)
                · exact SB.out.keep (Keeps.of_below hbv)
                clear hK K
                try simp only [Act.put, List.setIfInBounds_toArray, List.set_cons_zero, List.set_cons_succ, List.getElem_toArray, List.getElem_cons_zero, List.getElem_cons_succ]
                obtain ⟨f0, f1, f2, f3⟩ := ZF4 bQ
                obtain ⟨z0, z1, z2, z3⟩ := Z4 bQ
                have PB := put4_bk bQ (v0 := .int .i64 y.proto) (v1 := .slice y.ca y.cores.length y.cc) (v2 := .slice y.ha y.homes.length y.hc) (v3 := .slice y.ta y.tasks.length y.tc)
                have PT := put4_turned ut8 (u17.heap.size) (.int .i64 y.proto) (.slice y.ca y.cores.length y.cc) (.slice y.ha y.homes.length y.hc) (.slice y.ta y.tasks.length y.tc)
                replace bP := bP.turned PT (by simpa using neX)
                replace ox := ox.farF PT (by intro q hq; simp at hq; subst hq; exact fxQ)
                replace kx := kx.farF PT (by intro q hq; simp at hq; subst hq; exact fxQ)
                replace oy := oy.farF PT (by intro q hq; simp at hq; subst hq; exact fyQ)
                replace ky := ky.farF PT (by intro q hq; simp at hq; subst hq; exact fyQ)
                replace hbv := hbv.trans (PT.below hbv.size (by intro q hq; simp at hq; subst hq; exact vQ))
                clear bQ
                have bQ := PB
                clear PB PT
                obtain ⟨ut9, hut⟩ : ∃ u, put4 ut8 (u17.heap.size) (.int .i64 y.proto) (.slice y.ca y.cores.length y.cc) (.slice y.ha y.homes.length y.hc) (.slice y.ta y.tasks.length y.tc) = u := ⟨_, rfl⟩
                rw [hut] at bP bQ ox kx oy ky hbv
                unfold put4 at hut
                refine wpAnyH_ready (rs := [9]) (by kernel_rfl) (by simp) ?_
                refine AllReadyH.cons rfl (fun K hK => ?_) AllReadyH.nil
                go_simp
                try rw [hut]
                clear hut f0 f1 f2 f3 z0 z1 z2 z3 hHeld
                refine hK.out _ _ ?_ (fun hHeld => ?_)
                · exact SB.out.keep (Keeps.of_below hbv)
                clear hK K
                try simp only [Act.put, List.setIfInBounds_toArray, List.set_cons_zero, List.set_cons_succ, List.getElem_toArray, List.getElem_cons_zero, List.getElem_cons_succ]
                refine wpAnyH_done (by kernel_rfl) ?_ _
                clear hHeld
                go_wp2_with fail
                go_meet
                exact ⟨_, _, x, y, _, rfl, rfl, ax, ay, ox, kx, oy, ky, hB2, xB, bP, bQ, fxP, fxQ, fyP, fyQ, neX, vP, vQ, hbv⟩
        · go_simp
          have bQ := Bk.new vd 25 #[.int .i64 0, .slice none 0 0, .slice none 0 0, .slice none 0 0]
          have vQ := hbv.size
          replace hbv := hbv.alloc hbv.size (.cells #[.int .i64 0, .slice none 0 0, .slice none 0 0, .slice none 0 0] 25)
          obtain ⟨u26, hu26⟩ : ∃ u, vd.alloc (.cells #[.int .i64 0, .slice none 0 0, .slice none 0 0, .slice none 0 0] 25) = u := ⟨_, rfl⟩
          rw [hu26] at bQ hbv ⊢
          clear hu26 hHeld
          refine hK.out _ _ ?_ (fun hHeld => ?_)
          · exact SB.out.keep (Keeps.of_below hbv)
          clear hK K
          try simp only [Act.put, List.setIfInBounds_toArray, List.set_cons_zero, List.set_cons_succ, List.getElem_toArray, List.getElem_cons_zero, List.getElem_cons_succ]
          refine wpAnyH_ready (rs := [1, 6]) (by kernel_rfl) (by simp) ?_
          refine AllReadyH.cons rfl (fun K hK => ?_) (AllReadyH.cons rfl (fun K hK => ?_) AllReadyH.nil)
          · go_simp
            refine (canon_any O _ (HS.out.keep (Keeps.of_below hbv)) HF.out HL.out).mono ?_
            rintro e u27 ⟨x, rfl, ax, ox, kx, hb2⟩
            have fxQ := ox.far (.inl bQ.lt)
            replace bQ := bQ.below hb2
            replace ox := ox.low hbv.size
            replace hbv := hbv.trans (hb2.mono hbv.size)
            clear hb2 hHeld
            go_wp2_with fail
            refine hK.out _ _ ?_ (fun hHeld => ?_)
            · exact SB.out.keep (Keeps.of_below hbv)
            clear hK K
            try simp only [Act.put, List.setIfInBounds_toArray, List.set_cons_zero, List.set_cons_succ, List.getElem_toArray, List.getElem_cons_zero, List.getElem_cons_succ]
            refine wpAnyH_ready (rs := [5, 6]) (by kernel_rfl) (by simp) ?_
            refine AllReadyH.cons rfl (fun K hK => ?_) (AllReadyH.cons rfl (fun K hK => ?_) AllReadyH.nil)
            · go_simp
              refine (move_any O (wh : Int) _ (HS.out.keep (Keeps.of_below hbv)) HF.out HL.out HI.out).mono ?_
              rintro e u28 ⟨y, rfl, ay, oy, ky, hb2⟩
              have fyQ := oy.far (.inl bQ.lt)
              replace bQ := bQ.below hb2
              have xB := ox.under
              have hB2 := hbv.size
              replace ox := ox.turned (Turned.of_below hb2 []) (by simp)
              replace kx := kx.keep (Keeps.of_below hb2)
              replace hbv := hbv.trans (hb2.mono hbv.size)
              clear hb2 hHeld
              go_wp2_with fail
              refine hK.out _ _ ?_ (fun hHeld => ?_)
              · exact SB.out.keep (Keeps.of_below hbv)
              clear hK K
              try simp only [Act.put, List.setIfInBounds_toArray, List.set_cons_zero, List.set_cons_succ, List.getElem_toArray, List.getElem_cons_zero, List.getElem_cons_succ]
              refine wpAnyH_ready (rs := [6]) (by kernel_rfl) (by simp) ?_
              refine AllReadyH.cons rfl (fun K hK => ?_) AllReadyH.nil
              · go_simp
                have fxP := ox.far (.inr (Nat.le_refl _))
                replace ox := ox.turned ((Turned.refl [] u28).alloc (.cells #[.int .i64 0, .slice none 0 0, .slice none 0 0, .slice none 0 0] 25)) (by simp)
                replace kx := kx.keep (Keeps.alloc _ (.cells #[.int .i64 0, .slice none 0 0, .slice none 0 0, .slice none 0 0] 25))
                have fyP := oy.far (.inr (Nat.le_refl _))
                replace oy := oy.turned ((Turned.refl [] u28).alloc (.cells #[.int .i64 0, .slice none 0 0, .slice none 0 0, .slice none 0 0] 25)) (by simp)
                replace ky := ky.keep (Keeps.alloc _ (.cells #[.int .i64 0, .slice none 0 0, .slice none 0 0, .slice none 0 0] 25))
                have ne : vd.heap.size ≠ u28.heap.size := Nat.ne_of_lt bQ.lt
                replace bQ := bQ.alloc (.cells #[.int .i64 0, .slice none 0 0, .slice none 0 0, .slice none 0 0] 25)
                have bP := Bk.new u28 25 #[.int .i64 0, .slice none 0 0, .slice none 0 0, .slice none 0 0]
                have vP := hbv.size
                replace hbv := hbv.alloc hbv.size (.cells #[.int .i64 0, .slice none 0 0, .slice none 0 0, .slice none 0 0] 25)
                obtain ⟨u29, hu29⟩ : ∃ u, u28.alloc (.cells #[.int .i64 0, .slice none 0 0, .slice none 0 0, .slice none 0 0] 25) = u := ⟨_, rfl⟩
                rw [hu29] at bP hbv bQ ox kx oy ky ⊢
                clear hu29 hHeld
                refine hK.out _ _ ?_ (fun hHeld => ?_)
                · exact SB.out.keep (Keeps.of_below hbv)
                clear hK K
                try simp only [Act.put, List.setIfInBounds_toArray, List.set_cons_zero, List.set_cons_succ, List.getElem_toArray, List.getElem_cons_zero, List.getElem_cons_succ]
                have neX : u28.heap.size ≠ vd.heap.size := by first | exact ne | exact ne.symm
                clear ne
                obtain ⟨f0, f1, f2, f3⟩ := ZF4 bP
                obtain ⟨z0, z1, z2, z3⟩ := Z4 bP
                have PB := put4_bk bP (v0 := .int .i64 x.proto) (v1 := .slice x.ca x.cores.length x.cc) (v2 := .slice x.ha x.homes.length x.hc) (v3 := .slice x.ta x.tasks.length x.tc)
                have PT := put4_turned u29 (u28.heap.size) (.int .i64 x.proto) (.slice x.ca x.cores.length x.cc) (.slice x.ha x.homes.length x.hc) (.slice x.ta x.tasks.length x.tc)
                replace bQ := bQ.turned PT (by simpa using neX.symm)
                replace ox := ox.farF PT (by intro q hq; simp at hq; subst hq; exact fxP)
                replace kx := kx.farF PT (by intro q hq; simp at hq; subst hq; exact fxP)
                replace oy := oy.farF PT (by intro q hq; simp at hq; subst hq; exact fyP)
                replace ky := ky.farF PT (by intro q hq; simp at hq; subst hq; exact fyP)
                replace hbv := hbv.trans (PT.below hbv.size (by intro q hq; simp at hq; subst hq; exact vP))
                clear bP
                have bP := PB
                clear PB PT
                obtain ⟨ut8, hut⟩ : ∃ u, put4 u29 (u28.heap.size) (.int .i64 x.proto) (.slice x.ca x.cores.length x.cc) (.slice x.ha x.homes.length x.hc) (.slice x.ta x.tasks.length x.tc) = u := ⟨_, rfl⟩
                rw [hut] at bP bQ ox kx oy ky hbv
                unfold put4 at hut
                refine wpAnyH_ready (rs := [8]) (by kernel_rfl) (by simp) ?_
                refine AllReadyH.cons rfl (fun K hK => ?_) AllReadyH.nil
                go_simp
                try rw [hut]
                clear hut f0 f1 f2 f3 z0 z1 z2 z3 hHeld
                refine hK.out _ _ ?_ (fun hHeld => ?_)
                · exact SB.out.keep (Keeps.of_below hbv)
                clear hK K
                try simp only [Act.put, List.setIfInBounds_toArray, List.set_cons_zero, List.set_cons_succ, List.getElem_toArray, List.getElem_cons_zero, List.getElem_cons_succ]
                obtain ⟨f0, f1, f2, f3⟩ := ZF4 bQ
                obtain ⟨z0, z1, z2, z3⟩ := Z4 bQ
                have PB := put4_bk bQ (v0 := .int .i64 y.proto) (v1 := .slice y.ca y.cores.length y.cc) (v2 := .slice y.ha y.homes.length y.hc) (v3 := .slice y.ta y.tasks.length y.tc)
                have PT := put4_turned ut8 (vd.heap.size) (.int .i64 y.proto) (.slice y.ca y.cores.length y.cc) (.slice y.ha y.homes.length y.hc) (.slice y.ta y.tasks.length y.tc)
                replace bP := bP.turned PT (by simpa using neX)
                replace ox := ox.farF PT (by intro q hq; simp at hq; subst hq; exact fxQ)
                replace kx := kx.farF PT (by intro q hq; simp at hq; subst hq; exact fxQ)
                replace oy := oy.farF PT (by intro q hq; simp at hq; subst hq; exact fyQ)
                replace ky := ky.farF PT (by intro q hq; simp at hq; subst hq; exact fyQ)
                replace hbv := hbv.trans (PT.below hbv.size (by intro q hq; simp at hq; subst hq; exact vQ))
                clear bQ
                have bQ := PB
                clear PB PT
                obtain ⟨ut9, hut⟩ : ∃ u, put4 ut8 (vd.heap.size) (.int .i64 y.proto) (.slice y.ca y.cores.length y.cc) (.slice y.ha y.homes.length y.hc) (.slice y.ta y.tasks.length y.tc) = u := ⟨_, rfl⟩
                rw [hut] at bP bQ ox kx oy ky hbv
                unfold put4 at hut
                refine wpAnyH_ready (rs := [9]) (by kernel_rfl) (by simp) ?_
                refine AllReadyH.cons rfl (fun K hK => ?_) AllReadyH.nil
                go_simp
                try rw [hut]
                clear hut f0 f1 f2 f3 z0 z1 z2 z3 hHeld
                refine hK.out _ _ ?_ (fun hHeld => ?_)
                · exact SB.out.keep (Keeps.of_below hbv)
                clear hK K
                try simp only [Act.put, List.setIfInBounds_toArray, List.set_cons_zero, List.set_cons_succ, List.getElem_toArray, List.getElem_cons_zero, List.getElem_cons_succ]
                refine wpAnyH_done (by kernel_rfl) ?_ _
                clear hHeld
                go_wp2_with fail
                go_meet
                exact ⟨_, _, x, y, _, rfl, rfl, ax, ay, ox, kx, oy, ky, hB2, xB, bP, bQ, fxP, fxQ, fyP, fyQ, neX, vP, vQ, hbv⟩
            · go_simp
              have fxP := ox.far (.inr (Nat.le_refl _))
              replace ox := ox.turned ((Turned.refl [] u27).alloc (.cells #[.int .i64 0, .slice none 0 0, .slice none 0 0, .slice none 0 0] 25)) (by simp)
              replace kx := kx.keep (Keeps.alloc _ (.cells #[.int .i64 0, .slice none 0 0, .slice none 0 0, .slice none 0 0] 25))
              have ne : vd.heap.size ≠ u27.heap.size := Nat.ne_of_lt bQ.lt
              replace bQ := bQ.alloc (.cells #[.int .i64 0, .slice none 0 0, .slice none 0 0, .slice none 0 0] 25)
              have bP := Bk.new u27 25 #[.int .i64 0, .slice none 0 0, .slice none 0 0, .slice none 0 0]
              have vP := hbv.size
              replace hbv := hbv.alloc hbv.size (.cells #[.int .i64 0, .slice none 0 0, .slice none 0 0, .slice none 0 0] 25)
              obtain ⟨u30, hu30⟩ : ∃ u, u27.alloc (.cells #[.int .i64 0, .slice none 0 0, .slice none 0 0, .slice none 0 0] 25) = u := ⟨_, rfl⟩
              rw [hu30] at bP hbv bQ ox kx ⊢
              clear hu30 hHeld
              refine hK.out _ _ ?_ (fun hHeld => ?_)
              · exact SB.out.keep (Keeps.of_below hbv)
              clear hK K
              try simp only [Act.put, List.setIfInBounds_toArray, List.set_cons_zero, List.set_cons_succ, List.getElem_toArray, List.getElem_cons_zero, List.getElem_cons_succ]
              refine wpAnyH_ready (rs := [5]) (by kernel_rfl) (by simp) ?_
              refine AllReadyH.cons rfl (fun K hK => ?_) AllReadyH.nil
              · go_simp
                refine (move_any O (wh : Int) _ (HS.out.keep (Keeps.of_below hbv)) HF.out HL.out HI.out).mono ?_
                rintro e u31 ⟨y, rfl, ay, oy, ky, hb2⟩
                have fyP := oy.far (.inl bP.lt)
                replace bP := bP.below hb2
                have fyQ := oy.far (.inl bQ.lt)
                replace bQ := bQ.below hb2
                have xB := ox.under
                have hB2 := hbv.size
                replace ox := ox.turned (Turned.of_below hb2 []) (by simp)
                replace kx := kx.keep (Keeps.of_below hb2)
                replace hbv := hbv.trans (hb2.mono hbv.size)
                clear hb2 hHeld
                go_wp2_with fail
                refine hK.out _ _ ?_ (fun hHeld => ?_)
                · exact SB.out.keep (Keeps.of_below hbv)
                clear hK K
                try simp only [Act.put, List.setIfInBounds_toArray, List.set_cons_zero, List.set_cons_succ, List.getElem_toArray, List.getElem_cons_zero, List.getElem_cons_succ]
                have neX : u27.heap.size ≠ vd.heap.size := by first | exact ne | exact ne.symm
                clear ne
                obtain ⟨f0, f1, f2, f3⟩ := ZF4 bP
                obtain ⟨z0, z1, z2, z3⟩ := Z4 bP
                have PB := put4_bk bP (v0 := .int .i64 x.proto) (v1 := .slice x.ca x.cores.length x.cc) (v2 := .slice x.ha x.homes.length x.hc) (v3 := .slice x.ta x.tasks.length x.tc)
                have PT := put4_turned u31 (u27.heap.size) (.int .i64 x.proto) (.slice x.ca x.cores.length x.cc) (.slice x.ha x.homes.length x.hc) (.slice x.ta x.tasks.length x.tc)
                replace bQ := bQ.turned PT (by simpa using neX.symm)
                replace ox := ox.farF PT (by intro q hq; simp at hq; subst hq; exact fxP)
                replace kx := kx.farF PT (by intro q hq; simp at hq; subst hq; exact fxP)
                replace oy := oy.farF PT (by intro q hq; simp at hq; subst hq; exact fyP)
                replace ky := ky.farF PT (by intro q hq; simp at hq; subst hq; exact fyP)
                replace hbv := hbv.trans (PT.below hbv.size (by intro q hq; simp at hq; subst hq; exact vP))
                clear bP
                have bP := PB
                clear PB PT
                obtain ⟨ut8, hut⟩ : ∃ u, put4 u31 (u27.heap.size) (.int .i64 x.proto) (.slice x.ca x.cores.length x.cc) (.slice x.ha x.homes.length x.hc) (.slice x.ta x.tasks.length x.tc) = u := ⟨_, rfl⟩
                rw [hut] at bP bQ ox kx oy ky hbv
                unfold put4 at hut
                refine wpAnyH_ready (rs := [8]) (by kernel_rfl) (by simp) ?_
                refine AllReadyH.cons rfl (fun K hK => ?_) AllReadyH.nil
                go_simp
                try rw [hut]
                clear hut f0 f1 f2 f3 z0 z1 z2 z3 hHeld
                refine hK.out _ _ ?_ (fun hHeld => ?_)
                · exact SB.out.keep (Keeps.of_below hbv)
                clear hK K
                try simp only [Act.put, List.setIfInBounds_toArray, List.set_cons_zero, List.set_cons_succ, List.getElem_toArray, List.getElem_cons_zero, List.getElem_cons_succ]
                obtain ⟨f0, f1, f2, f3⟩ := ZF4 bQ
                obtain ⟨z0, z1, z2, z3⟩ := Z4 bQ
                have PB := put4_bk bQ (v0 := .int .i64 y.proto) (v1 := .slice y.ca y.cores.length y.cc) (v2 := .slice y.ha y.homes.length y.hc) (v3 := .slice y.ta y.tasks.length y.tc)
                have PT := put4_turned ut8 (vd.heap.size) (.int .i64 y.proto) (.slice y.ca y.cores.length y.cc) (.slice y.ha y.homes.length y.hc) (.slice y.ta y.tasks.length y.tc)
                replace bP := bP.turned PT (by simpa using neX)
                replace ox := ox.farF PT (by intro q hq; simp at hq; subst hq; exact fxQ)
                replace kx := kx.farF PT (by intro q hq; simp at hq; subst hq; exact fxQ)
                replace oy := oy.farF PT (by intro q hq; simp at hq; subst hq; exact fyQ)
                replace ky := ky.farF PT (by intro q hq; simp at hq; subst hq; exact fyQ)
                replace hbv := hbv.trans (PT.below hbv.size (by intro q hq; simp at hq; subst hq; exact vQ))
                clear bQ
                have bQ := PB
                clear PB PT
                obtain ⟨ut9, hut⟩ : ∃ u, put4 ut8 (vd.heap.size) (.int .i64 y.proto) (.slice y.ca y.cores.length y.cc) (.slice y.ha y.homes.length y.hc) (.slice y.ta y.tasks.length y.tc) = u := ⟨_, rfl⟩
                rw [hut] at bP bQ ox kx oy ky hbv
                unfold put4 at hut
                refine wpAnyH_ready (rs := [9]) (by kernel_rfl) (by simp) ?_
                refine AllReadyH.cons rfl (fun K hK => ?_) AllReadyH.nil
                go_simp
                try rw [hut]
                clear hut f0 f1 f2 f3 z0 z1 z2 z3 hHeld
                refine hK.out _ _ ?_ (fun hHeld => ?_)
                · exact SB.out.keep (Keeps.of_below hbv)
                clear hK K
                try simp only [Act.put, List.setIfInBounds_toArray, List.set_cons_zero, List.set_cons_succ, List.getElem_toArray, List.getElem_cons_zero, List.getElem_cons_succ]
                refine wpAnyH_done (by kernel_rfl) ?_ _
                clear hHeld
                go_wp2_with fail
                go_meet
                exact ⟨_, _, x, y, _, rfl, rfl, ax, ay, ox, kx, oy, ky, hB2, xB, bP, bQ, fxP, fxQ, fyP, fyQ, neX, vP, vQ, hbv⟩
          · go_simp
            have ne : vd.heap.size ≠ u26.heap.size := Nat.ne_of_lt bQ.lt
            replace bQ := bQ.alloc (.cells #[.int .i64 0, .slice none 0 0, .slice none 0 0, .slice none 0 0] 25)
            have bP := Bk.new u26 25 #[.int .i64 0, .slice none 0 0, .slice none 0 0, .slice none 0 0]
            have vP := hbv.size
            replace hbv := hbv.alloc hbv.size (.cells #[.int .i64 0, .slice none 0 0, .slice none 0 0, .slice none 0 0] 25)
            obtain ⟨u32, hu32⟩ : ∃ u, u26.alloc (.cells #[.int .i64 0, .slice none 0 0, .slice none 0 0, .slice none 0 0] 25) = u := ⟨_, rfl⟩
            rw [hu32] at bP hbv bQ ⊢
            clear hu32 hHeld
            refine hK.out _ _ ?_ (fun hHeld => ?_)
            · exact SB.out.keep (Keeps.of_below hbv)
            clear hK K
            try simp only [Act.put, List.setIfInBounds_toArray, List.set_cons_zero, List.set_cons_succ, List.getElem_toArray, List.getElem_cons_zero, List.getElem_cons_succ]
            refine wpAnyH_ready (rs := [1]) (by kernel_rfl) (by simp) ?_
            refine AllReadyH.cons rfl (fun K hK => ?_) AllReadyH.nil
            · go_simp
              refine (canon_any O _ (HS.out.keep (Keeps.of_below hbv)) HF.out HL.out).mono ?_
              rintro e u33 ⟨x, rfl, ax, ox, kx, hb2⟩
              have fxP := ox.far (.inl bP.lt)
              replace bP := bP.below hb2
              have fxQ := ox.far (.inl bQ.lt)
              replace bQ := bQ.below hb2
              replace ox := ox.low hbv.size
              replace hbv := hbv.trans (hb2.mono hbv.size)
              clear hb2 hHeld
              go_wp2_with fail
              refine hK.out _ _ ?_ (fun hHeld => ?_)
              · exact SB.out.keep (Keeps.of_below hbv)
              clear hK K
              try simp only [Act.put, List.setIfInBounds_toArray, List.set_cons_zero, List.set_cons_succ, List.getElem_toArray, List.getElem_cons_zero, List.getElem_cons_succ]
              refine wpAnyH_ready (rs := [5]) (by kernel_rfl) (by simp) ?_
              refine AllReadyH.cons rfl (fun K hK => ?_) AllReadyH.nil
              · go_simp
                refine (move_any O (wh : Int) _ (HS.out.keep (Keeps.of_below hbv)) HF.out HL.out HI.out).mono ?_
                rintro e u34 ⟨y, rfl, ay, oy, ky, hb2⟩
                have fyP := oy.far (.inl bP.lt)
                replace bP := bP.below hb2
                have fyQ := oy.far (.inl bQ.lt)
                replace bQ := bQ.below hb2
                have xB := ox.under
                have hB2 := hbv.size
                replace ox := ox.turned (Turned.of_below hb2 []) (by simp)
                replace kx := kx.keep (Keeps.of_below hb2)
                replace hbv := hbv.trans (hb2.mono hbv.size)
                clear hb2 hHeld
                go_wp2_with fail
                refine hK.out _ _ ?_ (fun hHeld => ?_)
                · exact SB.out.keep (Keeps.of_below hbv)
                clear hK K
                try simp only [Act.put, List.setIfInBounds_toArray, List.set_cons_zero, List.set_cons_succ, List.getElem_toArray, List.getElem_cons_zero, List.getElem_cons_succ]
                have neX : u26.heap.size ≠ vd.heap.size := by first | exact ne | exact ne.symm
                clear ne
                obtain ⟨f0, f1, f2, f3⟩ := ZF4 bP
                obtain ⟨z0, z1, z2, z3⟩ := Z4 bP
                have PB := put4_bk bP (v0 := .int .i64 x.proto) (v1 := .slice x.ca x.cores.length x.cc) (v2 := .slice x.ha x.homes.length x.hc) (v3 := .slice x.ta x.tasks.length x.tc)
                have PT := put4_turned u34 (u26.heap.size) (.int .i64 x.proto) (.slice x.ca x.cores.length x.cc) (.slice x.ha x.homes.length x.hc) (.slice x.ta x.tasks.length x.tc)
                replace bQ := bQ.turned PT (by simpa using neX.symm)
                replace ox := ox.farF PT (by intro q hq; simp at hq; subst hq; exact fxP)
                replace kx := kx.farF PT (by intro q hq; simp at hq; subst hq; exact fxP)
                replace oy := oy.farF PT (by intro q hq; simp at hq; subst hq; exact fyP)
                replace ky := ky.farF PT (by intro q hq; simp at hq; subst hq; exact fyP)
                replace hbv := hbv.trans (PT.below hbv.size (by intro q hq; simp at hq; subst hq; exact vP))
                clear bP
                have bP := PB
                clear PB PT
                obtain ⟨ut8, hut⟩ : ∃ u, put4 u34 (u26.heap.size) (.int .i64 x.proto) (.slice x.ca x.cores.length x.cc) (.slice x.ha x.homes.length x.hc) (.slice x.ta x.tasks.length x.tc) = u := ⟨_, rfl⟩
                rw [hut] at bP bQ ox kx oy ky hbv
                unfold put4 at hut
                refine wpAnyH_ready (rs := [8]) (by kernel_rfl) (by simp) ?_
                refine AllReadyH.cons rfl (fun K hK => ?_) AllReadyH.nil
                go_simp
                try rw [hut]
                clear hut f0 f1 f2 f3 z0 z1 z2 z3 hHeld
                refine hK.out _ _ ?_ (fun hHeld => ?_)
                · exact SB.out.keep (Keeps.of_below hbv)
                clear hK K
                try simp only [Act.put, List.setIfInBounds_toArray, List.set_cons_zero, List.set_cons_succ, List.getElem_toArray, List.getElem_cons_zero, List.getElem_cons_succ]
                obtain ⟨f0, f1, f2, f3⟩ := ZF4 bQ
                obtain ⟨z0, z1, z2, z3⟩ := Z4 bQ
                have PB := put4_bk bQ (v0 := .int .i64 y.proto) (v1 := .slice y.ca y.cores.length y.cc) (v2 := .slice y.ha y.homes.length y.hc) (v3 := .slice y.ta y.tasks.length y.tc)
                have PT := put4_turned ut8 (vd.heap.size) (.int .i64 y.proto) (.slice y.ca y.cores.length y.cc) (.slice y.ha y.homes.length y.hc) (.slice y.ta y.tasks.length y.tc)
                replace bP := bP.turned PT (by simpa using neX)
                replace ox := ox.farF PT (by intro q hq; simp at hq; subst hq; exact fxQ)
                replace kx := kx.farF PT (by intro q hq; simp at hq; subst hq; exact fxQ)
                replace oy := oy.farF PT (by intro q hq; simp at hq; subst hq; exact fyQ)
                replace ky := ky.farF PT (by intro q hq; simp at hq; subst hq; exact fyQ)
                replace hbv := hbv.trans (PT.below hbv.size (by intro q hq; simp at hq; subst hq; exact vQ))
                clear bQ
                have bQ := PB
                clear PB PT
                obtain ⟨ut9, hut⟩ : ∃ u, put4 ut8 (vd.heap.size) (.int .i64 y.proto) (.slice y.ca y.cores.length y.cc) (.slice y.ha y.homes.length y.hc) (.slice y.ta y.tasks.length y.tc) = u := ⟨_, rfl⟩
                rw [hut] at bP bQ ox kx oy ky hbv
                unfold put4 at hut
                refine wpAnyH_ready (rs := [9]) (by kernel_rfl) (by simp) ?_
                refine AllReadyH.cons rfl (fun K hK => ?_) AllReadyH.nil
                go_simp
                try rw [hut]
                clear hut f0 f1 f2 f3 z0 z1 z2 z3 hHeld
                refine hK.out _ _ ?_ (fun hHeld => ?_)
                · exact SB.out.keep (Keeps.of_below hbv)
                clear hK K
                try simp only [Act.put, List.setIfInBounds_toArray, List.set_cons_zero, List.set_cons_succ, List.getElem_toArray, List.getElem_cons_zero, List.getElem_cons_succ]
                refine wpAnyH_done (by kernel_rfl) ?_ _
                clear hHeld
                go_wp2_with fail
                go_meet
                exact ⟨_, _, x, y, _, rfl, rfl, ax, ay, ox, kx, oy, ky, hB2, xB, bP, bQ, fxP, fxQ, fyP, fyQ, neX, vP, vQ, hbv⟩
      case rest =>
        obtain ⟨ga, gb, x, y, B2, rfl, rfl, tw⟩ := hcut
        have hxl : x.tasks.length = s0.tasks.length := by rw [tw.ax.len, ordL_len, HOL.out]
        have hyl : y.tasks.length = s0.tasks.length := by rw [tw.ay.len, turL_len, HOL.out]
        have HXL := hidp hxl
        have HYL := hidp hyl
        have xpl := arr_len tw.ax (fun z hz => ordL_in hz) HPO.out
        have ypl := arr_len tw.ay turL_low HPO.out
        have XPL := hidp xpl
        have YPL := hidp ypl
        have NX := hidp tw.ox.ne
        have NY := hidp tw.oy.ne
        have UX := hidp tw.xB
        have LY : Hid ((∀ b ∈ fp y.ta, B2 ≤ b) ∧ ∀ j, j < y.tasks.length → ∀ b ∈ fp (y.tasks.getD j default).pa, B2 ≤ b) := hidp ⟨fun b hb => (own_fp tw.oy.ot.own b hb).1, fun j hj b hb => (own_fp (tw.oy.op j hj).own b hb).1⟩
        have FXA := hidp tw.x4
        have FXB := hidp tw.x5
        have FYA := hidp tw.y4
        have FYB := hidp tw.y5
        have VB := hidp tw.hB
        have mx0 := Marked.of tw.ox
        have my0 := Marked.of tw.oy
        have ba0 := tw.b4
        have bb0 := tw.b5
        have hbv0 := tw.hb
        rw [hxl] at ba0
        rw [hyl] at bb0
        obtain ⟨c0, c1, c2, c3⟩ := HSB0.out.keep (Keeps.of_below hbv0)
        obtain ⟨-, -, -, p3⟩ := Z4 ba0
        obtain ⟨-, -, -, q3⟩ := Z4 bb0
        clear tw hxl hyl xpl ypl
        go_wp2_with fail
        clear c0 c1 c2 c3 p3 q3
        go_loopg [10] s0.tasks.length (fun g i wr => ∃ k : Nat, k + g = s0.tasks.length ∧ i = .int .i64 k ∧ Marked v.heap.size wr x k ∧ Marked B2 wr y k ∧ Bk wr ga 25 #[.int .i64 x.proto, .slice x.ca x.cores.length x.cc, .slice x.ha x.homes.length x.hc, .slice x.ta s0.tasks.length x.tc] ∧ Bk wr gb 25 #[.int .i64 y.proto, .slice y.ca y.cores.length y.cc, .slice y.ha y.homes.length y.hc, .slice y.ta s0.tasks.length y.tc] ∧ Below v.heap.size v wr)
        case atStart => exact ⟨0, by omega, rfl, mx0, my0, ba0, bb0, hbv0⟩
        case round =>
          clear mx0 my0 ba0 bb0 hbv0
          obtain ⟨k, hk, rfl, mx, my, ba, bb, hbv⟩ := hrel
          obtain ⟨-, -, -, p3⟩ := Z4 ba
          obtain ⟨-, -, -, q3⟩ := Z4 bb
          by_cases hlt : k < s0.tasks.length
          · have hkx : k < x.tasks.length := by rw [HXL.out]; exact hlt
            have hky : k < y.tasks.length := by rw [HYL.out]; exact hlt
            obtain ⟨gx, nmx, ex, hgx, cx0, fx0, cx5⟩ := mx.cells hkx
            obtain ⟨gy, nmy, ey, hgy, cy0, fy0, cy5⟩ := my.cells hky
            obtain ⟨px, vx, epx, hpx, cpx, fpx⟩ := mx.part (Nat.le_refl _) hkx (XPL.out k hkx)
            obtain ⟨py, vy, epy, hpy, cpy, fpy⟩ := my.part (Nat.le_refl _) hky (YPL.out k hky)
            have nx1 := XPL.out k hkx
            have ny1 := YPL.out k hky
            have NXk : px ∉ fp x.ta := NX.out k hkx px (by rw [epx]; simp [fp])
            have NYk : py ∉ fp y.ta := NY.out k hky py (by rw [epy]; simp [fp])
            have Upx : px < B2 := UX.out.2 k hkx px (by rw [epx]; simp [fp])
            have Ugx : gx < B2 := UX.out.1 gx (by rw [ex]; simp [fp])
            have nga1 : ga ≠ gx := fun e => FXA.out.2.2.1 (by rw [ex, e]; simp [fp])
            have nga2 : ga ≠ gy := fun e => FYA.out.2.2.1 (by rw [ey, e]; simp [fp])
            have ngb1 : gb ≠ gx := fun e => FXB.out.2.2.1 (by rw [ex, e]; simp [fp])
            have ngb2 : gb ≠ gy := fun e => FYB.out.2.2.1 (by rw [ey, e]; simp [fp])
            have nga3 : ga ≠ px := fun e => FXA.out.2.2.2 k hkx (by rw [epx, e]; simp [fp])
            have nga4 : ga ≠ py := fun e => FYA.out.2.2.2 k hky (by rw [epy, e]; simp [fp])
            have ngb3 : gb ≠ px := fun e => FXB.out.2.2.2 k hkx (by rw [epx, e]; simp [fp])
            have ngb4 : gb ≠ py := fun e => FYB.out.2.2.2 k hky (by rw [epy, e]; simp [fp])
            rw [epx] at cx5
            rw [epy] at cy5
            obtain ⟨npx, HNX⟩ : ∃ n, (x.tasks.getD k default).parts.length = n := ⟨_, rfl⟩
            obtain ⟨npy, HNY⟩ : ∃ n, (y.tasks.getD k default).parts.length = n := ⟨_, rfl⟩
            obtain ⟨pcx, HCX⟩ : ∃ n, (x.tasks.getD k default).pc = n := ⟨_, rfl⟩
            obtain ⟨pcy, HCY⟩ : ∃ n, (y.tasks.getD k default).pc = n := ⟨_, rfl⟩
            rw [HNX] at nx1 cx5
            rw [HNY] at ny1 cy5
            rw [HCX] at cx5
            rw [HCY] at cy5
            rw [ex] at p3
            rw [ey] at q3
            have HEX := hidp ex
            have HEY := hidp ey
            have HPX := hidp epx
            have HPY := hidp epy
            have z1 : ((npx : Int) == 0) = false := by rw [beq_eq_false_iff_ne]; omega
            have z2 : ((npy : Int) == 0) = false := by rw [beq_eq_false_iff_ne]; omega
            have kI : (k : Int) < (s0.tasks.length : Int) := by omega
            have nx2 : 0 < npx := by omega
            have ny2 : 0 < npy := by omega
            have hvB := VB.out
            have hxy : gx ≠ gy := by omega
            have hpxgx : px ≠ gx := fun e => NXk (by rw [HEX.out, e]; simp [fp])
            have hpygy : py ≠ gy := fun e => NYk (by rw [HEY.out, e]; simp [fp])
            have HNX2 := hidp HNX
            have HNY2 := hidp HNY
            have HCX2 := hidp HCX
            have HCY2 := hidp HCY
            clear ex ey epx epy HNX HNY HCX HCY
            -- the names
            have TA : Turned [gx] wr.drew (wr.drew.setCell ⟨gx, k * 6, none⟩ (.string ⟨#[111, 116, 104, 101, 114]⟩)) := (Turned.refl [gx] _).setCell (p := ⟨gx, k * 6, none⟩) (.inl (by simp)) _
            have mx1 := (mx.turned (Turned.refl [] wr).drew (by simp) (by simp)).name hkx HEX.out ⟨#[111, 116, 104, 101, 114]⟩ (fun j hj h => by have := NX.out j hj gx h; rw [HEX.out] at this; simp [fp] at this)
            have my1 := (my.turned (Turned.refl [] wr).drew (by simp) (by simp)).turned TA (fun b hb hm => by simp at hm; subst hm; have := LY.out.1 b hb; omega) (fun j hj b hb hm => by simp at hm; subst hm; have := LY.out.2 j hj b hb; omega)
            have ba1 := Bk.turned (w := wr.drew) ba TA (by simp; exact nga1)
            have bb1 := Bk.turned (w := wr.drew) bb TA (by simp; exact ngb1)
            have hb1 := (below_drewN hbv 1).trans (TA.below (below_drewN hbv 1).size (by simp; omega))
            have cy0a : (wr.drew.setCell ⟨gx, k * 6, none⟩ (.string ⟨#[111, 116, 104, 101, 114]⟩)).cell? ⟨gy, k * 6, none⟩ = some (.string nmy) := TA.cell cy0 (by simp; omega)
            have fy0a : (wr.drew.setCell ⟨gx, k * 6, none⟩ (.string ⟨#[111, 116, 104, 101, 114]⟩)).frozen? ⟨gy, k * 6, none⟩ = false := by
              obtain ⟨_, _, e, _, _, f, _⟩ := my1.cells hky
              rw [HEY.out] at e; injection e with e; injection e with e1; subst e1; exact f
            have TGY := (Turned.refl [gy] (wr.drew.setCell ⟨gx, k * 6, none⟩ (.string ⟨#[111, 116, 104, 101, 114]⟩))).setCell (p := ⟨gy, k * 6, none⟩) (.inl (by simp)) (.string ⟨#[111, 116, 104, 101, 114]⟩)
            have my2 := my1.name hky HEY.out ⟨#[111, 116, 104, 101, 114]⟩ (fun j hj h => by have := NY.out j hj gy h; rw [HEY.out] at this; simp [fp] at this)
            have mx2 := mx1.turned TGY (fun b hb hm => by simp at hm; subst hm; have := UX.out.1 b hb; omega) (fun j hj b hb hm => by simp at hm; subst hm; have := UX.out.2 j hj b hb; omega)
            have ba2 := ba1.turned TGY (by simp; exact nga2)
            have bb2 := bb1.turned TGY (by simp; exact ngb2)
            have hb2 := hb1.trans (TGY.below hb1.size (by simp; omega))
            have sA : ∀ u : World, Bk u ga 25 #[.int .i64 x.proto, .slice x.ca x.cores.length x.cc, .slice x.ha x.homes.length x.hc, .slice x.ta s0.tasks.length x.tc] → Bk u gb 25 #[.int .i64 y.proto, .slice y.ca y.cores.length y.cc, .slice y.ha y.homes.length y.hc, .slice y.ta s0.tasks.length y.tc] → u.cell? ⟨ga, 3, none⟩ = some (.slice (some ⟨gx, 0, none⟩) s0.tasks.length x.tc) ∧ u.cell? ⟨gb, 3, none⟩ = some (.slice (some ⟨gy, 0, none⟩) s0.tasks.length y.tc) := fun u h1 h2 => ⟨by have := h1.cell 3; rw [HEX.out] at this; exact this, by have := h2.cell 3; rw [HEY.out] at this; exact this⟩
            have HSA := hidp sA
            have hs0 := HSA.out wr.drew (ba.drewN 1) (bb.drewN 1)
            have hs1 := HSA.out _ ba1 bb1
            have hs2 := HSA.out _ ba2 bb2
            have MX2 := hidp mx2
            have MY2 := hidp my2
            have BA2 := hidp ba2
            have BB2 := hidp bb2
            have HB2' := hidp hb2
            clear sA mx my ba bb hbv mx1 my1 ba1 bb1 hb1 mx2 my2 ba2 bb2 hb2 TA TGY
            go_wp2_with fail
            refine wp_region_held_drew (S := fun w' => w'.cell? ⟨ga, 3, none⟩ = some (.slice (some ⟨gx, 0, none⟩) s0.tasks.length x.tc) ∧ w'.cell? ⟨gb, 3, none⟩ = some (.slice (some ⟨gy, 0, none⟩) s0.tasks.length y.tc)) (by kernel_rfl) ?_ (fun hHeld => ?_)
            · exact hs0
            have cx0d : wr.drew.cell? ⟨gx, k * 6, none⟩ = some (.string nmx) := cx0
            have fx0d : wr.drew.frozen? ⟨gx, k * 6, none⟩ = false := fx0
            refine wpAnyH_take (i := 0) (v := ?_) rfl (by kernel_rfl) (by kernel_rfl) (by kernel_rfl) (fun _ _ _ h => h) (Or.inl ⟨by rfl, ?_⟩) (by assumption) ?_
            rotate_left 1
            · ((intro w hSw; (try dsimp only at hSw); go_simp); (try with_reducible rfl))
            simp only [Act.put, List.setIfInBounds_toArray, List.set_cons_zero, List.set_cons_succ, List.getElem_toArray, List.getElem_cons_zero, List.getElem_cons_succ]
            refine wpAnyH_take (i := 1) (v := ?_) rfl (by kernel_rfl) (by kernel_rfl) (by kernel_rfl) (fun _ _ _ h => h) (Or.inl ⟨by rfl, ?_⟩) (by assumption) ?_
            rotate_left 1
            · ((intro w hSw; (try dsimp only at hSw); go_simp); (try with_reducible rfl))
            simp only [Act.put, List.setIfInBounds_toArray, List.set_cons_zero, List.set_cons_succ, List.getElem_toArray, List.getElem_cons_zero, List.getElem_cons_succ]
            refine wpAnyH_take (i := 2) (v := ?_) rfl (by kernel_rfl) (by kernel_rfl) (by kernel_rfl) (fun _ _ _ h => h) (Or.inl ⟨by rfl, ?_⟩) (by assumption) ?_
            rotate_left 1
            · ((intro w hSw; (try dsimp only at hSw); go_simp); (try with_reducible rfl))
            simp only [Act.put, List.setIfInBounds_toArray, List.set_cons_zero, List.set_cons_succ, List.getElem_toArray, List.getElem_cons_zero, List.getElem_cons_succ]
            refine wpAnyH_take (i := 3) (v := ?_) rfl (by kernel_rfl) (by kernel_rfl) (by kernel_rfl) (fun _ _ _ h => h) (Or.inl ⟨by rfl, ?_⟩) (by assumption) ?_
            rotate_left 1
            · ((intro w hSw; (try dsimp only at hSw); go_simp); (try with_reducible rfl))
            simp only [Act.put, List.setIfInBounds_toArray, List.set_cons_zero, List.set_cons_succ, List.getElem_toArray, List.getElem_cons_zero, List.getElem_cons_succ]
            refine wpAnyH_take (i := 4) (v := ?_) rfl (by kernel_rfl) (by kernel_rfl) (by kernel_rfl) (fun _ _ _ h => h) (Or.inl ⟨by rfl, ?_⟩) (by assumption) ?_
            rotate_left 1
            · ((intro w hSw; (try dsimp only at hSw); go_simp); (try with_reducible rfl))
            simp only [Act.put, List.setIfInBounds_toArray, List.set_cons_zero, List.set_cons_succ, List.getElem_toArray, List.getElem_cons_zero, List.getElem_cons_succ]
            refine wpAnyH_take (i := 5) (v := ?_) rfl (by kernel_rfl) (by kernel_rfl) (by kernel_rfl) (fun _ _ _ h => h) (Or.inl ⟨by rfl, ?_⟩) (by assumption) ?_
            rotate_left 1
            · ((intro w hSw; (try dsimp only at hSw); go_simp); (try with_reducible rfl))
            simp only [Act.put, List.setIfInBounds_toArray, List.set_cons_zero, List.set_cons_succ, List.getElem_toArray, List.getElem_cons_zero, List.getElem_cons_succ]
            refine wpAnyH_take (i := 6) (v := ?_) rfl (by kernel_rfl) (by kernel_rfl) (by kernel_rfl) (fun _ _ _ h => h) (Or.inl ⟨by rfl, ?_⟩) (by assumption) ?_
            rotate_left 1
            · ((intro w hSw; (try dsimp only at hSw); go_simp); (try with_reducible rfl))
            simp only [Act.put, List.setIfInBounds_toArray, List.set_cons_zero, List.set_cons_succ, List.getElem_toArray, List.getElem_cons_zero, List.getElem_cons_succ]
            refine wpAnyH_take (i := 7) (v := ?_) rfl (by kernel_rfl) (by kernel_rfl) (by kernel_rfl) (fun _ _ _ h => h) (Or.inl ⟨by rfl, ?_⟩) (by assumption) ?_
            rotate_left 1
            · ((intro w hSw; (try dsimp only at hSw); go_simp); (try with_reducible rfl))
            simp only [Act.put, List.setIfInBounds_toArray, List.set_cons_zero, List.set_cons_succ, List.getElem_toArray, List.getElem_cons_zero, List.getElem_cons_succ]
            refine wpAnyH_ready (rs := [8]) (by kernel_rfl) (by simp) ?_
            refine AllReadyH.cons rfl (fun K hK => ?_) AllReadyH.nil
            go_simp
            refine hK.out _ _ ?_ (fun hHeld => ?_)
            · exact hs1
            clear hK K
            try simp only [Act.put, List.setIfInBounds_toArray, List.set_cons_zero, List.set_cons_succ, List.getElem_toArray, List.getElem_cons_zero, List.getElem_cons_succ]
            refine wpAnyH_take (i := 9) (v := ?_) rfl (by kernel_rfl) (by kernel_rfl) (by kernel_rfl) (fun _ _ _ h => h) (Or.inl ⟨by rfl, ?_⟩) (by assumption) ?_
            rotate_left 1
            · ((intro w hSw; (try dsimp only at hSw); go_simp); (try with_reducible rfl))
            simp only [Act.put, List.setIfInBounds_toArray, List.set_cons_zero, List.set_cons_succ, List.getElem_toArray, List.getElem_cons_zero, List.getElem_cons_succ]
            refine wpAnyH_take (i := 10) (v := ?_) rfl (by kernel_rfl) (by kernel_rfl) (by kernel_rfl) (fun _ _ _ h => h) (Or.inl ⟨by rfl, ?_⟩) (by assumption) ?_
            rotate_left 1
            · ((intro w hSw; (try dsimp only at hSw); go_simp); (try with_reducible rfl))
            simp only [Act.put, List.setIfInBounds_toArray, List.set_cons_zero, List.set_cons_succ, List.getElem_toArray, List.getElem_cons_zero, List.getElem_cons_succ]
            refine wpAnyH_ready (rs := [11]) (by kernel_rfl) (by simp) ?_
            refine AllReadyH.cons rfl (fun K hK => ?_) AllReadyH.nil
            go_simp
            refine hK.out _ _ ?_ (fun hHeld => ?_)
            · exact hs2
            clear hK K
            try simp only [Act.put, List.setIfInBounds_toArray, List.set_cons_zero, List.set_cons_succ, List.getElem_toArray, List.getElem_cons_zero, List.getElem_cons_succ]
            refine wpAnyH_done (by kernel_rfl) ?_ _
            clear cx0 fx0 cy0 fy0 cx0d fx0d cy0a fy0a hs0 hs1 hHeld p3 q3 cx5 cy5 cpx fpx cpy fpy
            obtain ⟨u, hu⟩ : ∃ u, ((wr.setCell ⟨gx, k * 6, none⟩ (.string ⟨#[111, 116, 104, 101, 114]⟩)).setCell ⟨gy, k * 6, none⟩ (.string ⟨#[111, 116, 104, 101, 114]⟩)).drew = u := ⟨_, rfl⟩
            have hu' : (wr.drew.setCell ⟨gx, k * 6, none⟩ (.string ⟨#[111, 116, 104, 101, 114]⟩)).setCell ⟨gy, k * 6, none⟩ (.string ⟨#[111, 116, 104, 101, 114]⟩) = u := hu
            rw [hu'] at MX2 MY2 BA2 BB2 HB2' hs2
            rw [hu]
            clear hu hu'
            -- the parts
            have mx3 := MX2.out.turned (Turned.refl [] u).drew (by simp) (by simp)
            have my3 := MY2.out.turned (Turned.refl [] u).drew (by simp) (by simp)
            obtain ⟨gx', _, ex', _, _, _, cx5⟩ := mx3.cells hkx
            obtain ⟨gy', _, ey', _, _, _, cy5⟩ := my3.cells hky
            rw [HEX.out] at ex'
            rw [HEY.out] at ey'
            injection ex' with ex'; injection ex' with ex'; subst ex'
            injection ey' with ey'; injection ey' with ey'; subst ey'
            obtain ⟨px', vx', epx', _, cpx, fpx⟩ := mx3.part (Nat.le_refl _) hkx (XPL.out k hkx)
            obtain ⟨py', vy', epy', _, cpy, fpy⟩ := my3.part (Nat.le_refl _) hky (YPL.out k hky)
            rw [HPX.out] at epx' cx5
            rw [HPY.out] at epy' cy5
            injection epx' with epx'; injection epx' with epx'; subst epx'
            injection epy' with epy'; injection epy' with epy'; subst epy'
            rw [HNX2.out, HCX2.out] at cx5
            rw [HNY2.out, HCY2.out] at cy5
            have ba3 : Bk u.drew ga _ _ := BA2.out.drewN 1
            have bb3 : Bk u.drew gb _ _ := BB2.out.drewN 1
            have hb3 : Below v.heap.size v u.drew := below_drewN HB2'.out 1
            have TC : Turned [px] u.drew (u.drew.setCell ⟨px, 1, none⟩ (.int .i64 77)) := (Turned.refl [px] _).setCell (p := ⟨px, 1, none⟩) (.inl (by simp)) _
            have mx4 := mx3.hit NXk 77
            have my4 := my3.turned TC (fun b hb hm => by simp at hm; subst hm; have := LY.out.1 b hb; omega) (fun j hj b hb hm => by simp at hm; subst hm; have := LY.out.2 j hj b hb; omega)
            have ba4 := ba3.turned TC (by simp; exact nga3)
            have bb4 := bb3.turned TC (by simp; exact ngb3)
            have hb4 := hb3.trans (TC.below hb3.size (by simp; omega))
            have cpy4 : (u.drew.setCell ⟨px, 1, none⟩ (.int .i64 77)).cell? ⟨py, 1, none⟩ = some vy' := TC.cell cpy (by simp; omega)
            have fpy4 : (u.drew.setCell ⟨px, 1, none⟩ (.int .i64 77)).frozen? ⟨py, 1, none⟩ = false := by
              obtain ⟨_, _, e, _, _, f⟩ := my4.part (Nat.le_refl _) hky (YPL.out k hky)
              rw [HPY.out] at e; injection e with e; injection e with e1; subst e1; exact f
            have cpy5 : (u.setCell ⟨px, 1, none⟩ (.int .i64 77)).cell? ⟨py, 1, none⟩ = some vy' := cpy4
            have fpy5 : (u.setCell ⟨px, 1, none⟩ (.int .i64 77)).frozen? ⟨py, 1, none⟩ = false := fpy4
            have hpxy : px ≠ py := by omega
            have TD := (Turned.refl [py] (u.drew.setCell ⟨px, 1, none⟩ (.int .i64 77))).setCell (p := ⟨py, 1, none⟩) (.inl (by simp)) (.int .i64 78)
            have my5 := my4.hit NYk 78
            have mx5 := mx4.turned TD (fun b hb hm => by simp at hm; subst hm; have := UX.out.1 b hb; omega) (fun j hj b hb hm => by simp at hm; subst hm; have := UX.out.2 j hj b hb; omega)
            have ba5 := ba4.turned TD (by simp; exact nga4)
            have bb5 := bb4.turned TD (by simp; exact ngb4)
            have hb5 := hb4.trans (TD.below hb4.size (by simp; omega))
            have hs3 := And.intro (HSA.out u.drew ba3 bb3).1 (And.intro cx5 (And.intro (HSA.out u.drew ba3 bb3).2 cy5))
            have hs4 := And.intro (TC.cell hs3.1 (by simp; exact nga3)) (And.intro (TC.cell hs3.2.1 (by simp; omega)) (And.intro (TC.cell hs3.2.2.1 (by simp; exact ngb3)) (TC.cell hs3.2.2.2 (by simp; omega))))
            have hs5 := And.intro (TD.cell hs4.1 (by simp; exact nga4)) (And.intro (TD.cell hs4.2.1 (by simp; omega)) (And.intro (TD.cell hs4.2.2.1 (by simp; exact ngb4)) (TD.cell hs4.2.2.2 (by simp; omega))))
            have MX5 := hidp (mx5.up (show k ≤ k + 1 by omega))
            have MY5 := hidp (my5.up (show k ≤ k + 1 by omega))
            have BA5 := hidp ba5
            have BB5 := hidp bb5
            have HB5 := hidp hb5
            clear mx3 my3 mx4 my4 mx5 my5 ba3 bb3 ba4 bb4 ba5 bb5 hb3 hb4 hb5 TC TD hs2
            go_wp2_with fail
            refine wp_region_held_drew (S := fun w' => w'.cell? ⟨ga, 3, none⟩ = some (.slice (some ⟨gx, 0, none⟩) s0.tasks.length x.tc) ∧ w'.cell? ⟨gx, k * 6 + 5, none⟩ = some (.slice (some ⟨px, 0, none⟩) npx pcx) ∧ w'.cell? ⟨gb, 3, none⟩ = some (.slice (some ⟨gy, 0, none⟩) s0.tasks.length y.tc) ∧ w'.cell? ⟨gy, k * 6 + 5, none⟩ = some (.slice (some ⟨py, 0, none⟩) npy pcy)) (by kernel_rfl) ?_ (fun hHeld => ?_)
            · exact hs3
            refine wpAnyH_take (i := 0) (v := ?_) rfl (by kernel_rfl) (by kernel_rfl) (by kernel_rfl) (fun _ _ _ h => h) (Or.inl ⟨by rfl, ?_⟩) (by assumption) ?_
            rotate_left 1
            · ((intro w hSw; (try dsimp only at hSw); go_simp); (try with_reducible rfl))
            simp only [Act.put, List.setIfInBounds_toArray, List.set_cons_zero, List.set_cons_succ, List.getElem_toArray, List.getElem_cons_zero, List.getElem_cons_succ]
            refine wpAnyH_take (i := 1) (v := ?_) rfl (by kernel_rfl) (by kernel_rfl) (by kernel_rfl) (fun _ _ _ h => h) (Or.inl ⟨by rfl, ?_⟩) (by assumption) ?_
            rotate_left 1
            · ((intro w hSw; (try dsimp only at hSw); go_simp); (try with_reducible rfl))
            simp only [Act.put, List.setIfInBounds_toArray, List.set_cons_zero, List.set_cons_succ, List.getElem_toArray, List.getElem_cons_zero, List.getElem_cons_succ]
            refine wpAnyH_take (i := 2) (v := ?_) rfl (by kernel_rfl) (by kernel_rfl) (by kernel_rfl) (fun _ _ _ h => h) (Or.inl ⟨by rfl, ?_⟩) (by assumption) ?_
            rotate_left 1
            · ((intro w hSw; (try dsimp only at hSw); go_simp); (try with_reducible rfl))
            simp only [Act.put, List.setIfInBounds_toArray, List.set_cons_zero, List.set_cons_succ, List.getElem_toArray, List.getElem_cons_zero, List.getElem_cons_succ]
            refine wpAnyH_take (i := 3) (v := ?_) rfl (by kernel_rfl) (by kernel_rfl) (by kernel_rfl) (fun _ _ _ h => h) (Or.inl ⟨by rfl, ?_⟩) (by assumption) ?_
            rotate_left 1
            · ((intro w hSw; (try dsimp only at hSw); go_simp); (try with_reducible rfl))
            simp only [Act.put, List.setIfInBounds_toArray, List.set_cons_zero, List.set_cons_succ, List.getElem_toArray, List.getElem_cons_zero, List.getElem_cons_succ]
            refine wpAnyH_take (i := 4) (v := ?_) rfl (by kernel_rfl) (by kernel_rfl) (by kernel_rfl) (fun _ _ _ h => h) (Or.inl ⟨by rfl, ?_⟩) (by assumption) ?_
            rotate_left 1
            · ((intro w hSw; (try dsimp only at hSw); go_simp); (try with_reducible rfl))
            simp only [Act.put, List.setIfInBounds_toArray, List.set_cons_zero, List.set_cons_succ, List.getElem_toArray, List.getElem_cons_zero, List.getElem_cons_succ]
            refine wpAnyH_take (i := 5) (v := ?_) rfl (by kernel_rfl) (by kernel_rfl) (by kernel_rfl) (fun _ _ _ h => h) (Or.inl ⟨by rfl, ?_⟩) (by assumption) ?_
            rotate_left 1
            · ((intro w hSw; (try dsimp only at hSw); go_simp); (try with_reducible rfl))
            simp only [Act.put, List.setIfInBounds_toArray, List.set_cons_zero, List.set_cons_succ, List.getElem_toArray, List.getElem_cons_zero, List.getElem_cons_succ]
            refine wpAnyH_take (i := 6) (v := ?_) rfl (by kernel_rfl) (by kernel_rfl) (by kernel_rfl) (fun _ _ _ h => h) (Or.inl ⟨by rfl, ?_⟩) (by assumption) ?_
            rotate_left 1
            · ((intro w hSw; (try dsimp only at hSw); go_simp); (try with_reducible rfl))
            simp only [Act.put, List.setIfInBounds_toArray, List.set_cons_zero, List.set_cons_succ, List.getElem_toArray, List.getElem_cons_zero, List.getElem_cons_succ]
            refine wpAnyH_take (i := 7) (v := ?_) rfl (by kernel_rfl) (by kernel_rfl) (by kernel_rfl) (fun _ _ _ h => h) (Or.inl ⟨by rfl, ?_⟩) (by assumption) ?_
            rotate_left 1
            · ((intro w hSw; (try dsimp only at hSw); go_simp); (try with_reducible rfl))
            simp only [Act.put, List.setIfInBounds_toArray, List.set_cons_zero, List.set_cons_succ, List.getElem_toArray, List.getElem_cons_zero, List.getElem_cons_succ]
            refine wpAnyH_take (i := 8) (v := ?_) rfl (by kernel_rfl) (by kernel_rfl) (by kernel_rfl) (fun _ _ _ h => h) (Or.inl ⟨by rfl, ?_⟩) (by assumption) ?_
            rotate_left 1
            · ((intro w hSw; (try dsimp only at hSw); go_simp); (try with_reducible rfl))
            simp only [Act.put, List.setIfInBounds_toArray, List.set_cons_zero, List.set_cons_succ, List.getElem_toArray, List.getElem_cons_zero, List.getElem_cons_succ]
            refine wpAnyH_take (i := 9) (v := ?_) rfl (by kernel_rfl) (by kernel_rfl) (by kernel_rfl) (fun _ _ _ h => h) (Or.inl ⟨by rfl, ?_⟩) (by assumption) ?_
            rotate_left 1
            · ((intro w hSw; (try dsimp only at hSw); go_simp); (try with_reducible rfl))
            simp only [Act.put, List.setIfInBounds_toArray, List.set_cons_zero, List.set_cons_succ, List.getElem_toArray, List.getElem_cons_zero, List.getElem_cons_succ]
            refine wpAnyH_take (i := 10) (v := ?_) rfl (by kernel_rfl) (by kernel_rfl) (by kernel_rfl) (fun _ _ _ h => h) (Or.inl ⟨by rfl, ?_⟩) (by assumption) ?_
            rotate_left 1
            · ((intro w hSw; (try dsimp only at hSw); go_simp); (try with_reducible rfl))
            simp only [Act.put, List.setIfInBounds_toArray, List.set_cons_zero, List.set_cons_succ, List.getElem_toArray, List.getElem_cons_zero, List.getElem_cons_succ]
            refine wpAnyH_take (i := 11) (v := ?_) rfl (by kernel_rfl) (by kernel_rfl) (by kernel_rfl) (fun _ _ _ h => h) (Or.inl ⟨by rfl, ?_⟩) (by assumption) ?_
            rotate_left 1
            · ((intro w hSw; (try dsimp only at hSw); go_simp); (try with_reducible rfl))
            simp only [Act.put, List.setIfInBounds_toArray, List.set_cons_zero, List.set_cons_succ, List.getElem_toArray, List.getElem_cons_zero, List.getElem_cons_succ]
            refine wpAnyH_take (i := 12) (v := ?_) rfl (by kernel_rfl) (by kernel_rfl) (by kernel_rfl) (fun _ _ _ h => h) (Or.inl ⟨by rfl, ?_⟩) (by assumption) ?_
            rotate_left 1
            · ((intro w hSw; (try dsimp only at hSw); go_simp); (try with_reducible rfl))
            simp only [Act.put, List.setIfInBounds_toArray, List.set_cons_zero, List.set_cons_succ, List.getElem_toArray, List.getElem_cons_zero, List.getElem_cons_succ]
            refine wpAnyH_take (i := 13) (v := ?_) rfl (by kernel_rfl) (by kernel_rfl) (by kernel_rfl) (fun _ _ _ h => h) (Or.inl ⟨by rfl, ?_⟩) (by assumption) ?_
            rotate_left 1
            · ((intro w hSw; (try dsimp only at hSw); go_simp); (try with_reducible rfl))
            simp only [Act.put, List.setIfInBounds_toArray, List.set_cons_zero, List.set_cons_succ, List.getElem_toArray, List.getElem_cons_zero, List.getElem_cons_succ]
            refine wpAnyH_ready (rs := [14]) (by kernel_rfl) (by simp) ?_
            refine AllReadyH.cons rfl (fun K hK => ?_) AllReadyH.nil
            go_simp
            refine hK.out _ _ ?_ (fun hHeld => ?_)
            · exact hs4
            clear hK K
            try simp only [Act.put, List.setIfInBounds_toArray, List.set_cons_zero, List.set_cons_succ, List.getElem_toArray, List.getElem_cons_zero, List.getElem_cons_succ]
            refine wpAnyH_take (i := 15) (v := ?_) rfl (by kernel_rfl) (by kernel_rfl) (by kernel_rfl) (fun _ _ _ h => h) (Or.inl ⟨by rfl, ?_⟩) (by assumption) ?_
            rotate_left 1
            · ((intro w hSw; (try dsimp only at hSw); go_simp); (try with_reducible rfl))
            simp only [Act.put, List.setIfInBounds_toArray, List.set_cons_zero, List.set_cons_succ, List.getElem_toArray, List.getElem_cons_zero, List.getElem_cons_succ]
            refine wpAnyH_take (i := 16) (v := ?_) rfl (by kernel_rfl) (by kernel_rfl) (by kernel_rfl) (fun _ _ _ h => h) (Or.inl ⟨by rfl, ?_⟩) (by assumption) ?_
            rotate_left 1
            · ((intro w hSw; (try dsimp only at hSw); go_simp); (try with_reducible rfl))
            simp only [Act.put, List.setIfInBounds_toArray, List.set_cons_zero, List.set_cons_succ, List.getElem_toArray, List.getElem_cons_zero, List.getElem_cons_succ]
            refine wpAnyH_ready (rs := [17]) (by kernel_rfl) (by simp) ?_
            refine AllReadyH.cons rfl (fun K hK => ?_) AllReadyH.nil
            go_simp
            refine hK.out _ _ ?_ (fun hHeld => ?_)
            · exact hs5
            clear hK K
            try simp only [Act.put, List.setIfInBounds_toArray, List.set_cons_zero, List.set_cons_succ, List.getElem_toArray, List.getElem_cons_zero, List.getElem_cons_succ]
            refine wpAnyH_done (by kernel_rfl) ?_ _
            clear hs3 hs4 hs5 hHeld cpx fpx cpy fpy cpy4 fpy4 cpy5 fpy5 cx5 cy5
            obtain ⟨u2, hu⟩ : ∃ u2, ((u.setCell ⟨px, 1, none⟩ (.int .i64 77)).setCell ⟨py, 1, none⟩ (.int .i64 78)).drew = u2 := ⟨_, rfl⟩
            have hu' : (u.drew.setCell ⟨px, 1, none⟩ (.int .i64 77)).setCell ⟨py, 1, none⟩ (.int .i64 78) = u2 := hu
            rw [hu'] at MX5 MY5 BA5 BB5 HB5
            rw [hu]
            clear hu hu'
            go_wp2_with fail
            go_roundg (gk - 1)
            case measure => omega
            case rel => exact ⟨k + 1, by omega, by go_num, MX5.out, MY5.out, BA5.out, BB5.out, HB5.out⟩
          · obtain rfl : k = s0.tasks.length := by omega
            have CC := rsame_any O s0 wr (HS.out.keep (Keeps.of_below hbv)) (HS0.out.keep (Keeps.of_below hbv))
            rw [HSame.out] at CC
            obtain ⟨b0, b1, b2, b3⟩ := SB.out.keep (Keeps.of_below hbv)
            obtain ⟨c0, c1, c2, c3⟩ := HSB0.out.keep (Keeps.of_below hbv)
            clear mx my ba bb
            go_wp2_with fail
            refine CC.mono ?_
            rintro e u9 ⟨rfl, hb9⟩
            clear CC
            go_wp2_with fail
            go_ret
            exact ⟨rfl, HBW.out.trans ((hbv.trans (hb9.mono hbv.size)).mono HBW.out.size)⟩

theorem own : ownKnob Try.prog.godebug = none := by kernel_rfl
theorem laidOut : laidOutB Try.prog = true := by kernel_rfl

/-! THE ROW's STEP -/
set_option maxRecDepth 100000 in
theorem lifted (os : Os) (started : os.Started) (H : Type) (enc : TypeId × Value → H) :
    ReturnsInHanded {} Try.checked os 5 .any (Rows.canonSlicesSpec.pre6 enc Try.prog Try.f5 Rows.canonSlicesRow.domain false) (Rows.canonSlicesSpec.post enc Try.prog Try.f5 false true false false) := by
  refine returnsInHanded_of_change (C := Try.checked) own started (by kernel_rfl) Try.func5
    (ChangeSpec.witness6 (enc := enc) (C := Try.checked) false ⟨#[], #[.agg #[.int .i64 0, .slice none 0 0, .slice none 0 0, .slice none 0 0], .int .u8 0], []⟩ 8 (by kernel_rfl) (by kernel_rfl) (by kernel_rfl) (by kernel_rfl)) ?_
  intro W base args ds gs before hval0 hW hcnd _
  have hval : ∀ (j : Nat) t v, Try.f5.params[j]? = some t → args[j]? = some v → Value.okWide Try.prog W .any base t v := hval0
  have hW' := hW
  obtain ⟨p, q, hA0, hV, rfl, hfz, hnd⟩ := hW
  have hA : DataW.TrodAll enc Try.prog W 0 (fun _ => true) true Try.f5.params.toList args.toList ds p := hA0
  rw [Try.params5] at hA hval
  obtain ⟨v0, vs0, d0, ds0, p0, q0, hargs, rfl, rfl, h0, r0⟩ := trodAll_cons hA
  obtain ⟨v1, vs1, d1, ds1, p1, q1, rfl, rfl, rfl, h1, r1⟩ := trodAll_cons r0
  obtain ⟨rfl, rfl, rfl⟩ := trodAll_nil r1
  obtain rfl : args = #[v0, v1] := by cases args; simp_all
  obtain ⟨rfl, rfl⟩ := trodVars_none hV
  have k0 := h0
  have lt0 : ∀ x ∈ p0, x.block < W.heap.size := by obtain ⟨m, hm⟩ := k0; exact DataW.trod_lt m _ _ _ hm
  obtain ⟨s0, w0, rfl⟩ := setTypes.arg_set (hval 0 25 v0 rfl rfl) h0
  obtain ⟨a1, rfl, rfl, rfl, w1⟩ := open_int Try.underlying5 (hval 1 5 v1 rfl rfl) h1
  clear hA0 hval0
  refine (walk s0 a1 W w0 w1).mono fun e W' ⟨he, bel⟩ => ?_
  subst he
  exact ⟨_, rfl, _, _, _, [], _, [], hW', trodAll_mk1 (shut_bool Try.underlying4 _), (trodAll_cons_mk (Below.trod laidOut (by kernel_rfl) (of_decide_eq_true (by kernel_rfl)) k0 bel lt0) (trodAll_cons_mk (shut_int Try.underlying5 w1) trodAll_mk0)), rfl, bel.frame _, fun h => by cases h⟩

theorem over : Rows.canonSlicesRow.holds Try.pinned (OpenSpec.ofChange Rows.canonSlicesSpec) :=
  OpenClaim.holds_of_wide 5 Try.f5 rfl rfl rfl rfl rfl rfl rfl ⟨rfl, rfl, rfl, rfl, rfl⟩ rfl rfl rfl rfl rfl (by kernel_rfl) Try.func5 (by kernel_rfl)
    (of_decide_eq_true (by kernel_rfl)) (by unfold Func.isWrapper; first | (rw [if_pos (by decide +kernel)]; kernel_rfl) | (rw [if_neg (by decide +kernel)]; exact ⟨rfl, rfl⟩))
    (fun os started H enc _ => lifted os started H enc)

/-- THE STATEMENT -/
theorem proved : Rows.CanonSlicesSaid := over
#print axioms proved
end Go.Proofs.Ytnfkebdbfflhdaa.canonSlices

