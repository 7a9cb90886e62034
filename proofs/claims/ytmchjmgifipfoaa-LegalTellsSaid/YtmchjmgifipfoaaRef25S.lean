/- swingbridgeref25: slots. Printed by tools/legal/refslots.py. -/
import Derived.Test.YtmchjmgifipfoaaLegSame
import Derived.Test.YtmchjmgifipfoaaRef25R
import Derived.Test.YtmchjmgifipfoaaTraceB
import Derived.BigQuiet
import Derived.Deep.CutBlock
namespace Go.Proofs.Ytmchjmgifipfoaa
open Go.ChangeShapes Go.WideShapes Go.ChangeAt Go.RowKit
set_option linter.unusedVariables false
set_option linter.unusedSimpArgs false
theorem omap_id {o : Option Nat} : o.map (· + 0) = o := by cases o <;> rfl
theorem scan_stop {x y : SlotM} {l : List SlotM} (h : y.time ≠ x.time) : scanS x (y :: l) = some 0 := by unfold scanS; rw [if_neg h]
theorem scan_bad {x y : SlotM} {l : List SlotM} (h : y.time = x.time) (g : y.task = x.task ∨ x.cl < y.cl) : scanS x (y :: l) = none := by unfold scanS; rw [if_pos h, if_pos g]
theorem scan_go {x y : SlotM} {l : List SlotM} (h : y.time = x.time) (g : ¬ (y.task = x.task ∨ x.cl < y.cl)) : scanS x (y :: l) = (scanS x l).map (· + if y.cl = x.cl then 1 else 0) := by
  rw [scanS, if_pos h, if_neg g]

set_option maxHeartbeats 8000000 in
set_option maxRecDepth 100000 in
theorem rslots_any (s : SetR) (t : TraceR) (w : World) (hs : SetOk w s) (ht : TraceOk w t) : Calls Try.prog 43 #[.agg #[.int .i64 s.proto, .slice s.ca s.cores.length s.cc, .slice s.ha s.homes.length s.hc, .slice s.ta s.tasks.length s.tc], .agg #[.int .i64 t.ticks, .slice t.sa t.slots.length t.sc, .slice t.ja t.jobs.length t.jc, .slice t.wa t.waits.length t.wc]] w fun e w' => e = .returned (.bool (slotsQ s t)) ∧ Below w.heap.size w w' := by
  have hb := ((Below.refl w.heap.size w).alloc (Nat.le_refl _) (.cells #[.int .i64 s.proto, .slice s.ca s.cores.length s.cc, .slice s.ha s.homes.length s.hc, .slice s.ta s.tasks.length s.tc] 26)).alloc (by simp) (.cells #[.int .i64 t.ticks, .slice t.sa t.slots.length t.sc, .slice t.ja t.jobs.length t.jc, .slice t.wa t.waits.length t.wc] 38)
  have sc := (SetCells.new w s 26).keep (Keeps.alloc _ (.cells #[.int .i64 t.ticks, .slice t.sa t.slots.length t.sc, .slice t.ja t.jobs.length t.jc, .slice t.wa t.waits.length t.wc] 38))
  have tb := TraceBox.new (w.alloc (.cells #[.int .i64 s.proto, .slice s.ca s.cores.length s.cc, .slice s.ha s.homes.length s.hc, .slice s.ta s.tasks.length s.tc] 26)) t 38
  have z1 : (w.alloc (.cells #[.int .i64 s.proto, .slice s.ca s.cores.length s.cc, .slice s.ha s.homes.length s.hc, .slice s.ta s.tasks.length s.tc] 26)).heap.size = w.heap.size + 1 := by simp
  rw [z1] at tb
  have HR0 : Hid (RsR w ((w.alloc (.cells #[.int .i64 s.proto, .slice s.ca s.cores.length s.cc, .slice s.ha s.homes.length s.hc, .slice s.ta s.tasks.length s.tc] 26)).alloc (.cells #[.int .i64 t.ticks, .slice t.sa t.slots.length t.sc, .slice t.ja t.jobs.length t.jc, .slice t.wa t.waits.length t.wc] 38)) s t) := hidp ⟨hb, sc, tb⟩
  have HX := hidp ht.slots
  have HTs := hidp hs.tasks
  have IC := hidp hs.cores
  have lx : t.slots.length ≤ maxLen := Nat.le_trans ht.ssl.2.1 ht.ssl.2.2
  have lc : s.cores.length ≤ maxLen := Nat.le_trans hs.cores.sl.2.1 hs.cores.sl.2.2
  have l3 : s.tasks.length ≤ maxLen := Nat.le_trans hs.tasks.sl.2.1 hs.tasks.sl.2.2
  unfold maxLen at lx lc l3
  obtain ⟨V, HV⟩ : ∃ V, Hid (slotsQ s t = V) := ⟨_, hidp rfl⟩
  rw [HV.out]
  have HST : Hid (∀ k, k < t.slots.length → slotAt s t.ticks t.slots k = false → V = false) := hidp (fun k hk h => by
    rw [← HV.out]; unfold slotsQ; rw [List.all_eq_false]; exact ⟨k, List.mem_range.2 hk, by simp [h]⟩)
  have HEN : Hid ((∀ k, k < t.slots.length → slotAt s t.ticks t.slots k = true) → V = true) := hidp (fun h => by
    rw [← HV.out]; unfold slotsQ; rw [List.all_eq_true]; exact fun i hi => h i (List.mem_range.1 hi))
  clear z1 hs ht HV hb sc tb
  obtain ⟨tk, sa, sc', slots, ja, jc, jobs, wa, wc, ws⟩ := t
  dsimp only at lx HX HST HEN HR0 ⊢
  go_enter Try.func43, Try.ntmps43
  go_wp2_with fail
  go_loopg [5] slots.length (fun gg i wr => ∃ k : Nat, k + gg = slots.length ∧ i = .int .i64 k ∧ Hid (∀ j, j < k → slotAt s tk slots j = true) ∧ Hid (RsR w wr s ⟨tk, sa, sc', slots, ja, jc, jobs, wa, wc, ws⟩))
  case atStart => exact ⟨0, by omega, rfl, hidp (fun j hj => absurd hj (by omega)), HR0⟩
  case round =>
    obtain ⟨k, hk, rfl, Ha, HR⟩ := hrel
    clear HR0
    obtain ⟨t0, t1, t2, t3⟩ := HR.out.tb
    dsimp only at t0 t1 t2 t3
    by_cases hlt : k < slots.length
    · obtain ⟨g, off, hA, hd⟩ := HX.out.resolve_left (by intro e; rw [e] at hlt; simp at hlt)
      obtain ⟨x, Hx⟩ : ∃ x, Hid (slots.getD k default = x) := ⟨_, rfl⟩
      obtain ⟨d0, d1, d2, d3⟩ := (Hx.out ▸ hd k hlt).keep (Keeps.of_below HR.out.b)
      have Hd0 := hidp hd
      have kI : (k : Int) < (slots.length : Int) := by omega
      have HR1 := hidp (HR.out.alloc (.cells #[.int .i64 x.time, .int .i64 x.cl, .int .i64 x.task, .bool x.held] 29))
      have xb := SlotBox.new wr x 29
      obtain ⟨Y, hY⟩ : ∃ Y, wr.heap.size = Y := ⟨_, rfl⟩
      rw [hY] at xb
      have hst := HST.out k hlt
      have hgo : slotAt s tk slots k = true → ∀ j, j < k + 1 → slotAt s tk slots j = true := fun h j hj => by
        by_cases e : j = k
        · subst e; exact h
        · exact Ha.out j (by omega)
      have Hst := hidp hst
      have Hgo := hidp hgo
      have HAt : Hid (slotAt s tk slots k = (placedB s tk x && match scanS x (slots.take k).reverse with | none => false | some c => decide ((c : Int) + 1 ≤ s.cores.getD x.cl.toNat 0) && (decide (k = 0) || decide ((slots.getD (k - 1) default).time ≤ x.time)))) := hidp (by rw [← Hx.out]; rfl)
      clear hst hgo hd Ha
      subst hA
      obtain ⟨xt, xc, xk, xh⟩ := x
      dsimp only at d0 d1 d2 d3 HR1 xb HAt
      go_upto_region 5 with fail
      obtain ⟨v, hv⟩ : ∃ v, wr.alloc (.cells #[.int .i64 xt, .int .i64 xc, .int .i64 xk, .bool xh] 29) = v := ⟨_, rfl⟩
      rw [hv] at HR1 xb ⊢
      try rw [hY]
      clear hv hY d0 d1 d2 d3 t0 t1 t2 t3 kI HR
      obtain ⟨t0, t1, t2, t3⟩ := HR1.out.tb
      obtain ⟨c0, c1, c2, c3⟩ := HR1.out.sc
      obtain ⟨x0, x1, x2, x3⟩ := id xb
      dsimp only at t0 t1 t2 t3 x0 x1 x2 x3
      have HPn : Hid (¬ ((0 ≤ xt ∧ xt ≤ tk - 1) ∧ (0 ≤ xc ∧ xc ≤ (s.cores.length : Int) - 1) ∧ (0 ≤ xk ∧ xk ≤ (s.tasks.length : Int) - 1)) → placedB s tk ⟨xt, xc, xk, xh⟩ = false) := hidp (fun h => by
        cases hp : placedB s tk ⟨xt, xc, xk, xh⟩ with
        | false => rfl
        | true => exact absurd (placed_parts hp) h)
      by_cases a0 : 0 ≤ xt
      · have b0 : decide (xt < 0) = false := by simp; omega
        by_cases a1 : xt < tk
        · have b1 : decide (tk ≤ xt) = false := by simp; omega
          by_cases a2 : 0 ≤ xc
          · have b2 : decide (xc < 0) = false := by simp; omega
            by_cases a3 : xc < (s.cores.length : Int)
            · have b3 : decide ((s.cores.length : Int) ≤ xc) = false := by simp; omega
              by_cases a4 : 0 ≤ xk
              · have b4 : decide (xk < 0) = false := by simp; omega
                by_cases a5 : xk < (s.tasks.length : Int)
                · have b5 : decide ((s.tasks.length : Int) ≤ xk) = false := by simp; omega
                  obtain ⟨c, rfl⟩ : ∃ c : Nat, xc = c := ⟨xc.toNat, by omega⟩
                  obtain ⟨q, rfl⟩ : ∃ q : Nat, xk = q := ⟨xk.toNat, by omega⟩
                  have hcl : c < s.cores.length := by omega
                  have hql : q < s.tasks.length := by omega
                  have dc : decide (s.cores.length ≤ c) = false := by simp; omega
                  have dq : decide (s.tasks.length ≤ q) = false := by simp; omega
                  obtain ⟨tg, toff, hTA, hTc⟩ := HTs.out.at_.resolve_left (by intro e; rw [e] at hql; simp at hql)
                  obtain ⟨r, Hr⟩ : ∃ r, Hid (s.tasks.getD q default = r) := ⟨_, rfl⟩
                  obtain ⟨b0', b1', b2', b3', b4', b5'⟩ := (Hr.out ▸ hTc q hql).keep (Keeps.of_below HR1.out.b)
                  have HTA := hidp hTA
                  obtain ⟨cg, coff, hCA, hCc⟩ := IC.out.at_.resolve_left (by intro e; rw [e] at hcl; simp at hcl)
                  obtain ⟨cv, HCV⟩ : ∃ cv, Hid (s.cores.getD c 0 = cv) := ⟨_, rfl⟩
                  have HCc := hidp (HCV.out ▸ hCc c hcl)
                  have HCA := hidp hCA
                  clear hTA hTc hCA hCc b0' b1' b2' b3' b5'
                  obtain ⟨nm, per, dl, prio, cl, pa, pc, parts⟩ := r
                  dsimp only at b4'
                  have HPl : Hid (placedB s tk ⟨xt, c, q, xh⟩ = (((c : Int) == cl) || (xh && (s.proto == 2)))) := hidp (by
                    unfold placedB
                    dsimp only
                    rw [inB_true.2 (show 0 ≤ xt ∧ xt ≤ tk - 1 by omega), inB_true.2 (show (0 : Int) ≤ c ∧ (c : Int) ≤ (s.cores.length : Int) - 1 by omega), inB_true.2 (show (0 : Int) ≤ q ∧ (q : Int) ≤ (s.tasks.length : Int) - 1 by omega)]
                    simp only [Int.toNat_natCast, Bool.true_and, Hr.out])
                  rw [HTA.out] at c3
                  clear HPn
                  by_cases hcl2 : cl = (c : Int)
                  · have f6 : (cl != (c : Int)) = false := by simp [hcl2]
                    have Hcl2 := hidp hcl2
                    clear hcl2
                    have hpw : (s.proto != 2) = true ∨ (s.proto != 2) = false := by cases (s.proto != 2) <;> simp
                    rcases hpw with hpw | hpw
                    · skip
                      have HP : Hid (placedB s tk ⟨xt, c, q, xh⟩ = true) := hidp (by rw [HPl.out]; rw [show ((c : Int) == cl) = true by simpa using Hcl2.out.symm]; rfl)
                      have HA2 : Hid (slotAt s tk slots k = (match scanS ⟨xt, c, q, xh⟩ (slots.take k).reverse with | none => false | some n => decide ((n : Int) + 1 ≤ cv) && (decide (k = 0) || decide ((slots.getD (k - 1) default).time ≤ xt)))) := hidp (by rw [HAt.out, HP.out, Bool.true_and]; simp only [Int.toNat_natCast, HCV.out])
                      clear HAt HPl HP
                      go_wp2_with fail
                      go_quiet (fail)
                      replace HR1 := hidp (HR1.out.drewN nq)
                      replace xb := xb.keep (Keeps.drewN _ nq)
                      obtain ⟨v2, hv2⟩ : ∃ x, v.drewN nq = x := ⟨_, rfl⟩
                      rw [hv2] at HR1 xb ⊢
                      clear hv2 t0 t1 t2 t3 c0 c1 c2 c3 x0 x1 x2 x3 b4'
                      have Hxb := hidp xb
                      clear xb
                      have wk : (k : Int) - 1 = (k : Int) - 1 := rfl
                      clear wk
                      obtain ⟨kv, hkv⟩ : ∃ kv : Int, (k : Int) - 1 = kv := ⟨_, rfl⟩
                      have wk1 : IntKind.i64.wrap ((k : Int) - 1) = kv := by rw [hkv]; exact IntWalk.i64_in _ (by omega)
                      have Hkv := hidp hkv
                      go_wp2_with fail
                      clear hkv wk1
                      go_loopg [7, 8] (k + 1) (fun gg a b wr => ∃ (j c0 : Nat) (jv : Int), gg = j + 1 ∧ j ≤ k ∧ a = .int .i64 ((c0 : Int) + 1) ∧ c0 ≤ k ∧ b = .int .i64 jv ∧ Hid (jv = (j : Int) - 1) ∧ c0 + j ≤ k ∧ Hid (scanS ⟨xt, c, q, xh⟩ (slots.take k).reverse = (scanS ⟨xt, c, q, xh⟩ (slots.take j).reverse).map (· + c0)) ∧ Hid (RsR w wr s ⟨tk, some ⟨g, off, none⟩, sc', slots, ja, jc, jobs, wa, wc, ws⟩) ∧ Hid (SlotBox wr Y ⟨xt, c, q, xh⟩))
                      case atStart => exact ⟨k, 0, kv, rfl, Nat.le_refl _, rfl, Nat.zero_le _, rfl, hidp (by rw [← Hkv.out]), by omega, hidp omap_id.symm, HR1, Hxb⟩
                      case round =>
                        obtain ⟨j, e0, jv, hgg, hjk, rfl, he0, rfl, Hjv, hej, Hsc, HQ, HB⟩ := hrel
                        clear HR1 Hxb
                        obtain ⟨t0, t1, t2, t3⟩ := HQ.out.tb
                        obtain ⟨c0, c1, c2, c3⟩ := HQ.out.sc
                        obtain ⟨x0, x1, x2, x3⟩ := HB.out
                        dsimp only at t0 t1 t2 t3 x0 x1 x2 x3
                        by_cases hj0 : j = 0
                        · have hjv : jv = -1 := by have := Hjv.out; omega
                          have f0 : decide (0 ≤ jv) = false := by simp; omega
                          have HT : Hid (scanS ⟨xt, c, q, xh⟩ (slots.take k).reverse = some e0) := hidp (by rw [Hsc.out, hj0]; show some (0 + e0) = _; rw [Nat.zero_add])
                          clear hjv hj0 Hsc
                          go_wp2_with fail
                          go_quiet (fail)
                          replace HQ := hidp (HQ.out.drewN nq)
                          replace HB := hidp (HB.out.keep (Keeps.drewN _ nq))
                          obtain ⟨v5, hv5⟩ : ∃ x, wr.drewN nq = x := ⟨_, rfl⟩
                          rw [hv5] at HQ HB ⊢
                          clear hv5 t0 t1 t2 t3 c0 c1 c2 c3 x0 x1 x2 x3
                          obtain ⟨t0, t1, t2, t3⟩ := HQ.out.tb
                          obtain ⟨c0, c1, c2, c3⟩ := HQ.out.sc
                          obtain ⟨x0, x1, x2, x3⟩ := HB.out
                          dsimp only at t0 t1 t2 t3 x0 x1 x2 x3
                          have HA3 : Hid (slotAt s tk slots k = (decide ((e0 : Int) + 1 ≤ cv) && (decide (k = 0) || decide ((slots.getD (k - 1) default).time ≤ xt)))) := hidp (by rw [HA2.out, HT.out])
                          have cC := Keeps.of_below HQ.out.b _ _ HCc.out
                          rw [HCA.out] at c1
                          by_cases hcv : cv < (e0 : Int) + 1
                          · have g1 : decide (cv < (e0 : Int) + 1) = true := by simpa using hcv
                            have hV := Hst.out (by rw [HA3.out, decide_eq_false (by omega)]; rfl)
                            have HVf := hidp hV
                            clear hV
                            go_wp2_with fail
                            go_quiet (fail)
                            go_wp2_with fail
                            go_ret
                            exact ⟨ret_bool HVf.out.symm, below_drewN HQ.out.b _⟩
                          · have g1 : decide (cv < (e0 : Int) + 1) = false := by simpa using hcv
                            by_cases hk0 : k = 0
                            · have g2 : decide ((0 : Int) < (k : Int)) = false := by simp; omega
                              have g2n : decide (0 < k) = false := by simp; omega
                              have hA := Hgo.out (by rw [HA3.out, decide_eq_true (by omega), decide_eq_true hk0]; rfl)
                              have HA4 := hidp hA
                              clear hA
                              have Hk0 := hidp hk0
                              clear hk0
                              go_wp2_with fail
                              go_quiet (fail)
                              go_wp2_with fail
                              go_roundg (slots.length - k - 1)
                              case measure => omega
                              case rel => exact ⟨k + 1, by omega, by go_num, HA4, hidp (HQ.out.drewN _)⟩
                            · have g2 : decide ((0 : Int) < (k : Int)) = true := by simp; omega
                              have g2n : decide (0 < k) = true := by simp; omega
                              obtain ⟨p, hp⟩ : ∃ p, k - 1 = p := ⟨_, rfl⟩
                              have hpk : p < slots.length := by omega
                              have dp : decide (slots.length ≤ p) = false := by simp; omega
                              have wp : IntKind.i64.wrap ((k : Int) - 1) = (p : Int) := by rw [show (k : Int) - 1 = (p : Int) by omega]; exact IntWalk.i64_in _ (by omega)
                              obtain ⟨y, Hy⟩ : ∃ y, Hid (slots.getD p default = y) := ⟨_, rfl⟩
                              obtain ⟨e0', e1', e2', e3'⟩ := (Hy.out ▸ Hd0.out p hpk).keep (Keeps.of_below HQ.out.b)
                              obtain ⟨yt, yc, yk, yh⟩ := y
                              dsimp only at e0'
                              clear e1' e2' e3'
                              have HA5 : Hid (slotAt s tk slots k = decide (yt ≤ xt)) := hidp (by rw [HA3.out, decide_eq_true (by omega), decide_eq_false hk0, hp, Hy.out]; rfl)
                              have Hp := hidp hp
                              clear hp hk0
                              by_cases hyt : xt < yt
                              · have g3 : decide (xt < yt) = true := by simpa using hyt
                                have hV := Hst.out (by rw [HA5.out]; exact decide_eq_false (by omega))
                                have HVf := hidp hV
                                clear hV
                                go_wp2_with fail
                                go_quiet (fail)
                                clear wp
                                go_wp2_with fail
                                go_ret
                                exact ⟨ret_bool HVf.out.symm, below_drewN HQ.out.b _⟩
                              · have g3 : decide (xt < yt) = false := by simpa using hyt
                                have hA := Hgo.out (by rw [HA5.out]; exact decide_eq_true (by omega))
                                have HA4 := hidp hA
                                clear hA
                                go_wp2_with fail
                                go_quiet (fail)
                                clear wp
                                go_wp2_with fail
                                go_roundg (slots.length - k - 1)
                                case measure => omega
                                case rel => exact ⟨k + 1, by omega, by go_num, HA4, hidp (HQ.out.drewN _)⟩
                        · obtain ⟨m, hm⟩ : ∃ m : Nat, jv = m := ⟨(j - 1 : Nat), by have := Hjv.out; omega⟩
                          have hmj : m + 1 = j := by have := Hjv.out; omega
                          have hml : m < slots.length := by omega
                          have dm : decide (slots.length ≤ m) = false := by simp; omega
                          obtain ⟨y, Hy⟩ : ∃ y, Hid (slots.getD m default = y) := ⟨_, rfl⟩
                          obtain ⟨e0', e1', e2', e3'⟩ := (Hy.out ▸ Hd0.out m hml).keep (Keeps.of_below HQ.out.b)
                          have Hrv : Hid ((slots.take j).reverse = y :: (slots.take m).reverse) := hidp (by rw [← hmj, rev_snoc hml, Hy.out])
                          obtain ⟨yt, yc, yk, yh⟩ := y
                          dsimp only at e0' e1' e2'
                          clear e3'
                          subst hm
                          have Hmj := hidp hmj
                          clear hmj hj0
                          have mI : (m : Int) < (slots.length : Int) := by omega
                          by_cases hyt : yt = xt
                          · have f1 : (yt == xt) = true := by simpa using hyt
                            have Hyt := hidp hyt
                            clear hyt
                            go_wp2_with fail
                            go_quiet (fail)
                            replace HQ := hidp (HQ.out.drewN nq)
                            replace HB := hidp (HB.out.keep (Keeps.drewN _ nq))
                            have e0b := Keeps.drewN wr nq _ _ e0'
                            have e1b := Keeps.drewN wr nq _ _ e1'
                            have e2b := Keeps.drewN wr nq _ _ e2'
                            obtain ⟨v5, hv5⟩ : ∃ x, wr.drewN nq = x := ⟨_, rfl⟩
                            rw [hv5] at HQ HB e0b e1b e2b ⊢
                            clear hv5 t0 t1 t2 t3 c0 c1 c2 c3 x0 x1 x2 x3 e0' e1' e2'
                            obtain ⟨t0, t1, t2, t3⟩ := HQ.out.tb
                            obtain ⟨x0, x1, x2, x3⟩ := HB.out
                            dsimp only at t0 t1 t2 t3 x0 x1 x2 x3
                            by_cases hyk : yk = (q : Int)
                            · have f2 : (yk == (q : Int)) = true := by simpa using hyk
                              have HBd := hidp (show yk = (q : Int) ∨ (c : Int) < yc from .inl hyk)
                              clear hyk
                              have hV := Hst.out (by rw [HA2.out, Hsc.out, Hrv.out, scan_bad Hyt.out HBd.out]; rfl)
                              have HVf := hidp hV
                              clear hV
                              go_wp2_with fail
                              go_quiet (fail)
                              go_wp2_with fail
                              go_ret
                              exact ⟨ret_bool HVf.out.symm, below_drewN HQ.out.b _⟩
                            · have f2 : (yk == (q : Int)) = false := by simpa using hyk
                              by_cases hyc : (c : Int) < yc
                              · have f3 : decide ((c : Int) < yc) = true := by simpa using hyc
                                have HBd := hidp (show yk = (q : Int) ∨ (c : Int) < yc from .inr hyc)
                                clear hyk hyc
                                have hV := Hst.out (by rw [HA2.out, Hsc.out, Hrv.out, scan_bad Hyt.out HBd.out]; rfl)
                                have HVf := hidp hV
                                clear hV
                                go_wp2_with fail
                                go_quiet (fail)
                                go_wp2_with fail
                                go_ret
                                exact ⟨ret_bool HVf.out.symm, below_drewN HQ.out.b _⟩
                              · have f3 : decide ((c : Int) < yc) = false := by simpa using hyc
                                have HBd := hidp (show ¬ (yk = (q : Int) ∨ (c : Int) < yc) from fun h => h.elim hyk hyc)
                                clear hyk hyc
                                by_cases hec : yc = (c : Int)
                                · have f4 : (yc == (c : Int)) = true := by simpa using hec
                                  have HN : Hid (scanS ⟨xt, c, q, xh⟩ (slots.take k).reverse = (scanS ⟨xt, c, q, xh⟩ (slots.take m).reverse).map (· + (e0 + 1))) := hidp (by
                                    rw [Hsc.out, Hrv.out, scan_go Hyt.out HBd.out, Option.map_map]
                                    congr 1
                                    funext n
                                    show n + (if yc = (c : Int) then 1 else 0) + e0 = n + (e0 + 1)
                                    rw [if_pos hec]; omega)
                                  clear hec Hsc
                                  go_wp2_with fail
                                  go_quiet (fail)
                                  replace HQ := hidp (HQ.out.drewN nq)
                                  replace HB := hidp (HB.out.keep (Keeps.drewN _ nq))
                                  have e1c := Keeps.drewN v5 nq _ _ e1b
                                  obtain ⟨v6, hv6⟩ : ∃ x, v5.drewN nq = x := ⟨_, rfl⟩
                                  rw [hv6] at HQ HB e1c ⊢
                                  clear hv6 t0 t1 t2 t3 x0 x1 x2 x3 e0b e1b e2b
                                  obtain ⟨t0, t1, t2, t3⟩ := HQ.out.tb
                                  obtain ⟨x0, x1, x2, x3⟩ := HB.out
                                  dsimp only at t0 t1 t2 t3 x0 x1 x2 x3
                                  have wm : IntKind.i64.wrap ((m : Int) - 1) = (m : Int) - 1 := IntWalk.i64_in _ (by omega)
                                  obtain ⟨mv, hmv⟩ : ∃ mv : Int, (m : Int) - 1 = mv := ⟨_, rfl⟩
                                  rw [hmv] at wm
                                  have Hmv := hidp hmv
                                  go_wp2_with fail
                                  go_quiet (fail)
                                  go_wp2_with fail
                                  clear wm hmv
                                  go_roundg (gk - 1)
                                  case measure => have := Hmj.out; omega
                                  case rel => exact ⟨m, (e0 + 1), mv, by have := Hmj.out; omega, by have := Hmj.out; omega, congrArg (Value.int .i64) ((IntWalk.wrap64_in ((e0 : Int) + 1 + 1) (by have := Hmj.out; omega)).trans (by omega)), by have := Hmj.out; omega, rfl, hidp Hmv.out.symm, by have := Hmj.out; omega, HN, hidp (HQ.out.drewN _), hidp (HB.out.keep (Keeps.drewN _ _))⟩
                                · have f4 : (yc == (c : Int)) = false := by simpa using hec
                                  have HN : Hid (scanS ⟨xt, c, q, xh⟩ (slots.take k).reverse = (scanS ⟨xt, c, q, xh⟩ (slots.take m).reverse).map (· + e0)) := hidp (by
                                    rw [Hsc.out, Hrv.out, scan_go Hyt.out HBd.out, Option.map_map]
                                    congr 1
                                    funext n
                                    show n + (if yc = (c : Int) then 1 else 0) + e0 = n + e0
                                    rw [if_neg hec]; omega)
                                  clear hec Hsc
                                  go_wp2_with fail
                                  go_quiet (fail)
                                  replace HQ := hidp (HQ.out.drewN nq)
                                  replace HB := hidp (HB.out.keep (Keeps.drewN _ nq))
                                  have e1c := Keeps.drewN v5 nq _ _ e1b
                                  obtain ⟨v6, hv6⟩ : ∃ x, v5.drewN nq = x := ⟨_, rfl⟩
                                  rw [hv6] at HQ HB e1c ⊢
                                  clear hv6 t0 t1 t2 t3 x0 x1 x2 x3 e0b e1b e2b
                                  obtain ⟨t0, t1, t2, t3⟩ := HQ.out.tb
                                  obtain ⟨x0, x1, x2, x3⟩ := HB.out
                                  dsimp only at t0 t1 t2 t3 x0 x1 x2 x3
                                  have wm : IntKind.i64.wrap ((m : Int) - 1) = (m : Int) - 1 := IntWalk.i64_in _ (by omega)
                                  obtain ⟨mv, hmv⟩ : ∃ mv : Int, (m : Int) - 1 = mv := ⟨_, rfl⟩
                                  rw [hmv] at wm
                                  have Hmv := hidp hmv
                                  go_wp2_with fail
                                  go_quiet (fail)
                                  go_wp2_with fail
                                  clear wm hmv
                                  go_roundg (gk - 1)
                                  case measure => have := Hmj.out; omega
                                  case rel => exact ⟨m, e0, mv, by have := Hmj.out; omega, by have := Hmj.out; omega, rfl, by have := Hmj.out; omega, rfl, hidp Hmv.out.symm, by have := Hmj.out; omega, HN, hidp (HQ.out.drewN _), hidp (HB.out.keep (Keeps.drewN _ _))⟩
                          · have f1 : (yt == xt) = false := by simpa using hyt
                            have HT : Hid (scanS ⟨xt, c, q, xh⟩ (slots.take k).reverse = some e0) := hidp (by rw [Hsc.out, Hrv.out, scan_stop hyt]; show some (0 + e0) = _; rw [Nat.zero_add])
                            clear hyt Hsc
                            go_wp2_with fail
                            go_quiet (fail)
                            replace HQ := hidp (HQ.out.drewN nq)
                            replace HB := hidp (HB.out.keep (Keeps.drewN _ nq))
                            obtain ⟨v5, hv5⟩ : ∃ x, wr.drewN nq = x := ⟨_, rfl⟩
                            rw [hv5] at HQ HB ⊢
                            clear hv5 t0 t1 t2 t3 c0 c1 c2 c3 x0 x1 x2 x3 e0' e1' e2'
                            obtain ⟨t0, t1, t2, t3⟩ := HQ.out.tb
                            obtain ⟨c0, c1, c2, c3⟩ := HQ.out.sc
                            obtain ⟨x0, x1, x2, x3⟩ := HB.out
                            dsimp only at t0 t1 t2 t3 x0 x1 x2 x3
                            have HA3 : Hid (slotAt s tk slots k = (decide ((e0 : Int) + 1 ≤ cv) && (decide (k = 0) || decide ((slots.getD (k - 1) default).time ≤ xt)))) := hidp (by rw [HA2.out, HT.out])
                            have cC := Keeps.of_below HQ.out.b _ _ HCc.out
                            rw [HCA.out] at c1
                            by_cases hcv : cv < (e0 : Int) + 1
                            · have g1 : decide (cv < (e0 : Int) + 1) = true := by simpa using hcv
                              have hV := Hst.out (by rw [HA3.out, decide_eq_false (by omega)]; rfl)
                              have HVf := hidp hV
                              clear hV
                              go_wp2_with fail
                              go_quiet (fail)
                              go_wp2_with fail
                              go_ret
                              exact ⟨ret_bool HVf.out.symm, below_drewN HQ.out.b _⟩
                            · have g1 : decide (cv < (e0 : Int) + 1) = false := by simpa using hcv
                              by_cases hk0 : k = 0
                              · have g2 : decide ((0 : Int) < (k : Int)) = false := by simp; omega
                                have g2n : decide (0 < k) = false := by simp; omega
                                have hA := Hgo.out (by rw [HA3.out, decide_eq_true (by omega), decide_eq_true hk0]; rfl)
                                have HA4 := hidp hA
                                clear hA
                                have Hk0 := hidp hk0
                                clear hk0
                                go_wp2_with fail
                                go_quiet (fail)
                                go_wp2_with fail
                                go_roundg (slots.length - k - 1)
                                case measure => omega
                                case rel => exact ⟨k + 1, by omega, by go_num, HA4, hidp (HQ.out.drewN _)⟩
                              · have g2 : decide ((0 : Int) < (k : Int)) = true := by simp; omega
                                have g2n : decide (0 < k) = true := by simp; omega
                                obtain ⟨p, hp⟩ : ∃ p, k - 1 = p := ⟨_, rfl⟩
                                have hpk : p < slots.length := by omega
                                have dp : decide (slots.length ≤ p) = false := by simp; omega
                                have wp : IntKind.i64.wrap ((k : Int) - 1) = (p : Int) := by rw [show (k : Int) - 1 = (p : Int) by omega]; exact IntWalk.i64_in _ (by omega)
                                obtain ⟨y, Hy⟩ : ∃ y, Hid (slots.getD p default = y) := ⟨_, rfl⟩
                                obtain ⟨e0', e1', e2', e3'⟩ := (Hy.out ▸ Hd0.out p hpk).keep (Keeps.of_below HQ.out.b)
                                obtain ⟨yt, yc, yk, yh⟩ := y
                                dsimp only at e0'
                                clear e1' e2' e3'
                                have HA5 : Hid (slotAt s tk slots k = decide (yt ≤ xt)) := hidp (by rw [HA3.out, decide_eq_true (by omega), decide_eq_false hk0, hp, Hy.out]; rfl)
                                have Hp := hidp hp
                                clear hp hk0
                                by_cases hyt : xt < yt
                                · have g3 : decide (xt < yt) = true := by simpa using hyt
                                  have hV := Hst.out (by rw [HA5.out]; exact decide_eq_false (by omega))
                                  have HVf := hidp hV
                                  clear hV
                                  go_wp2_with fail
                                  go_quiet (fail)
                                  clear wp
                                  go_wp2_with fail
                                  go_ret
                                  exact ⟨ret_bool HVf.out.symm, below_drewN HQ.out.b _⟩
                                · have g3 : decide (xt < yt) = false := by simpa using hyt
                                  have hA := Hgo.out (by rw [HA5.out]; exact decide_eq_true (by omega))
                                  have HA4 := hidp hA
                                  clear hA
                                  go_wp2_with fail
                                  go_quiet (fail)
                                  clear wp
                                  go_wp2_with fail
                                  go_roundg (slots.length - k - 1)
                                  case measure => omega
                                  case rel => exact ⟨k + 1, by omega, by go_num, HA4, hidp (HQ.out.drewN _)⟩
                    · cases xh with
                      | true =>
                        have HP : Hid (placedB s tk ⟨xt, c, q, true⟩ = true) := hidp (by rw [HPl.out]; rw [show ((c : Int) == cl) = true by simpa using Hcl2.out.symm]; rfl)
                        have HA2 : Hid (slotAt s tk slots k = (match scanS ⟨xt, c, q, true⟩ (slots.take k).reverse with | none => false | some n => decide ((n : Int) + 1 ≤ cv) && (decide (k = 0) || decide ((slots.getD (k - 1) default).time ≤ xt)))) := hidp (by rw [HAt.out, HP.out, Bool.true_and]; simp only [Int.toNat_natCast, HCV.out])
                        clear HAt HPl HP
                        go_wp2_with fail
                        go_quiet (fail)
                        replace HR1 := hidp (HR1.out.drewN nq)
                        replace xb := xb.keep (Keeps.drewN _ nq)
                        obtain ⟨v2, hv2⟩ : ∃ x, v.drewN nq = x := ⟨_, rfl⟩
                        rw [hv2] at HR1 xb ⊢
                        clear hv2 t0 t1 t2 t3 c0 c1 c2 c3 x0 x1 x2 x3 b4'
                        have Hxb := hidp xb
                        clear xb
                        have wk : (k : Int) - 1 = (k : Int) - 1 := rfl
                        clear wk
                        obtain ⟨kv, hkv⟩ : ∃ kv : Int, (k : Int) - 1 = kv := ⟨_, rfl⟩
                        have wk1 : IntKind.i64.wrap ((k : Int) - 1) = kv := by rw [hkv]; exact IntWalk.i64_in _ (by omega)
                        have Hkv := hidp hkv
                        go_wp2_with fail
                        clear hkv wk1
                        go_loopg [7, 8] (k + 1) (fun gg a b wr => ∃ (j c0 : Nat) (jv : Int), gg = j + 1 ∧ j ≤ k ∧ a = .int .i64 ((c0 : Int) + 1) ∧ c0 ≤ k ∧ b = .int .i64 jv ∧ Hid (jv = (j : Int) - 1) ∧ c0 + j ≤ k ∧ Hid (scanS ⟨xt, c, q, true⟩ (slots.take k).reverse = (scanS ⟨xt, c, q, true⟩ (slots.take j).reverse).map (· + c0)) ∧ Hid (RsR w wr s ⟨tk, some ⟨g, off, none⟩, sc', slots, ja, jc, jobs, wa, wc, ws⟩) ∧ Hid (SlotBox wr Y ⟨xt, c, q, true⟩))
                        case atStart => exact ⟨k, 0, kv, rfl, Nat.le_refl _, rfl, Nat.zero_le _, rfl, hidp (by rw [← Hkv.out]), by omega, hidp omap_id.symm, HR1, Hxb⟩
                        case round =>
                          obtain ⟨j, e0, jv, hgg, hjk, rfl, he0, rfl, Hjv, hej, Hsc, HQ, HB⟩ := hrel
                          clear HR1 Hxb
                          obtain ⟨t0, t1, t2, t3⟩ := HQ.out.tb
                          obtain ⟨c0, c1, c2, c3⟩ := HQ.out.sc
                          obtain ⟨x0, x1, x2, x3⟩ := HB.out
                          dsimp only at t0 t1 t2 t3 x0 x1 x2 x3
                          by_cases hj0 : j = 0
                          · have hjv : jv = -1 := by have := Hjv.out; omega
                            have f0 : decide (0 ≤ jv) = false := by simp; omega
                            have HT : Hid (scanS ⟨xt, c, q, true⟩ (slots.take k).reverse = some e0) := hidp (by rw [Hsc.out, hj0]; show some (0 + e0) = _; rw [Nat.zero_add])
                            clear hjv hj0 Hsc
                            go_wp2_with fail
                            go_quiet (fail)
                            replace HQ := hidp (HQ.out.drewN nq)
                            replace HB := hidp (HB.out.keep (Keeps.drewN _ nq))
                            obtain ⟨v5, hv5⟩ : ∃ x, wr.drewN nq = x := ⟨_, rfl⟩
                            rw [hv5] at HQ HB ⊢
                            clear hv5 t0 t1 t2 t3 c0 c1 c2 c3 x0 x1 x2 x3
                            obtain ⟨t0, t1, t2, t3⟩ := HQ.out.tb
                            obtain ⟨c0, c1, c2, c3⟩ := HQ.out.sc
                            obtain ⟨x0, x1, x2, x3⟩ := HB.out
                            dsimp only at t0 t1 t2 t3 x0 x1 x2 x3
                            have HA3 : Hid (slotAt s tk slots k = (decide ((e0 : Int) + 1 ≤ cv) && (decide (k = 0) || decide ((slots.getD (k - 1) default).time ≤ xt)))) := hidp (by rw [HA2.out, HT.out])
                            have cC := Keeps.of_below HQ.out.b _ _ HCc.out
                            rw [HCA.out] at c1
                            by_cases hcv : cv < (e0 : Int) + 1
                            · have g1 : decide (cv < (e0 : Int) + 1) = true := by simpa using hcv
                              have hV := Hst.out (by rw [HA3.out, decide_eq_false (by omega)]; rfl)
                              have HVf := hidp hV
                              clear hV
                              go_wp2_with fail
                              go_quiet (fail)
                              go_wp2_with fail
                              go_ret
                              exact ⟨ret_bool HVf.out.symm, below_drewN HQ.out.b _⟩
                            · have g1 : decide (cv < (e0 : Int) + 1) = false := by simpa using hcv
                              by_cases hk0 : k = 0
                              · have g2 : decide ((0 : Int) < (k : Int)) = false := by simp; omega
                                have g2n : decide (0 < k) = false := by simp; omega
                                have hA := Hgo.out (by rw [HA3.out, decide_eq_true (by omega), decide_eq_true hk0]; rfl)
                                have HA4 := hidp hA
                                clear hA
                                have Hk0 := hidp hk0
                                clear hk0
                                go_wp2_with fail
                                go_quiet (fail)
                                go_wp2_with fail
                                go_roundg (slots.length - k - 1)
                                case measure => omega
                                case rel => exact ⟨k + 1, by omega, by go_num, HA4, hidp (HQ.out.drewN _)⟩
                              · have g2 : decide ((0 : Int) < (k : Int)) = true := by simp; omega
                                have g2n : decide (0 < k) = true := by simp; omega
                                obtain ⟨p, hp⟩ : ∃ p, k - 1 = p := ⟨_, rfl⟩
                                have hpk : p < slots.length := by omega
                                have dp : decide (slots.length ≤ p) = false := by simp; omega
                                have wp : IntKind.i64.wrap ((k : Int) - 1) = (p : Int) := by rw [show (k : Int) - 1 = (p : Int) by omega]; exact IntWalk.i64_in _ (by omega)
                                obtain ⟨y, Hy⟩ : ∃ y, Hid (slots.getD p default = y) := ⟨_, rfl⟩
                                obtain ⟨e0', e1', e2', e3'⟩ := (Hy.out ▸ Hd0.out p hpk).keep (Keeps.of_below HQ.out.b)
                                obtain ⟨yt, yc, yk, yh⟩ := y
                                dsimp only at e0'
                                clear e1' e2' e3'
                                have HA5 : Hid (slotAt s tk slots k = decide (yt ≤ xt)) := hidp (by rw [HA3.out, decide_eq_true (by omega), decide_eq_false hk0, hp, Hy.out]; rfl)
                                have Hp := hidp hp
                                clear hp hk0
                                by_cases hyt : xt < yt
                                · have g3 : decide (xt < yt) = true := by simpa using hyt
                                  have hV := Hst.out (by rw [HA5.out]; exact decide_eq_false (by omega))
                                  have HVf := hidp hV
                                  clear hV
                                  go_wp2_with fail
                                  go_quiet (fail)
                                  clear wp
                                  go_wp2_with fail
                                  go_ret
                                  exact ⟨ret_bool HVf.out.symm, below_drewN HQ.out.b _⟩
                                · have g3 : decide (xt < yt) = false := by simpa using hyt
                                  have hA := Hgo.out (by rw [HA5.out]; exact decide_eq_true (by omega))
                                  have HA4 := hidp hA
                                  clear hA
                                  go_wp2_with fail
                                  go_quiet (fail)
                                  clear wp
                                  go_wp2_with fail
                                  go_roundg (slots.length - k - 1)
                                  case measure => omega
                                  case rel => exact ⟨k + 1, by omega, by go_num, HA4, hidp (HQ.out.drewN _)⟩
                          · obtain ⟨m, hm⟩ : ∃ m : Nat, jv = m := ⟨(j - 1 : Nat), by have := Hjv.out; omega⟩
                            have hmj : m + 1 = j := by have := Hjv.out; omega
                            have hml : m < slots.length := by omega
                            have dm : decide (slots.length ≤ m) = false := by simp; omega
                            obtain ⟨y, Hy⟩ : ∃ y, Hid (slots.getD m default = y) := ⟨_, rfl⟩
                            obtain ⟨e0', e1', e2', e3'⟩ := (Hy.out ▸ Hd0.out m hml).keep (Keeps.of_below HQ.out.b)
                            have Hrv : Hid ((slots.take j).reverse = y :: (slots.take m).reverse) := hidp (by rw [← hmj, rev_snoc hml, Hy.out])
                            obtain ⟨yt, yc, yk, yh⟩ := y
                            dsimp only at e0' e1' e2'
                            clear e3'
                            subst hm
                            have Hmj := hidp hmj
                            clear hmj hj0
                            have mI : (m : Int) < (slots.length : Int) := by omega
                            by_cases hyt : yt = xt
                            · have f1 : (yt == xt) = true := by simpa using hyt
                              have Hyt := hidp hyt
                              clear hyt
                              go_wp2_with fail
                              go_quiet (fail)
                              replace HQ := hidp (HQ.out.drewN nq)
                              replace HB := hidp (HB.out.keep (Keeps.drewN _ nq))
                              have e0b := Keeps.drewN wr nq _ _ e0'
                              have e1b := Keeps.drewN wr nq _ _ e1'
                              have e2b := Keeps.drewN wr nq _ _ e2'
                              obtain ⟨v5, hv5⟩ : ∃ x, wr.drewN nq = x := ⟨_, rfl⟩
                              rw [hv5] at HQ HB e0b e1b e2b ⊢
                              clear hv5 t0 t1 t2 t3 c0 c1 c2 c3 x0 x1 x2 x3 e0' e1' e2'
                              obtain ⟨t0, t1, t2, t3⟩ := HQ.out.tb
                              obtain ⟨x0, x1, x2, x3⟩ := HB.out
                              dsimp only at t0 t1 t2 t3 x0 x1 x2 x3
                              by_cases hyk : yk = (q : Int)
                              · have f2 : (yk == (q : Int)) = true := by simpa using hyk
                                have HBd := hidp (show yk = (q : Int) ∨ (c : Int) < yc from .inl hyk)
                                clear hyk
                                have hV := Hst.out (by rw [HA2.out, Hsc.out, Hrv.out, scan_bad Hyt.out HBd.out]; rfl)
                                have HVf := hidp hV
                                clear hV
                                go_wp2_with fail
                                go_quiet (fail)
                                go_wp2_with fail
                                go_ret
                                exact ⟨ret_bool HVf.out.symm, below_drewN HQ.out.b _⟩
                              · have f2 : (yk == (q : Int)) = false := by simpa using hyk
                                by_cases hyc : (c : Int) < yc
                                · have f3 : decide ((c : Int) < yc) = true := by simpa using hyc
                                  have HBd := hidp (show yk = (q : Int) ∨ (c : Int) < yc from .inr hyc)
                                  clear hyk hyc
                                  have hV := Hst.out (by rw [HA2.out, Hsc.out, Hrv.out, scan_bad Hyt.out HBd.out]; rfl)
                                  have HVf := hidp hV
                                  clear hV
                                  go_wp2_with fail
                                  go_quiet (fail)
                                  go_wp2_with fail
                                  go_ret
                                  exact ⟨ret_bool HVf.out.symm, below_drewN HQ.out.b _⟩
                                · have f3 : decide ((c : Int) < yc) = false := by simpa using hyc
                                  have HBd := hidp (show ¬ (yk = (q : Int) ∨ (c : Int) < yc) from fun h => h.elim hyk hyc)
                                  clear hyk hyc
                                  by_cases hec : yc = (c : Int)
                                  · have f4 : (yc == (c : Int)) = true := by simpa using hec
                                    have HN : Hid (scanS ⟨xt, c, q, true⟩ (slots.take k).reverse = (scanS ⟨xt, c, q, true⟩ (slots.take m).reverse).map (· + (e0 + 1))) := hidp (by
                                      rw [Hsc.out, Hrv.out, scan_go Hyt.out HBd.out, Option.map_map]
                                      congr 1
                                      funext n
                                      show n + (if yc = (c : Int) then 1 else 0) + e0 = n + (e0 + 1)
                                      rw [if_pos hec]; omega)
                                    clear hec Hsc
                                    go_wp2_with fail
                                    go_quiet (fail)
                                    replace HQ := hidp (HQ.out.drewN nq)
                                    replace HB := hidp (HB.out.keep (Keeps.drewN _ nq))
                                    have e1c := Keeps.drewN v5 nq _ _ e1b
                                    obtain ⟨v6, hv6⟩ : ∃ x, v5.drewN nq = x := ⟨_, rfl⟩
                                    rw [hv6] at HQ HB e1c ⊢
                                    clear hv6 t0 t1 t2 t3 x0 x1 x2 x3 e0b e1b e2b
                                    obtain ⟨t0, t1, t2, t3⟩ := HQ.out.tb
                                    obtain ⟨x0, x1, x2, x3⟩ := HB.out
                                    dsimp only at t0 t1 t2 t3 x0 x1 x2 x3
                                    have wm : IntKind.i64.wrap ((m : Int) - 1) = (m : Int) - 1 := IntWalk.i64_in _ (by omega)
                                    obtain ⟨mv, hmv⟩ : ∃ mv : Int, (m : Int) - 1 = mv := ⟨_, rfl⟩
                                    rw [hmv] at wm
                                    have Hmv := hidp hmv
                                    go_wp2_with fail
                                    go_quiet (fail)
                                    go_wp2_with fail
                                    clear wm hmv
                                    go_roundg (gk - 1)
                                    case measure => have := Hmj.out; omega
                                    case rel => exact ⟨m, (e0 + 1), mv, by have := Hmj.out; omega, by have := Hmj.out; omega, congrArg (Value.int .i64) ((IntWalk.wrap64_in ((e0 : Int) + 1 + 1) (by have := Hmj.out; omega)).trans (by omega)), by have := Hmj.out; omega, rfl, hidp Hmv.out.symm, by have := Hmj.out; omega, HN, hidp (HQ.out.drewN _), hidp (HB.out.keep (Keeps.drewN _ _))⟩
                                  · have f4 : (yc == (c : Int)) = false := by simpa using hec
                                    have HN : Hid (scanS ⟨xt, c, q, true⟩ (slots.take k).reverse = (scanS ⟨xt, c, q, true⟩ (slots.take m).reverse).map (· + e0)) := hidp (by
                                      rw [Hsc.out, Hrv.out, scan_go Hyt.out HBd.out, Option.map_map]
                                      congr 1
                                      funext n
                                      show n + (if yc = (c : Int) then 1 else 0) + e0 = n + e0
                                      rw [if_neg hec]; omega)
                                    clear hec Hsc
                                    go_wp2_with fail
                                    go_quiet (fail)
                                    replace HQ := hidp (HQ.out.drewN nq)
                                    replace HB := hidp (HB.out.keep (Keeps.drewN _ nq))
                                    have e1c := Keeps.drewN v5 nq _ _ e1b
                                    obtain ⟨v6, hv6⟩ : ∃ x, v5.drewN nq = x := ⟨_, rfl⟩
                                    rw [hv6] at HQ HB e1c ⊢
                                    clear hv6 t0 t1 t2 t3 x0 x1 x2 x3 e0b e1b e2b
                                    obtain ⟨t0, t1, t2, t3⟩ := HQ.out.tb
                                    obtain ⟨x0, x1, x2, x3⟩ := HB.out
                                    dsimp only at t0 t1 t2 t3 x0 x1 x2 x3
                                    have wm : IntKind.i64.wrap ((m : Int) - 1) = (m : Int) - 1 := IntWalk.i64_in _ (by omega)
                                    obtain ⟨mv, hmv⟩ : ∃ mv : Int, (m : Int) - 1 = mv := ⟨_, rfl⟩
                                    rw [hmv] at wm
                                    have Hmv := hidp hmv
                                    go_wp2_with fail
                                    go_quiet (fail)
                                    go_wp2_with fail
                                    clear wm hmv
                                    go_roundg (gk - 1)
                                    case measure => have := Hmj.out; omega
                                    case rel => exact ⟨m, e0, mv, by have := Hmj.out; omega, by have := Hmj.out; omega, rfl, by have := Hmj.out; omega, rfl, hidp Hmv.out.symm, by have := Hmj.out; omega, HN, hidp (HQ.out.drewN _), hidp (HB.out.keep (Keeps.drewN _ _))⟩
                            · have f1 : (yt == xt) = false := by simpa using hyt
                              have HT : Hid (scanS ⟨xt, c, q, true⟩ (slots.take k).reverse = some e0) := hidp (by rw [Hsc.out, Hrv.out, scan_stop hyt]; show some (0 + e0) = _; rw [Nat.zero_add])
                              clear hyt Hsc
                              go_wp2_with fail
                              go_quiet (fail)
                              replace HQ := hidp (HQ.out.drewN nq)
                              replace HB := hidp (HB.out.keep (Keeps.drewN _ nq))
                              obtain ⟨v5, hv5⟩ : ∃ x, wr.drewN nq = x := ⟨_, rfl⟩
                              rw [hv5] at HQ HB ⊢
                              clear hv5 t0 t1 t2 t3 c0 c1 c2 c3 x0 x1 x2 x3 e0' e1' e2'
                              obtain ⟨t0, t1, t2, t3⟩ := HQ.out.tb
                              obtain ⟨c0, c1, c2, c3⟩ := HQ.out.sc
                              obtain ⟨x0, x1, x2, x3⟩ := HB.out
                              dsimp only at t0 t1 t2 t3 x0 x1 x2 x3
                              have HA3 : Hid (slotAt s tk slots k = (decide ((e0 : Int) + 1 ≤ cv) && (decide (k = 0) || decide ((slots.getD (k - 1) default).time ≤ xt)))) := hidp (by rw [HA2.out, HT.out])
                              have cC := Keeps.of_below HQ.out.b _ _ HCc.out
                              rw [HCA.out] at c1
                              by_cases hcv : cv < (e0 : Int) + 1
                              · have g1 : decide (cv < (e0 : Int) + 1) = true := by simpa using hcv
                                have hV := Hst.out (by rw [HA3.out, decide_eq_false (by omega)]; rfl)
                                have HVf := hidp hV
                                clear hV
                                go_wp2_with fail
                                go_quiet (fail)
                                go_wp2_with fail
                                go_ret
                                exact ⟨ret_bool HVf.out.symm, below_drewN HQ.out.b _⟩
                              · have g1 : decide (cv < (e0 : Int) + 1) = false := by simpa using hcv
                                by_cases hk0 : k = 0
                                · have g2 : decide ((0 : Int) < (k : Int)) = false := by simp; omega
                                  have g2n : decide (0 < k) = false := by simp; omega
                                  have hA := Hgo.out (by rw [HA3.out, decide_eq_true (by omega), decide_eq_true hk0]; rfl)
                                  have HA4 := hidp hA
                                  clear hA
                                  have Hk0 := hidp hk0
                                  clear hk0
                                  go_wp2_with fail
                                  go_quiet (fail)
                                  go_wp2_with fail
                                  go_roundg (slots.length - k - 1)
                                  case measure => omega
                                  case rel => exact ⟨k + 1, by omega, by go_num, HA4, hidp (HQ.out.drewN _)⟩
                                · have g2 : decide ((0 : Int) < (k : Int)) = true := by simp; omega
                                  have g2n : decide (0 < k) = true := by simp; omega
                                  obtain ⟨p, hp⟩ : ∃ p, k - 1 = p := ⟨_, rfl⟩
                                  have hpk : p < slots.length := by omega
                                  have dp : decide (slots.length ≤ p) = false := by simp; omega
                                  have wp : IntKind.i64.wrap ((k : Int) - 1) = (p : Int) := by rw [show (k : Int) - 1 = (p : Int) by omega]; exact IntWalk.i64_in _ (by omega)
                                  obtain ⟨y, Hy⟩ : ∃ y, Hid (slots.getD p default = y) := ⟨_, rfl⟩
                                  obtain ⟨e0', e1', e2', e3'⟩ := (Hy.out ▸ Hd0.out p hpk).keep (Keeps.of_below HQ.out.b)
                                  obtain ⟨yt, yc, yk, yh⟩ := y
                                  dsimp only at e0'
                                  clear e1' e2' e3'
                                  have HA5 : Hid (slotAt s tk slots k = decide (yt ≤ xt)) := hidp (by rw [HA3.out, decide_eq_true (by omega), decide_eq_false hk0, hp, Hy.out]; rfl)
                                  have Hp := hidp hp
                                  clear hp hk0
                                  by_cases hyt : xt < yt
                                  · have g3 : decide (xt < yt) = true := by simpa using hyt
                                    have hV := Hst.out (by rw [HA5.out]; exact decide_eq_false (by omega))
                                    have HVf := hidp hV
                                    clear hV
                                    go_wp2_with fail
                                    go_quiet (fail)
                                    clear wp
                                    go_wp2_with fail
                                    go_ret
                                    exact ⟨ret_bool HVf.out.symm, below_drewN HQ.out.b _⟩
                                  · have g3 : decide (xt < yt) = false := by simpa using hyt
                                    have hA := Hgo.out (by rw [HA5.out]; exact decide_eq_true (by omega))
                                    have HA4 := hidp hA
                                    clear hA
                                    go_wp2_with fail
                                    go_quiet (fail)
                                    clear wp
                                    go_wp2_with fail
                                    go_roundg (slots.length - k - 1)
                                    case measure => omega
                                    case rel => exact ⟨k + 1, by omega, by go_num, HA4, hidp (HQ.out.drewN _)⟩
                      | false =>
                        have HP : Hid (placedB s tk ⟨xt, c, q, false⟩ = true) := hidp (by rw [HPl.out]; rw [show ((c : Int) == cl) = true by simpa using Hcl2.out.symm]; rfl)
                        have HA2 : Hid (slotAt s tk slots k = (match scanS ⟨xt, c, q, false⟩ (slots.take k).reverse with | none => false | some n => decide ((n : Int) + 1 ≤ cv) && (decide (k = 0) || decide ((slots.getD (k - 1) default).time ≤ xt)))) := hidp (by rw [HAt.out, HP.out, Bool.true_and]; simp only [Int.toNat_natCast, HCV.out])
                        clear HAt HPl HP
                        go_wp2_with fail
                        go_quiet (fail)
                        replace HR1 := hidp (HR1.out.drewN nq)
                        replace xb := xb.keep (Keeps.drewN _ nq)
                        obtain ⟨v2, hv2⟩ : ∃ x, v.drewN nq = x := ⟨_, rfl⟩
                        rw [hv2] at HR1 xb ⊢
                        clear hv2 t0 t1 t2 t3 c0 c1 c2 c3 x0 x1 x2 x3 b4'
                        have Hxb := hidp xb
                        clear xb
                        have wk : (k : Int) - 1 = (k : Int) - 1 := rfl
                        clear wk
                        obtain ⟨kv, hkv⟩ : ∃ kv : Int, (k : Int) - 1 = kv := ⟨_, rfl⟩
                        have wk1 : IntKind.i64.wrap ((k : Int) - 1) = kv := by rw [hkv]; exact IntWalk.i64_in _ (by omega)
                        have Hkv := hidp hkv
                        go_wp2_with fail
                        clear hkv wk1
                        go_loopg [7, 8] (k + 1) (fun gg a b wr => ∃ (j c0 : Nat) (jv : Int), gg = j + 1 ∧ j ≤ k ∧ a = .int .i64 ((c0 : Int) + 1) ∧ c0 ≤ k ∧ b = .int .i64 jv ∧ Hid (jv = (j : Int) - 1) ∧ c0 + j ≤ k ∧ Hid (scanS ⟨xt, c, q, false⟩ (slots.take k).reverse = (scanS ⟨xt, c, q, false⟩ (slots.take j).reverse).map (· + c0)) ∧ Hid (RsR w wr s ⟨tk, some ⟨g, off, none⟩, sc', slots, ja, jc, jobs, wa, wc, ws⟩) ∧ Hid (SlotBox wr Y ⟨xt, c, q, false⟩))
                        case atStart => exact ⟨k, 0, kv, rfl, Nat.le_refl _, rfl, Nat.zero_le _, rfl, hidp (by rw [← Hkv.out]), by omega, hidp omap_id.symm, HR1, Hxb⟩
                        case round =>
                          obtain ⟨j, e0, jv, hgg, hjk, rfl, he0, rfl, Hjv, hej, Hsc, HQ, HB⟩ := hrel
                          clear HR1 Hxb
                          obtain ⟨t0, t1, t2, t3⟩ := HQ.out.tb
                          obtain ⟨c0, c1, c2, c3⟩ := HQ.out.sc
                          obtain ⟨x0, x1, x2, x3⟩ := HB.out
                          dsimp only at t0 t1 t2 t3 x0 x1 x2 x3
                          by_cases hj0 : j = 0
                          · have hjv : jv = -1 := by have := Hjv.out; omega
                            have f0 : decide (0 ≤ jv) = false := by simp; omega
                            have HT : Hid (scanS ⟨xt, c, q, false⟩ (slots.take k).reverse = some e0) := hidp (by rw [Hsc.out, hj0]; show some (0 + e0) = _; rw [Nat.zero_add])
                            clear hjv hj0 Hsc
                            go_wp2_with fail
                            go_quiet (fail)
                            replace HQ := hidp (HQ.out.drewN nq)
                            replace HB := hidp (HB.out.keep (Keeps.drewN _ nq))
                            obtain ⟨v5, hv5⟩ : ∃ x, wr.drewN nq = x := ⟨_, rfl⟩
                            rw [hv5] at HQ HB ⊢
                            clear hv5 t0 t1 t2 t3 c0 c1 c2 c3 x0 x1 x2 x3
                            obtain ⟨t0, t1, t2, t3⟩ := HQ.out.tb
                            obtain ⟨c0, c1, c2, c3⟩ := HQ.out.sc
                            obtain ⟨x0, x1, x2, x3⟩ := HB.out
                            dsimp only at t0 t1 t2 t3 x0 x1 x2 x3
                            have HA3 : Hid (slotAt s tk slots k = (decide ((e0 : Int) + 1 ≤ cv) && (decide (k = 0) || decide ((slots.getD (k - 1) default).time ≤ xt)))) := hidp (by rw [HA2.out, HT.out])
                            have cC := Keeps.of_below HQ.out.b _ _ HCc.out
                            rw [HCA.out] at c1
                            by_cases hcv : cv < (e0 : Int) + 1
                            · have g1 : decide (cv < (e0 : Int) + 1) = true := by simpa using hcv
                              have hV := Hst.out (by rw [HA3.out, decide_eq_false (by omega)]; rfl)
                              have HVf := hidp hV
                              clear hV
                              go_wp2_with fail
                              go_quiet (fail)
                              go_wp2_with fail
                              go_ret
                              exact ⟨ret_bool HVf.out.symm, below_drewN HQ.out.b _⟩
                            · have g1 : decide (cv < (e0 : Int) + 1) = false := by simpa using hcv
                              by_cases hk0 : k = 0
                              · have g2 : decide ((0 : Int) < (k : Int)) = false := by simp; omega
                                have g2n : decide (0 < k) = false := by simp; omega
                                have hA := Hgo.out (by rw [HA3.out, decide_eq_true (by omega), decide_eq_true hk0]; rfl)
                                have HA4 := hidp hA
                                clear hA
                                have Hk0 := hidp hk0
                                clear hk0
                                go_wp2_with fail
                                go_quiet (fail)
                                go_wp2_with fail
                                go_roundg (slots.length - k - 1)
                                case measure => omega
                                case rel => exact ⟨k + 1, by omega, by go_num, HA4, hidp (HQ.out.drewN _)⟩
                              · have g2 : decide ((0 : Int) < (k : Int)) = true := by simp; omega
                                have g2n : decide (0 < k) = true := by simp; omega
                                obtain ⟨p, hp⟩ : ∃ p, k - 1 = p := ⟨_, rfl⟩
                                have hpk : p < slots.length := by omega
                                have dp : decide (slots.length ≤ p) = false := by simp; omega
                                have wp : IntKind.i64.wrap ((k : Int) - 1) = (p : Int) := by rw [show (k : Int) - 1 = (p : Int) by omega]; exact IntWalk.i64_in _ (by omega)
                                obtain ⟨y, Hy⟩ : ∃ y, Hid (slots.getD p default = y) := ⟨_, rfl⟩
                                obtain ⟨e0', e1', e2', e3'⟩ := (Hy.out ▸ Hd0.out p hpk).keep (Keeps.of_below HQ.out.b)
                                obtain ⟨yt, yc, yk, yh⟩ := y
                                dsimp only at e0'
                                clear e1' e2' e3'
                                have HA5 : Hid (slotAt s tk slots k = decide (yt ≤ xt)) := hidp (by rw [HA3.out, decide_eq_true (by omega), decide_eq_false hk0, hp, Hy.out]; rfl)
                                have Hp := hidp hp
                                clear hp hk0
                                by_cases hyt : xt < yt
                                · have g3 : decide (xt < yt) = true := by simpa using hyt
                                  have hV := Hst.out (by rw [HA5.out]; exact decide_eq_false (by omega))
                                  have HVf := hidp hV
                                  clear hV
                                  go_wp2_with fail
                                  go_quiet (fail)
                                  clear wp
                                  go_wp2_with fail
                                  go_ret
                                  exact ⟨ret_bool HVf.out.symm, below_drewN HQ.out.b _⟩
                                · have g3 : decide (xt < yt) = false := by simpa using hyt
                                  have hA := Hgo.out (by rw [HA5.out]; exact decide_eq_true (by omega))
                                  have HA4 := hidp hA
                                  clear hA
                                  go_wp2_with fail
                                  go_quiet (fail)
                                  clear wp
                                  go_wp2_with fail
                                  go_roundg (slots.length - k - 1)
                                  case measure => omega
                                  case rel => exact ⟨k + 1, by omega, by go_num, HA4, hidp (HQ.out.drewN _)⟩
                          · obtain ⟨m, hm⟩ : ∃ m : Nat, jv = m := ⟨(j - 1 : Nat), by have := Hjv.out; omega⟩
                            have hmj : m + 1 = j := by have := Hjv.out; omega
                            have hml : m < slots.length := by omega
                            have dm : decide (slots.length ≤ m) = false := by simp; omega
                            obtain ⟨y, Hy⟩ : ∃ y, Hid (slots.getD m default = y) := ⟨_, rfl⟩
                            obtain ⟨e0', e1', e2', e3'⟩ := (Hy.out ▸ Hd0.out m hml).keep (Keeps.of_below HQ.out.b)
                            have Hrv : Hid ((slots.take j).reverse = y :: (slots.take m).reverse) := hidp (by rw [← hmj, rev_snoc hml, Hy.out])
                            obtain ⟨yt, yc, yk, yh⟩ := y
                            dsimp only at e0' e1' e2'
                            clear e3'
                            subst hm
                            have Hmj := hidp hmj
                            clear hmj hj0
                            have mI : (m : Int) < (slots.length : Int) := by omega
                            by_cases hyt : yt = xt
                            · have f1 : (yt == xt) = true := by simpa using hyt
                              have Hyt := hidp hyt
                              clear hyt
                              go_wp2_with fail
                              go_quiet (fail)
                              replace HQ := hidp (HQ.out.drewN nq)
                              replace HB := hidp (HB.out.keep (Keeps.drewN _ nq))
                              have e0b := Keeps.drewN wr nq _ _ e0'
                              have e1b := Keeps.drewN wr nq _ _ e1'
                              have e2b := Keeps.drewN wr nq _ _ e2'
                              obtain ⟨v5, hv5⟩ : ∃ x, wr.drewN nq = x := ⟨_, rfl⟩
                              rw [hv5] at HQ HB e0b e1b e2b ⊢
                              clear hv5 t0 t1 t2 t3 c0 c1 c2 c3 x0 x1 x2 x3 e0' e1' e2'
                              obtain ⟨t0, t1, t2, t3⟩ := HQ.out.tb
                              obtain ⟨x0, x1, x2, x3⟩ := HB.out
                              dsimp only at t0 t1 t2 t3 x0 x1 x2 x3
                              by_cases hyk : yk = (q : Int)
                              · have f2 : (yk == (q : Int)) = true := by simpa using hyk
                                have HBd := hidp (show yk = (q : Int) ∨ (c : Int) < yc from .inl hyk)
                                clear hyk
                                have hV := Hst.out (by rw [HA2.out, Hsc.out, Hrv.out, scan_bad Hyt.out HBd.out]; rfl)
                                have HVf := hidp hV
                                clear hV
                                go_wp2_with fail
                                go_quiet (fail)
                                go_wp2_with fail
                                go_ret
                                exact ⟨ret_bool HVf.out.symm, below_drewN HQ.out.b _⟩
                              · have f2 : (yk == (q : Int)) = false := by simpa using hyk
                                by_cases hyc : (c : Int) < yc
                                · have f3 : decide ((c : Int) < yc) = true := by simpa using hyc
                                  have HBd := hidp (show yk = (q : Int) ∨ (c : Int) < yc from .inr hyc)
                                  clear hyk hyc
                                  have hV := Hst.out (by rw [HA2.out, Hsc.out, Hrv.out, scan_bad Hyt.out HBd.out]; rfl)
                                  have HVf := hidp hV
                                  clear hV
                                  go_wp2_with fail
                                  go_quiet (fail)
                                  go_wp2_with fail
                                  go_ret
                                  exact ⟨ret_bool HVf.out.symm, below_drewN HQ.out.b _⟩
                                · have f3 : decide ((c : Int) < yc) = false := by simpa using hyc
                                  have HBd := hidp (show ¬ (yk = (q : Int) ∨ (c : Int) < yc) from fun h => h.elim hyk hyc)
                                  clear hyk hyc
                                  by_cases hec : yc = (c : Int)
                                  · have f4 : (yc == (c : Int)) = true := by simpa using hec
                                    have HN : Hid (scanS ⟨xt, c, q, false⟩ (slots.take k).reverse = (scanS ⟨xt, c, q, false⟩ (slots.take m).reverse).map (· + (e0 + 1))) := hidp (by
                                      rw [Hsc.out, Hrv.out, scan_go Hyt.out HBd.out, Option.map_map]
                                      congr 1
                                      funext n
                                      show n + (if yc = (c : Int) then 1 else 0) + e0 = n + (e0 + 1)
                                      rw [if_pos hec]; omega)
                                    clear hec Hsc
                                    go_wp2_with fail
                                    go_quiet (fail)
                                    replace HQ := hidp (HQ.out.drewN nq)
                                    replace HB := hidp (HB.out.keep (Keeps.drewN _ nq))
                                    have e1c := Keeps.drewN v5 nq _ _ e1b
                                    obtain ⟨v6, hv6⟩ : ∃ x, v5.drewN nq = x := ⟨_, rfl⟩
                                    rw [hv6] at HQ HB e1c ⊢
                                    clear hv6 t0 t1 t2 t3 x0 x1 x2 x3 e0b e1b e2b
                                    obtain ⟨t0, t1, t2, t3⟩ := HQ.out.tb
                                    obtain ⟨x0, x1, x2, x3⟩ := HB.out
                                    dsimp only at t0 t1 t2 t3 x0 x1 x2 x3
                                    have wm : IntKind.i64.wrap ((m : Int) - 1) = (m : Int) - 1 := IntWalk.i64_in _ (by omega)
                                    obtain ⟨mv, hmv⟩ : ∃ mv : Int, (m : Int) - 1 = mv := ⟨_, rfl⟩
                                    rw [hmv] at wm
                                    have Hmv := hidp hmv
                                    go_wp2_with fail
                                    go_quiet (fail)
                                    go_wp2_with fail
                                    clear wm hmv
                                    go_roundg (gk - 1)
                                    case measure => have := Hmj.out; omega
                                    case rel => exact ⟨m, (e0 + 1), mv, by have := Hmj.out; omega, by have := Hmj.out; omega, congrArg (Value.int .i64) ((IntWalk.wrap64_in ((e0 : Int) + 1 + 1) (by have := Hmj.out; omega)).trans (by omega)), by have := Hmj.out; omega, rfl, hidp Hmv.out.symm, by have := Hmj.out; omega, HN, hidp (HQ.out.drewN _), hidp (HB.out.keep (Keeps.drewN _ _))⟩
                                  · have f4 : (yc == (c : Int)) = false := by simpa using hec
                                    have HN : Hid (scanS ⟨xt, c, q, false⟩ (slots.take k).reverse = (scanS ⟨xt, c, q, false⟩ (slots.take m).reverse).map (· + e0)) := hidp (by
                                      rw [Hsc.out, Hrv.out, scan_go Hyt.out HBd.out, Option.map_map]
                                      congr 1
                                      funext n
                                      show n + (if yc = (c : Int) then 1 else 0) + e0 = n + e0
                                      rw [if_neg hec]; omega)
                                    clear hec Hsc
                                    go_wp2_with fail
                                    go_quiet (fail)
                                    replace HQ := hidp (HQ.out.drewN nq)
                                    replace HB := hidp (HB.out.keep (Keeps.drewN _ nq))
                                    have e1c := Keeps.drewN v5 nq _ _ e1b
                                    obtain ⟨v6, hv6⟩ : ∃ x, v5.drewN nq = x := ⟨_, rfl⟩
                                    rw [hv6] at HQ HB e1c ⊢
                                    clear hv6 t0 t1 t2 t3 x0 x1 x2 x3 e0b e1b e2b
                                    obtain ⟨t0, t1, t2, t3⟩ := HQ.out.tb
                                    obtain ⟨x0, x1, x2, x3⟩ := HB.out
                                    dsimp only at t0 t1 t2 t3 x0 x1 x2 x3
                                    have wm : IntKind.i64.wrap ((m : Int) - 1) = (m : Int) - 1 := IntWalk.i64_in _ (by omega)
                                    obtain ⟨mv, hmv⟩ : ∃ mv : Int, (m : Int) - 1 = mv := ⟨_, rfl⟩
                                    rw [hmv] at wm
                                    have Hmv := hidp hmv
                                    go_wp2_with fail
                                    go_quiet (fail)
                                    go_wp2_with fail
                                    clear wm hmv
                                    go_roundg (gk - 1)
                                    case measure => have := Hmj.out; omega
                                    case rel => exact ⟨m, e0, mv, by have := Hmj.out; omega, by have := Hmj.out; omega, rfl, by have := Hmj.out; omega, rfl, hidp Hmv.out.symm, by have := Hmj.out; omega, HN, hidp (HQ.out.drewN _), hidp (HB.out.keep (Keeps.drewN _ _))⟩
                            · have f1 : (yt == xt) = false := by simpa using hyt
                              have HT : Hid (scanS ⟨xt, c, q, false⟩ (slots.take k).reverse = some e0) := hidp (by rw [Hsc.out, Hrv.out, scan_stop hyt]; show some (0 + e0) = _; rw [Nat.zero_add])
                              clear hyt Hsc
                              go_wp2_with fail
                              go_quiet (fail)
                              replace HQ := hidp (HQ.out.drewN nq)
                              replace HB := hidp (HB.out.keep (Keeps.drewN _ nq))
                              obtain ⟨v5, hv5⟩ : ∃ x, wr.drewN nq = x := ⟨_, rfl⟩
                              rw [hv5] at HQ HB ⊢
                              clear hv5 t0 t1 t2 t3 c0 c1 c2 c3 x0 x1 x2 x3 e0' e1' e2'
                              obtain ⟨t0, t1, t2, t3⟩ := HQ.out.tb
                              obtain ⟨c0, c1, c2, c3⟩ := HQ.out.sc
                              obtain ⟨x0, x1, x2, x3⟩ := HB.out
                              dsimp only at t0 t1 t2 t3 x0 x1 x2 x3
                              have HA3 : Hid (slotAt s tk slots k = (decide ((e0 : Int) + 1 ≤ cv) && (decide (k = 0) || decide ((slots.getD (k - 1) default).time ≤ xt)))) := hidp (by rw [HA2.out, HT.out])
                              have cC := Keeps.of_below HQ.out.b _ _ HCc.out
                              rw [HCA.out] at c1
                              by_cases hcv : cv < (e0 : Int) + 1
                              · have g1 : decide (cv < (e0 : Int) + 1) = true := by simpa using hcv
                                have hV := Hst.out (by rw [HA3.out, decide_eq_false (by omega)]; rfl)
                                have HVf := hidp hV
                                clear hV
                                go_wp2_with fail
                                go_quiet (fail)
                                go_wp2_with fail
                                go_ret
                                exact ⟨ret_bool HVf.out.symm, below_drewN HQ.out.b _⟩
                              · have g1 : decide (cv < (e0 : Int) + 1) = false := by simpa using hcv
                                by_cases hk0 : k = 0
                                · have g2 : decide ((0 : Int) < (k : Int)) = false := by simp; omega
                                  have g2n : decide (0 < k) = false := by simp; omega
                                  have hA := Hgo.out (by rw [HA3.out, decide_eq_true (by omega), decide_eq_true hk0]; rfl)
                                  have HA4 := hidp hA
                                  clear hA
                                  have Hk0 := hidp hk0
                                  clear hk0
                                  go_wp2_with fail
                                  go_quiet (fail)
                                  go_wp2_with fail
                                  go_roundg (slots.length - k - 1)
                                  case measure => omega
                                  case rel => exact ⟨k + 1, by omega, by go_num, HA4, hidp (HQ.out.drewN _)⟩
                                · have g2 : decide ((0 : Int) < (k : Int)) = true := by simp; omega
                                  have g2n : decide (0 < k) = true := by simp; omega
                                  obtain ⟨p, hp⟩ : ∃ p, k - 1 = p := ⟨_, rfl⟩
                                  have hpk : p < slots.length := by omega
                                  have dp : decide (slots.length ≤ p) = false := by simp; omega
                                  have wp : IntKind.i64.wrap ((k : Int) - 1) = (p : Int) := by rw [show (k : Int) - 1 = (p : Int) by omega]; exact IntWalk.i64_in _ (by omega)
                                  obtain ⟨y, Hy⟩ : ∃ y, Hid (slots.getD p default = y) := ⟨_, rfl⟩
                                  obtain ⟨e0', e1', e2', e3'⟩ := (Hy.out ▸ Hd0.out p hpk).keep (Keeps.of_below HQ.out.b)
                                  obtain ⟨yt, yc, yk, yh⟩ := y
                                  dsimp only at e0'
                                  clear e1' e2' e3'
                                  have HA5 : Hid (slotAt s tk slots k = decide (yt ≤ xt)) := hidp (by rw [HA3.out, decide_eq_true (by omega), decide_eq_false hk0, hp, Hy.out]; rfl)
                                  have Hp := hidp hp
                                  clear hp hk0
                                  by_cases hyt : xt < yt
                                  · have g3 : decide (xt < yt) = true := by simpa using hyt
                                    have hV := Hst.out (by rw [HA5.out]; exact decide_eq_false (by omega))
                                    have HVf := hidp hV
                                    clear hV
                                    go_wp2_with fail
                                    go_quiet (fail)
                                    clear wp
                                    go_wp2_with fail
                                    go_ret
                                    exact ⟨ret_bool HVf.out.symm, below_drewN HQ.out.b _⟩
                                  · have g3 : decide (xt < yt) = false := by simpa using hyt
                                    have hA := Hgo.out (by rw [HA5.out]; exact decide_eq_true (by omega))
                                    have HA4 := hidp hA
                                    clear hA
                                    go_wp2_with fail
                                    go_quiet (fail)
                                    clear wp
                                    go_wp2_with fail
                                    go_roundg (slots.length - k - 1)
                                    case measure => omega
                                    case rel => exact ⟨k + 1, by omega, by go_num, HA4, hidp (HQ.out.drewN _)⟩
                  · have f6 : (cl != (c : Int)) = true := by simpa using hcl2
                    have hne : ((c : Int) == cl) = false := by simpa using fun e => hcl2 e.symm
                    have Hne := hidp hne
                    clear hcl2 hne
                    by_cases hpw : s.proto = 2
                    · have f7 : (s.proto != 2) = false := by simp [hpw]
                      have Hpw := hidp hpw
                      clear hpw
                      cases xh with
                      | true =>
                        have HP : Hid (placedB s tk ⟨xt, c, q, true⟩ = true) := hidp (by rw [HPl.out]; rw [Hne.out, show (s.proto == 2) = true by simpa using Hpw.out]; rfl)
                        have HA2 : Hid (slotAt s tk slots k = (match scanS ⟨xt, c, q, true⟩ (slots.take k).reverse with | none => false | some n => decide ((n : Int) + 1 ≤ cv) && (decide (k = 0) || decide ((slots.getD (k - 1) default).time ≤ xt)))) := hidp (by rw [HAt.out, HP.out, Bool.true_and]; simp only [Int.toNat_natCast, HCV.out])
                        clear HAt HPl HP
                        go_wp2_with fail
                        go_quiet (fail)
                        replace HR1 := hidp (HR1.out.drewN nq)
                        replace xb := xb.keep (Keeps.drewN _ nq)
                        obtain ⟨v2, hv2⟩ : ∃ x, v.drewN nq = x := ⟨_, rfl⟩
                        rw [hv2] at HR1 xb ⊢
                        clear hv2 t0 t1 t2 t3 c0 c1 c2 c3 x0 x1 x2 x3 b4'
                        have Hxb := hidp xb
                        clear xb
                        have wk : (k : Int) - 1 = (k : Int) - 1 := rfl
                        clear wk
                        obtain ⟨kv, hkv⟩ : ∃ kv : Int, (k : Int) - 1 = kv := ⟨_, rfl⟩
                        have wk1 : IntKind.i64.wrap ((k : Int) - 1) = kv := by rw [hkv]; exact IntWalk.i64_in _ (by omega)
                        have Hkv := hidp hkv
                        go_wp2_with fail
                        clear hkv wk1
                        go_loopg [7, 8] (k + 1) (fun gg a b wr => ∃ (j c0 : Nat) (jv : Int), gg = j + 1 ∧ j ≤ k ∧ a = .int .i64 ((c0 : Int) + 1) ∧ c0 ≤ k ∧ b = .int .i64 jv ∧ Hid (jv = (j : Int) - 1) ∧ c0 + j ≤ k ∧ Hid (scanS ⟨xt, c, q, true⟩ (slots.take k).reverse = (scanS ⟨xt, c, q, true⟩ (slots.take j).reverse).map (· + c0)) ∧ Hid (RsR w wr s ⟨tk, some ⟨g, off, none⟩, sc', slots, ja, jc, jobs, wa, wc, ws⟩) ∧ Hid (SlotBox wr Y ⟨xt, c, q, true⟩))
                        case atStart => exact ⟨k, 0, kv, rfl, Nat.le_refl _, rfl, Nat.zero_le _, rfl, hidp (by rw [← Hkv.out]), by omega, hidp omap_id.symm, HR1, Hxb⟩
                        case round =>
                          obtain ⟨j, e0, jv, hgg, hjk, rfl, he0, rfl, Hjv, hej, Hsc, HQ, HB⟩ := hrel
                          clear HR1 Hxb
                          obtain ⟨t0, t1, t2, t3⟩ := HQ.out.tb
                          obtain ⟨c0, c1, c2, c3⟩ := HQ.out.sc
                          obtain ⟨x0, x1, x2, x3⟩ := HB.out
                          dsimp only at t0 t1 t2 t3 x0 x1 x2 x3
                          by_cases hj0 : j = 0
                          · have hjv : jv = -1 := by have := Hjv.out; omega
                            have f0 : decide (0 ≤ jv) = false := by simp; omega
                            have HT : Hid (scanS ⟨xt, c, q, true⟩ (slots.take k).reverse = some e0) := hidp (by rw [Hsc.out, hj0]; show some (0 + e0) = _; rw [Nat.zero_add])
                            clear hjv hj0 Hsc
                            go_wp2_with fail
                            go_quiet (fail)
                            replace HQ := hidp (HQ.out.drewN nq)
                            replace HB := hidp (HB.out.keep (Keeps.drewN _ nq))
                            obtain ⟨v5, hv5⟩ : ∃ x, wr.drewN nq = x := ⟨_, rfl⟩
                            rw [hv5] at HQ HB ⊢
                            clear hv5 t0 t1 t2 t3 c0 c1 c2 c3 x0 x1 x2 x3
                            obtain ⟨t0, t1, t2, t3⟩ := HQ.out.tb
                            obtain ⟨c0, c1, c2, c3⟩ := HQ.out.sc
                            obtain ⟨x0, x1, x2, x3⟩ := HB.out
                            dsimp only at t0 t1 t2 t3 x0 x1 x2 x3
                            have HA3 : Hid (slotAt s tk slots k = (decide ((e0 : Int) + 1 ≤ cv) && (decide (k = 0) || decide ((slots.getD (k - 1) default).time ≤ xt)))) := hidp (by rw [HA2.out, HT.out])
                            have cC := Keeps.of_below HQ.out.b _ _ HCc.out
                            rw [HCA.out] at c1
                            by_cases hcv : cv < (e0 : Int) + 1
                            · have g1 : decide (cv < (e0 : Int) + 1) = true := by simpa using hcv
                              have hV := Hst.out (by rw [HA3.out, decide_eq_false (by omega)]; rfl)
                              have HVf := hidp hV
                              clear hV
                              go_wp2_with fail
                              go_quiet (fail)
                              go_wp2_with fail
                              go_ret
                              exact ⟨ret_bool HVf.out.symm, below_drewN HQ.out.b _⟩
                            · have g1 : decide (cv < (e0 : Int) + 1) = false := by simpa using hcv
                              by_cases hk0 : k = 0
                              · have g2 : decide ((0 : Int) < (k : Int)) = false := by simp; omega
                                have g2n : decide (0 < k) = false := by simp; omega
                                have hA := Hgo.out (by rw [HA3.out, decide_eq_true (by omega), decide_eq_true hk0]; rfl)
                                have HA4 := hidp hA
                                clear hA
                                have Hk0 := hidp hk0
                                clear hk0
                                go_wp2_with fail
                                go_quiet (fail)
                                go_wp2_with fail
                                go_roundg (slots.length - k - 1)
                                case measure => omega
                                case rel => exact ⟨k + 1, by omega, by go_num, HA4, hidp (HQ.out.drewN _)⟩
                              · have g2 : decide ((0 : Int) < (k : Int)) = true := by simp; omega
                                have g2n : decide (0 < k) = true := by simp; omega
                                obtain ⟨p, hp⟩ : ∃ p, k - 1 = p := ⟨_, rfl⟩
                                have hpk : p < slots.length := by omega
                                have dp : decide (slots.length ≤ p) = false := by simp; omega
                                have wp : IntKind.i64.wrap ((k : Int) - 1) = (p : Int) := by rw [show (k : Int) - 1 = (p : Int) by omega]; exact IntWalk.i64_in _ (by omega)
                                obtain ⟨y, Hy⟩ : ∃ y, Hid (slots.getD p default = y) := ⟨_, rfl⟩
                                obtain ⟨e0', e1', e2', e3'⟩ := (Hy.out ▸ Hd0.out p hpk).keep (Keeps.of_below HQ.out.b)
                                obtain ⟨yt, yc, yk, yh⟩ := y
                                dsimp only at e0'
                                clear e1' e2' e3'
                                have HA5 : Hid (slotAt s tk slots k = decide (yt ≤ xt)) := hidp (by rw [HA3.out, decide_eq_true (by omega), decide_eq_false hk0, hp, Hy.out]; rfl)
                                have Hp := hidp hp
                                clear hp hk0
                                by_cases hyt : xt < yt
                                · have g3 : decide (xt < yt) = true := by simpa using hyt
                                  have hV := Hst.out (by rw [HA5.out]; exact decide_eq_false (by omega))
                                  have HVf := hidp hV
                                  clear hV
                                  go_wp2_with fail
                                  go_quiet (fail)
                                  clear wp
                                  go_wp2_with fail
                                  go_ret
                                  exact ⟨ret_bool HVf.out.symm, below_drewN HQ.out.b _⟩
                                · have g3 : decide (xt < yt) = false := by simpa using hyt
                                  have hA := Hgo.out (by rw [HA5.out]; exact decide_eq_true (by omega))
                                  have HA4 := hidp hA
                                  clear hA
                                  go_wp2_with fail
                                  go_quiet (fail)
                                  clear wp
                                  go_wp2_with fail
                                  go_roundg (slots.length - k - 1)
                                  case measure => omega
                                  case rel => exact ⟨k + 1, by omega, by go_num, HA4, hidp (HQ.out.drewN _)⟩
                          · obtain ⟨m, hm⟩ : ∃ m : Nat, jv = m := ⟨(j - 1 : Nat), by have := Hjv.out; omega⟩
                            have hmj : m + 1 = j := by have := Hjv.out; omega
                            have hml : m < slots.length := by omega
                            have dm : decide (slots.length ≤ m) = false := by simp; omega
                            obtain ⟨y, Hy⟩ : ∃ y, Hid (slots.getD m default = y) := ⟨_, rfl⟩
                            obtain ⟨e0', e1', e2', e3'⟩ := (Hy.out ▸ Hd0.out m hml).keep (Keeps.of_below HQ.out.b)
                            have Hrv : Hid ((slots.take j).reverse = y :: (slots.take m).reverse) := hidp (by rw [← hmj, rev_snoc hml, Hy.out])
                            obtain ⟨yt, yc, yk, yh⟩ := y
                            dsimp only at e0' e1' e2'
                            clear e3'
                            subst hm
                            have Hmj := hidp hmj
                            clear hmj hj0
                            have mI : (m : Int) < (slots.length : Int) := by omega
                            by_cases hyt : yt = xt
                            · have f1 : (yt == xt) = true := by simpa using hyt
                              have Hyt := hidp hyt
                              clear hyt
                              go_wp2_with fail
                              go_quiet (fail)
                              replace HQ := hidp (HQ.out.drewN nq)
                              replace HB := hidp (HB.out.keep (Keeps.drewN _ nq))
                              have e0b := Keeps.drewN wr nq _ _ e0'
                              have e1b := Keeps.drewN wr nq _ _ e1'
                              have e2b := Keeps.drewN wr nq _ _ e2'
                              obtain ⟨v5, hv5⟩ : ∃ x, wr.drewN nq = x := ⟨_, rfl⟩
                              rw [hv5] at HQ HB e0b e1b e2b ⊢
                              clear hv5 t0 t1 t2 t3 c0 c1 c2 c3 x0 x1 x2 x3 e0' e1' e2'
                              obtain ⟨t0, t1, t2, t3⟩ := HQ.out.tb
                              obtain ⟨x0, x1, x2, x3⟩ := HB.out
                              dsimp only at t0 t1 t2 t3 x0 x1 x2 x3
                              by_cases hyk : yk = (q : Int)
                              · have f2 : (yk == (q : Int)) = true := by simpa using hyk
                                have HBd := hidp (show yk = (q : Int) ∨ (c : Int) < yc from .inl hyk)
                                clear hyk
                                have hV := Hst.out (by rw [HA2.out, Hsc.out, Hrv.out, scan_bad Hyt.out HBd.out]; rfl)
                                have HVf := hidp hV
                                clear hV
                                go_wp2_with fail
                                go_quiet (fail)
                                go_wp2_with fail
                                go_ret
                                exact ⟨ret_bool HVf.out.symm, below_drewN HQ.out.b _⟩
                              · have f2 : (yk == (q : Int)) = false := by simpa using hyk
                                by_cases hyc : (c : Int) < yc
                                · have f3 : decide ((c : Int) < yc) = true := by simpa using hyc
                                  have HBd := hidp (show yk = (q : Int) ∨ (c : Int) < yc from .inr hyc)
                                  clear hyk hyc
                                  have hV := Hst.out (by rw [HA2.out, Hsc.out, Hrv.out, scan_bad Hyt.out HBd.out]; rfl)
                                  have HVf := hidp hV
                                  clear hV
                                  go_wp2_with fail
                                  go_quiet (fail)
                                  go_wp2_with fail
                                  go_ret
                                  exact ⟨ret_bool HVf.out.symm, below_drewN HQ.out.b _⟩
                                · have f3 : decide ((c : Int) < yc) = false := by simpa using hyc
                                  have HBd := hidp (show ¬ (yk = (q : Int) ∨ (c : Int) < yc) from fun h => h.elim hyk hyc)
                                  clear hyk hyc
                                  by_cases hec : yc = (c : Int)
                                  · have f4 : (yc == (c : Int)) = true := by simpa using hec
                                    have HN : Hid (scanS ⟨xt, c, q, true⟩ (slots.take k).reverse = (scanS ⟨xt, c, q, true⟩ (slots.take m).reverse).map (· + (e0 + 1))) := hidp (by
                                      rw [Hsc.out, Hrv.out, scan_go Hyt.out HBd.out, Option.map_map]
                                      congr 1
                                      funext n
                                      show n + (if yc = (c : Int) then 1 else 0) + e0 = n + (e0 + 1)
                                      rw [if_pos hec]; omega)
                                    clear hec Hsc
                                    go_wp2_with fail
                                    go_quiet (fail)
                                    replace HQ := hidp (HQ.out.drewN nq)
                                    replace HB := hidp (HB.out.keep (Keeps.drewN _ nq))
                                    have e1c := Keeps.drewN v5 nq _ _ e1b
                                    obtain ⟨v6, hv6⟩ : ∃ x, v5.drewN nq = x := ⟨_, rfl⟩
                                    rw [hv6] at HQ HB e1c ⊢
                                    clear hv6 t0 t1 t2 t3 x0 x1 x2 x3 e0b e1b e2b
                                    obtain ⟨t0, t1, t2, t3⟩ := HQ.out.tb
                                    obtain ⟨x0, x1, x2, x3⟩ := HB.out
                                    dsimp only at t0 t1 t2 t3 x0 x1 x2 x3
                                    have wm : IntKind.i64.wrap ((m : Int) - 1) = (m : Int) - 1 := IntWalk.i64_in _ (by omega)
                                    obtain ⟨mv, hmv⟩ : ∃ mv : Int, (m : Int) - 1 = mv := ⟨_, rfl⟩
                                    rw [hmv] at wm
                                    have Hmv := hidp hmv
                                    go_wp2_with fail
                                    go_quiet (fail)
                                    go_wp2_with fail
                                    clear wm hmv
                                    go_roundg (gk - 1)
                                    case measure => have := Hmj.out; omega
                                    case rel => exact ⟨m, (e0 + 1), mv, by have := Hmj.out; omega, by have := Hmj.out; omega, congrArg (Value.int .i64) ((IntWalk.wrap64_in ((e0 : Int) + 1 + 1) (by have := Hmj.out; omega)).trans (by omega)), by have := Hmj.out; omega, rfl, hidp Hmv.out.symm, by have := Hmj.out; omega, HN, hidp (HQ.out.drewN _), hidp (HB.out.keep (Keeps.drewN _ _))⟩
                                  · have f4 : (yc == (c : Int)) = false := by simpa using hec
                                    have HN : Hid (scanS ⟨xt, c, q, true⟩ (slots.take k).reverse = (scanS ⟨xt, c, q, true⟩ (slots.take m).reverse).map (· + e0)) := hidp (by
                                      rw [Hsc.out, Hrv.out, scan_go Hyt.out HBd.out, Option.map_map]
                                      congr 1
                                      funext n
                                      show n + (if yc = (c : Int) then 1 else 0) + e0 = n + e0
                                      rw [if_neg hec]; omega)
                                    clear hec Hsc
                                    go_wp2_with fail
                                    go_quiet (fail)
                                    replace HQ := hidp (HQ.out.drewN nq)
                                    replace HB := hidp (HB.out.keep (Keeps.drewN _ nq))
                                    have e1c := Keeps.drewN v5 nq _ _ e1b
                                    obtain ⟨v6, hv6⟩ : ∃ x, v5.drewN nq = x := ⟨_, rfl⟩
                                    rw [hv6] at HQ HB e1c ⊢
                                    clear hv6 t0 t1 t2 t3 x0 x1 x2 x3 e0b e1b e2b
                                    obtain ⟨t0, t1, t2, t3⟩ := HQ.out.tb
                                    obtain ⟨x0, x1, x2, x3⟩ := HB.out
                                    dsimp only at t0 t1 t2 t3 x0 x1 x2 x3
                                    have wm : IntKind.i64.wrap ((m : Int) - 1) = (m : Int) - 1 := IntWalk.i64_in _ (by omega)
                                    obtain ⟨mv, hmv⟩ : ∃ mv : Int, (m : Int) - 1 = mv := ⟨_, rfl⟩
                                    rw [hmv] at wm
                                    have Hmv := hidp hmv
                                    go_wp2_with fail
                                    go_quiet (fail)
                                    go_wp2_with fail
                                    clear wm hmv
                                    go_roundg (gk - 1)
                                    case measure => have := Hmj.out; omega
                                    case rel => exact ⟨m, e0, mv, by have := Hmj.out; omega, by have := Hmj.out; omega, rfl, by have := Hmj.out; omega, rfl, hidp Hmv.out.symm, by have := Hmj.out; omega, HN, hidp (HQ.out.drewN _), hidp (HB.out.keep (Keeps.drewN _ _))⟩
                            · have f1 : (yt == xt) = false := by simpa using hyt
                              have HT : Hid (scanS ⟨xt, c, q, true⟩ (slots.take k).reverse = some e0) := hidp (by rw [Hsc.out, Hrv.out, scan_stop hyt]; show some (0 + e0) = _; rw [Nat.zero_add])
                              clear hyt Hsc
                              go_wp2_with fail
                              go_quiet (fail)
                              replace HQ := hidp (HQ.out.drewN nq)
                              replace HB := hidp (HB.out.keep (Keeps.drewN _ nq))
                              obtain ⟨v5, hv5⟩ : ∃ x, wr.drewN nq = x := ⟨_, rfl⟩
                              rw [hv5] at HQ HB ⊢
                              clear hv5 t0 t1 t2 t3 c0 c1 c2 c3 x0 x1 x2 x3 e0' e1' e2'
                              obtain ⟨t0, t1, t2, t3⟩ := HQ.out.tb
                              obtain ⟨c0, c1, c2, c3⟩ := HQ.out.sc
                              obtain ⟨x0, x1, x2, x3⟩ := HB.out
                              dsimp only at t0 t1 t2 t3 x0 x1 x2 x3
                              have HA3 : Hid (slotAt s tk slots k = (decide ((e0 : Int) + 1 ≤ cv) && (decide (k = 0) || decide ((slots.getD (k - 1) default).time ≤ xt)))) := hidp (by rw [HA2.out, HT.out])
                              have cC := Keeps.of_below HQ.out.b _ _ HCc.out
                              rw [HCA.out] at c1
                              by_cases hcv : cv < (e0 : Int) + 1
                              · have g1 : decide (cv < (e0 : Int) + 1) = true := by simpa using hcv
                                have hV := Hst.out (by rw [HA3.out, decide_eq_false (by omega)]; rfl)
                                have HVf := hidp hV
                                clear hV
                                go_wp2_with fail
                                go_quiet (fail)
                                go_wp2_with fail
                                go_ret
                                exact ⟨ret_bool HVf.out.symm, below_drewN HQ.out.b _⟩
                              · have g1 : decide (cv < (e0 : Int) + 1) = false := by simpa using hcv
                                by_cases hk0 : k = 0
                                · have g2 : decide ((0 : Int) < (k : Int)) = false := by simp; omega
                                  have g2n : decide (0 < k) = false := by simp; omega
                                  have hA := Hgo.out (by rw [HA3.out, decide_eq_true (by omega), decide_eq_true hk0]; rfl)
                                  have HA4 := hidp hA
                                  clear hA
                                  have Hk0 := hidp hk0
                                  clear hk0
                                  go_wp2_with fail
                                  go_quiet (fail)
                                  go_wp2_with fail
                                  go_roundg (slots.length - k - 1)
                                  case measure => omega
                                  case rel => exact ⟨k + 1, by omega, by go_num, HA4, hidp (HQ.out.drewN _)⟩
                                · have g2 : decide ((0 : Int) < (k : Int)) = true := by simp; omega
                                  have g2n : decide (0 < k) = true := by simp; omega
                                  obtain ⟨p, hp⟩ : ∃ p, k - 1 = p := ⟨_, rfl⟩
                                  have hpk : p < slots.length := by omega
                                  have dp : decide (slots.length ≤ p) = false := by simp; omega
                                  have wp : IntKind.i64.wrap ((k : Int) - 1) = (p : Int) := by rw [show (k : Int) - 1 = (p : Int) by omega]; exact IntWalk.i64_in _ (by omega)
                                  obtain ⟨y, Hy⟩ : ∃ y, Hid (slots.getD p default = y) := ⟨_, rfl⟩
                                  obtain ⟨e0', e1', e2', e3'⟩ := (Hy.out ▸ Hd0.out p hpk).keep (Keeps.of_below HQ.out.b)
                                  obtain ⟨yt, yc, yk, yh⟩ := y
                                  dsimp only at e0'
                                  clear e1' e2' e3'
                                  have HA5 : Hid (slotAt s tk slots k = decide (yt ≤ xt)) := hidp (by rw [HA3.out, decide_eq_true (by omega), decide_eq_false hk0, hp, Hy.out]; rfl)
                                  have Hp := hidp hp
                                  clear hp hk0
                                  by_cases hyt : xt < yt
                                  · have g3 : decide (xt < yt) = true := by simpa using hyt
                                    have hV := Hst.out (by rw [HA5.out]; exact decide_eq_false (by omega))
                                    have HVf := hidp hV
                                    clear hV
                                    go_wp2_with fail
                                    go_quiet (fail)
                                    clear wp
                                    go_wp2_with fail
                                    go_ret
                                    exact ⟨ret_bool HVf.out.symm, below_drewN HQ.out.b _⟩
                                  · have g3 : decide (xt < yt) = false := by simpa using hyt
                                    have hA := Hgo.out (by rw [HA5.out]; exact decide_eq_true (by omega))
                                    have HA4 := hidp hA
                                    clear hA
                                    go_wp2_with fail
                                    go_quiet (fail)
                                    clear wp
                                    go_wp2_with fail
                                    go_roundg (slots.length - k - 1)
                                    case measure => omega
                                    case rel => exact ⟨k + 1, by omega, by go_num, HA4, hidp (HQ.out.drewN _)⟩
                      | false =>
                        have hV := Hst.out (by rw [HAt.out, HPl.out, Hne.out]; rfl)
                        have HVf := hidp hV
                        clear hV
                        go_wp2_with fail
                        go_quiet (fail)
                        go_wp2_with fail
                        go_ret
                        exact ⟨ret_bool HVf.out.symm, below_drewN HR1.out.b _⟩
                    · have f7 : (s.proto != 2) = true := by simpa using hpw
                      have hp2 : (s.proto == 2) = false := by simpa using hpw
                      have Hp2 := hidp hp2
                      clear hpw hp2
                      have hV := Hst.out (by rw [HAt.out, HPl.out, Hne.out, Hp2.out, Bool.and_false]; rfl)
                      have HVf := hidp hV
                      clear hV
                      go_wp2_with fail
                      go_quiet (fail)
                      go_wp2_with fail
                      go_ret
                      exact ⟨ret_bool HVf.out.symm, below_drewN HR1.out.b _⟩
                · have b5 : decide ((s.tasks.length : Int) ≤ xk) = true := by simp; omega
                  have hV := Hst.out (by rw [HAt.out, HPn.out (fun h => a5 (by omega))]; rfl)
                  have HVf := hidp hV
                  clear hV HPn
                  go_wp2_with fail
                  go_ret
                  exact ⟨ret_bool HVf.out.symm, HR1.out.b⟩
              · have b4 : decide (xk < 0) = true := by simp; omega
                have hV := Hst.out (by rw [HAt.out, HPn.out (fun h => a4 (by omega))]; rfl)
                have HVf := hidp hV
                clear hV HPn
                go_wp2_with fail
                go_ret
                exact ⟨ret_bool HVf.out.symm, HR1.out.b⟩
            · have b3 : decide ((s.cores.length : Int) ≤ xc) = true := by simp; omega
              have hV := Hst.out (by rw [HAt.out, HPn.out (fun h => a3 (by omega))]; rfl)
              have HVf := hidp hV
              clear hV HPn
              go_wp2_with fail
              go_ret
              exact ⟨ret_bool HVf.out.symm, HR1.out.b⟩
          · have b2 : decide (xc < 0) = true := by simp; omega
            have hV := Hst.out (by rw [HAt.out, HPn.out (fun h => a2 (by omega))]; rfl)
            have HVf := hidp hV
            clear hV HPn
            go_wp2_with fail
            go_ret
            exact ⟨ret_bool HVf.out.symm, HR1.out.b⟩
        · have b1 : decide (tk ≤ xt) = true := by simp; omega
          have hV := Hst.out (by rw [HAt.out, HPn.out (fun h => a1 (by omega))]; rfl)
          have HVf := hidp hV
          clear hV HPn
          go_wp2_with fail
          go_ret
          exact ⟨ret_bool HVf.out.symm, HR1.out.b⟩
      · have b0 : decide (xt < 0) = true := by simp; omega
        have hV := Hst.out (by rw [HAt.out, HPn.out (fun h => a0 (by omega))]; rfl)
        have HVf := hidp hV
        clear hV HPn
        go_wp2_with fail
        go_ret
        exact ⟨ret_bool HVf.out.symm, HR1.out.b⟩
    · have hV := HEN.out (fun j hj => Ha.out j (by omega))
      have HVf := hidp hV
      have kI : ¬ (k : Int) < (slots.length : Int) := by omega
      clear hV
      go_wp2_with fail
      go_ret
      exact ⟨ret_bool HVf.out.symm, HR.out.b⟩
end Go.Proofs.Ytmchjmgifipfoaa
