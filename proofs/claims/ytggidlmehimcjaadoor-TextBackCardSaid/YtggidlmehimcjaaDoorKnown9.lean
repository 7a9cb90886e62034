/- swingbridgelaw9.known is true. -/
import Derived.Test.YtggidlmehimcjaaDoorTxt8
import Derived.Test.YtggidlmehimcjaaDoorTxt11
namespace Go.Proofs.YtggidlmehimcjaaDoor
open Go.ChangeShapes Go.WideShapes Go.ChangeAt Go.RowKit
set_option linter.unusedVariables false
set_option linter.unusedSimpArgs false
theorem isSet_ok {x : Except (Nat × Int) RdT} {r : RdT} (h : isSet x r = true) : x = .ok r := by
  unfold isSet at h
  cases x with
  | error p => cases h
  | ok q => exact congrArg Except.ok (of_decide_eq_true h)
theorem isErr_err {x : Except (Nat × Int) RdT} {n : Nat} {e : Int} (h : isErr x n e = true) : x = .error (n, e) := by
  unfold isErr at h
  cases x with
  | ok q => cases h
  | error p => exact congrArg Except.error (of_decide_eq_true h)
theorem parseV_err {t : Bts} {n : Nat} {e : Int} (hl : t.length ≤ 2000) (h : readT t = .error (n, e)) : parseV t = (noSet, (n : Int), e) := by
  unfold parseV
  rw [if_neg (by omega), h]
theorem parseV_ok {t : Bts} {r : RdT} (hl : t.length ≤ 2000) (h : readT t = .ok r) : parseV t = toldV r (linesL t).length := by
  unfold parseV
  rw [if_neg (by omega), h]
def k9A : Bts := [112, 114, 111, 116, 111, 99, 111, 108, 32, 102, 97, 105, 114, 10, 99, 111, 114, 101, 115, 32, 49, 10, 104, 111, 109, 101, 115, 32, 48, 10, 10, 116, 97, 115, 107, 32, 97, 32, 49, 48, 32, 49, 48, 32, 49, 32, 48, 32, 114, 117, 110, 58, 51, 32, 108, 111, 99, 107, 58, 48, 58, 50, 32, 35, 32, 115, 111, 10]
def k9B : Bts := [112, 114, 111, 116, 111, 99, 111, 108, 32, 102, 97, 105, 114, 10, 99, 111, 114, 101, 115, 32, 49, 10, 104, 111, 109, 101, 115, 32, 48, 10, 116, 97, 115, 107, 32, 97, 32, 49, 48, 32, 49, 48, 32, 49, 32, 48, 32, 108, 111, 99, 107, 58, 48, 58, 108, 111, 99, 107, 58, 48, 58, 50, 10]
def k9C : Bts := [99, 111, 114, 101, 115, 32, 49, 10]
def k9R : RdT := ⟨1, [1], [0], [⟨[97], 10, 10, 1, 0, [⟨1, 3, 0⟩, ⟨3, 2, 0⟩]⟩], 3, 1, [4]⟩
theorem k9_chk : chkE k9R.bare = 0 := by decide +kernel
theorem k9_a : parseV k9A = (k9R.bare, 5, 0) := by
  refine (parseV_ok (t := k9A) (r := k9R) (by decide) (isSet_ok known9_1)).trans ?_
  unfold toldV
  rw [if_pos k9_chk, show (linesL k9A).length = 5 by decide +kernel]
  rfl
theorem k9_b : parseV k9B = (noSet, 3, 18) := parseV_err (by decide) (isErr_err known9_2)
theorem k9_c : parseV k9C = (noSet, 0, 10) := parseV_err (by decide) (isErr_err known9_3)
theorem printV_bare {s t : SetR} (h : s.bare = t.bare) : printV s = printV t := by
  have h1 : okS s = okS t := by unfold okS; rw [(chk_same h).2]
  have h2 : s.rd = t.rd := by
    obtain ⟨a, b, c, d, e, f, g, i, j, ts⟩ := s
    obtain ⟨a2, b2, c2, d2, e2, f2, g2, i2, j2, ts2⟩ := t
    unfold SetR.bare at h
    injection h with e1 _ _ e4 _ _ e7 _ _ e10
    dsimp only at *
    subst e1; subst e4; subst e7
    unfold SetR.rd
    dsimp only
    have : ts.map TaskR.rd = ts2.map TaskR.rd := by
      have h3 : ∀ u : List TaskR, u.map TaskR.rd = (u.map TaskR.bare).map TaskR.rd := fun u => by rw [List.map_map]; rfl
      rw [h3 ts, h3 ts2, e10]
    rw [this]
  unfold printV
  rw [h1, h2]
theorem k9_p : printV k9R.bare = [112, 114, 111, 116, 111, 99, 111, 108, 32, 102, 97, 105, 114, 10, 99, 111, 114, 101, 115, 32, 49, 10, 104, 111, 109, 101, 115, 32, 48, 10, 116, 97, 115, 107, 32, 97, 32, 49, 48, 32, 49, 48, 32, 49, 32, 48, 32, 114, 117, 110, 58, 51, 32, 108, 111, 99, 107, 58, 48, 58, 50, 10] := by
  have h : okS k9R.bare = true := by unfold okS; rw [k9_chk]; rfl
  unfold printV
  rw [h]
  exact known9_4
theorem one_task {s : SetR} {r : RdT} (h : s.bare = r.bare) {t : TaskT} (hr : r.tasks = [t]) : ∃ u : TaskR, s.tasks = [u] ∧ u.parts = t.parts.map PartT.m := by
  have h1 : s.tasks.map TaskR.bare = r.tasks.map TaskT.bare := congrArg SetR.tasks h
  rw [hr] at h1
  match hs : s.tasks, h1 with
  | [u], h1 =>
    refine ⟨u, rfl, ?_⟩
    simp only [List.map_cons, List.map_nil, List.cons.injEq, and_true] at h1
    exact congrArg TaskR.parts h1
  | [], h1 => simp at h1
  | a :: b :: c, h1 => simp at h1
set_option maxHeartbeats 8000000 in
set_option maxRecDepth 100000 in
theorem known9_any (w : World) (m : Int) (hm : w.cell? ⟨0, 0, none⟩ = some (.int .i64 m)) (ht : Tab w) : Calls Tryd.prog 7 #[] w fun e w' => e = .returned (.bool true) ∧ Below w.heap.size w w' := by
  have HM := hidp hm
  have HT : Hid (∀ u, Below w.heap.size w u → Tab u) := hidp (fun u hu => ht.over hu)
  have C1 := hidp (parse_any (mkB k9A) m w hm)
  clear hm ht
  go_enter Tryd.func7, Tryd.ntmps7
  go_wp2_with fail
  refine C1.out.mono ?_
  rintro e w1 hp
  rw [show bl (mkB k9A) = k9A from rfl, k9_a] at hp
  obtain ⟨x1, rfl, hs1, hx1, hb1⟩ := hp
  obtain ⟨u1, ht1, hq1⟩ := one_task hx1 (t := ⟨[97], 10, 10, 1, 0, [⟨1, 3, 0⟩, ⟨3, 2, 0⟩]⟩) rfl
  obtain ⟨proto, ca, cc, cores, ha, hc, homes, ta, tc, tasks⟩ := x1
  dsimp only at ht1
  subst ht1
  obtain ⟨nm, per, dl, prio, cl, pa, pc, ps⟩ := u1
  dsimp only at hq1
  subst hq1
  obtain ⟨gt, ot, rfl, hct⟩ := hs1.tasks.at_.resolve_left (by simp)
  have hc5 : w1.cell? ⟨gt, ot + 5, none⟩ = some (.slice pa 2 pc) := (hct 0 (by simp)).2.2.2.2.2
  obtain ⟨gp, op, rfl, hcp⟩ := (hs1.tasks.ok _ (List.mem_singleton.2 rfl)).at_.resolve_left (by simp)
  obtain ⟨p0, p1, p2⟩ : PartCells w1 gp (op + 1 * 3) ⟨3, 2, 0⟩ := hcp 1 (by simp)
  dsimp only at p0 p1 p2
  have HB1 := hidp hb1
  have HX1 := hidp hx1
  have hb1a := hb1.alloc hb1.size (.cells #[.int .i64 proto, .slice ca cores.length cc, .slice ha homes.length hc, .slice (some ⟨gt, ot, none⟩) 1 tc] 25)
  have BX := Bk.new w1 25 #[.int .i64 proto, .slice ca cores.length cc, .slice ha homes.length hc, .slice (some ⟨gt, ot, none⟩) 1 tc]
  have ka := Keeps.alloc w1 (.cells #[.int .i64 proto, .slice ca cores.length cc, .slice ha homes.length hc, .slice (some ⟨gt, ot, none⟩) 1 tc] 25)
  have HS1 := hidp (hs1.keep ka)
  replace hc5 := ka _ _ hc5
  replace p0 := ka _ _ p0
  replace p1 := ka _ _ p1
  replace p2 := ka _ _ p2
  have C2 := hidp (parse_any (mkB k9B) m _ (mem_max HM.out hb1a))
  have HB1a := hidp hb1a
  have HBX := hidp BX
  clear hb1 hb1a ka hs1 hct hcp hx1 C1 BX
  go_wp2_with fail
  refine C2.out.mono ?_
  rintro e w2 hp
  rw [show bl (mkB k9B) = k9B from rfl, k9_b] at hp
  obtain ⟨x2, rfl, hs2, hx2, hb2⟩ := hp
  have kb := Keeps.of_below hb2
  have ka := Keeps.alloc w2 (.cells #[.int .i64 x2.proto, .slice x2.ca x2.cores.length x2.cc, .slice x2.ha x2.homes.length x2.hc, .slice x2.ta x2.tasks.length x2.tc] 25)
  replace hc5 := ka _ _ (kb _ _ hc5)
  replace p0 := ka _ _ (kb _ _ p0)
  replace p1 := ka _ _ (kb _ _ p1)
  replace p2 := ka _ _ (kb _ _ p2)
  have hb2a := (HB1a.out.trans (hb2.mono HB1a.out.size))
  have hb2b := hb2a.alloc hb2a.size (.cells #[.int .i64 x2.proto, .slice x2.ca x2.cores.length x2.cc, .slice x2.ha x2.homes.length x2.hc, .slice x2.ta x2.tasks.length x2.tc] 25)
  replace HS1 := hidp ((HS1.out.keep kb).keep ka)
  replace HBX := hidp ((HBX.out.below hb2).alloc (.cells #[.int .i64 x2.proto, .slice x2.ca x2.cores.length x2.cc, .slice x2.ha x2.homes.length x2.hc, .slice x2.ta x2.tasks.length x2.tc] 25))
  have C3 := hidp (parse_any (mkB k9C) m _ (mem_max HM.out hb2b))
  have HB2b := hidp hb2b
  clear hb2 hb2a hb2b ka kb hs2 hx2 C2 HB1a
  go_wp2_with fail
  refine C3.out.mono ?_
  rintro e w3 hp
  rw [show bl (mkB k9C) = k9C from rfl, k9_c] at hp
  obtain ⟨x3, rfl, hs3, hx3, hb3⟩ := hp
  have kb := Keeps.of_below hb3
  have ka := Keeps.alloc w3 (.cells #[.int .i64 x3.proto, .slice x3.ca x3.cores.length x3.cc, .slice x3.ha x3.homes.length x3.hc, .slice x3.ta x3.tasks.length x3.tc] 25)
  replace hc5 := ka _ _ (kb _ _ hc5)
  replace p0 := ka _ _ (kb _ _ p0)
  replace p1 := ka _ _ (kb _ _ p1)
  replace p2 := ka _ _ (kb _ _ p2)
  have hb3a := (HB2b.out.trans (hb3.mono HB2b.out.size))
  have hb3b := hb3a.alloc hb3a.size (.cells #[.int .i64 x3.proto, .slice x3.ca x3.cores.length x3.cc, .slice x3.ha x3.homes.length x3.hc, .slice x3.ta x3.tasks.length x3.tc] 25)
  replace HS1 := hidp ((HS1.out.keep kb).keep ka)
  replace HBX := hidp ((HBX.out.below hb3).alloc (.cells #[.int .i64 x3.proto, .slice x3.ca x3.cores.length x3.cc, .slice x3.ha x3.homes.length x3.hc, .slice x3.ta x3.tasks.length x3.tc] 25))
  obtain ⟨z0, z1, z2, z3⟩ := Z4 HBX.out
  have CP := hidp (print_any _ _ HS1.out (HT.out _ hb3b))
  have HB3b := hidp hb3b
  clear hb3 hb3a hb3b ka kb hs3 hx3 C3 HB2b
  go_wp2_with fail
  refine CP.out.mono ?_
  rintro e w4 ⟨r, rfl, hv, hb4⟩
  have HB4 := hidp (HB3b.out.trans (hb4.mono HB3b.out.size))
  have hv2 : bl r = [112, 114, 111, 116, 111, 99, 111, 108, 32, 102, 97, 105, 114, 10, 99, 111, 114, 101, 115, 32, 49, 10, 104, 111, 109, 101, 115, 32, 48, 10, 116, 97, 115, 107, 32, 97, 32, 49, 48, 32, 49, 48, 32, 49, 32, 48, 32, 114, 117, 110, 58, 51, 32, 108, 111, 99, 107, 58, 48, 58, 50, 10] := hv.trans ((printV_bare (t := k9R.bare) HX1.out).trans k9_p)
  have f9 : (r.toList == [112, 114, 111, 116, 111, 99, 111, 108, 32, 102, 97, 105, 114, 10, 99, 111, 114, 101, 115, 32, 49, 10, 104, 111, 109, 101, 115, 32, 48, 10, 116, 97, 115, 107, 32, 97, 32, 49, 48, 32, 49, 48, 32, 49, 32, 48, 32, 114, 117, 110, 58, 51, 32, 108, 111, 99, 107, 58, 48, 58, 50, 10]) = true := by rw [toList_lit]; exact decide_eq_true hv2
  clear hv hv2 hb4 CP
  go_wp2_with fail
  go_ret
  exact ⟨rfl, HB4.out⟩
end Go.Proofs.YtggidlmehimcjaaDoor
