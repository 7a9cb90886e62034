/- TextSpoilt: texts that are no sets, at which line, and how. No condition. -/
import Derived.Test.YtggidlmehimcjaaDoorKnown9
import Derived.Deep.Cut
set_option maxHeartbeats 40000000
set_option maxRecDepth 100000
set_option linter.unusedSimpArgs false
namespace Go.Proofs.YtggidlmehimcjaaDoor
open Go.ChangeShapes Go.WideShapes Go.ChangeAt Go.RowKit
theorem parseV_no {t : Bts} {n e : Int} (h : (parseV t).2 = (n, e)) (he : e ≠ 0) : parseV t = (noSet, n, e) := by
  have h1 : (parseV t).1 = noSet := by
    have h2 : (parseV t).2.2 = e := by rw [h]
    unfold parseV at h2 ⊢
    split
    · rfl
    · rename_i hl
      rw [if_neg hl] at h2
      cases hr : readT t with
      | error p => rfl
      | ok r =>
        rw [hr] at h2
        unfold toldV at h2 ⊢
        dsimp only at h2 ⊢
        split at h2
        · exact absurd h2.symm he
        · rename_i g
          rw [if_neg g]
          split
          · rfl
          · split <;> rfl
  exact Prod.ext h1 h
theorem noSet_tasks {x : SetR} (h : x.bare = noSet) : x.tasks = [] := by
  have h1 := congrArg (fun s => s.tasks.length) h
  simp only [SetR.bare, List.length_map] at h1
  exact List.eq_nil_of_length_eq_zero h1
theorem three {w1 W : World} {A B C : Array Value} {ta tb tc : TypeId} (h : ((w1.alloc (.cells A ta)).alloc (.cells B tb)).alloc (.cells C tc) = W) : Bk W w1.heap.size ta A ∧ Bk W (w1.heap.size + 1) tb B ∧ Bk W (w1.heap.size + 1 + 1) tc C ∧ Below w1.heap.size w1 W := by
  subst h
  exact ⟨((Bk.new w1 ta A).alloc _).alloc _, (Bk.at_ (by simp) rfl).alloc _, Bk.at_ (by simp) rfl, (((Below.refl _ w1).alloc (Nat.le_refl _) _).alloc (by simp) _).alloc (by simp; omega) _⟩
theorem spoil0 : parseV (bl (⟨#[]⟩ : ByteArray)) = (noSet, 0, 10) := parseV_no (by decide +kernel) (by decide)
theorem spoil1 : parseV (bl (⟨#[112, 114, 111, 116, 111, 99, 111, 108, 10]⟩ : ByteArray)) = (noSet, 0, 10) := parseV_no (by decide +kernel) (by decide)
theorem spoil2 : parseV (bl (⟨#[112, 114, 111, 116, 111, 99, 111, 108, 32, 102, 105, 102, 111, 10]⟩ : ByteArray)) = (noSet, 0, 10) := parseV_no (by decide +kernel) (by decide)
theorem spoil3 : parseV (bl (⟨#[112, 114, 111, 116, 111, 99, 111, 108, 32, 97, 103, 101, 110, 116, 10]⟩ : ByteArray)) = (noSet, 1, 10) := parseV_no (by decide +kernel) (by decide)
theorem spoil4 : parseV (bl (⟨#[112, 114, 111, 116, 111, 99, 111, 108, 32, 97, 103, 101, 110, 116, 10, 99, 111, 114, 101, 115, 10]⟩ : ByteArray)) = (noSet, 1, 10) := parseV_no (by decide +kernel) (by decide)
theorem spoil5 : parseV (bl (⟨#[112, 114, 111, 116, 111, 99, 111, 108, 32, 97, 103, 101, 110, 116, 10, 99, 111, 114, 101, 115, 32, 49, 32, 50, 10]⟩ : ByteArray)) = (noSet, 2, 14) := parseV_no (by decide +kernel) (by decide)
theorem spoil6 : parseV (bl ((⟨#[112, 114, 111, 116, 111, 99, 111, 108, 32, 97, 103, 101, 110, 116, 10, 99, 111, 114, 101, 115, 32, 49, 32, 50, 10]⟩ : ByteArray) ++ ⟨#[104, 111, 109, 101, 115, 10]⟩)) = (noSet, 2, 10) := parseV_no (by decide +kernel) (by decide)
theorem spoil7 : parseV (bl ((⟨#[112, 114, 111, 116, 111, 99, 111, 108, 32, 97, 103, 101, 110, 116, 10, 99, 111, 114, 101, 115, 32, 49, 32, 50, 10]⟩ : ByteArray) ++ ⟨#[104, 111, 109, 101, 115, 32, 50, 10, 116, 97, 115, 107, 32, 97, 32, 49, 48, 32, 49, 48, 32, 49, 32, 48, 32, 114, 117, 110, 58, 51, 10]⟩)) = (noSet, 1, 16) := parseV_no (by decide +kernel) (by decide)
theorem spoil8 : parseV (bl ((⟨#[112, 114, 111, 116, 111, 99, 111, 108, 32, 97, 103, 101, 110, 116, 10, 99, 111, 114, 101, 115, 32, 49, 32, 50, 10]⟩ : ByteArray) ++ ⟨#[116, 97, 115, 107, 32, 97, 32, 49, 48, 32, 49, 48, 32, 49, 32, 50, 32, 114, 117, 110, 58, 51, 10]⟩)) = (noSet, 2, 16) := parseV_no (by decide +kernel) (by decide)
theorem spoil9 : parseV (bl ((⟨#[112, 114, 111, 116, 111, 99, 111, 108, 32, 97, 103, 101, 110, 116, 10, 99, 111, 114, 101, 115, 32, 49, 32, 50, 10]⟩ : ByteArray) ++ ⟨#[116, 97, 115, 107, 32, 97, 32, 49, 48, 32, 49, 48, 32, 49, 32, 48, 10]⟩)) = (noSet, 2, 15) := parseV_no (by decide +kernel) (by decide)
theorem spoil10 : parseV (bl ((⟨#[112, 114, 111, 116, 111, 99, 111, 108, 32, 97, 103, 101, 110, 116, 10, 99, 111, 114, 101, 115, 32, 49, 32, 50, 10]⟩ : ByteArray) ++ ⟨#[116, 97, 115, 107, 32, 97, 32, 49, 48, 32, 49, 48, 32, 49, 32, 48, 32, 114, 117, 110, 58, 48, 51, 10]⟩)) = (noSet, 2, 10) := parseV_no (by decide +kernel) (by decide)
theorem spoil11 : parseV (bl ((⟨#[112, 114, 111, 116, 111, 99, 111, 108, 32, 97, 103, 101, 110, 116, 10, 99, 111, 114, 101, 115, 32, 49, 32, 50, 10]⟩ : ByteArray) ++ ⟨#[116, 97, 115, 107, 32, 97, 32, 49, 48, 32, 49, 48, 32, 49, 32, 48, 32, 119, 97, 108, 107, 58, 51, 10]⟩)) = (noSet, 2, 10) := parseV_no (by decide +kernel) (by decide)
theorem spoil12 : parseV (bl ((⟨#[112, 114, 111, 116, 111, 99, 111, 108, 32, 97, 103, 101, 110, 116, 10, 99, 111, 114, 101, 115, 32, 49, 32, 50, 10]⟩ : ByteArray) ++ ⟨#[116, 97, 115, 107, 32, 97, 32, 49, 48, 32, 49, 48, 32, 49, 32, 48, 32, 114, 117, 110, 58, 51, 10, 104, 111, 109, 101, 115, 32, 48, 10]⟩)) = (noSet, 3, 10) := parseV_no (by decide +kernel) (by decide)
theorem spoil13 : parseV (bl ((⟨#[112, 114, 111, 116, 111, 99, 111, 108, 32, 97, 103, 101, 110, 116, 10, 99, 111, 114, 101, 115, 32, 49, 32, 50, 10]⟩ : ByteArray) ++ ⟨#[116, 97, 115, 107, 32, 97, 32, 49, 48, 32, 49, 49, 32, 49, 32, 48, 32, 114, 117, 110, 58, 51, 10]⟩)) = (noSet, 2, 10) := parseV_no (by decide +kernel) (by decide)
end Go.Proofs.YtggidlmehimcjaaDoor
namespace Go.Proofs.YtggidlmehimcjaaDoor.textSpoilt
open Go.ChangeShapes Go.WideShapes Go.ChangeAt Go.RowKit
open Go.ChangeMaps (open_string shut_string)
set_option linter.unusedVariables false

/-- THE WALK: the Go text returns true, and writes nothing that was there. -/
theorem walk (a0 : Int) (w : World) (w0 : (Lit.int .u8 a0).wf = true) (mMax : Int) (hMax : w.cell? ⟨0, 0, none⟩ = some (.int .i64 mMax)) (hTab : Go.Lib.TabIs Tryd.prog w "internal/strconv.uint64pow10" .u64 Go.Lib.pow10Tab) :
    Calls Tryd.prog 4 #[.int .u8 a0] w fun e w' => e = .returned (.bool true) ∧ Below w.heap.size w w' := by
  have HX := hidp hMax
  have HT : Hid (Tab w) := hidp hTab
  have hI : 0 ≤ a0 ∧ a0 ≤ 255 := by simp [Lit.wf, IntKind.min, IntKind.max, IntKind.signed, IntKind.bits] at w0; omega
  obtain ⟨k, hk⟩ : ∃ k : Nat, a0.tmod 14 = (k : Int) := ⟨(a0 % 14).toNat, by rw [Int.tmod_eq_emod_of_nonneg hI.1]; omega⟩
  have hk14 : k < 14 := by rw [Int.tmod_eq_emod_of_nonneg hI.1] at hk; omega
  have wk : IntKind.u8.wrap (k : Int) = (k : Int) := IntWalk.u8_in _ (by omega)
  clear hMax hTab w0 hI
  go_enter Tryd.func4, Tryd.ntmps4
  go_wp2_with fail
  refine (known9_any w mMax HX.out HT.out).mono ?_
  rintro e w1 ⟨rfl, hb1⟩
  have HB := hidp hb1
  clear hb1
  go_upto_region 7 with fail
  generalize hW : World.alloc _ _ = W
  obtain ⟨b4, b5, b6, hbW⟩ := three hW
  have B4 := hidp b4
  have B5 := hidp b5
  have B6 := hidp b6
  have HBW := hidp (HB.out.trans (hbW.mono HB.out.size))
  have HMW := hidp (mem_max HX.out HBW.out)
  clear hW b4 b5 b6 hbW HB
  rcases k with _ | k
  · have c4 := B4.out.cell 0
    simp only [List.getElem?_toArray, List.getElem?_cons_succ, List.getElem?_cons_zero] at c4
    go_wp2_with fail
    refine (parse_any _ mMax _ HMW.out).mono ?_
    rintro e w2 hp
    rw [spoil0] at hp
    obtain ⟨x, rfl, hs, hx, hb2⟩ := hp
    have hx0 := noSet_tasks hx
    obtain ⟨proto, ca, cc, cores, ha, hc, homes, ta, tc, tasks⟩ := x
    dsimp only at hx0
    subst hx0
    have kb := Keeps.of_below hb2
    have c5 := kb ⟨w1.heap.size + 1, 0, none⟩ (.int .i64 0) (B5.out.cell 0)
    have c6 := kb ⟨w1.heap.size + 1 + 1, 0, none⟩ (.int .i64 10) (B6.out.cell 0)
    have hbz := HBW.out.trans (hb2.mono HBW.out.size)
    have ka := Keeps.alloc w2 (.cells #[.int .i64 proto, .slice ca cores.length cc, .slice ha homes.length hc, .slice ta 0 tc] 25)
    replace c5 := ka _ _ c5
    replace c6 := ka _ _ c6
    have B9 := Bk.new w2 25 #[.int .i64 proto, .slice ca cores.length cc, .slice ha homes.length hc, .slice ta 0 tc]
    obtain ⟨z0, z1, z2, z3⟩ := Z4 B9
    have HBZ := hidp (hbz.alloc hbz.size (.cells #[.int .i64 proto, .slice ca cores.length cc, .slice ha homes.length hc, .slice ta 0 tc] 25))
    clear hs hx hb2 kb ka hbz B9 c4
    go_wp2_with fail
    go_ret
    exact ⟨rfl, HBZ.out⟩
  rcases k with _ | k
  · have c4 := B4.out.cell 1
    simp only [List.getElem?_toArray, List.getElem?_cons_succ, List.getElem?_cons_zero] at c4
    go_wp2_with fail
    refine (parse_any _ mMax _ HMW.out).mono ?_
    rintro e w2 hp
    rw [spoil1] at hp
    obtain ⟨x, rfl, hs, hx, hb2⟩ := hp
    have hx0 := noSet_tasks hx
    obtain ⟨proto, ca, cc, cores, ha, hc, homes, ta, tc, tasks⟩ := x
    dsimp only at hx0
    subst hx0
    have kb := Keeps.of_below hb2
    have c5 := kb ⟨w1.heap.size + 1, 1, none⟩ (.int .i64 0) (B5.out.cell 1)
    have c6 := kb ⟨w1.heap.size + 1 + 1, 1, none⟩ (.int .i64 10) (B6.out.cell 1)
    have hbz := HBW.out.trans (hb2.mono HBW.out.size)
    have ka := Keeps.alloc w2 (.cells #[.int .i64 proto, .slice ca cores.length cc, .slice ha homes.length hc, .slice ta 0 tc] 25)
    replace c5 := ka _ _ c5
    replace c6 := ka _ _ c6
    have B9 := Bk.new w2 25 #[.int .i64 proto, .slice ca cores.length cc, .slice ha homes.length hc, .slice ta 0 tc]
    obtain ⟨z0, z1, z2, z3⟩ := Z4 B9
    have HBZ := hidp (hbz.alloc hbz.size (.cells #[.int .i64 proto, .slice ca cores.length cc, .slice ha homes.length hc, .slice ta 0 tc] 25))
    clear hs hx hb2 kb ka hbz B9 c4
    go_wp2_with fail
    go_ret
    exact ⟨rfl, HBZ.out⟩
  rcases k with _ | k
  · have c4 := B4.out.cell 2
    simp only [List.getElem?_toArray, List.getElem?_cons_succ, List.getElem?_cons_zero] at c4
    go_wp2_with fail
    refine (parse_any _ mMax _ HMW.out).mono ?_
    rintro e w2 hp
    rw [spoil2] at hp
    obtain ⟨x, rfl, hs, hx, hb2⟩ := hp
    have hx0 := noSet_tasks hx
    obtain ⟨proto, ca, cc, cores, ha, hc, homes, ta, tc, tasks⟩ := x
    dsimp only at hx0
    subst hx0
    have kb := Keeps.of_below hb2
    have c5 := kb ⟨w1.heap.size + 1, 2, none⟩ (.int .i64 0) (B5.out.cell 2)
    have c6 := kb ⟨w1.heap.size + 1 + 1, 2, none⟩ (.int .i64 10) (B6.out.cell 2)
    have hbz := HBW.out.trans (hb2.mono HBW.out.size)
    have ka := Keeps.alloc w2 (.cells #[.int .i64 proto, .slice ca cores.length cc, .slice ha homes.length hc, .slice ta 0 tc] 25)
    replace c5 := ka _ _ c5
    replace c6 := ka _ _ c6
    have B9 := Bk.new w2 25 #[.int .i64 proto, .slice ca cores.length cc, .slice ha homes.length hc, .slice ta 0 tc]
    obtain ⟨z0, z1, z2, z3⟩ := Z4 B9
    have HBZ := hidp (hbz.alloc hbz.size (.cells #[.int .i64 proto, .slice ca cores.length cc, .slice ha homes.length hc, .slice ta 0 tc] 25))
    clear hs hx hb2 kb ka hbz B9 c4
    go_wp2_with fail
    go_ret
    exact ⟨rfl, HBZ.out⟩
  rcases k with _ | k
  · have c4 := B4.out.cell 3
    simp only [List.getElem?_toArray, List.getElem?_cons_succ, List.getElem?_cons_zero] at c4
    go_wp2_with fail
    refine (parse_any _ mMax _ HMW.out).mono ?_
    rintro e w2 hp
    rw [spoil3] at hp
    obtain ⟨x, rfl, hs, hx, hb2⟩ := hp
    have hx0 := noSet_tasks hx
    obtain ⟨proto, ca, cc, cores, ha, hc, homes, ta, tc, tasks⟩ := x
    dsimp only at hx0
    subst hx0
    have kb := Keeps.of_below hb2
    have c5 := kb ⟨w1.heap.size + 1, 3, none⟩ (.int .i64 1) (B5.out.cell 3)
    have c6 := kb ⟨w1.heap.size + 1 + 1, 3, none⟩ (.int .i64 10) (B6.out.cell 3)
    have hbz := HBW.out.trans (hb2.mono HBW.out.size)
    have ka := Keeps.alloc w2 (.cells #[.int .i64 proto, .slice ca cores.length cc, .slice ha homes.length hc, .slice ta 0 tc] 25)
    replace c5 := ka _ _ c5
    replace c6 := ka _ _ c6
    have B9 := Bk.new w2 25 #[.int .i64 proto, .slice ca cores.length cc, .slice ha homes.length hc, .slice ta 0 tc]
    obtain ⟨z0, z1, z2, z3⟩ := Z4 B9
    have HBZ := hidp (hbz.alloc hbz.size (.cells #[.int .i64 proto, .slice ca cores.length cc, .slice ha homes.length hc, .slice ta 0 tc] 25))
    clear hs hx hb2 kb ka hbz B9 c4
    go_wp2_with fail
    go_ret
    exact ⟨rfl, HBZ.out⟩
  rcases k with _ | k
  · have c4 := B4.out.cell 4
    simp only [List.getElem?_toArray, List.getElem?_cons_succ, List.getElem?_cons_zero] at c4
    go_wp2_with fail
    refine (parse_any _ mMax _ HMW.out).mono ?_
    rintro e w2 hp
    rw [spoil4] at hp
    obtain ⟨x, rfl, hs, hx, hb2⟩ := hp
    have hx0 := noSet_tasks hx
    obtain ⟨proto, ca, cc, cores, ha, hc, homes, ta, tc, tasks⟩ := x
    dsimp only at hx0
    subst hx0
    have kb := Keeps.of_below hb2
    have c5 := kb ⟨w1.heap.size + 1, 4, none⟩ (.int .i64 1) (B5.out.cell 4)
    have c6 := kb ⟨w1.heap.size + 1 + 1, 4, none⟩ (.int .i64 10) (B6.out.cell 4)
    have hbz := HBW.out.trans (hb2.mono HBW.out.size)
    have ka := Keeps.alloc w2 (.cells #[.int .i64 proto, .slice ca cores.length cc, .slice ha homes.length hc, .slice ta 0 tc] 25)
    replace c5 := ka _ _ c5
    replace c6 := ka _ _ c6
    have B9 := Bk.new w2 25 #[.int .i64 proto, .slice ca cores.length cc, .slice ha homes.length hc, .slice ta 0 tc]
    obtain ⟨z0, z1, z2, z3⟩ := Z4 B9
    have HBZ := hidp (hbz.alloc hbz.size (.cells #[.int .i64 proto, .slice ca cores.length cc, .slice ha homes.length hc, .slice ta 0 tc] 25))
    clear hs hx hb2 kb ka hbz B9 c4
    go_wp2_with fail
    go_ret
    exact ⟨rfl, HBZ.out⟩
  rcases k with _ | k
  · have c4 := B4.out.cell 5
    simp only [List.getElem?_toArray, List.getElem?_cons_succ, List.getElem?_cons_zero] at c4
    go_wp2_with fail
    refine (parse_any _ mMax _ HMW.out).mono ?_
    rintro e w2 hp
    rw [spoil5] at hp
    obtain ⟨x, rfl, hs, hx, hb2⟩ := hp
    have hx0 := noSet_tasks hx
    obtain ⟨proto, ca, cc, cores, ha, hc, homes, ta, tc, tasks⟩ := x
    dsimp only at hx0
    subst hx0
    have kb := Keeps.of_below hb2
    have c5 := kb ⟨w1.heap.size + 1, 5, none⟩ (.int .i64 2) (B5.out.cell 5)
    have c6 := kb ⟨w1.heap.size + 1 + 1, 5, none⟩ (.int .i64 14) (B6.out.cell 5)
    have hbz := HBW.out.trans (hb2.mono HBW.out.size)
    have ka := Keeps.alloc w2 (.cells #[.int .i64 proto, .slice ca cores.length cc, .slice ha homes.length hc, .slice ta 0 tc] 25)
    replace c5 := ka _ _ c5
    replace c6 := ka _ _ c6
    have B9 := Bk.new w2 25 #[.int .i64 proto, .slice ca cores.length cc, .slice ha homes.length hc, .slice ta 0 tc]
    obtain ⟨z0, z1, z2, z3⟩ := Z4 B9
    have HBZ := hidp (hbz.alloc hbz.size (.cells #[.int .i64 proto, .slice ca cores.length cc, .slice ha homes.length hc, .slice ta 0 tc] 25))
    clear hs hx hb2 kb ka hbz B9 c4
    go_wp2_with fail
    go_ret
    exact ⟨rfl, HBZ.out⟩
  rcases k with _ | k
  · have c4 := B4.out.cell 6
    simp only [List.getElem?_toArray, List.getElem?_cons_succ, List.getElem?_cons_zero] at c4
    go_wp2_with fail
    refine (parse_any _ mMax _ HMW.out).mono ?_
    rintro e w2 hp
    rw [spoil6] at hp
    obtain ⟨x, rfl, hs, hx, hb2⟩ := hp
    have hx0 := noSet_tasks hx
    obtain ⟨proto, ca, cc, cores, ha, hc, homes, ta, tc, tasks⟩ := x
    dsimp only at hx0
    subst hx0
    have kb := Keeps.of_below hb2
    have c5 := kb ⟨w1.heap.size + 1, 6, none⟩ (.int .i64 2) (B5.out.cell 6)
    have c6 := kb ⟨w1.heap.size + 1 + 1, 6, none⟩ (.int .i64 10) (B6.out.cell 6)
    have hbz := HBW.out.trans (hb2.mono HBW.out.size)
    have ka := Keeps.alloc w2 (.cells #[.int .i64 proto, .slice ca cores.length cc, .slice ha homes.length hc, .slice ta 0 tc] 25)
    replace c5 := ka _ _ c5
    replace c6 := ka _ _ c6
    have B9 := Bk.new w2 25 #[.int .i64 proto, .slice ca cores.length cc, .slice ha homes.length hc, .slice ta 0 tc]
    obtain ⟨z0, z1, z2, z3⟩ := Z4 B9
    have HBZ := hidp (hbz.alloc hbz.size (.cells #[.int .i64 proto, .slice ca cores.length cc, .slice ha homes.length hc, .slice ta 0 tc] 25))
    clear hs hx hb2 kb ka hbz B9 c4
    go_wp2_with fail
    go_ret
    exact ⟨rfl, HBZ.out⟩
  rcases k with _ | k
  · have c4 := B4.out.cell 7
    simp only [List.getElem?_toArray, List.getElem?_cons_succ, List.getElem?_cons_zero] at c4
    go_wp2_with fail
    refine (parse_any _ mMax _ HMW.out).mono ?_
    rintro e w2 hp
    rw [spoil7] at hp
    obtain ⟨x, rfl, hs, hx, hb2⟩ := hp
    have hx0 := noSet_tasks hx
    obtain ⟨proto, ca, cc, cores, ha, hc, homes, ta, tc, tasks⟩ := x
    dsimp only at hx0
    subst hx0
    have kb := Keeps.of_below hb2
    have c5 := kb ⟨w1.heap.size + 1, 7, none⟩ (.int .i64 1) (B5.out.cell 7)
    have c6 := kb ⟨w1.heap.size + 1 + 1, 7, none⟩ (.int .i64 16) (B6.out.cell 7)
    have hbz := HBW.out.trans (hb2.mono HBW.out.size)
    have ka := Keeps.alloc w2 (.cells #[.int .i64 proto, .slice ca cores.length cc, .slice ha homes.length hc, .slice ta 0 tc] 25)
    replace c5 := ka _ _ c5
    replace c6 := ka _ _ c6
    have B9 := Bk.new w2 25 #[.int .i64 proto, .slice ca cores.length cc, .slice ha homes.length hc, .slice ta 0 tc]
    obtain ⟨z0, z1, z2, z3⟩ := Z4 B9
    have HBZ := hidp (hbz.alloc hbz.size (.cells #[.int .i64 proto, .slice ca cores.length cc, .slice ha homes.length hc, .slice ta 0 tc] 25))
    clear hs hx hb2 kb ka hbz B9 c4
    go_wp2_with fail
    go_ret
    exact ⟨rfl, HBZ.out⟩
  rcases k with _ | k
  · have c4 := B4.out.cell 8
    simp only [List.getElem?_toArray, List.getElem?_cons_succ, List.getElem?_cons_zero] at c4
    go_wp2_with fail
    refine (parse_any _ mMax _ HMW.out).mono ?_
    rintro e w2 hp
    rw [spoil8] at hp
    obtain ⟨x, rfl, hs, hx, hb2⟩ := hp
    have hx0 := noSet_tasks hx
    obtain ⟨proto, ca, cc, cores, ha, hc, homes, ta, tc, tasks⟩ := x
    dsimp only at hx0
    subst hx0
    have kb := Keeps.of_below hb2
    have c5 := kb ⟨w1.heap.size + 1, 8, none⟩ (.int .i64 2) (B5.out.cell 8)
    have c6 := kb ⟨w1.heap.size + 1 + 1, 8, none⟩ (.int .i64 16) (B6.out.cell 8)
    have hbz := HBW.out.trans (hb2.mono HBW.out.size)
    have ka := Keeps.alloc w2 (.cells #[.int .i64 proto, .slice ca cores.length cc, .slice ha homes.length hc, .slice ta 0 tc] 25)
    replace c5 := ka _ _ c5
    replace c6 := ka _ _ c6
    have B9 := Bk.new w2 25 #[.int .i64 proto, .slice ca cores.length cc, .slice ha homes.length hc, .slice ta 0 tc]
    obtain ⟨z0, z1, z2, z3⟩ := Z4 B9
    have HBZ := hidp (hbz.alloc hbz.size (.cells #[.int .i64 proto, .slice ca cores.length cc, .slice ha homes.length hc, .slice ta 0 tc] 25))
    clear hs hx hb2 kb ka hbz B9 c4
    go_wp2_with fail
    go_ret
    exact ⟨rfl, HBZ.out⟩
  rcases k with _ | k
  · have c4 := B4.out.cell 9
    simp only [List.getElem?_toArray, List.getElem?_cons_succ, List.getElem?_cons_zero] at c4
    go_wp2_with fail
    refine (parse_any _ mMax _ HMW.out).mono ?_
    rintro e w2 hp
    rw [spoil9] at hp
    obtain ⟨x, rfl, hs, hx, hb2⟩ := hp
    have hx0 := noSet_tasks hx
    obtain ⟨proto, ca, cc, cores, ha, hc, homes, ta, tc, tasks⟩ := x
    dsimp only at hx0
    subst hx0
    have kb := Keeps.of_below hb2
    have c5 := kb ⟨w1.heap.size + 1, 9, none⟩ (.int .i64 2) (B5.out.cell 9)
    have c6 := kb ⟨w1.heap.size + 1 + 1, 9, none⟩ (.int .i64 15) (B6.out.cell 9)
    have hbz := HBW.out.trans (hb2.mono HBW.out.size)
    have ka := Keeps.alloc w2 (.cells #[.int .i64 proto, .slice ca cores.length cc, .slice ha homes.length hc, .slice ta 0 tc] 25)
    replace c5 := ka _ _ c5
    replace c6 := ka _ _ c6
    have B9 := Bk.new w2 25 #[.int .i64 proto, .slice ca cores.length cc, .slice ha homes.length hc, .slice ta 0 tc]
    obtain ⟨z0, z1, z2, z3⟩ := Z4 B9
    have HBZ := hidp (hbz.alloc hbz.size (.cells #[.int .i64 proto, .slice ca cores.length cc, .slice ha homes.length hc, .slice ta 0 tc] 25))
    clear hs hx hb2 kb ka hbz B9 c4
    go_wp2_with fail
    go_ret
    exact ⟨rfl, HBZ.out⟩
  rcases k with _ | k
  · have c4 := B4.out.cell 10
    simp only [List.getElem?_toArray, List.getElem?_cons_succ, List.getElem?_cons_zero] at c4
    go_wp2_with fail
    refine (parse_any _ mMax _ HMW.out).mono ?_
    rintro e w2 hp
    rw [spoil10] at hp
    obtain ⟨x, rfl, hs, hx, hb2⟩ := hp
    have hx0 := noSet_tasks hx
    obtain ⟨proto, ca, cc, cores, ha, hc, homes, ta, tc, tasks⟩ := x
    dsimp only at hx0
    subst hx0
    have kb := Keeps.of_below hb2
    have c5 := kb ⟨w1.heap.size + 1, 10, none⟩ (.int .i64 2) (B5.out.cell 10)
    have c6 := kb ⟨w1.heap.size + 1 + 1, 10, none⟩ (.int .i64 10) (B6.out.cell 10)
    have hbz := HBW.out.trans (hb2.mono HBW.out.size)
    have ka := Keeps.alloc w2 (.cells #[.int .i64 proto, .slice ca cores.length cc, .slice ha homes.length hc, .slice ta 0 tc] 25)
    replace c5 := ka _ _ c5
    replace c6 := ka _ _ c6
    have B9 := Bk.new w2 25 #[.int .i64 proto, .slice ca cores.length cc, .slice ha homes.length hc, .slice ta 0 tc]
    obtain ⟨z0, z1, z2, z3⟩ := Z4 B9
    have HBZ := hidp (hbz.alloc hbz.size (.cells #[.int .i64 proto, .slice ca cores.length cc, .slice ha homes.length hc, .slice ta 0 tc] 25))
    clear hs hx hb2 kb ka hbz B9 c4
    go_wp2_with fail
    go_ret
    exact ⟨rfl, HBZ.out⟩
  rcases k with _ | k
  · have c4 := B4.out.cell 11
    simp only [List.getElem?_toArray, List.getElem?_cons_succ, List.getElem?_cons_zero] at c4
    go_wp2_with fail
    refine (parse_any _ mMax _ HMW.out).mono ?_
    rintro e w2 hp
    rw [spoil11] at hp
    obtain ⟨x, rfl, hs, hx, hb2⟩ := hp
    have hx0 := noSet_tasks hx
    obtain ⟨proto, ca, cc, cores, ha, hc, homes, ta, tc, tasks⟩ := x
    dsimp only at hx0
    subst hx0
    have kb := Keeps.of_below hb2
    have c5 := kb ⟨w1.heap.size + 1, 11, none⟩ (.int .i64 2) (B5.out.cell 11)
    have c6 := kb ⟨w1.heap.size + 1 + 1, 11, none⟩ (.int .i64 10) (B6.out.cell 11)
    have hbz := HBW.out.trans (hb2.mono HBW.out.size)
    have ka := Keeps.alloc w2 (.cells #[.int .i64 proto, .slice ca cores.length cc, .slice ha homes.length hc, .slice ta 0 tc] 25)
    replace c5 := ka _ _ c5
    replace c6 := ka _ _ c6
    have B9 := Bk.new w2 25 #[.int .i64 proto, .slice ca cores.length cc, .slice ha homes.length hc, .slice ta 0 tc]
    obtain ⟨z0, z1, z2, z3⟩ := Z4 B9
    have HBZ := hidp (hbz.alloc hbz.size (.cells #[.int .i64 proto, .slice ca cores.length cc, .slice ha homes.length hc, .slice ta 0 tc] 25))
    clear hs hx hb2 kb ka hbz B9 c4
    go_wp2_with fail
    go_ret
    exact ⟨rfl, HBZ.out⟩
  rcases k with _ | k
  · have c4 := B4.out.cell 12
    simp only [List.getElem?_toArray, List.getElem?_cons_succ, List.getElem?_cons_zero] at c4
    go_wp2_with fail
    refine (parse_any _ mMax _ HMW.out).mono ?_
    rintro e w2 hp
    rw [spoil12] at hp
    obtain ⟨x, rfl, hs, hx, hb2⟩ := hp
    have hx0 := noSet_tasks hx
    obtain ⟨proto, ca, cc, cores, ha, hc, homes, ta, tc, tasks⟩ := x
    dsimp only at hx0
    subst hx0
    have kb := Keeps.of_below hb2
    have c5 := kb ⟨w1.heap.size + 1, 12, none⟩ (.int .i64 3) (B5.out.cell 12)
    have c6 := kb ⟨w1.heap.size + 1 + 1, 12, none⟩ (.int .i64 10) (B6.out.cell 12)
    have hbz := HBW.out.trans (hb2.mono HBW.out.size)
    have ka := Keeps.alloc w2 (.cells #[.int .i64 proto, .slice ca cores.length cc, .slice ha homes.length hc, .slice ta 0 tc] 25)
    replace c5 := ka _ _ c5
    replace c6 := ka _ _ c6
    have B9 := Bk.new w2 25 #[.int .i64 proto, .slice ca cores.length cc, .slice ha homes.length hc, .slice ta 0 tc]
    obtain ⟨z0, z1, z2, z3⟩ := Z4 B9
    have HBZ := hidp (hbz.alloc hbz.size (.cells #[.int .i64 proto, .slice ca cores.length cc, .slice ha homes.length hc, .slice ta 0 tc] 25))
    clear hs hx hb2 kb ka hbz B9 c4
    go_wp2_with fail
    go_ret
    exact ⟨rfl, HBZ.out⟩
  rcases k with _ | k
  · have c4 := B4.out.cell 13
    simp only [List.getElem?_toArray, List.getElem?_cons_succ, List.getElem?_cons_zero] at c4
    go_wp2_with fail
    refine (parse_any _ mMax _ HMW.out).mono ?_
    rintro e w2 hp
    rw [spoil13] at hp
    obtain ⟨x, rfl, hs, hx, hb2⟩ := hp
    have hx0 := noSet_tasks hx
    obtain ⟨proto, ca, cc, cores, ha, hc, homes, ta, tc, tasks⟩ := x
    dsimp only at hx0
    subst hx0
    have kb := Keeps.of_below hb2
    have c5 := kb ⟨w1.heap.size + 1, 13, none⟩ (.int .i64 2) (B5.out.cell 13)
    have c6 := kb ⟨w1.heap.size + 1 + 1, 13, none⟩ (.int .i64 10) (B6.out.cell 13)
    have hbz := HBW.out.trans (hb2.mono HBW.out.size)
    have ka := Keeps.alloc w2 (.cells #[.int .i64 proto, .slice ca cores.length cc, .slice ha homes.length hc, .slice ta 0 tc] 25)
    replace c5 := ka _ _ c5
    replace c6 := ka _ _ c6
    have B9 := Bk.new w2 25 #[.int .i64 proto, .slice ca cores.length cc, .slice ha homes.length hc, .slice ta 0 tc]
    obtain ⟨z0, z1, z2, z3⟩ := Z4 B9
    have HBZ := hidp (hbz.alloc hbz.size (.cells #[.int .i64 proto, .slice ca cores.length cc, .slice ha homes.length hc, .slice ta 0 tc] 25))
    clear hs hx hb2 kb ka hbz B9 c4
    go_wp2_with fail
    go_ret
    exact ⟨rfl, HBZ.out⟩
  exact absurd hk14 (by omega)

theorem own : ownKnob Tryd.prog.godebug = none := by kernel_rfl
theorem laidOut : laidOutB Tryd.prog = true := by kernel_rfl
def cellsD : DataW Unit → List Value
  | .agg ds => ds.flatMap fun
    | .lit (.int k z) => [Value.int k z]
    | .agg es => es.flatMap fun
      | .lit (.int k z) => [Value.int k z]
      | _ => []
    | _ => []
  | _ => []
def layTab (d : DataW Unit) : Obj → Obj
  | .cells _ t frozen => .cells (cellsD d).toArray t frozen
  | o => o
/-- a world in which the listed tables lie: the witness -/
noncomputable def laidWorld (os : Os) : World := { World.holding Tryd.prog os ⟨#[], #[], []⟩ with heap := ((((((World.holding Tryd.prog os ⟨#[], #[], []⟩).heap.modify 4 (layTab Rows.laid_math_bits_deBruijn32tab)).modify 5 (layTab Rows.laid_math_bits_deBruijn64tab)).modify 1 (layTab Rows.laid_internal_strconv_uint64pow10)).modify 3 (layTab Rows.laid_unicode_utf8_acceptRanges)).modify 2 (layTab Rows.laid_unicode_utf8_first)) }
theorem laid_met (os : Os) (args : Array Value) : laidMetH Tryd.prog Rows.textSpoiltRow.laid ((laidWorld os).forCall (fun _ _ => 0) ⟨#[], args, []⟩).memory :=
  laidMet_of_run' 8 (by kernel_rfl) (by kernel_rfl)
theorem witness_row (os : Os) {H : Type} (enc : TypeId × Value → H) :
    (OpenSpec.ofChange Rows.textSpoiltSpec).preRow enc Tryd.prog Tryd.f4 Rows.textSpoiltRow.domain false Rows.textSpoiltRow.laid ((laidWorld os).forCall (fun _ _ => 0) ⟨#[], #[.int .u8 0], []⟩).memory #[.int .u8 0] := by
  have hw : (DataW.whole enc Tryd.prog ((laidWorld os).forCall (fun _ _ => 0) ⟨#[], #[.int .u8 0], []⟩).memory Tryd.f4.params.toList (OpenSpec.ofChange Rows.textSpoiltSpec).vars false (#[.int .u8 0] : Array Value).toList 8).map (fun x => (x.1, x.2.1)) =
      some ([.lit (.int .u8 0)], []) := by kernel_rfl
  obtain ⟨⟨x1, x2, x3⟩, hx, hx1⟩ := Option.map_eq_some_iff.1 hw
  simp only [Prod.mk.injEq] at hx1
  obtain ⟨rfl, rfl⟩ := hx1
  exact OpenSpec.preRow_of_cond 8 hx (by kernel_rfl) (fun k hk => by cases hk) (by kernel_rfl) (laid_met os _)

set_option maxRecDepth 100000 in
theorem lifted (os : Os) (started : os.Started) (H : Type) (enc : TypeId × Value → H) (F0 : Stop.Interp) :
    ReturnsInHanded {} Tryd.checked os 4 .any ((OpenSpec.ofChange Rows.textSpoiltSpec).preRow enc Tryd.prog Tryd.f4 Rows.textSpoiltRow.domain false Rows.textSpoiltRow.laid) (((OpenSpec.ofChange Rows.textSpoiltSpec).at F0).post enc Tryd.prog Tryd.f4 false true false false) := by
  refine returnsInHanded_of_row (C := Tryd.checked) (s := OpenSpec.ofChange Rows.textSpoiltSpec) own started (by kernel_rfl) Tryd.func4
    (witness_row_at (enc := enc) (C := Tryd.checked) false (laidWorld os) #[.int .u8 0] rfl (by kernel_rfl) (by kernel_rfl) (by kernel_rfl) (witness_row os enc)) ?_
  intro W base args ds gs before hval0 hW _ _ _ hL hsh _
  obtain ⟨mMax, hMax⟩ : ∃ m, W.cell? ⟨0, 0, none⟩ = some (.int .i64 m) := Tryd.laysM219.s1_3 W hsh
  have hTab : Go.Lib.TabIs Tryd.prog W "internal/strconv.uint64pow10" .u64 Go.Lib.pow10Tab := tabPow hL
  have hval : ∀ (j : Nat) t v, Tryd.f4.params[j]? = some t → args[j]? = some v → Value.okWide Tryd.prog W .any base t v := hval0
  have hW' := hW
  obtain ⟨p, q, hA0, hV, rfl, hfz, hnd⟩ := hW
  have hA : DataW.TrodAll enc Tryd.prog W 0 (fun _ => true) true Tryd.f4.params.toList args.toList ds p := hA0
  rw [Tryd.params4] at hA hval
  obtain ⟨v0, vs0, d0, ds0, p0, q0, hargs, rfl, rfl, h0, r0⟩ := trodAll_cons hA
  obtain ⟨rfl, rfl, rfl⟩ := trodAll_nil r0
  obtain rfl : args = #[v0] := by cases args; simp_all
  obtain ⟨rfl, rfl⟩ := trodVars_none hV
  obtain ⟨a0, rfl, rfl, rfl, w0⟩ := open_int Tryd.underlying5 (hval 0 5 v0 rfl rfl) h0
  clear hA0 hval0
  refine (walk a0  W w0 mMax hMax hTab).mono fun e W' ⟨he, bel⟩ => ?_
  subst he
  exact ⟨_, rfl, _, _, _, [], _, [], hW', trodAll_mk1 (shut_bool Tryd.underlying4 _), (trodAll_cons_mk (shut_int Tryd.underlying5 w0) trodAll_mk0), rfl, bel.frame _, fun h => by cases h⟩

theorem over : Rows.TextSpoiltSaid :=
  OpenClaim.holds_of_cond 4 Tryd.f4 rfl rfl rfl rfl rfl rfl rfl ⟨rfl, rfl, rfl, rfl, rfl⟩ rfl rfl rfl rfl rfl (by kernel_rfl) Tryd.func4 (by kernel_rfl)
    (of_decide_eq_true (by kernel_rfl)) (by unfold Func.isWrapper; first | (rw [if_pos (by decide +kernel)]; kernel_rfl) | (rw [if_neg (by decide +kernel)]; exact ⟨rfl, rfl⟩))
    (fun os started H enc _ F0 => by rw [OpenClaim.pre_eq_preRow]; exact lifted os started H enc F0)

/-- THE STATEMENT: the tied card -/
theorem proved : Rows.TextSpoiltCardSaid :=
  Claim7.holds_tied_plain_at .later [] [.data, .data, .data, .data, .pinned] true (true, "31bf0271daabb12f75d2d3dcdb5711a3ac54dcda70b669fd0f20e4f13d272f58") false
    over (fun _ h => by cases h) (by kernel_rfl) (fun _ h => by cases h) textSpoilt_row_tie rfl ⟨rfl, rfl⟩ (by kernel_rfl) rfl
    (fun f fn hf hfn => by
      obtain rfl : f = 4 := Option.some.inj ((show Tryd.prog.funcNamed Rows.textSpoiltRow.func = some 4 by kernel_rfl).symm.trans hf) |>.symm
      obtain rfl : fn = Tryd.f4 := (Option.some.inj (Tryd.func4.symm.trans hfn)).symm
      refine ⟨by kernel_rfl, fun j t ht => ?_⟩
      rw [Tryd.params4] at ht
      exact standIns _ (by kernel_rfl) j t ht)
    (by kernel_rfl)
#print axioms proved
end Go.Proofs.YtggidlmehimcjaaDoor.textSpoilt

