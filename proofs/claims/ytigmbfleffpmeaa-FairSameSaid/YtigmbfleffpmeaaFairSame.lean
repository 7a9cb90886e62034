/- FairSame: clusters, cores, priorities play no part in one line. No condition. -/
import Derived.Test.YtigmbfleffpmeaaFairSame0
import Derived.Test.YtigmbfleffpmeaaOwnPut
import Derived.StillTailTactics
namespace Go.Proofs.Ytigmbfleffpmeaa
open Go.ChangeShapes Go.WideShapes Go.ChangeAt Go.RowKit
theorem chg_mem {p n : Int} {k : Nat} {ts : List TaskR} {t : TaskR} (h : t ∈ chg p n k ts) : ∃ j t0, t0 ∈ ts ∧ t = chgT p n (k + j) t0 := by
  induction ts generalizing k with
  | nil => simp [chg] at h
  | cons a ts ih =>
    simp only [chg, List.mem_cons] at h
    rcases h with rfl | h
    · exact ⟨0, a, by simp, by rw [Nat.add_zero]⟩
    · obtain ⟨j, t0, h1, h2⟩ := ih h
      exact ⟨j + 1, t0, by simp [h1], by rw [h2, show k + 1 + j = k + (j + 1) by omega]⟩
theorem own_frozen {w : World} {base : Nat} {e : TypeId} {size n m c g : Nat} {xs : List Value} (h : w.ownsRow base e size (.slice (some ⟨g, 0, none⟩) m c) n xs) (k : Nat) : w.frozen? ⟨g, k, none⟩ = false := by
  rcases h.2 with ⟨hv, _⟩ | ⟨g', cap, cur, hv, hb, hg, _⟩
  · cases hv
  · injection hv with e1; injection e1 with e1; injection e1 with e1; subst e1
    exact Bk.frozen (cs := cur) hg k
theorem lies_tasks {w : World} {A : Option Addr} {ts : List TaskR} (h : TasksAt w A ts) : Lies w.heap.size w A (ttc ts) := by
  rcases h with rfl | ⟨b, off, rfl, hc⟩
  · exact .inl rfl
  · by_cases h0 : ts = []
    · subst h0; exact .inl rfl
    · have hp : 0 < ts.length := List.length_pos_iff.2 h0
      refine .inr ⟨b, off, rfl, cell_lt (hc 0 hp).1, fun j v hj => ?_⟩
      have hl : j < ts.length * 6 := by
        by_cases x : j < ts.length * 6
        · exact x
        · rw [List.getElem?_eq_none (by rw [ttc_len]; omega)] at hj; cases hj
      have hi : j / 6 < ts.length := by omega
      obtain ⟨c0, c1, c2, c3, c4, c5⟩ := hc (j / 6) hi
      have h := ttc_drop ts (j / 6)
      rw [List.drop_eq_getElem_cons hi] at h
      have hg : ts.getD (j / 6) default = ts[j / 6] := by simp [List.getD, hi]
      rw [hg] at c0 c1 c2 c3 c4 c5
      have hx : (ttc (ts[j / 6] :: ts.drop (j / 6 + 1)))[j % 6]? = some v := by
        rw [← h, List.getElem?_drop, show j / 6 * 6 + j % 6 = j by omega]; exact hj
      have hm : j % 6 < 6 := Nat.mod_lt _ (by omega)
      rw [show off + j = off + j / 6 * 6 + j % 6 by omega]
      generalize j % 6 = m at hx hm
      match m, hm with
      | 0, _ => rw [← hx]; exact c0
      | 1, _ => rw [← hx]; exact c1
      | 2, _ => rw [← hx]; exact c2
      | 3, _ => rw [← hx]; exact c3
      | 4, _ => rw [← hx]; exact c4
      | 5, _ => rw [← hx]; exact c5
theorem rep_step (x : Int) (zs : List Int) (i : Nat) (hi : i < zs.length) : (List.replicate i x ++ zs.drop i).set i x = List.replicate (i + 1) x ++ zs.drop (i + 1) := by
  rw [List.set_append_right _ _ (by simp), List.length_replicate, Nat.sub_self, List.drop_eq_getElem_cons hi, List.set_cons_zero, List.replicate_succ', List.append_assoc]
  rfl
end Go.Proofs.Ytigmbfleffpmeaa
set_option maxHeartbeats 20000000
set_option maxRecDepth 100000
namespace Go.Proofs.Ytigmbfleffpmeaa.fairSame
open Go.ChangeShapes Go.WideShapes Go.ChangeAt Go.RowKit
open Go.ChangeMaps (open_string shut_string)
set_option linter.unusedVariables false

/-- THE WALK: the Go text returns true, and writes nothing that was there. -/
theorem walk (s0 : SetR) (a1 : Int) (a2 : Int) (w : World) (w0 : SetOk w s0) (w1 : (Lit.int .u8 a1).wf = true) (w2 : (Lit.int .u8 a2).wf = true) :
    Calls Try.prog 11 #[.agg #[.int .i64 s0.proto, .slice s0.ca s0.cores.length s0.cc, .slice s0.ha s0.homes.length s0.hc, .slice s0.ta s0.tasks.length s0.tc], .int .u8 a1, .int .u8 a2] w fun e w' => e = .returned (.bool true) ∧ Below w.heap.size w w' := by
  have hb := (Below.refl w.heap.size w).alloc (Nat.le_refl _) (.cells #[.int .i64 s0.proto, .slice s0.ca s0.cores.length s0.cc, .slice s0.ha s0.homes.length s0.hc, .slice s0.ta s0.tasks.length s0.tc] 25)
  have sc := SetCells.new w s0 25
  have hs := w0.keep (Keeps.of_below hb)
  have b1 : 0 ≤ a1 ∧ a1 ≤ 255 := by simp [Lit.wf, IntKind.min, IntKind.max, IntKind.signed, IntKind.bits] at w1; omega
  have b2 : 0 ≤ a2 ∧ a2 ≤ 255 := by simp [Lit.wf, IntKind.min, IntKind.max, IntKind.signed, IntKind.bits] at w2; omega
  obtain ⟨p0, p1⟩ := b1
  obtain ⟨p2, p3⟩ := b2
  clear w0 w1 w2
  obtain ⟨A, HA⟩ : ∃ A, Hid (aheadV s0 0 = A) := ⟨_, rfl⟩
  go_enter Try.func11, Try.ntmps11
  go_wp2_with fail
  refine (known13_any _).mono ?_
  rintro e u1 ⟨rfl, hb2⟩
  replace hb := hb.trans (hb2.mono hb.size)
  replace sc := sc.keep (Keeps.of_below hb2)
  replace hs := hs.keep (Keeps.of_below hb2)
  clear hb2
  have sc2 := sc
  obtain ⟨c0, c1, c2, c3⟩ := sc2
  go_wp2_with fail
  refine (few13_any s0 _ hs).mono ?_
  rintro e u2 ⟨⟨b, rfl⟩, hb2⟩
  clear c0 c1 c2 c3
  replace hb := hb.trans (hb2.mono hb.size)
  replace sc := sc.keep (Keeps.of_below hb2)
  replace hs := hs.keep (Keeps.of_below hb2)
  clear hb2
  have sc2 := sc
  obtain ⟨c0, c1, c2, c3⟩ := sc2
  cases b
  · go_wp2_with fail
    go_ret
    exact ⟨rfl, hb⟩
  · go_wp2_with fail
    refine (ahead_any s0 0 _ hs).mono ?_
    rintro e u3 ⟨rfl, hb2⟩
    rw [HA.out]
    clear c0 c1 c2 c3
    replace hb := hb.trans (hb2.mono hb.size)
    replace sc := sc.keep (Keeps.of_below hb2)
    replace hs := hs.keep (Keeps.of_below hb2)
    clear hb2
    have sc2 := sc
    obtain ⟨c0, c1, c2, c3⟩ := sc2
    by_cases hz : A = 0
    · subst hz
      go_wp2_with fail
      go_ret
      exact ⟨rfl, hb⟩
    · have hth : thereB s0 0 = true := by
        by_cases h : thereB s0 0 = true
        · exact h
        · exfalso; apply hz; rw [← HA.out]; unfold aheadV; rw [if_neg h]
      have Hok := hidp (thereB_true.1 hth).1
      have HG := hidp (Good.of Hok.out)
      have hz2 : (A == 0) = false := by simpa using hz
      have nt := HG.out.ntasks
      have nc := HG.out.ncores
      obtain ⟨g, off, hA, _⟩ := hs.tasks.at_.resolve_left (by intro e; rw [e] at nt; simp at nt)
      clear hz hth HA
      obtain ⟨proto, ca, cc, cores, ha, hc, homes, ta, tc, tasks⟩ := s0
      dsimp only at hA nt nc c0 c1 c2 c3
      subst hA
      have HS3 := hidp hs
      have SC3 := hidp sc
      have HB3 := hidp hb
      have hbu := (Below.refl u3.heap.size u3).alloc (Nat.le_refl _) (.cells #[.int .i64 proto, .slice ca cores.length cc, .slice ha homes.length hc, .slice (some ⟨g, off, none⟩) tasks.length tc] 25)
      have bk := Bk.new u3 25 #[.int .i64 proto, .slice ca cores.length cc, .slice ha homes.length hc, .slice (some ⟨g, off, none⟩) tasks.length tc]
      replace sc := sc.keep (Keeps.alloc u3 (.cells #[.int .i64 proto, .slice ca cores.length cc, .slice ha homes.length hc, .slice (some ⟨g, off, none⟩) tasks.length tc] 25))
      replace hs := hs.keep (Keeps.alloc u3 (.cells #[.int .i64 proto, .slice ca cores.length cc, .slice ha homes.length hc, .slice (some ⟨g, off, none⟩) tasks.length tc] 25))
      have hH : w.heap.size < u3.heap.size := by have := cell_lt c0; exact this
      replace hb := hb.alloc hb.size (.cells #[.int .i64 proto, .slice ca cores.length cc, .slice ha homes.length hc, .slice (some ⟨g, off, none⟩) tasks.length tc] 25)
      have sc2 := sc
      obtain ⟨e0, e1, e2, e3⟩ := sc2
      dsimp only at e0 e1 e2 e3
      obtain ⟨i0, hi0, hy0, hy1, hy2⟩ := info_parts infoZ
      have Q1 : Hid (ca = none → cores.length = 0 ∧ cc = 0) := hidp hs.cores.sl.1
      have L1 : Hid ((cores.map (Value.int .i64)).length = cores.length * 1) := hidp (by simp)
      have S1 := hidp (Row.lies hs.cores.at_)
      have O1 : Hid (∀ u ∈ cores.map (Value.int .i64), u.oneCell' = true) := hidp (fun u hu => by obtain ⟨n, _, rfl⟩ := List.mem_map.1 hu; rfl)
      have N1 : Hid (0 + cores.length ≤ maxLen) := hidp (by unfold maxLen; omega)
      have T1 : Hid ((0 + cores.length) * 8 ≤ 140737488355328) := hidp (by omega)
      have Z1 : Hid (u3.heap.size + 1 ≤ (u3.alloc (.cells #[.int .i64 proto, .slice ca cores.length cc, .slice ha homes.length hc, .slice (some ⟨g, off, none⟩) tasks.length tc] 25)).heap.size) := hidp (by simp)
      go_wp2_with (at_builtin; go_loud ((refine wpList_app2 _ rfl (.const (.slice none 0 0)) (.tmp 28) 22 rfl (u3.heap.size + 1) 3 i0 _ 1 8 Try.underlying22 hi0 hy0 hy1 hy2 rfl (by decide) none 0 0 [] rfl (World.ownsRow_nil _ _ _ _) _ _ cores.length cc (cores.map (Value.int .i64)) rfl Q1.out L1.out S1.out O1.out N1.out T1.out Z1.out ?_; intro A1 k1 u4 happ; have bk4 := bk.turned happ.turned (by simp [fp]); have fz := (ZF4 bk4).2.1; have cz := (Z4 bk4).2.1)))
      have hbu4 := hbu.trans (happ.turned.below hbu.size (by simp [fp]))
      have hbu5 := hbu4.setCell (p := ⟨u3.heap.size, 1, none⟩) (Nat.le_refl _) (.slice A1 cores.length k1)
      have bk5 := bk4.put 1 (.slice A1 cores.length k1)
      have TS := (Turned.refl [u3.heap.size] u4).setCell (p := ⟨u3.heap.size, 1, none⟩) (.inl (by simp)) (.slice A1 cores.length k1)
      rw [Nat.zero_add, List.nil_append] at happ
      have own4 : OwnN (u3.heap.size + 1) u4 A1 cores.length k1 cores := ⟨happ.own, rfl, happ.cap, happ.nil⟩
      obtain ⟨g1, hA1, hg1, hg1'⟩ := own_at happ.own (by omega)
      subst hA1
      have own5 := own4.turned TS (by simp [fp]; omega)
      have hV5 : u3.heap.size + 1 ≤ (u4.setCell ⟨u3.heap.size, 1, none⟩ (.slice (some ⟨g1, 0, none⟩) cores.length k1)).heap.size := Nat.le_trans (Nat.le_trans (by simp) happ.turned.size) TS.size
      clear bk4 own4 hbu4 cz fz hbu bk e0 e1 e2 e3 c0 c1 c2 c3 sc hs hb TS happ
      obtain ⟨x, hx⟩ : ∃ x, a1 % 3 = x := ⟨_, rfl⟩
      have x0 : 0 ≤ x := by omega
      have x1 : x ≤ 2 := by omega
      go_loopg [8] cores.length (fun gg y wr => ∃ i : Nat, i + gg = cores.length ∧ y = .int .i64 i ∧ Bk wr u3.heap.size 25 #[.int .i64 proto, .slice (some ⟨g1, 0, none⟩) cores.length k1, .slice ha homes.length hc, .slice (some ⟨g, off, none⟩) tasks.length tc] ∧ OwnN (u3.heap.size + 1) wr (some ⟨g1, 0, none⟩) cores.length k1 (List.replicate i (x + 1) ++ cores.drop i) ∧ Below u3.heap.size u3 wr ∧ u3.heap.size + 1 ≤ wr.heap.size)
      case atStart => exact ⟨0, by omega, rfl, bk5, by simpa using own5, hbu5, hV5⟩
      case round =>
        obtain ⟨i, hi, rfl, bk, own, hbu, hV⟩ := hrel
        clear bk5 own5 hbu5 hV5
        have hsr := HS3.out.keep (Keeps.of_below hbu)
        have scr := SC3.out.keep (Keeps.of_below hbu)
        obtain ⟨c0, c1, c2, c3⟩ := scr
        dsimp only at c0 c1 c2 c3
        obtain ⟨d0, d1, d2, d3⟩ := Z4 bk
        obtain ⟨f0, f1, f2, f3⟩ := ZF4 bk
        have hgl : g1 < wr.heap.size := (own_at own.own (by omega)).elim fun g' h => by have := h.1; injection this with this; injection this with this; subst this; exact h.2.2
        by_cases hil : i < cores.length
        · have z1 := own_frozen own.own i
          have z2 : ∃ v, wr.cell? ⟨g1, i, none⟩ = some (.int .i64 v) := by
            obtain ⟨b', o', eA, hcl⟩ := own.row.resolve_left (by intro e; have := congrArg List.length e; simp at this; omega)
            injection eA with eA; injection eA with e1 e2; subst e1; subst e2
            have := hcl i (by simp; omega)
            rw [Nat.zero_add] at this
            exact ⟨_, this⟩
          obtain ⟨v, z2⟩ := z2
          go_wp2
          go_roundg (gk - 1)
          case measure => omega
          case rel =>
            have own2 := own.put (i := i) (by simp; omega) (x + 1)
            rw [rep_step (x + 1) cores i hil] at own2
            exact ⟨i + 1, by omega, by go_num, bk.far (by show u3.heap.size ≠ g1; omega) _, own2, hbu.setCell (p := ⟨g1, i, none⟩) (by show u3.heap.size ≤ g1; omega) _, by simpa [World.setCell] using hV⟩
        · obtain rfl : i = cores.length := by omega
          have hcl : List.replicate cores.length (x + 1) ++ cores.drop cores.length = List.replicate cores.length (x + 1) := by simp
          rw [hcl] at own
          obtain ⟨j0, hj0, hk0, hk1, hk2⟩ := info_parts infoTask
          have Q2 : Hid ((some ⟨g, off, none⟩ : Option Addr) = none → tasks.length = 0 ∧ tc = 0) := hidp (fun e => by cases e)
          have L2 : Hid ((ttc tasks).length = tasks.length * 6) := hidp (ttc_len _)
          have S2 : Hid (Lies wr.heap.size wr (some ⟨g, off, none⟩) (ttc tasks)) := hidp (lies_tasks hsr.tasks.at_)
          have O2 := hidp (ttc_one tasks)
          have N2 : Hid (0 + tasks.length ≤ maxLen) := hidp (by unfold maxLen; omega)
          have T2 : Hid ((0 + tasks.length) * 72 ≤ 140737488355328) := hidp (by omega)
          clear hcl
          go_wp2_with (at_builtin; go_loud ((refine wpList_app2 _ rfl (.const (.slice none 0 0)) (.tmp 47) 23 rfl (u3.heap.size + 1) 37 j0 _ 6 72 Try.underlying23 hj0 hk0 hk1 hk2 rfl (by decide) none 0 0 [] rfl (World.ownsRow_nil _ _ _ _) _ _ tasks.length tc (ttc tasks) rfl Q2.out L2.out S2.out O2.out N2.out T2.out hV ?_; intro A2 k2 u6 happ; have bk6 := bk.turned happ.turned (by simp [fp]); have fz := (ZF4 bk6).2.2.2; have cz := (Z4 bk6).2.2.2)))
          have TS := (Turned.refl [u3.heap.size] u6).setCell (p := ⟨u3.heap.size, 3, none⟩) (.inl (by simp)) (.slice A2 tasks.length k2)
          have own6 := (own.turned happ.turned (by simp [fp])).turned TS (by simp [fp]; omega)
          have hbu6 := (hbu.trans (happ.turned.below hbu.size (by simp [fp]))).setCell (p := ⟨u3.heap.size, 3, none⟩) (Nat.le_refl _) (.slice A2 tasks.length k2)
          have bk7 := bk6.put 3 (.slice A2 tasks.length k2)
          rw [Nat.zero_add, List.nil_append] at happ
          have ot6 : OwnT (u3.heap.size + 1) u6 A2 tasks.length k2 tasks := ⟨happ.own, rfl, happ.cap, happ.nil⟩
          obtain ⟨g2, hA2, hg2, hg2'⟩ := own_at happ.own (by omega)
          subst hA2
          have hg12 : g1 ≠ g2 := by
            rcases happ.fps g2 (by simp [fp]) with h | h
            · simp [fp] at h
            · omega
          have ot7 := ot6.turned TS (by simp [fp]; omega)
          rw [← cur_zero a2 tasks.length tasks] at ot7
          have hV7 : u3.heap.size + 1 ≤ (u6.setCell ⟨u3.heap.size, 3, none⟩ (.slice (some ⟨g2, 0, none⟩) tasks.length k2)).heap.size := Nat.le_trans (Nat.le_trans hV happ.turned.size) TS.size
          clear bk6 cz fz bk c0 c1 c2 c3 d0 d1 d2 d3 f0 f1 f2 f3 TS happ own ot6 hV hbu hsr
          have nn : (0 : Int) < (tasks.length : Int) := by omega
          have nn2 : (tasks.length : Int) ≤ 6 := by omega
          have nz1 : ((tasks.length : Int) == 0) = false := by rw [beq_eq_false_iff_ne]; omega
          have nz2 : ¬ (tasks.length : Int) = 0 := by omega
          have nz3 : ¬ tasks.length = 0 := by omega
          have nz4 : ¬ tasks = [] := by intro e; subst e; simp at nn
          clear hx
          go_loopg [9] tasks.length (fun gg y wr => ∃ i : Nat, i + gg = tasks.length ∧ y = .int .i64 i ∧ Bk wr u3.heap.size 25 #[.int .i64 proto, .slice (some ⟨g1, 0, none⟩) cores.length k1, .slice ha homes.length hc, .slice (some ⟨g2, 0, none⟩) tasks.length k2] ∧ OwnN (u3.heap.size + 1) wr (some ⟨g1, 0, none⟩) cores.length k1 (List.replicate cores.length (x + 1)) ∧ OwnT (u3.heap.size + 1) wr (some ⟨g2, 0, none⟩) tasks.length k2 (cur a2 tasks.length tasks i) ∧ Below u3.heap.size u3 wr ∧ u3.heap.size + 1 ≤ wr.heap.size)
          case atStart => exact ⟨0, by omega, rfl, bk7, own6, ot7, hbu6, hV7⟩
          case round =>
            obtain ⟨i, hi, rfl, bk, own, ot, hbu, hV⟩ := hrel
            clear bk7 own6 ot7 hbu6 hV7
            obtain ⟨d0, d1, d2, d3⟩ := Z4 bk
            by_cases hil : i < tasks.length
            · obtain ⟨m, hm1⟩ : ∃ m, ((i : Int) + a2) % (tasks.length : Int) = m := ⟨_, rfl⟩
              have hm2 : ((i : Int) + a2).tmod (tasks.length : Int) = m := by rw [Int.tmod_eq_emod_of_nonneg (by omega), hm1]
              have m0 : 0 ≤ m := by rw [← hm1]; exact Int.emod_nonneg _ (by omega)
              have m1 : m ≤ 6 := by have := Int.emod_lt_of_pos ((i : Int) + a2) nn; omega
              have hwr1 : IntKind.i64.wrap ((i : Int) + a2) = (i : Int) + a2 := IntWalk.i64_in _ (by omega)
              have hwr2 : IntKind.i64.wrap (1 + m) = 1 + m := IntWalk.i64_in _ (by omega)
              have hwr3 : IntKind.i64.wrap m = m := IntWalk.i64_in _ (by omega)
              have Hm1 := hidp hm1
              obtain ⟨t0, HT⟩ : ∃ t0, Hid (tasks.getD i default = t0) := ⟨_, rfl⟩
              have hcur : (cur a2 tasks.length tasks i)[i]'(by rw [cur_len]; exact hil) = t0 := by rw [cur_at _ _ _ _ hil, HT.out]
              have ot0 : OwnT (u3.heap.size + 1) wr.drew (some ⟨g2, 0, none⟩) tasks.length k2 (cur a2 tasks.length tasks i) := ot.turned (Turned.refl [] wr).drew (by simp)
              have z0 := own_frozen ot0.own (i * 6 + 3)
              obtain ⟨b', o', eA, hcl⟩ := ot0.tasks.resolve_left (by intro e; have := congrArg List.length e; rw [cur_len, List.length_nil] at this; omega)
              injection eA with eA; injection eA with ea1 ea2; subst ea1; subst ea2
              have z3 := (hcl i (by rw [cur_len]; exact hil)).2.2.2.1
              rw [Nat.zero_add] at z3
              have hgd : (cur a2 tasks.length tasks i).getD i default = t0 := by rw [← hcur]; simp [List.getD, cur_len, hil]
              rw [hgd] at z3
              have hlt2 : g2 < wr.drew.heap.size := cell_lt z3
              have ot1 := ownT_put ot (i := i) (by rw [cur_len]; exact hil) (j := 3) (by omega) { t0 with prio := 1 + m } (.int .i64 (1 + m)) (by rw [hcur]; rfl)
              have ot1' := ot1.turned (Turned.refl [] (wr.setCell ⟨g2, i * 6 + 3, none⟩ (.int .i64 (1 + m)))).drew (by simp)
              have bk1 : Bk (wr.setCell ⟨g2, i * 6 + 3, none⟩ (.int .i64 (1 + m))) u3.heap.size 25 #[.int .i64 proto, .slice (some ⟨g1, 0, none⟩) cores.length k1, .slice ha homes.length hc, .slice (some ⟨g2, 0, none⟩) tasks.length k2] := bk.far (by show u3.heap.size ≠ g2; omega) _
              have bk1' : Bk (wr.setCell ⟨g2, i * 6 + 3, none⟩ (.int .i64 (1 + m))).drew u3.heap.size 25 #[.int .i64 proto, .slice (some ⟨g1, 0, none⟩) cores.length k1, .slice ha homes.length hc, .slice (some ⟨g2, 0, none⟩) tasks.length k2] := bk1
              have hg1 : ((cur a2 tasks.length tasks i).set i { t0 with prio := 1 + m }).getD i default = { t0 with prio := 1 + m } := by simp [List.getD, cur_len, hil]
              have y0 := own_frozen ot1'.own (i * 6 + 4)
              obtain ⟨b', o', eA, hcl2⟩ := ot1'.tasks.resolve_left (by intro e; have := congrArg List.length e; rw [List.length_set, cur_len, List.length_nil] at this; omega)
              injection eA with eA; injection eA with ea1 ea2; subst ea1; subst ea2
              have y4 := (hcl2 i (by rw [List.length_set, cur_len]; exact hil)).2.2.2.2.1
              rw [Nat.zero_add, hg1] at y4
              dsimp only at y4
              obtain ⟨q0, q1, q2, q3⟩ := Z4 bk1'
              have ot2 := ownT_put ot1 (i := i) (by rw [List.length_set, cur_len]; exact hil) (j := 4) (by omega) { t0 with prio := 1 + m, cl := 0 } (.int .i64 0) (by rw [List.getElem_set_self]; rfl)
              rw [List.set_set] at ot2
              have hstep := cur_step a2 tasks.length tasks i hil
              rw [HT.out] at hstep
              unfold chgT at hstep
              rw [Hm1.out] at hstep
              rw [hstep] at ot2
              clear hcl hcl2 hgd hg1 hcur hstep ot1 ot1'
              go_wp2
              go_still_tail 14, (by kernel_rfl)
              change wpList _ _ _ _ _ wr.drew
              go_wp2
              go_roundg (gk - 1)
              case measure => omega
              case rel =>
                have TT := (((Turned.refl [g2] wr).setCell (p := ⟨g2, i * 6 + 3, none⟩) (.inl (by simp)) (.int .i64 (1 + m))).setCell (p := ⟨g2, i * 6 + 4, none⟩) (.inl (by simp)) (.int .i64 0)).drew
                have ot3 := ot2.turned (Turned.refl [] ((wr.setCell ⟨g2, i * 6 + 3, none⟩ (.int .i64 (1 + m))).setCell ⟨g2, i * 6 + 4, none⟩ (.int .i64 0))).drew (by simp)
                have bk3 : Bk ((wr.setCell ⟨g2, i * 6 + 3, none⟩ (.int .i64 (1 + m))).setCell ⟨g2, i * 6 + 4, none⟩ (.int .i64 0)).drew u3.heap.size 25 #[.int .i64 proto, .slice (some ⟨g1, 0, none⟩) cores.length k1, .slice ha homes.length hc, .slice (some ⟨g2, 0, none⟩) tasks.length k2] := bk1.far (by show u3.heap.size ≠ g2; omega) _
                exact ⟨i + 1, by omega, by go_num, bk3, own.turned TT (by simp [fp]; omega), ot3, hbu.trans (TT.below hbu.size (by simp; omega)), Nat.le_trans hV TT.size⟩
            · obtain rfl : i = tasks.length := by omega
              rw [cur_all] at ot
              have hsr := HS3.out.keep (Keeps.of_below hbu)
              have hcur6 : (chg a2 tasks.length 0 tasks).length = tasks.length := chg_len _ _ _ _
              have htt : SetOk wr ⟨proto, some ⟨g1, 0, none⟩, k1, List.replicate cores.length (x + 1), ha, hc, homes, some ⟨g2, 0, none⟩, k2, chg a2 tasks.length 0 tasks⟩ :=
                ⟨hsr.proto, own.ok (fun n hn => by obtain ⟨_, rfl⟩ := List.mem_replicate.1 hn; unfold I64; omega) |> fun h => by simpa using h, hsr.homes, ⟨ot.sl, ot.tasks, fun t ht => by
                  obtain ⟨j, t0, h1, rfl⟩ := chg_mem ht
                  have h2 := hsr.tasks.ok t0 h1
                  have hm := Int.emod_nonneg (((0 + j : Nat) : Int) + a2) (show (tasks.length : Int) ≠ 0 by omega)
                  have hm2 := Int.emod_lt_of_pos (((0 + j : Nat) : Int) + a2) nn
                  exact { h2 with prio := (by show I64 (1 + _); unfold I64; omega), cl := (by show I64 0; decide) }⟩⟩
              have scr := SC3.out.keep (Keeps.of_below hbu)
              obtain ⟨c0, c1, c2, c3⟩ := scr
              dsimp only at c0 c1 c2 c3
              obtain ⟨t, Ht⟩ : ∃ t : SetR, Hid (t = ⟨proto, some ⟨g1, 0, none⟩, k1, List.replicate cores.length (x + 1), ha, hc, homes, some ⟨g2, 0, none⟩, k2, chg a2 tasks.length 0 tasks⟩) := ⟨_, hidp rfl⟩
              have HF : Hid (∀ (i k : Nat), i < tasks.length → fairK t i k = fairK ⟨proto, ca, cc, cores, ha, hc, homes, some ⟨g, off, none⟩, tc, tasks⟩ i k ∧ fairV t i k = fairV ⟨proto, ca, cc, cores, ha, hc, homes, some ⟨g, off, none⟩, tc, tasks⟩ i k) := hidp (fun i k hi => fair_chg (c := x + 1) (p := a2) Hok.out (by omega) (by rw [Ht.out]) (by rw [Ht.out]) (by rw [Ht.out]) (by rw [Ht.out]) p2 i k hi)
              have ht : SetOk wr t := by rw [Ht.out]; exact htt
              have sct : SetCells wr u3.heap.size t := by
                rw [Ht.out]
                obtain ⟨z0, z1, z2, z3⟩ := Z4 bk
                exact ⟨z0, by simpa using z1, z2, by simpa [chg_len] using z3⟩
              have hb := HB3.out.trans (hbu.mono HB3.out.size)
              have sc := SC3.out.keep (Keeps.of_below hbu)
              have hs := hsr
              clear htt hcur6 hbu bk own ot hV hsr nn nn2 nz1 nz2 nz3 nz4
              go_wp2_with fail
              obtain ⟨wl, rfl⟩ : ∃ wl : World, wl = wr := ⟨_, rfl⟩
              go_loopg [10] tasks.length (fun gg y wr => ∃ i : Nat, i + gg = tasks.length ∧ y = .int .i64 i ∧ SetCells wr w.heap.size ⟨proto, ca, cc, cores, ha, hc, homes, some ⟨g, off, none⟩, tc, tasks⟩ ∧ SetOk wr ⟨proto, ca, cc, cores, ha, hc, homes, some ⟨g, off, none⟩, tc, tasks⟩ ∧ SetCells wr u3.heap.size t ∧ SetOk wr t ∧ Below w.heap.size w wr)
              case atStart => exact ⟨0, by omega, rfl, sc, hs, sct, ht, hb⟩
              case round =>
                obtain ⟨i, hi, rfl, sc, hs, sct, ht, hb⟩ := hrel
                clear c0 c1 c2 c3 d0 d1 d2 d3
                have sc2 := sc
                obtain ⟨c0, c1, c2, c3⟩ := sc2
                dsimp only at c0 c1 c2 c3
                by_cases hil : i < tasks.length
                · obtain ⟨t0, HT⟩ : ∃ t0, Hid (tasks.getD i default = t0) := ⟨_, rfl⟩
                  have np := (HG.out.parts t0 (HT.out ▸ getD_mem hil)).len
                  obtain ⟨nm, per, dl, prio, cl, pa, pc, parts⟩ := t0
                  dsimp only at np
                  have HC : Hid (∀ wr, SetOk wr ⟨proto, ca, cc, cores, ha, hc, homes, some ⟨g, off, none⟩, tc, tasks⟩ → wr.cell? ⟨g, off + i * 6 + 5, none⟩ = some (.slice pa parts.length pc)) := hidp (fun wr h => by
                    obtain ⟨g', off', hA', hcl⟩ := h.tasks.at_.resolve_left (by intro e; dsimp only at e; rw [e] at hil; simp at hil)
                    obtain ⟨rfl, rfl⟩ : g = g' ∧ off = off' := by injection hA' with hA'; injection hA' with h1 h2; exact ⟨h1, h2⟩
                    exact (HT.out ▸ hcl i hil).2.2.2.2.2)
                  have d5 := HC.out _ hs
                  go_wp2_with fail
                  obtain ⟨wi, rfl⟩ : ∃ wi : World, wi = wr := ⟨_, rfl⟩
                  go_loopg [11] parts.length (fun gg y wr => ∃ k : Nat, k + gg = parts.length ∧ y = .int .i64 k ∧ SetCells wr w.heap.size ⟨proto, ca, cc, cores, ha, hc, homes, some ⟨g, off, none⟩, tc, tasks⟩ ∧ SetOk wr ⟨proto, ca, cc, cores, ha, hc, homes, some ⟨g, off, none⟩, tc, tasks⟩ ∧ SetCells wr u3.heap.size t ∧ SetOk wr t ∧ Below w.heap.size w wr)
                  case atStart => exact ⟨0, by omega, rfl, sc, hs, sct, ht, hb⟩
                  case round =>
                    obtain ⟨k, hk, rfl, sc, hs, sct, ht, hb⟩ := hrel
                    clear c0 c1 c2 c3 d5
                    have sc2 := sc
                    obtain ⟨c0, c1, c2, c3⟩ := sc2
                    dsimp only at c0 c1 c2 c3
                    have d5 := HC.out _ hs
                    by_cases hkl : k < parts.length
                    · have F := HF.out i k hil
                      obtain ⟨V, HV⟩ : ∃ V, Hid (fairV ⟨proto, ca, cc, cores, ha, hc, homes, some ⟨g, off, none⟩, tc, tasks⟩ i k = V) := ⟨_, rfl⟩
                      obtain ⟨K, HK⟩ : ∃ K, Hid (fairK ⟨proto, ca, cc, cores, ha, hc, homes, some ⟨g, off, none⟩, tc, tasks⟩ i k = K) := ⟨_, rfl⟩
                      rw [HV.out, HK.out] at F
                      have F1 := hidp F.1
                      have F2 := hidp F.2
                      clear F
                      go_wp2_with fail
                      refine (part_any ⟨proto, ca, cc, cores, ha, hc, homes, some ⟨g, off, none⟩, tc, tasks⟩ i k _ hs).mono ?_
                      rintro e u8 ⟨rfl, hb2⟩
                      rw [HV.out, HK.out]
                      clear c0 c1 c2 c3 d5
                      replace hb := hb.trans (hb2.mono hb.size)
                      replace sc := sc.keep (Keeps.of_below hb2)
                      replace hs := hs.keep (Keeps.of_below hb2)
                      replace sct := sct.keep (Keeps.of_below hb2)
                      replace ht := ht.keep (Keeps.of_below hb2)
                      clear hb2
                      have sc3 := sct
                      obtain ⟨q0, q1, q2, q3⟩ := sc3
                      go_wp2_with fail
                      refine (part_any t i k _ ht).mono ?_
                      rintro e u9 ⟨rfl, hb2⟩
                      rw [F1.out, F2.out]
                      clear q0 q1 q2 q3
                      replace hb := hb.trans (hb2.mono hb.size)
                      replace sc := sc.keep (Keeps.of_below hb2)
                      replace hs := hs.keep (Keeps.of_below hb2)
                      replace sct := sct.keep (Keeps.of_below hb2)
                      replace ht := ht.keep (Keeps.of_below hb2)
                      clear hb2
                      cases K
                      · go_wp2
                        go_roundg (parts.length - k - 1)
                        case measure => omega
                        case rel => exact ⟨k + 1, by omega, by go_num, sc, hs, sct, ht, hb⟩
                      · go_wp2
                        go_roundg (parts.length - k - 1)
                        case measure => omega
                        case rel => exact ⟨k + 1, by omega, by go_num, sc, hs, sct, ht, hb⟩
                    · obtain rfl : k = parts.length := by omega
                      go_wp2
                      go_roundg (tasks.length - i - 1)
                      case measure => omega
                      case rel => exact ⟨i + 1, by omega, by go_num, sc, hs, sct, ht, hb⟩
                · obtain rfl : i = tasks.length := by omega
                  go_wp2_with fail
                  go_ret
                  exact ⟨rfl, hb⟩

theorem own : ownKnob Try.prog.godebug = none := by kernel_rfl
theorem laidOut : laidOutB Try.prog = true := by kernel_rfl

/-! THE ROW's STEP -/
set_option maxRecDepth 100000 in
theorem lifted (os : Os) (started : os.Started) (H : Type) (enc : TypeId × Value → H) :
    ReturnsInHanded {} Try.checked os 11 .any (Rows.fairSameSpec.pre6 enc Try.prog Try.f11 Rows.fairSameRow.domain false) (Rows.fairSameSpec.post enc Try.prog Try.f11 false true false false) := by
  refine returnsInHanded_of_change (C := Try.checked) own started (by kernel_rfl) Try.func11
    (ChangeSpec.witness6 (enc := enc) (C := Try.checked) false ⟨#[], #[.agg #[.int .i64 0, .slice none 0 0, .slice none 0 0, .slice none 0 0], .int .u8 0, .int .u8 0], []⟩ 8 (by kernel_rfl) (by kernel_rfl) (by kernel_rfl) (by kernel_rfl)) ?_
  intro W base args ds gs before hval0 hW hcnd _
  have hval : ∀ (j : Nat) t v, Try.f11.params[j]? = some t → args[j]? = some v → Value.okWide Try.prog W .any base t v := hval0
  have hW' := hW
  obtain ⟨p, q, hA0, hV, rfl, hfz, hnd⟩ := hW
  have hA : DataW.TrodAll enc Try.prog W 0 (fun _ => true) true Try.f11.params.toList args.toList ds p := hA0
  rw [Try.params11] at hA hval
  obtain ⟨v0, vs0, d0, ds0, p0, q0, hargs, rfl, rfl, h0, r0⟩ := trodAll_cons hA
  obtain ⟨v1, vs1, d1, ds1, p1, q1, rfl, rfl, rfl, h1, r1⟩ := trodAll_cons r0
  obtain ⟨v2, vs2, d2, ds2, p2, q2, rfl, rfl, rfl, h2, r2⟩ := trodAll_cons r1
  obtain ⟨rfl, rfl, rfl⟩ := trodAll_nil r2
  obtain rfl : args = #[v0, v1, v2] := by cases args; simp_all
  obtain ⟨rfl, rfl⟩ := trodVars_none hV
  have k0 := h0
  have lt0 : ∀ x ∈ p0, x.block < W.heap.size := by obtain ⟨m, hm⟩ := k0; exact DataW.trod_lt m _ _ _ hm
  obtain ⟨s0, w0, rfl⟩ := setTypes.arg_set (hval 0 25 v0 rfl rfl) h0
  obtain ⟨a1, rfl, rfl, rfl, w1⟩ := open_int Try.underlying5 (hval 1 5 v1 rfl rfl) h1
  obtain ⟨a2, rfl, rfl, rfl, w2⟩ := open_int Try.underlying5 (hval 2 5 v2 rfl rfl) h2
  clear hA0 hval0
  refine (walk s0 a1 a2 W w0 w1 w2).mono fun e W' ⟨he, bel⟩ => ?_
  subst he
  exact ⟨_, rfl, _, _, _, [], _, [], hW', trodAll_mk1 (shut_bool Try.underlying4 _), (trodAll_cons_mk (Below.trod laidOut (by kernel_rfl) (of_decide_eq_true (by kernel_rfl)) k0 bel lt0) (trodAll_cons_mk (shut_int Try.underlying5 w1) (trodAll_cons_mk (shut_int Try.underlying5 w2) trodAll_mk0))), rfl, bel.frame _, fun h => by cases h⟩

theorem over : Rows.fairSameRow.holds Try.pinned (OpenSpec.ofChange Rows.fairSameSpec) :=
  OpenClaim.holds_of_wide 11 Try.f11 rfl rfl rfl rfl rfl rfl rfl ⟨rfl, rfl, rfl, rfl, rfl⟩ rfl rfl rfl rfl rfl (by kernel_rfl) Try.func11 (by kernel_rfl)
    (of_decide_eq_true (by kernel_rfl)) (by unfold Func.isWrapper; first | (rw [if_pos (by decide +kernel)]; kernel_rfl) | (rw [if_neg (by decide +kernel)]; exact ⟨rfl, rfl⟩))
    (fun os started H enc _ => lifted os started H enc)

/-- THE STATEMENT -/
theorem proved : Rows.FairSameSaid := over
#print axioms proved
end Go.Proofs.Ytigmbfleffpmeaa.fairSame

