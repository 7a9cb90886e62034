/- FairSums: a request takes its own length and, of each other task with a lock, the longest. No condition. -/
import Derived.Test.YtigmbfleffpmeaaKnown13
import Derived.Test.YtigmbfleffpmeaaRef7d
namespace Go.Proofs.Ytigmbfleffpmeaa
open Go.ChangeShapes Go.WideShapes Go.ChangeAt Go.RowKit
set_option linter.unusedVariables false
theorem rthere_any (s : SetR) (of : Int) (w : World) (hs : SetOk w s) : Calls Try.prog 38 #[.agg #[.int .i64 s.proto, .slice s.ca s.cores.length s.cc, .slice s.ha s.homes.length s.hc, .slice s.ta s.tasks.length s.tc], .int .i64 of] w fun e w' => e = .returned (.bool (thereB s of)) ∧ Below w.heap.size w w' := by
  have hb := (Below.refl w.heap.size w).alloc (Nat.le_refl _) (.cells #[.int .i64 s.proto, .slice s.ca s.cores.length s.cc, .slice s.ha s.homes.length s.hc, .slice s.ta s.tasks.length s.tc] 25)
  have sc := SetCells.new w s 25
  have H := hidp (hs.keep (Keeps.of_below hb))
  have l3 : s.tasks.length ≤ maxLen := Nat.le_trans hs.tasks.sl.2.1 hs.tasks.sl.2.2
  unfold maxLen at l3
  clear hs
  by_cases ho : okS s = true
  · by_cases h0 : 0 ≤ of
    · have Hv : Hid (thereB s of = decide (of < s.tasks.length)) := hidp (by simp [thereB, ho, h0])
      go_enter Try.func38, Try.ntmps38
      go_wp2_with (first | (go_at_call 20; (with_reducible refine (rok_any _ _ H.out).mono ?_); rintro e w2 ⟨rfl, hb2⟩; have sc2 := sc.keep (Keeps.of_below hb2); obtain ⟨c0, c1, c2, c3⟩ := sc2))
      go_ret
      exact ⟨ret_bool Hv.out.symm, hb.trans (hb2.mono hb.size)⟩
    · have Hv : Hid (thereB s of = false) := hidp (by simp [thereB, h0])
      have d0 : decide (0 ≤ of) = false := by simpa using h0
      clear h0
      go_enter Try.func38, Try.ntmps38
      go_wp2_with (first | (go_at_call 20; (with_reducible refine (rok_any _ _ H.out).mono ?_); rintro e w2 ⟨rfl, hb2⟩; have sc2 := sc.keep (Keeps.of_below hb2); obtain ⟨c0, c1, c2, c3⟩ := sc2))
      go_ret
      exact ⟨ret_bool Hv.out.symm, hb.trans (hb2.mono hb.size)⟩
  · have ho : okS s = false := by simpa using ho
    have Hv : Hid (thereB s of = false) := hidp (by unfold thereB; rw [ho]; rfl)
    go_enter Try.func38, Try.ntmps38
    go_wp2_with (first | (go_at_call 20; (with_reducible refine (rok_any _ _ H.out).mono ?_); rintro e w2 ⟨rfl, hb2⟩; have sc2 := sc.keep (Keeps.of_below hb2); obtain ⟨c0, c1, c2, c3⟩ := sc2))
    go_ret
    exact ⟨ret_bool Hv.out.symm, hb.trans (hb2.mono hb.size)⟩
theorem othL_lt (of k : Nat) (ts : List TaskR) (h : k ≤ of) (h2 : of < k + ts.length) : (othL of k ts).length + 1 ≤ ts.length := by
  induction ts generalizing k with
  | nil => simp at h2; omega
  | cons t ts ih =>
    simp only [othL, List.length_append, List.length_cons] at *
    by_cases e : k = of
    · subst e
      have := othL_len (k : Int) (k + 1) ts
      rw [if_pos (.inl rfl)]; simp; omega
    · have := ih (k + 1) (by omega) (by omega)
      split
      · simp; omega
      · simp; omega
/-- a part's box -/
def PBox (w : World) (b : Nat) (p : PartM) : Prop := w.cell? ⟨b, 0, none⟩ = some (.int .i64 p.kind) ∧ w.cell? ⟨b, 1, none⟩ = some (.int .i64 p.len) ∧ w.cell? ⟨b, 2, none⟩ = some (.int .i64 p.res)
theorem PBox.keep {w w' : World} {b : Nat} {p : PartM} (h : PBox w b p) (k : Keeps w w') : PBox w' b p := ⟨k _ _ h.1, k _ _ h.2.1, k _ _ h.2.2⟩
theorem PBox.new (w : World) (p : PartM) (T : TypeId) : PBox (w.alloc (.cells #[.int .i64 p.kind, .int .i64 p.len, .int .i64 p.res] T)) w.heap.size p := by
  refine ⟨?_, ?_, ?_⟩ <;> simp
end Go.Proofs.Ytigmbfleffpmeaa
set_option maxHeartbeats 20000000
set_option maxRecDepth 100000
namespace Go.Proofs.Ytigmbfleffpmeaa.fairSums
open Go.ChangeShapes Go.WideShapes Go.ChangeAt Go.RowKit
open Go.ChangeMaps (open_string shut_string)
set_option linter.unusedVariables false

/-- THE WALK: the Go text returns true, and writes nothing that was there. -/
theorem walk (s0 : SetR) (w : World) (w0 : SetOk w s0) :
    Calls Try.prog 10 #[.agg #[.int .i64 s0.proto, .slice s0.ca s0.cores.length s0.cc, .slice s0.ha s0.homes.length s0.hc, .slice s0.ta s0.tasks.length s0.tc]] w fun e w' => e = .returned (.bool true) ∧ Below w.heap.size w w' := by
  have hb := (Below.refl w.heap.size w).alloc (Nat.le_refl _) (.cells #[.int .i64 s0.proto, .slice s0.ca s0.cores.length s0.cc, .slice s0.ha s0.homes.length s0.hc, .slice s0.ta s0.tasks.length s0.tc] 25)
  have sc := SetCells.new w s0 25
  have hs := w0.keep (Keeps.of_below hb)
  clear w0
  by_cases hth : thereB s0 0 = true
  · have hok := (thereB_true.1 hth).1
    have HG := hidp (Good.of hok)
    have Hok := hidp hok
    obtain ⟨g, off, hA, _⟩ := hs.tasks.at_.resolve_left (by intro e; have := HG.out.ntasks; rw [e] at this; simp at this)
    clear hok
    obtain ⟨proto, ca, cc, cores, ha, hc, homes, ta, tc, tasks⟩ := s0
    dsimp only at hA hth hb ⊢
    subst hA
    have n2 := HG.out.ntasks.2
    dsimp only at n2
    go_enter Try.func10, Try.ntmps10
    go_wp2_with fail
    refine (known13_any _).mono ?_
    rintro e u1 ⟨rfl, hb2⟩
    replace hb := hb.trans (hb2.mono hb.size)
    replace sc := sc.keep (Keeps.of_below hb2)
    replace hs := hs.keep (Keeps.of_below hb2)
    clear hb2
    have sc2 := sc
    obtain ⟨c0, c1, c2, c3⟩ := sc2
    dsimp only at c0 c1 c2 c3
    go_wp2_with fail
    refine (few13_any ⟨proto, ca, cc, cores, ha, hc, homes, some ⟨g, off, none⟩, tc, tasks⟩ _ hs).mono ?_
    rintro e u2 ⟨⟨b, rfl⟩, hb2⟩
    clear c0 c1 c2 c3
    replace hb := hb.trans (hb2.mono hb.size)
    replace sc := sc.keep (Keeps.of_below hb2)
    replace hs := hs.keep (Keeps.of_below hb2)
    clear hb2
    have sc2 := sc
    obtain ⟨c0, c1, c2, c3⟩ := sc2
    dsimp only at c0 c1 c2 c3
    cases b
    · go_wp2_with fail
      go_ret
      exact ⟨rfl, hb⟩
    · go_wp2_with fail
      refine (rthere_any ⟨proto, ca, cc, cores, ha, hc, homes, some ⟨g, off, none⟩, tc, tasks⟩ 0 _ hs).mono ?_
      rintro e u3 ⟨rfl, hb2⟩
      clear c0 c1 c2 c3
      replace hb := hb.trans (hb2.mono hb.size)
      replace sc := sc.keep (Keeps.of_below hb2)
      replace hs := hs.keep (Keeps.of_below hb2)
      clear hb2
      have sc2 := sc
      obtain ⟨c0, c1, c2, c3⟩ := sc2
      dsimp only at c0 c1 c2 c3
      go_wp2_with fail
      go_loopg [3] tasks.length (fun gg x wr => ∃ i : Nat, i + gg = tasks.length ∧ x = .int .i64 i ∧ SetCells wr w.heap.size ⟨proto, ca, cc, cores, ha, hc, homes, some ⟨g, off, none⟩, tc, tasks⟩ ∧ SetOk wr ⟨proto, ca, cc, cores, ha, hc, homes, some ⟨g, off, none⟩, tc, tasks⟩ ∧ Below w.heap.size w wr)
      case atStart => exact ⟨0, by omega, rfl, sc, hs, hb⟩
      case round =>
        obtain ⟨i, hi, rfl, sc, hs, hb⟩ := hrel
        clear c0 c1 c2 c3
        have sc2 := sc
        obtain ⟨c0, c1, c2, c3⟩ := sc2
        dsimp only at c0 c1 c2 c3
        by_cases hil : i < tasks.length
        · obtain ⟨t, HT⟩ : ∃ t, Hid (tasks.getD i default = t) := ⟨_, rfl⟩
          have hm : t ∈ tasks := HT.out ▸ getD_mem hil
          have Pg := hidp (HG.out.parts t hm)
          have np := Pg.out.len
          obtain ⟨nm, per, dl, prio, cl, pa, pc, parts⟩ := t
          have Tok := hs.tasks.ok _ hm
          obtain ⟨gp, op, hP, _⟩ := Tok.at_.resolve_left (by intro e; dsimp only at e np; rw [e] at np; simp at np)
          dsimp only at hP np Pg
          subst hP
          -- where the parts lie, in every world to come
          have HC : Hid (∀ wr, SetOk wr ⟨proto, ca, cc, cores, ha, hc, homes, some ⟨g, off, none⟩, tc, tasks⟩ → wr.cell? ⟨g, off + i * 6 + 5, none⟩ = some (.slice (some ⟨gp, op, none⟩) parts.length pc) ∧ ∀ k, k < parts.length → PartCells wr gp (op + k * 3) (parts.getD k default)) := hidp (fun wr h => by
            obtain ⟨g', off', hA', hcl⟩ := h.tasks.at_.resolve_left (by intro e; dsimp only at e; rw [e] at hil; simp at hil)
            obtain ⟨rfl, rfl⟩ : g = g' ∧ off = off' := by injection hA' with hA'; injection hA' with h1 h2; exact ⟨h1, h2⟩
            refine ⟨(HT.out ▸ hcl i hil).2.2.2.2.2, ?_⟩
            obtain ⟨gp', op', hP', hpc⟩ := (h.tasks.ok _ hm).at_.resolve_left (by intro e; dsimp only at e; rw [e] at np; simp at np)
            obtain ⟨rfl, rfl⟩ : gp = gp' ∧ op = op' := by injection hP' with hP'; injection hP' with h1 h2; exact ⟨h1, h2⟩
            exact hpc)
          clear hm Tok
          have d5 := (HC.out _ hs).1
          go_wp2_with fail
          obtain ⟨wi, rfl⟩ : ∃ wi : World, wi = wr := ⟨_, rfl⟩
          go_loopg [4] parts.length (fun gg x wr => ∃ k : Nat, k + gg = parts.length ∧ x = .int .i64 k ∧ SetCells wr w.heap.size ⟨proto, ca, cc, cores, ha, hc, homes, some ⟨g, off, none⟩, tc, tasks⟩ ∧ SetOk wr ⟨proto, ca, cc, cores, ha, hc, homes, some ⟨g, off, none⟩, tc, tasks⟩ ∧ Below w.heap.size w wr)
          case atStart => exact ⟨0, by omega, rfl, sc, hs, hb⟩
          case round =>
            obtain ⟨k, hk, rfl, sc, hs, hb⟩ := hrel
            clear c0 c1 c2 c3 d5
            have sc2 := sc
            obtain ⟨c0, c1, c2, c3⟩ := sc2
            dsimp only at c0 c1 c2 c3
            have d5 := (HC.out _ hs).1
            by_cases hkl : k < parts.length
            · obtain ⟨p, HP⟩ : ∃ p, Hid (parts.getD k default = p) := ⟨_, rfl⟩
              obtain ⟨x0, x1, x2⟩ := HP.out ▸ (HC.out _ hs).2 k hkl
              have hp := Pg.out.lens p (HP.out ▸ getD_mem hkl)
              obtain ⟨hp1, hp2⟩ := hp
              obtain ⟨wo, rfl⟩ : ∃ wo : World, wo = wr := ⟨_, rfl⟩
              have pb := PBox.new wo p 39
              have sco := sc
              replace sc := sc.keep (Keeps.alloc wo (.cells #[.int .i64 p.kind, .int .i64 p.len, .int .i64 p.res] 39))
              replace hs := hs.keep (Keeps.alloc wo (.cells #[.int .i64 p.kind, .int .i64 p.len, .int .i64 p.res] 39))
              replace hb := hb.alloc hb.size (.cells #[.int .i64 p.kind, .int .i64 p.len, .int .i64 p.res] 39)
              obtain ⟨W, HW⟩ : ∃ W, Hid (tot (othL i 0 tasks) = W) := ⟨_, rfl⟩
              have bd := tot_small (fun x (hx : x ∈ othL i 0 tasks) => by have := othL_bd (fun q hq => (HG.out.parts q hq).lens) x hx; omega)
              go_wp2_with fail
              go_loopg [6, 7, 8] tasks.length (fun gg a n x wr => ∃ (j : Nat) (y z : Int), j + gg = tasks.length ∧ x = .int .i64 j ∧ a = .int .i64 y ∧ n = .int .i64 z ∧ Hid (y = p.len + tot (othL i 0 (tasks.take j))) ∧ Hid (z = (othL i 0 (tasks.take j)).length) ∧ SetCells wr w.heap.size ⟨proto, ca, cc, cores, ha, hc, homes, some ⟨g, off, none⟩, tc, tasks⟩ ∧ SetOk wr ⟨proto, ca, cc, cores, ha, hc, homes, some ⟨g, off, none⟩, tc, tasks⟩ ∧ PBox wr wo.heap.size p ∧ Below w.heap.size w wr)
              case atStart => exact ⟨0, p.len, 0, by omega, rfl, rfl, rfl, hidp (by simp [othL, tot]), hidp (by simp [othL]), sc, hs, pb, hb⟩
              case round =>
                obtain ⟨j, y, z, hj, rfl, rfl, rfl, Hy, Hz, sc, hs, pb, hb⟩ := hrel
                clear c0 c1 c2 c3 d5 x0 x1 x2
                have sc2 := sc
                obtain ⟨c0, c1, c2, c3⟩ := sc2
                dsimp only at c0 c1 c2 c3
                have yb := tot_small (fun x (hx : x ∈ othL i 0 (tasks.take j)) => by have := othL_bd (fun q hq => (HG.out.parts q (List.mem_of_mem_take hq)).lens) x hx; omega)
                have zl := othL_len i 0 (tasks.take j)
                rw [List.length_take] at zl
                have y0 : 0 ≤ y := by have := Hy.out; omega
                have y1 : y ≤ 500 := by have := Hy.out; omega
                have z0 : 0 ≤ z := by have := Hz.out; omega
                have z1 : z ≤ 6 := by have := Hz.out; omega
                clear yb zl
                by_cases hjl : j < tasks.length
                · obtain ⟨t, HT2⟩ : ∃ t, Hid (tasks.getD j default = t) := ⟨_, rfl⟩
                  have hm2 : t ∈ tasks := HT2.out ▸ getD_mem hjl
                  have Pg2 := hidp (HG.out.parts t hm2)
                  have np2 := Pg2.out.len
                  have Hsn := hidp (othL_snoc i tasks j hjl)
                  obtain ⟨nm2, per2, dl2, prio2, cl2, pa2, pc2, parts2⟩ := t
                  have Tok2 := hs.tasks.ok _ hm2
                  obtain ⟨gq, oq, hQ, _⟩ := Tok2.at_.resolve_left (by intro e; dsimp only at e np2; rw [e] at np2; simp at np2)
                  dsimp only at hQ np2 Pg2
                  subst hQ
                  have HD : Hid (∀ wr, SetOk wr ⟨proto, ca, cc, cores, ha, hc, homes, some ⟨g, off, none⟩, tc, tasks⟩ → wr.cell? ⟨g, off + j * 6 + 5, none⟩ = some (.slice (some ⟨gq, oq, none⟩) parts2.length pc2) ∧ ∀ k, k < parts2.length → PartCells wr gq (oq + k * 3) (parts2.getD k default)) := hidp (fun wr h => by
                    obtain ⟨g', off', hA', hcl⟩ := h.tasks.at_.resolve_left (by intro e; dsimp only at e; rw [e] at hjl; simp at hjl)
                    obtain ⟨rfl, rfl⟩ : g = g' ∧ off = off' := by injection hA' with hA'; injection hA' with h1 h2; exact ⟨h1, h2⟩
                    refine ⟨(HT2.out ▸ hcl j hjl).2.2.2.2.2, ?_⟩
                    obtain ⟨gp', op', hP', hpc⟩ := (h.tasks.ok _ hm2).at_.resolve_left (by intro e; dsimp only at e; rw [e] at np2; simp at np2)
                    obtain ⟨rfl, rfl⟩ : gq = gp' ∧ oq = op' := by injection hP' with hP'; injection hP' with h1 h2; exact ⟨h1, h2⟩
                    exact hpc)
                  rw [HT2.out] at Hsn
                  dsimp only at Hsn
                  obtain ⟨M, HM⟩ : ∃ M, Hid (maxL parts2 = M) := ⟨_, rfl⟩
                  have mb0 := maxL_nn parts2
                  have mb1 := maxL_bd Pg2.out.lens
                  rw [HM.out] at mb0 mb1 Hsn
                  clear hm2 Tok2
                  have d5 := (HD.out _ hs).1
                  by_cases hji : j = i
                  · have e1 : ((j : Int) != (i : Int)) = false := by simp [hji]
                    have Hn : Hid (othL i 0 (tasks.take (j + 1)) = othL i 0 (tasks.take j)) := hidp (by rw [Hsn.out, if_pos (.inl (by rw [hji]))]; simp)
                    have Hji := hidp hji
                    clear hji
                    go_wp2_with fail
                    obtain ⟨wj, rfl⟩ : ∃ wj : World, wj = wr := ⟨_, rfl⟩
                    go_loopg [9, 10] 0 (fun gg l x wr => gg = 0 ∧ x = .int .i64 0 ∧ l = .int .i64 0 ∧ wj = wr)
                    case atStart => exact ⟨rfl, rfl, rfl, rfl⟩
                    case round =>
                      obtain ⟨_, rfl, rfl, rfl⟩ := hrel
                      go_wp2
                      go_roundg (tasks.length - j - 1)
                      case measure => omega
                      case rel => exact ⟨j + 1, y, z, by omega, by go_num, rfl, rfl, by rw [Hn.out]; exact Hy, by rw [Hn.out]; exact Hz, sc, hs, pb, hb⟩
                  · have e1 : ((j : Int) != (i : Int)) = true := by simp; omega
                    have Hji := hidp hji
                    clear hji
                    go_wp2_with fail
                    obtain ⟨wj, rfl⟩ : ∃ wj : World, wj = wr := ⟨_, rfl⟩
                    go_loopg [9, 10] parts2.length (fun gg l x wr => ∃ (m : Nat) (v : Int), m + gg = parts2.length ∧ x = .int .i64 m ∧ l = .int .i64 v ∧ Hid (maxL (parts2.take m) = v) ∧ SetCells wr w.heap.size ⟨proto, ca, cc, cores, ha, hc, homes, some ⟨g, off, none⟩, tc, tasks⟩ ∧ SetOk wr ⟨proto, ca, cc, cores, ha, hc, homes, some ⟨g, off, none⟩, tc, tasks⟩ ∧ PBox wr wo.heap.size p ∧ Below w.heap.size w wr)
                    case atStart => exact ⟨0, 0, by omega, rfl, rfl, hidp (by simp [maxL]), sc, hs, pb, hb⟩
                    case round =>
                      obtain ⟨m, v, hmm, rfl, rfl, Hv, sc, hs, pb, hb⟩ := hrel
                      clear c0 c1 c2 c3 d5
                      have sc2 := sc
                      obtain ⟨c0, c1, c2, c3⟩ := sc2
                      dsimp only at c0 c1 c2 c3
                      have d5 := (HD.out _ hs).1
                      have vb0 := maxL_nn (parts2.take m)
                      have vb1 := maxL_bd (Pg2.out.lens.take m)
                      rw [Hv.out] at vb0 vb1
                      by_cases hml : m < parts2.length
                      · obtain ⟨q, HQ⟩ : ∃ q, Hid (parts2.getD m default = q) := ⟨_, rfl⟩
                        obtain ⟨y3, y4, y5⟩ := HQ.out ▸ (HD.out _ hs).2 m hml
                        have Hs2 : Hid (maxL (parts2.take (m + 1)) = max v (if q.kind = 3 then q.len else 0)) := hidp (by rw [maxL_snoc _ _ hml, Hv.out, HQ.out])
                        have scn := sc.keep (Keeps.alloc wr (.cells #[.int .i64 q.kind, .int .i64 q.len, .int .i64 q.res] 39))
                        have hsn := hs.keep (Keeps.alloc wr (.cells #[.int .i64 q.kind, .int .i64 q.len, .int .i64 q.res] 39))
                        have pbn := pb.keep (Keeps.alloc wr (.cells #[.int .i64 q.kind, .int .i64 q.len, .int .i64 q.res] 39))
                        have hbn := hb.alloc hb.size (.cells #[.int .i64 q.kind, .int .i64 q.len, .int .i64 q.res] 39)
                        have hq := Pg2.out.lens q (HQ.out ▸ getD_mem hml)
                        obtain ⟨hq1, hq2⟩ := hq
                        by_cases kk : q.kind = 3
                        · have k3 : (q.kind == 3) = true := by simpa using kk
                          have Hz2 : Hid (maxL (parts2.take (m + 1)) = max v q.len) := hidp (by rw [Hs2.out, if_pos kk])
                          clear kk
                          go_wp2
                          go_roundg (gk - 1)
                          case measure => omega
                          case rel => exact ⟨m + 1, max v q.len, by omega, by go_num, rfl, Hz2, scn, hsn, pbn, hbn⟩
                        · have k3 : (q.kind == 3) = false := by simpa using kk
                          have Hz2 : Hid (maxL (parts2.take (m + 1)) = v) := hidp (by rw [Hs2.out, if_neg kk]; omega)
                          clear kk
                          go_wp2
                          go_roundg (gk - 1)
                          case measure => omega
                          case rel => exact ⟨m + 1, v, by omega, by go_num, rfl, Hz2, scn, hsn, pbn, hbn⟩
                      · obtain rfl : v = M := by rw [← Hv.out, ← HM.out, List.take_of_length_le (by omega)]
                        by_cases v0 : 0 < v
                        · have Hn : Hid (othL i 0 (tasks.take (j + 1)) = othL i 0 (tasks.take j) ++ [v]) := hidp (by rw [Hsn.out, if_neg (by rintro (h | h); (exact Hji.out (by omega)); omega)])
                          go_wp2
                          go_roundg (tasks.length - j - 1)
                          case measure => omega
                          case rel => exact ⟨j + 1, y + v, z + 1, by omega, by go_num, rfl, rfl, hidp (by rw [Hn.out, tot_append, Hy.out]; simp [tot]; omega), hidp (by rw [Hn.out, List.length_append, Hz.out]; simp), sc, hs, pb, hb⟩
                        · obtain rfl : v = 0 := by omega
                          have Hn : Hid (othL i 0 (tasks.take (j + 1)) = othL i 0 (tasks.take j)) := hidp (by rw [Hsn.out, if_pos (.inr rfl)]; simp)
                          go_wp2
                          go_roundg (tasks.length - j - 1)
                          case measure => omega
                          case rel => exact ⟨j + 1, y, z, by omega, by go_num, congrArg (Value.int .i64) (by omega), rfl, by rw [Hn.out]; exact Hy, by rw [Hn.out]; exact Hz, sc, hs, pb, hb⟩
                · obtain rfl : j = tasks.length := by omega
                  rw [List.take_length] at Hy Hz
                  rw [HW.out] at Hy
                  have Hz5 : Hid (aheadV ⟨proto, ca, cc, cores, ha, hc, homes, some ⟨g, off, none⟩, tc, tasks⟩ i = z) := hidp (by unfold aheadV; rw [if_pos (thereB_true.2 ⟨Hok.out, by omega, by dsimp only; omega⟩), Hz.out])
                  have z3 : z ≤ (tasks.length : Int) - 1 := by have := othL_lt i 0 tasks (by omega) (by omega); have := Hz.out; omega
                  have hth2 : thereB ⟨proto, ca, cc, cores, ha, hc, homes, some ⟨g, off, none⟩, tc, tasks⟩ i = true := thereB_true.2 ⟨Hok.out, by omega, by dsimp only; omega⟩
                  have hpp : partAt ⟨proto, ca, cc, cores, ha, hc, homes, some ⟨g, off, none⟩, tc, tasks⟩ i k = p := by unfold partAt; simp only [Int.toNat_natCast]; rw [HT.out]; exact HP.out
                  obtain ⟨b0, b1, b2⟩ := pb
                  have pb : PBox wr wo.heap.size p := ⟨b0, b1, b2⟩
                  by_cases k3 : p.kind = 3
                  · have hk5 : fairK ⟨proto, ca, cc, cores, ha, hc, homes, some ⟨g, off, none⟩, tc, tasks⟩ i k = true := fairK_iff.2 ⟨hth2, by omega, by simp only [Int.toNat_natCast]; rw [HT.out]; dsimp only; omega, by rw [hpp]; exact k3⟩
                    have hv5 : fairV ⟨proto, ca, cc, cores, ha, hc, homes, some ⟨g, off, none⟩, tc, tasks⟩ i k = y := by unfold fairV; rw [if_pos hk5, hpp, Hy.out, HW.out]
                    have k4 : (p.kind == 3) = true := by simpa using k3
                    have HK5 := hidp hk5
                    have HV5 := hidp hv5
                    clear k3 hk5 hv5 hpp hth2
                    go_wp2_with fail
                    refine (part_any ⟨proto, ca, cc, cores, ha, hc, homes, some ⟨g, off, none⟩, tc, tasks⟩ i k _ hs).mono ?_
                    rintro e u5 ⟨rfl, hb2⟩
                    rw [HK5.out, HV5.out]
                    clear c0 c1 c2 c3 b0 b1 b2
                    replace hb := hb.trans (hb2.mono hb.size)
                    replace sc := sc.keep (Keeps.of_below hb2)
                    replace hs := hs.keep (Keeps.of_below hb2)
                    replace pb := pb.keep (Keeps.of_below hb2)
                    clear hb2
                    have sc2 := sc
                    obtain ⟨c0, c1, c2, c3⟩ := sc2
                    dsimp only at c0 c1 c2 c3
                    have pb2 := pb
                    obtain ⟨b0, b1, b2⟩ := pb2
                    go_wp2_with fail
                    refine (ahead_any ⟨proto, ca, cc, cores, ha, hc, homes, some ⟨g, off, none⟩, tc, tasks⟩ i _ hs).mono ?_
                    rintro e u6 ⟨rfl, hb2⟩
                    rw [Hz5.out]
                    clear c0 c1 c2 c3 b0 b1 b2
                    replace hb := hb.trans (hb2.mono hb.size)
                    replace sc := sc.keep (Keeps.of_below hb2)
                    replace hs := hs.keep (Keeps.of_below hb2)
                    replace pb := pb.keep (Keeps.of_below hb2)
                    clear hb2
                    have sc2 := sc
                    obtain ⟨c0, c1, c2, c3⟩ := sc2
                    dsimp only at c0 c1 c2 c3
                    have pb2 := pb
                    obtain ⟨b0, b1, b2⟩ := pb2
                    go_wp2_with fail
                    go_roundg (parts.length - k - 1)
                    case measure => omega
                    case rel => exact ⟨k + 1, by omega, by go_num, sc, hs, hb⟩
                  · have hk5 : fairK ⟨proto, ca, cc, cores, ha, hc, homes, some ⟨g, off, none⟩, tc, tasks⟩ i k = false := fairK_not (fun h => k3 (by have := h.2.2.2; rw [hpp] at this; exact this))
                    have hv5 : fairV ⟨proto, ca, cc, cores, ha, hc, homes, some ⟨g, off, none⟩, tc, tasks⟩ i k = 0 := fair_no hk5
                    have k4 : (p.kind == 3) = false := by simpa using k3
                    have HK5 := hidp hk5
                    have HV5 := hidp hv5
                    clear k3 hk5 hv5 hpp hth2
                    go_wp2_with fail
                    refine (part_any ⟨proto, ca, cc, cores, ha, hc, homes, some ⟨g, off, none⟩, tc, tasks⟩ i k _ hs).mono ?_
                    rintro e u5 ⟨rfl, hb2⟩
                    rw [HK5.out, HV5.out]
                    clear c0 c1 c2 c3 b0 b1 b2
                    replace hb := hb.trans (hb2.mono hb.size)
                    replace sc := sc.keep (Keeps.of_below hb2)
                    replace hs := hs.keep (Keeps.of_below hb2)
                    replace pb := pb.keep (Keeps.of_below hb2)
                    clear hb2
                    have sc2 := sc
                    obtain ⟨c0, c1, c2, c3⟩ := sc2
                    dsimp only at c0 c1 c2 c3
                    have pb2 := pb
                    obtain ⟨b0, b1, b2⟩ := pb2
                    go_wp2_with fail
                    refine (ahead_any ⟨proto, ca, cc, cores, ha, hc, homes, some ⟨g, off, none⟩, tc, tasks⟩ i _ hs).mono ?_
                    rintro e u6 ⟨rfl, hb2⟩
                    rw [Hz5.out]
                    clear c0 c1 c2 c3 b0 b1 b2
                    replace hb := hb.trans (hb2.mono hb.size)
                    replace sc := sc.keep (Keeps.of_below hb2)
                    replace hs := hs.keep (Keeps.of_below hb2)
                    replace pb := pb.keep (Keeps.of_below hb2)
                    clear hb2
                    have sc2 := sc
                    obtain ⟨c0, c1, c2, c3⟩ := sc2
                    dsimp only at c0 c1 c2 c3
                    have pb2 := pb
                    obtain ⟨b0, b1, b2⟩ := pb2
                    go_wp2_with fail
                    go_roundg (parts.length - k - 1)
                    case measure => omega
                    case rel => exact ⟨k + 1, by omega, by go_num, sc, hs, hb⟩
            · go_wp2
              go_roundg (tasks.length - i - 1)
              case measure => omega
              case rel => exact ⟨i + 1, by omega, by go_num, sc, hs, hb⟩
        · go_wp2
          go_ret
          exact ⟨rfl, hb⟩
  · have hth : thereB s0 0 = false := by simpa using hth
    go_enter Try.func10, Try.ntmps10
    go_wp2_with fail
    refine (known13_any _).mono ?_
    rintro e u1 ⟨rfl, hb2⟩
    replace hb := hb.trans (hb2.mono hb.size)
    replace sc := sc.keep (Keeps.of_below hb2)
    replace hs := hs.keep (Keeps.of_below hb2)
    clear hb2
    have sc2 := sc
    obtain ⟨c0, c1, c2, c3⟩ := sc2
    go_wp2_with fail
    refine (few13_any s0 _ hs).mono ?_
    rintro e u2 ⟨⟨b, rfl⟩, hb2⟩
    clear c0 c1 c2 c3
    replace hb := hb.trans (hb2.mono hb.size)
    replace sc := sc.keep (Keeps.of_below hb2)
    replace hs := hs.keep (Keeps.of_below hb2)
    clear hb2
    have sc2 := sc
    obtain ⟨c0, c1, c2, c3⟩ := sc2
    cases b
    · go_wp2_with fail
      go_ret
      exact ⟨rfl, hb⟩
    · go_wp2_with fail
      refine (rthere_any s0 0 _ hs).mono ?_
      rintro e u3 ⟨rfl, hb2⟩
      replace hb := hb.trans (hb2.mono hb.size)
      go_wp2_with fail
      go_ret
      exact ⟨rfl, hb⟩

theorem own : ownKnob Try.prog.godebug = none := by kernel_rfl
theorem laidOut : laidOutB Try.prog = true := by kernel_rfl

/-! THE ROW's STEP -/
set_option maxRecDepth 100000 in
theorem lifted (os : Os) (started : os.Started) (H : Type) (enc : TypeId × Value → H) :
    ReturnsInHanded {} Try.checked os 10 .any (Rows.fairSumsSpec.pre6 enc Try.prog Try.f10 Rows.fairSumsRow.domain false) (Rows.fairSumsSpec.post enc Try.prog Try.f10 false true false false) := by
  refine returnsInHanded_of_change (C := Try.checked) own started (by kernel_rfl) Try.func10
    (ChangeSpec.witness6 (enc := enc) (C := Try.checked) false ⟨#[], #[.agg #[.int .i64 0, .slice none 0 0, .slice none 0 0, .slice none 0 0]], []⟩ 8 (by kernel_rfl) (by kernel_rfl) (by kernel_rfl) (by kernel_rfl)) ?_
  intro W base args ds gs before hval0 hW hcnd _
  have hval : ∀ (j : Nat) t v, Try.f10.params[j]? = some t → args[j]? = some v → Value.okWide Try.prog W .any base t v := hval0
  have hW' := hW
  obtain ⟨p, q, hA0, hV, rfl, hfz, hnd⟩ := hW
  have hA : DataW.TrodAll enc Try.prog W 0 (fun _ => true) true Try.f10.params.toList args.toList ds p := hA0
  rw [Try.params10] at hA hval
  obtain ⟨v0, vs0, d0, ds0, p0, q0, hargs, rfl, rfl, h0, r0⟩ := trodAll_cons hA
  obtain ⟨rfl, rfl, rfl⟩ := trodAll_nil r0
  obtain rfl : args = #[v0] := by cases args; simp_all
  obtain ⟨rfl, rfl⟩ := trodVars_none hV
  have k0 := h0
  have lt0 : ∀ x ∈ p0, x.block < W.heap.size := by obtain ⟨m, hm⟩ := k0; exact DataW.trod_lt m _ _ _ hm
  obtain ⟨s0, w0, rfl⟩ := setTypes.arg_set (hval 0 25 v0 rfl rfl) h0
  clear hA0 hval0
  refine (walk s0 W w0).mono fun e W' ⟨he, bel⟩ => ?_
  subst he
  exact ⟨_, rfl, _, _, _, [], _, [], hW', trodAll_mk1 (shut_bool Try.underlying4 _), (trodAll_cons_mk (Below.trod laidOut (by kernel_rfl) (of_decide_eq_true (by kernel_rfl)) k0 bel lt0) trodAll_mk0), rfl, bel.frame _, fun h => by cases h⟩

theorem over : Rows.fairSumsRow.holds Try.pinned (OpenSpec.ofChange Rows.fairSumsSpec) :=
  OpenClaim.holds_of_wide 10 Try.f10 rfl rfl rfl rfl rfl rfl rfl ⟨rfl, rfl, rfl, rfl, rfl⟩ rfl rfl rfl rfl rfl (by kernel_rfl) Try.func10 (by kernel_rfl)
    (of_decide_eq_true (by kernel_rfl)) (by unfold Func.isWrapper; first | (rw [if_pos (by decide +kernel)]; kernel_rfl) | (rw [if_neg (by decide +kernel)]; exact ⟨rfl, rfl⟩))
    (fun os started H enc _ => lifted os started H enc)

/-- THE STATEMENT -/
theorem proved : Rows.FairSumsSaid := over
#print axioms proved
end Go.Proofs.Ytigmbfleffpmeaa.fairSums

