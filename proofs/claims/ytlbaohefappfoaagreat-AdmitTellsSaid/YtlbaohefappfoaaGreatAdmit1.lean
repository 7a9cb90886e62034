/- admit: soonest, round, settled. -/
import Derived.Test.YtlbaohefappfoaaGreatAdmitNums
import Derived.Test.YtlbaohefappfoaaGreatBound2
import Derived.Test.YtlbaohefappfoaaGreatSame1
namespace Go.Proofs.YtlbaohefappfoaaGreat
open Go.ChangeShapes Go.WideShapes Go.ChangeAt Go.RowKit
set_option linter.unusedVariables false
set_option linter.unusedSimpArgs false

set_option maxHeartbeats 4000000 in
set_option maxRecDepth 100000 in
theorem soonest_any (s : SetR) (w : World) (hs : SetOk w s) (ho : okS s = true) : Calls Tryz.prog 29 #[.agg #[.int .i64 s.proto, .slice s.ca s.cores.length s.cc, .slice s.ha s.homes.length s.hc, .slice s.ta s.tasks.length s.tc]] w fun e w' => ∃ A c, e = .returned (.slice A (soonL s).length c) ∧ IntsOk w' A c (soonL s) ∧ Below w.heap.size w w' := by
  have hb := (Below.refl w.heap.size w).alloc (Nat.le_refl _) (.cells #[.int .i64 s.proto, .slice s.ca s.cores.length s.cc, .slice s.ha s.homes.length s.hc, .slice s.ta s.tasks.length s.tc] 25)
  have sc := SetCells.new w s 25
  have hg := Good.of ho
  have n6 := hg.ntasks.2
  have HR := hidp hs.tasks.at_
  have Hok := hidp hs.tasks.ok
  have HG := hidp hg.parts
  have HF := hidp (soonL_ok ho)
  obtain ⟨f, Hf⟩ : ∃ f : Nat → Int, Hid (∀ k, allK (s.tasks.getD k default).parts = f k) := ⟨fun k => allK (s.tasks.getD k default).parts, hidp (fun _ => rfl)⟩
  have Hso : Hid (soonL s = (List.range s.tasks.length).map f) := hidp (by
    unfold soonL
    apply List.ext_getElem
    · simp
    · intro i h1 h2
      have hi : i < s.tasks.length := by simpa using h1
      have := Hf.out i
      simp [List.getD, hi] at this
      simpa using this)
  obtain ⟨i0, hi0, hy0, hy1, hy2⟩ := info_parts infoZ
  rw [Hso.out] at HF
  rw [Hso.out]
  clear hs ho hg
  obtain ⟨proto, ca, cc, cores, ha, hc, homes, ta, tc, tasks⟩ := s
  dsimp only at HR Hok HG n6 hb sc HF Hf ⊢
  obtain ⟨sc_0, sc_1, sc_2, sc_3⟩ := id sc
  dsimp only at sc_0 sc_1 sc_2 sc_3
  have hz0 : w.heap.size + 1 ≤ (w.alloc (.cells #[.int .i64 proto, .slice ca cores.length cc, .slice ha homes.length hc, .slice ta tasks.length tc] 25)).heap.size := by simp
  go_enter Tryz.func29, Tryz.ntmps29
  go_wp2
  clear sc_0 sc_1 sc_2 sc_3 sc
  go_loopg [3, 12] tasks.length (fun gg a i wr => ∃ (k c : Nat) (A : Option Addr), k + gg = tasks.length ∧ i = .int .i64 k ∧ a = .slice A k c ∧ OwnN (w.heap.size + 1) wr A k c ((List.range k).map f) ∧ Below w.heap.size w wr ∧ w.heap.size + 1 ≤ wr.heap.size)
  case atStart => exact ⟨0, 0, none, by omega, rfl, rfl, OwnN.none _ _, hb, hz0⟩
  case round =>
    clear hb hz0
    obtain ⟨k, c, A, hk, rfl, rfl, ho, hw, hz⟩ := hrel
    by_cases hlt : k < tasks.length
    · obtain ⟨g, off, hA, hcl⟩ := HR.out.resolve_left (by intro e; rw [e] at hlt; simp at hlt)
      subst hA
      obtain ⟨t, HT⟩ : ∃ t, Hid (tasks.getD k default = t) := ⟨_, rfl⟩
      have hm : t ∈ tasks := HT.out ▸ getD_mem hlt
      obtain ⟨d0, d1, d2, d3, d4, d5⟩ := (HT.out ▸ hcl k hlt).keep (Keeps.of_below hw)
      have hw1 := hw.alloc hw.size (.cells #[.string t.name, .int .i64 t.per, .int .i64 t.dl, .int .i64 t.prio, .int .i64 t.cl, .slice t.pa t.parts.length t.pc] 44)
      have ho1 := ho.turned ((Turned.refl [] wr).alloc (.cells #[.string t.name, .int .i64 t.per, .int .i64 t.dl, .int .i64 t.prio, .int .i64 t.cl, .slice t.pa t.parts.length t.pc] 44)) (by simp)
      have hz1 : w.heap.size + 1 ≤ (wr.alloc (.cells #[.string t.name, .int .i64 t.per, .int .i64 t.dl, .int .i64 t.prio, .int .i64 t.cl, .slice t.pa t.parts.length t.pc] 44)).heap.size := Nat.le_trans hz (by simp)
      have HP := hidp (Hok.out t hm).at_
      have HL := hidp (HG.out t hm).lens
      have hl6 := (HG.out t hm).len
      have Hfk : Hid (allK t.parts = f k) := hidp (by rw [← Hf.out, HT.out])
      obtain ⟨hl0, hl1⟩ := hl6
      clear hcl hm ho hw hz
      go_wp2
      clear d0 d1 d2 d3 d4 d5
      go_loopg [6, 19] t.parts.length (fun g2 a i w5 => ∃ (j : Nat) (x : Int), j + g2 = t.parts.length ∧ i = .int .i64 j ∧ a = .int .i64 x ∧ Hid (allK (t.parts.take j) = x) ∧ OwnN (w.heap.size + 1) w5 A k c ((List.range k).map f) ∧ Below w.heap.size w w5 ∧ w.heap.size + 1 ≤ w5.heap.size)
      case atStart => exact ⟨0, 0, by omega, rfl, rfl, hidp (by simp [allK]), ho1, hw1, hz1⟩
      case round =>
        clear ho1 hw1 hz1
        obtain ⟨j, x, hj, rfl, rfl, Hx, ho2, hw2, hz2⟩ := hrel
        have hx := allK_bd (HL.out.take j)
        rw [Hx.out, List.length_take] at hx
        obtain ⟨x0, x1⟩ := hx
        have x2 : x ≤ 360 := by omega
        clear x1
        by_cases hlt2 : j < t.parts.length
        · obtain ⟨gp, op, hPA, hpc⟩ := HP.out.resolve_left (by intro e; rw [e] at hlt2; simp at hlt2)
          obtain ⟨p, Hp⟩ : ∃ p, Hid (t.parts.getD j default = p) := ⟨_, rfl⟩
          have pcl := (Hp.out ▸ hpc j hlt2).keep (Keeps.of_below hw2)
          obtain ⟨c0, c1, c2⟩ := pcl
          have hp := HL.out p (Hp.out ▸ getD_mem hlt2)
          obtain ⟨p0, p1⟩ := hp
          have Hs : Hid (allK (t.parts.take (j + 1)) = x + p.len) := hidp (by rw [allK_snoc _ _ hlt2, Hx.out, Hp.out])
          have hw3 := hw2.alloc hw2.size (.cells #[.int .i64 p.kind, .int .i64 p.len, .int .i64 p.res] 41)
          have ho3 := ho2.turned ((Turned.refl [] wr).alloc (.cells #[.int .i64 p.kind, .int .i64 p.len, .int .i64 p.res] 41)) (by simp)
          have hz3 : w.heap.size + 1 ≤ (wr.alloc (.cells #[.int .i64 p.kind, .int .i64 p.len, .int .i64 p.res] 41)).heap.size := Nat.le_trans hz2 (by simp)
          clear hpc ho2 hw2 hz2
          go_wp2
          go_roundg (gk - 1)
          case measure => omega
          case rel => exact ⟨j + 1, x + p.len, by omega, by go_num, rfl, Hs, ho3, hw3, hz3⟩
        · have hjn : j = t.parts.length := by omega
          have Hz : Hid (f k = x) := hidp (by rw [← Hfk.out, ← Hx.out, hjn, List.take_length])
          have N2 : Hid (k + 1 ≤ maxLen) := hidp (by unfold maxLen; omega)
          have T2 : Hid ((k + 1) * 8 ≤ 140737488355328) := hidp (by omega)
          have ho4 := ho2.turned ((Turned.refl [] wr).alloc (.cells #[.int .i64 x] 3)) (by simp)
          have S2 := hidp (Lies.newCells' wr [.int .i64 x] 3)
          have Z2 : Hid (w.heap.size + 1 ≤ (wr.alloc (.cells #[.int .i64 x] 3)).heap.size) := hidp (Nat.le_trans hz2 (by simp))
          have hw4 := hw2.alloc hw2.size (.cells #[.int .i64 x] 3)
          have O2 := hidp (ints_one x)
          have Hfp := hidp (own_fp ho4.own)
          clear ho2 hw2 hz2 hjn
          go_wp2_with (at_builtin; refine wpList_app2 _ rfl (.tmp 28) (.tmp 30) 22 rfl (w.heap.size + 1) 3 i0 _ 1 8 Tryz.underlying22 hi0 hy0 hy1 hy2 rfl (by decide) A k c _ rfl ho4.own _ _ 1 1 [.int .i64 x] rfl (by simp) rfl S2.out O2.out N2.out T2.out Z2.out ?_; intro A' c' w6 happ)
          go_roundg (tasks.length - k - 1)
          case measure => omega
          case rel => exact ⟨k + 1, c', A', by omega, by go_num, rfl, by rw [range_snoc, Hz.out]; exact ho4.app (ps := [x]) happ rfl, hw4.trans (happ.turned.below hw4.size (fun j hj => by have := (Hfp.out _ hj).1; omega)), Nat.le_trans Z2.out happ.turned.size⟩
    · obtain rfl : k = tasks.length := by omega
      have hrow := ho.ok (fun x hx => by have := HF.out x hx; unfold I64; omega)
      have Hr := hidp hrow
      clear hrow
      go_wp2
      go_ret
      exact ⟨A, c, by simp, Hr.out, hw⟩

set_option maxHeartbeats 4000000 in
set_option maxRecDepth 100000 in
theorem round_any (s : SetR) (bs : List Int) (ba : Option Addr) (bc : Nat) (w : World) (hs : SetOk w s) (hB : IntsOk w ba bc bs) (hn : s.tasks.length ≤ 6) : Calls Tryz.prog 30 #[.agg #[.int .i64 s.proto, .slice s.ca s.cores.length s.cc, .slice s.ha s.homes.length s.hc, .slice s.ta s.tasks.length s.tc], .slice ba bs.length bc] w (RowK w (roundL s bs) (roundB s bs)) := by
  have hb := (Below.refl w.heap.size w).alloc (Nat.le_refl _) (.cells #[.int .i64 s.proto, .slice s.ca s.cores.length s.cc, .slice s.ha s.homes.length s.hc, .slice s.ta s.tasks.length s.tc] 25)
  have sc := SetCells.new w s 25
  have HR := hidp hs.tasks.at_
  obtain ⟨N, HN⟩ : ∃ f : Nat → Int, Hid (∀ k : Nat, nextV s bs k = f k) := ⟨fun k => nextV s bs k, hidp (fun _ => rfl)⟩
  obtain ⟨K, HK⟩ : ∃ f : Nat → Bool, Hid (∀ k : Nat, nextK s bs k = f k) := ⟨fun k => nextK s bs k, hidp (fun _ => rfl)⟩
  have HNb : Hid (∀ k, 0 ≤ N k ∧ N k ≤ 6100000) := hidp (fun k => by rw [← HN.out]; exact nextV_bd s bs k)
  obtain ⟨L, HL⟩ : ∃ L, Hid (roundL s bs = L) := ⟨_, hidp rfl⟩
  obtain ⟨R, HRd⟩ : ∃ L, Hid (roundB s bs = L) := ⟨_, hidp rfl⟩
  have Hoff : Hid (∀ k, k < s.tasks.length → (K k && decide (N k ≤ (s.tasks.getD k default).dl)) = false → R = false ∧ L = []) := hidp (fun k hk h => by
    have e : roundB s bs = false := upTo_not hk (by unfold stepB; rw [HN.out, HK.out]; exact h)
    rw [← HRd.out, ← HL.out]
    exact ⟨e, by unfold roundL; rw [e]; rfl⟩)
  have Hyes : Hid ((∀ k, k < s.tasks.length → (K k && decide (N k ≤ (s.tasks.getD k default).dl)) = true) → R = true ∧ L = (List.range s.tasks.length).map N) := hidp (fun h => by
    have e : roundB s bs = true := (upTo_iff _ _).2 (fun k hk => by unfold stepB; rw [HN.out, HK.out]; exact h k hk)
    rw [← HRd.out, ← HL.out]
    refine ⟨e, ?_⟩
    unfold roundL nextRow
    rw [if_pos e]
    exact List.map_congr_left (fun i _ => HN.out i))
  have HS1 := hidp (fun u (h : Below w.heap.size w u) => hs.keep (Keeps.of_below h))
  have HB1 := hidp (fun u (h : Below w.heap.size w u) => hB.keep (Keeps.of_below h))
  obtain ⟨i0, hi0, hy0, hy1, hy2⟩ := info_parts infoZ
  rw [HL.out, HRd.out]
  clear hs hB HL HRd
  obtain ⟨proto, ca, cc, cores, ha, hc, homes, ta, tc, tasks⟩ := s
  dsimp only at HR hn hb sc HS1 Hoff Hyes ⊢
  obtain ⟨sc_0, sc_1, sc_2, sc_3⟩ := id sc
  dsimp only at sc_0 sc_1 sc_2 sc_3
  have hz0 : w.heap.size + 1 ≤ (w.alloc (.cells #[.int .i64 proto, .slice ca cores.length cc, .slice ha homes.length hc, .slice ta tasks.length tc] 25)).heap.size := by simp
  go_enter Tryz.func30, Tryz.ntmps30
  go_wp2
  clear sc_0 sc_1 sc_2 sc_3
  go_loopg [6, 14] tasks.length (fun gg a i wr => ∃ (k c : Nat) (A : Option Addr), k + gg = tasks.length ∧ i = .int .i64 k ∧ a = .slice A k c ∧ Hid (∀ j, j < k → (K j && decide (N j ≤ (tasks.getD j default).dl)) = true) ∧ OwnN (w.heap.size + 1) wr A k c ((List.range k).map N) ∧ SetCells wr w.heap.size ⟨proto, ca, cc, cores, ha, hc, homes, ta, tc, tasks⟩ ∧ Below w.heap.size w wr ∧ w.heap.size + 1 ≤ wr.heap.size)
  case atStart => exact ⟨0, 0, none, by omega, rfl, rfl, hidp (fun j hj => by omega), OwnN.none _ _, sc, hb, hz0⟩
  case round =>
    clear hb hz0 sc
    obtain ⟨k, c, A, hk, rfl, rfl, Hk, ho, sc, hw, hz⟩ := hrel
    by_cases hlt : k < tasks.length
    · obtain ⟨g, off, hA, hcl⟩ := HR.out.resolve_left (by intro e; rw [e] at hlt; simp at hlt)
      subst hA
      obtain ⟨t, HT⟩ : ∃ t, Hid (tasks.getD k default = t) := ⟨_, rfl⟩
      obtain ⟨d0, d1, d2, d3, d4, d5⟩ := (HT.out ▸ hcl k hlt).keep (Keeps.of_below hw)
      have hw1 := hw.alloc hw.size (.cells #[.string t.name, .int .i64 t.per, .int .i64 t.dl, .int .i64 t.prio, .int .i64 t.cl, .slice t.pa t.parts.length t.pc] 44)
      have ho1 := ho.turned ((Turned.refl [] wr).alloc (.cells #[.string t.name, .int .i64 t.per, .int .i64 t.dl, .int .i64 t.prio, .int .i64 t.cl, .slice t.pa t.parts.length t.pc] 44)) (by simp)
      have hz1 : w.heap.size + 1 ≤ (wr.alloc (.cells #[.string t.name, .int .i64 t.per, .int .i64 t.dl, .int .i64 t.prio, .int .i64 t.cl, .slice t.pa t.parts.length t.pc] 44)).heap.size := Nat.le_trans hz (by simp)
      have sc1 := sc.keep (Keeps.alloc wr (.cells #[.string t.name, .int .i64 t.per, .int .i64 t.dl, .int .i64 t.prio, .int .i64 t.cl, .slice t.pa t.parts.length t.pc] 44))
      have tb := TaskBox.new wr t 44
      obtain ⟨sc_0, sc_1, sc_2, sc_3⟩ := id sc1
      dsimp only at sc_0 sc_1 sc_2 sc_3
      obtain ⟨v, Hv⟩ : ∃ v, Hid (N k = v) := ⟨_, hidp rfl⟩
      obtain ⟨b, Hb⟩ : ∃ v, Hid (K k = v) := ⟨_, hidp rfl⟩
      have hvb := HNb.out k
      rw [Hv.out] at hvb
      obtain ⟨v0, v1⟩ := hvb
      clear hcl ho hw hz sc
      go_wp2_with fail
      refine (next_any _ bs ba bc k _ (HS1.out _ hw1) (HB1.out _ hw1)).mono ?_
      rintro e w3 ⟨rfl, hb3⟩
      rw [HN.out, HK.out, Hv.out, Hb.out]
      replace hw1 := hw1.trans (hb3.mono hw1.size)
      replace ho1 := ho1.turned (Turned.of_below hb3 []) (by simp)
      replace hz1 := Nat.le_trans hz1 hb3.size
      replace sc1 := sc1.keep (Keeps.of_below hb3)
      replace tb := tb.keep (Keeps.of_below hb3)
      clear hb3 d0 d1 d2 d3 d4 d5 sc_0 sc_1 sc_2 sc_3
      obtain ⟨d0, d1, d2, d3, d4, d5⟩ := id tb
      cases b with
      | false =>
        obtain ⟨f1, f2⟩ := Hoff.out k hlt (by rw [Hb.out]; rfl)
        have F1 := hidp f1
        have F2 := hidp f2
        clear f1 f2
        go_wp2_with fail
        go_ret2
        exact RowK.eq ⟨none, 0, rfl, nil_ints _, hw1⟩ F2.out.symm F1.out.symm
      | true =>
        by_cases hd : t.dl < v
        · obtain ⟨f1, f2⟩ := Hoff.out k hlt (by rw [Hb.out, Hv.out, HT.out]; simp; omega)
          have F1 := hidp f1
          have F2 := hidp f2
          clear f1 f2
          go_wp2_with fail
          go_ret2
          exact RowK.eq ⟨none, 0, rfl, nil_ints _, hw1⟩ F2.out.symm F1.out.symm
        · have hd' : decide (t.dl < v) = false := by simpa using hd
          have Hk2 : Hid (∀ j, j < k + 1 → (K j && decide (N j ≤ (tasks.getD j default).dl)) = true) := hidp (fun j hj => by
            by_cases ej : j = k
            · subst ej; rw [Hb.out, Hv.out, HT.out]; simp; omega
            · exact Hk.out j (by omega))
          have N2 : Hid (k + 1 ≤ maxLen) := hidp (by unfold maxLen; omega)
          have T2 : Hid ((k + 1) * 8 ≤ 140737488355328) := hidp (by omega)
          have ho4 := ho1.turned ((Turned.refl [] w3).alloc (.cells #[.int .i64 v] 3)) (by simp)
          have S2 := hidp (Lies.newCells' w3 [.int .i64 v] 3)
          have Z2 : Hid (w.heap.size + 1 ≤ (w3.alloc (.cells #[.int .i64 v] 3)).heap.size) := hidp (Nat.le_trans hz1 (by simp))
          have hw4 := hw1.alloc hw1.size (.cells #[.int .i64 v] 3)
          have sc4 := sc1.keep (Keeps.alloc w3 (.cells #[.int .i64 v] 3))
          have O2 := hidp (ints_one v)
          have Hfp := hidp (own_fp ho4.own)
          clear ho1 hw1 hz1 sc1 hd
          go_wp2_with (at_builtin; refine wpList_app2 _ rfl (.tmp 34) (.tmp 36) 22 rfl (w.heap.size + 1) 3 i0 _ 1 8 Tryz.underlying22 hi0 hy0 hy1 hy2 rfl (by decide) A k c _ rfl ho4.own _ _ 1 1 [.int .i64 v] rfl (by simp) rfl S2.out O2.out N2.out T2.out Z2.out ?_; intro A' c' w6 happ)
          go_roundg (gk - 1)
          case measure => omega
          case rel => exact ⟨k + 1, c', A', by omega, by go_num, rfl, Hk2, by rw [range_snoc, Hv.out]; exact ho4.app (ps := [v]) happ rfl, sc4.turned happ.turned (fun hf => by have := (Hfp.out _ hf).1; omega), hw4.trans (happ.turned.below hw4.size (fun j hj => by have := (Hfp.out _ hj).1; omega)), Nat.le_trans Z2.out happ.turned.size⟩
    · obtain rfl : k = tasks.length := by omega
      obtain ⟨f1, f2⟩ := Hyes.out Hk.out
      have F1 := hidp f1
      have F2 := hidp f2
      have hrow := ho.ok (fun x hx => by obtain ⟨j, _, rfl⟩ := List.mem_map.1 hx; have := HNb.out j; unfold I64; omega)
      have Hr := hidp hrow
      clear f1 f2 hrow
      go_wp2
      go_ret2
      exact RowK.eq ⟨A, c, by simp, Hr.out, hw⟩ F2.out.symm F1.out.symm

/-- a row of numbers, and an error -/
def RowE (w : World) (zs : List Int) (k : Int) (e : Ending) (w' : World) : Prop := ∃ A c, e = .returned (.tuple #[.slice A zs.length c, .int .i64 k]) ∧ IntsOk w' A c zs ∧ Below w.heap.size w w'
theorem RowE.eq {w w' : World} {zs ys : List Int} {k j : Int} {e : Ending} (h : RowE w zs k e w') (h1 : zs = ys) (h2 : k = j) : RowE w ys j e w' := h1 ▸ h2 ▸ h

set_option maxHeartbeats 4000000 in
set_option maxRecDepth 100000 in
theorem settled18_any (s : SetR) (w : World) (hs : SetOk w s) (ho : okS s = true) : Calls Tryz.prog 14 #[.agg #[.int .i64 s.proto, .slice s.ca s.cores.length s.cc, .slice s.ha s.homes.length s.hc, .slice s.ta s.tasks.length s.tc]] w (RowE w (settle s).1 (settle s).2) := by
  have hb := (Below.refl w.heap.size w).alloc (Nat.le_refl _) (.cells #[.int .i64 s.proto, .slice s.ca s.cores.length s.cc, .slice s.ha s.homes.length s.hc, .slice s.ta s.tasks.length s.tc] 25)
  have sc := SetCells.new w s 25
  have H := hs.keep (Keeps.of_below hb)
  have n6 := (Good.of ho).ntasks.2
  have Ho := hidp ho
  have HS1 := hidp (fun u (h : Below w.heap.size w u) => hs.keep (Keeps.of_below h))
  obtain ⟨P, HP⟩ : ∃ P, Hid (settle s = P) := ⟨_, hidp rfl⟩
  rw [HP.out]
  clear hs ho
  go_enter Tryz.func14, Tryz.ntmps14
  go_wp2
  go_step3
  go_wp2_with fail
  refine (soonest_any s _ H Ho.out).mono ?_
  rintro e w2 ⟨A0, c0, rfl, hr, hb2⟩
  replace hb := hb.trans (hb2.mono hb.size)
  replace sc := sc.keep (Keeps.of_below hb2)
  clear hb2 H
  obtain ⟨cur0, Hc0⟩ : ∃ l, Hid (soonL s = l) := ⟨_, hidp rfl⟩
  have Hst : Hid (setL s 200 cur0 = P) := hidp (by rw [← Hc0.out, ← HP.out]; rfl)
  rw [Hc0.out] at hr ⊢
  go_wp2
  go_step3
  go_wp2
  go_loopg [4, 5, 10] 200 (fun gg a e i wr => ∃ (k c : Nat) (A : Option Addr) (cur : List Int), k + gg = 200 ∧ i = .int .i64 k ∧ e = .int .i64 20 ∧ a = .slice A cur.length c ∧ Hid (setL s gg cur = P) ∧ IntsOk wr A c cur ∧ SetCells wr w.heap.size s ∧ Below w.heap.size w wr)
  case atStart => exact ⟨0, c0, A0, cur0, by omega, rfl, rfl, rfl, Hst, hr, sc, hb⟩
  case round =>
    clear hb sc hr
    obtain ⟨k, c, A, cur, hk, rfl, rfl, rfl, Hs, hr, sc, hw⟩ := hrel
    obtain ⟨sc_0, sc_1, sc_2, sc_3⟩ := id sc
    by_cases hlt : k < 200
    · obtain ⟨g, hg⟩ : ∃ g, gk = g + 1 := ⟨gk - 1, by omega⟩
      subst hg
      have HR := round_any s cur A c _ (HS1.out _ hw) hr n6
      by_cases e : roundB s cur = true
      · have el : roundL s cur = nextRow s cur := by unfold roundL; rw [if_pos e]
        rw [el, e] at HR
        have Hs2 : Hid ((if nextRow s cur = cur then (cur, 0) else setL s g (nextRow s cur)) = P) := hidp (by rw [← Hs.out, setL_succ, if_pos e])
        obtain ⟨nx, Hnx⟩ : ∃ l, Hid (nextRow s cur = l) := ⟨_, hidp rfl⟩
        rw [Hnx.out] at HR Hs2
        clear e el
        go_wp2_with fail
        refine HR.mono ?_
        rintro e w4 ⟨C, d, rfl, hC, hb2⟩
        replace hw := hw.trans (hb2.mono hw.size)
        replace sc := sc.keep (Keeps.of_below hb2)
        replace hr := hr.keep (Keeps.of_below hb2)
        clear hb2 sc_0 sc_1 sc_2 sc_3 HR
        by_cases e2 : nx = cur
        · have HE := eqI_any nx cur C A d c w4 hC hr
          rw [decide_eq_true e2] at HE
          have Hz : Hid ((cur, (0 : Int)) = P) := hidp (by have := Hs2.out; rw [if_pos e2] at this; exact this)
          clear e2
          go_wp2_with fail
          refine HE.mono ?_
          rintro e w5 ⟨rfl, hq⟩
          replace hw := hq.below hw
          replace hr := hr.keep (Keeps.of_qt hq)
          go_wp2_with fail
          try rw [Exit.noGoto_ret]
          go_ret2
          exact RowE.eq ⟨A, c, rfl, hr, hw⟩ (by rw [← Hz.out]) (by rw [← Hz.out])
        · have HE := eqI_any nx cur C A d c w4 hC hr
          rw [decide_eq_false e2] at HE
          have Hz : Hid (setL s g nx = P) := hidp (by have := Hs2.out; rw [if_neg e2] at this; exact this)
          clear e2
          go_wp2_with fail
          refine HE.mono ?_
          rintro e w5 ⟨rfl, hq⟩
          replace hw := hq.below hw
          replace hC := hC.keep (Keeps.of_qt hq)
          replace sc := sc.keep (Keeps.of_qt hq)
          go_wp2_with fail
          go_roundg g
          case measure => omega
          case rel => exact ⟨k + 1, d, C, nx, by omega, by go_num, rfl, rfl, Hz, hC, sc, hw⟩
      · have e' : roundB s cur = false := by simpa using e
        have el : roundL s cur = [] := by unfold roundL; rw [e']; rfl
        rw [el, e'] at HR
        have Hz : Hid ((([] : List Int), (19 : Int)) = P) := hidp (by rw [← Hs.out, setL_succ, if_neg e])
        clear e e' el
        go_wp2_with fail
        refine HR.mono ?_
        rintro e w4 ⟨C, d, rfl, hC, hb2⟩
        replace hw := hw.trans (hb2.mono hw.size)
        go_wp2_with fail
        try rw [Exit.noGoto_ret]
        go_ret2
        exact RowE.eq ⟨none, 0, rfl, nil_ints _, hw⟩ (by rw [← Hz.out]) (by rw [← Hz.out])
    · have hg0 : gk = 0 := by omega
      subst hg0
      have Hz : Hid ((cur, (20 : Int)) = P) := hidp (by rw [← Hs.out]; rfl)
      go_wp2
      try rw [Exit.noGoto_ret]
      go_ret2
      exact RowE.eq ⟨A, c, rfl, hr, hw⟩ (by rw [← Hz.out]) (by rw [← Hz.out])
end Go.Proofs.YtlbaohefappfoaaGreat
