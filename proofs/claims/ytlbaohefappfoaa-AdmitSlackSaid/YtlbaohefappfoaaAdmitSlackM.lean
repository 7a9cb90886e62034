/- AdmitSlack: with a later deadline all is as it was; with one below its bound a task isn't admitted. No condition. -/
import Derived.Test.YtlbaohefappfoaaWait
import Derived.Test.YtlbaohefappfoaaAdmit1
import Derived.Test.YtlbaohefappfoaaSound
import Derived.Test.YtlbaohefappfoaaBoundNums
import Derived.Test.YtlbaohefappfoaaDemandNums
import Derived.Test.YtlbaohefappfoaaTwo18
import Derived.Test.YtlbaohefappfoaaWaitNums
import Derived.Test.YtlbaohefappfoaaAdmitNums
import Derived.Test.YtlbaohefappfoaaLit
import Derived.Deep.LoopGhost
import Derived.Deep.QuietTactic
import Derived.BigQuiet
import Derived.Test.YtlbaohefappfoaaReg
import Derived.StillTailTactics
namespace Go.Proofs.Ytlbaohefappfoaa
open Go.ChangeShapes Go.WideShapes Go.ChangeAt Go.RowKit
set_option linter.unusedVariables false
set_option linter.unusedSimpArgs false
def RowN (w : World) (zs : List Int) (k : Bool) (e : Ending) (w' : World) : Prop := ∃ A c, e = .returned (.tuple #[.slice A zs.length c, .bool k]) ∧ IntsOk w' A c zs ∧ Below w.heap.size w w' ∧ ∀ k ∈ fp A, w.heap.size ≤ k
theorem RowN.eq {w w' : World} {zs ys : List Int} {k j : Bool} {e : Ending} (h : RowN w zs k e w') (h1 : zs = ys) (h2 : k = j) : RowN w ys j e w' := h1 ▸ h2 ▸ h

set_option maxHeartbeats 4000000 in
set_option maxRecDepth 100000 in
theorem wallN_any (s : SetR) (bs : List Int) (ba : Option Addr) (bc : Nat) (of : Int) (w : World) (hs : SetOk w s) (hB : IntsOk w ba bc bs) : Calls Try.prog 14 #[.agg #[.int .i64 s.proto, .slice s.ca s.cores.length s.cc, .slice s.ha s.homes.length s.hc, .slice s.ta s.tasks.length s.tc], .slice ba bs.length bc, .int .i64 of] w (RowN w (waitsL s bs of) (waitsK s bs of)) := by
  have hb := (Below.refl w.heap.size w).alloc (Nat.le_refl _) (.cells #[.int .i64 s.proto, .slice s.ca s.cores.length s.cc, .slice s.ha s.homes.length s.hc, .slice s.ta s.tasks.length s.tc] 25)
  have sc := SetCells.new w s 25
  have H := hs.keep (Keeps.of_below hb)
  have l3 : s.tasks.length ≤ maxLen := Nat.le_trans hs.tasks.sl.2.1 hs.tasks.sl.2.2
  unfold maxLen at l3
  by_cases e : thereB s of = true
  · have Hth := hidp e
    obtain ⟨ho, r1, r2⟩ := thereB_true.1 e
    obtain ⟨n, rfl⟩ : ∃ n : Nat, of = n := ⟨of.toNat, by omega⟩
    have hn : n < s.tasks.length := by omega
    have hg := Good.of ho
    obtain ⟨t, HT⟩ : ∃ t, Hid (s.tasks.getD n default = t) := ⟨_, rfl⟩
    have hm : t ∈ s.tasks := HT.out ▸ getD_mem hn
    have Tok := hs.tasks.ok t hm
    have Tg := hg.parts t hm
    obtain ⟨g, off, hA, hcl⟩ := hs.tasks.at_.resolve_left (by intro e; rw [e] at hn; simp at hn)
    have Ht5 := hidp ((HT.out ▸ hcl n hn).2.2.2.2.2)
    have hpl := Tg.len
    obtain ⟨gp, op, hP, hpc⟩ := Tok.at_.resolve_left (by intro e; rw [e] at hpl; simp at hpl)
    have Hpc := hidp hpc
    obtain ⟨parts, hparts⟩ : ∃ parts, t.parts = parts := ⟨_, rfl⟩
    have Hpt : Hid (partsOf s n = parts) := hidp (by unfold partsOf; simp only [Int.toNat_natCast]; rw [HT.out, hparts])
    rw [hP, hparts] at Ht5
    rw [hparts] at Hpc hpl
    obtain ⟨V, HV⟩ : ∃ V : Nat → Int, Hid (∀ k : Nat, waitV s bs n k = V k) := ⟨fun k => waitV s bs n k, hidp (fun _ => rfl)⟩
    obtain ⟨K, HK⟩ : ∃ K : Nat → Bool, Hid (∀ k : Nat, waitK s bs n k = K k) := ⟨fun k => waitK s bs n k, hidp (fun _ => rfl)⟩
    have Hpa : Hid (∀ k : Nat, partAt s n k = parts.getD k default) := hidp (fun k => by unfold partAt; have := Hpt.out; unfold partsOf at this; rw [this]; simp)
    obtain ⟨PW, HPW⟩ : ∃ f : Nat → Int, Hid (pW s bs n = f) := ⟨_, hidp rfl⟩
    obtain ⟨PK, HPK⟩ : ∃ f : Nat → Bool, Hid (pK s bs n = f) := ⟨_, hidp rfl⟩
    have HPWl : Hid (∀ k, (parts.getD k default).kind = 3 → PW k = V k ∧ PK k = K k) := hidp (fun k h => by
      rw [← HPW.out, ← HPK.out]; unfold pW pK; rw [Hpa.out, if_pos h, if_pos h, HV.out, HK.out]; exact ⟨rfl, rfl⟩)
    have HPWn : Hid (∀ k, (parts.getD k default).kind ≠ 3 → PW k = 0 ∧ PK k = true) := hidp (fun k h => by
      rw [← HPW.out, ← HPK.out]; unfold pW pK; rw [Hpa.out, if_neg h, if_neg h]; exact ⟨rfl, rfl⟩)
    have HWb : Hid (∀ k, 0 ≤ PW k ∧ PW k ≤ 3000) := hidp (fun k => by rw [← HPW.out]; exact pW_bd s bs n k)
    have Hoff : Hid (∀ k, k < parts.length → PK k = false → waitsK s bs n = false ∧ waitsL s bs n = []) := hidp (fun k hk h => waits_off (by rw [Hpt.out]; exact hk) (by rw [HPK.out]; exact h))
    have Hyes : Hid ((∀ k, k < parts.length → PK k = true) → waitsK s bs n = true ∧ waitsL s bs n = (List.range parts.length).map PW) := hidp (fun h => by
      have := waits_yes (s := s) (bs := bs) (of := n) Hth.out (by rw [Hpt.out, HPK.out]; exact h)
      rw [Hpt.out, HPW.out] at this; exact this)
    obtain ⟨RL, HRL⟩ : ∃ L, Hid (waitsL s bs n = L) := ⟨_, hidp rfl⟩
    obtain ⟨RK, HRK⟩ : ∃ L, Hid (waitsK s bs n = L) := ⟨_, hidp rfl⟩
    rw [HRL.out, HRK.out] at Hoff Hyes ⊢
    have HS1 := hidp (fun u (h : Below w.heap.size w u) => hs.keep (Keeps.of_below h))
    have HB1 := hidp (fun u (h : Below w.heap.size w u) => hB.keep (Keeps.of_below h))
    obtain ⟨S, HSS⟩ : ∃ S : SetR, Hid (S = s) := ⟨s, rfl⟩
    obtain ⟨i0, hi0, hy0, hy1, hy2⟩ := info_parts infoZ
    clear hcl hm Tok Tg hpc hP hparts hg ho HT e hs hB r1
    have dn : decide (s.tasks.length ≤ n) = false := by simp; omega
    obtain ⟨proto, ca, cc, cores, ha, hc, homes, ta, tc, tasks⟩ := s
    dsimp only at hA hn l3 r2 hb sc H dn HS1 ⊢
    subst hA
    go_enter Try.func14, Try.ntmps14
    go_wp2
    go_step3
    go_wp2_with fail
    refine (there16_any _ _ _ H).mono ?_
    rintro e w2 ⟨rfl, hb2⟩
    replace hb := hb.trans (hb2.mono hb.size)
    replace sc := sc.keep (Keeps.of_below hb2)
    clear hb2
    try clear sc_0 sc_1 sc_2 sc_3
    have scx := sc
    obtain ⟨sc_0, sc_1, sc_2, sc_3⟩ := scx
    try dsimp only at sc_0 sc_1 sc_2 sc_3
    rw [Hth.out]
    have hz0 : w.heap.size + 1 ≤ w2.heap.size := cell_lt sc_0
    have d5 := Keeps.of_below hb _ _ Ht5.out
    go_wp2
    go_step3
    go_wp2
    clear sc_0 sc_1 sc_2 sc_3 d5
    go_loopg [8, 9, 24] parts.length (fun gg a ok i wr => ∃ (k c : Nat) (A : Option Addr), k + gg = parts.length ∧ i = .int .i64 k ∧ ok = .bool true ∧ a = .slice A k c ∧ Hid (∀ j, j < k → PK j = true) ∧ OwnN (w.heap.size + 1) wr A k c ((List.range k).map PW) ∧ SetCells wr w.heap.size ⟨proto, ca, cc, cores, ha, hc, homes, some ⟨g, off, none⟩, tc, tasks⟩ ∧ Below w.heap.size w wr ∧ w.heap.size + 1 ≤ wr.heap.size)
    case atStart => exact ⟨0, 0, none, by omega, rfl, rfl, rfl, hidp (fun j hj => by omega), OwnN.none _ _, sc, hb, hz0⟩
    case round =>
      clear sc hb
      obtain ⟨k, c, A, hk, rfl, rfl, rfl, Hk, ho, sc, hw, hz⟩ := hrel
      by_cases hlt : k < parts.length
      · obtain ⟨p, HP⟩ : ∃ p, Hid (parts.getD k default = p) := ⟨_, rfl⟩
        have pcl := (HP.out ▸ Hpc.out k hlt).keep (Keeps.of_below hw)
        obtain ⟨x0, x1, x2⟩ := pcl
        have hw1 := hw.alloc hw.size (.cells #[.int .i64 p.kind, .int .i64 p.len, .int .i64 p.res] 49)
        have ho1 := ho.turned ((Turned.refl [] wr).alloc (.cells #[.int .i64 p.kind, .int .i64 p.len, .int .i64 p.res] 49)) (by simp)
        have hz1 : w.heap.size + 1 ≤ (wr.alloc (.cells #[.int .i64 p.kind, .int .i64 p.len, .int .i64 p.res] 49)).heap.size := Nat.le_trans hz (by simp)
        have sc1 := sc.keep (Keeps.alloc wr (.cells #[.int .i64 p.kind, .int .i64 p.len, .int .i64 p.res] 49))
        obtain ⟨sc_0, sc_1, sc_2, sc_3⟩ := id sc1
        dsimp only at sc_0 sc_1 sc_2 sc_3
        have N2 : Hid (k + 1 ≤ maxLen) := hidp (by unfold maxLen; omega)
        have T2 : Hid ((k + 1) * 8 ≤ 140737488355328) := hidp (by omega)
        by_cases e : p.kind = 3
        · obtain ⟨v1, v2⟩ := HPWl.out k (by rw [HP.out]; exact e)
          have e' : (p.kind == 3) = true := by simpa using e
          obtain ⟨b, Hb⟩ : ∃ b, Hid (K k = b) := ⟨_, rfl⟩
          rw [Hb.out] at v2
          obtain ⟨v, Hv⟩ : ∃ v, Hid (PW k = v) := ⟨_, rfl⟩
          rw [Hv.out] at v1
          have Hvv := hidp v1.symm
          have Hpk := hidp v2
          clear v1 v2 e
          cases b with
          | false =>
            obtain ⟨f1, f2⟩ := Hoff.out k hlt Hpk.out
            have F1 := hidp f1
            have F2 := hidp f2
            clear f1 f2
            go_wp2_with fail
            refine (wpart_any _ bs ba bc n k _ (HS1.out _ hw1) (HB1.out _ hw1)).mono ?_
            rintro e w3 ⟨rfl, hb3⟩
            rw [HV.out k, HK.out k, Hb.out]
            go_wp2_with fail
            try rw [Exit.noGoto_ret]
            go_ret2
            exact RowN.eq ⟨none, 0, rfl, nil_ints _, hw1.trans (hb3.mono hw1.size), by simp [fp]⟩ F2.out.symm F1.out.symm
          | true =>
            go_wp2_with fail
            refine (wpart_any _ bs ba bc n k _ (HS1.out _ hw1) (HB1.out _ hw1)).mono ?_
            rintro e w3 ⟨rfl, hb3⟩
            rw [HV.out k, HK.out k, Hb.out, Hvv.out]
            have hw3 := hw1.trans (hb3.mono hw1.size)
            have hown4 := ((ho1.turned (Turned.of_below hb3 []) (by simp)).turned ((Turned.refl [] w3).alloc (.cells #[.int .i64 v] 3)) (by simp))
            have S2 := hidp (Lies.newCells' w3 [.int .i64 v] 3)
            have Z2 : Hid (w.heap.size + 1 ≤ (w3.alloc (.cells #[.int .i64 v] 3)).heap.size) := hidp (Nat.le_trans hz1 (Nat.le_trans hb3.size (by simp)))
            have sc4 := (sc1.keep (Keeps.of_below hb3)).keep (Keeps.alloc _ (.cells #[.int .i64 v] 3))
            have hw4 := hw3.alloc hw3.size (.cells #[.int .i64 v] 3)
            have O2 := hidp (ints_one v)
            have Hfp := hidp (own_fp hown4.own)
            clear x0 x1 x2 sc_0 sc_1 sc_2 sc_3
            go_wp2_with (at_builtin; refine wpList_app2 _ rfl (.tmp 42) (.tmp 44) 22 rfl (w.heap.size + 1) 3 i0 _ 1 8 Try.underlying22 hi0 hy0 hy1 hy2 rfl (by decide) A k c _ rfl hown4.own _ _ 1 1 [.int .i64 v] rfl (by simp) rfl S2.out O2.out N2.out T2.out Z2.out ?_; intro A' c' w5 happ)
            go_roundg (gk - 1)
            case measure => omega
            case rel => exact ⟨k + 1, c', A', by omega, by go_num, rfl, rfl, hidp (fun j hj => by
              by_cases ej : j = k
              · subst ej; exact Hpk.out
              · exact Hk.out j (by omega)), by rw [range_snoc, Hv.out]; exact hown4.app (ps := [v]) happ rfl, sc4.turned happ.turned (fun hf => by have := (Hfp.out _ hf).1; omega), hw4.trans (happ.turned.below hw4.size (fun j hj => by have := (Hfp.out _ hj).1; omega)), Nat.le_trans Z2.out happ.turned.size⟩
        · obtain ⟨v1, v2⟩ := HPWn.out k (by rw [HP.out]; exact e)
          have e' : (p.kind == 3) = false := by simpa using e
          have Hv := hidp v1
          have Hpk := hidp v2
          clear v1 v2 e
          have hw3 := hw1
          have hown4 := ho1.turned ((Turned.refl [] (wr.alloc (.cells #[.int .i64 p.kind, .int .i64 p.len, .int .i64 p.res] 49))).alloc (.cells #[.int .i64 0] 3)) (by simp)
          have S2' := Lies.newCells' (wr.alloc (.cells #[.int .i64 p.kind, .int .i64 p.len, .int .i64 p.res] 49)) [.int .i64 0] 3
          rw [show (wr.alloc (.cells #[.int .i64 p.kind, .int .i64 p.len, .int .i64 p.res] 49)).heap.size = wr.heap.size + 1 by simp] at S2'
          have S2 := hidp S2'
          clear S2'
          have Z2 : Hid (w.heap.size + 1 ≤ ((wr.alloc (.cells #[.int .i64 p.kind, .int .i64 p.len, .int .i64 p.res] 49)).alloc (.cells #[.int .i64 0] 3)).heap.size) := hidp (Nat.le_trans hz1 (by simp))
          have sc4 := sc1.keep (Keeps.alloc _ (.cells #[.int .i64 0] 3))
          have hw4 := hw3.alloc hw3.size (.cells #[.int .i64 0] 3)
          have O2 := hidp (ints_one 0)
          have Hfp := hidp (own_fp hown4.own)
          go_wp2_with (at_builtin; refine wpList_app2 _ rfl (.tmp 42) (.tmp 44) 22 rfl (w.heap.size + 1) 3 i0 _ 1 8 Try.underlying22 hi0 hy0 hy1 hy2 rfl (by decide) A k c _ rfl hown4.own _ _ 1 1 [.int .i64 0] rfl (by simp) rfl S2.out O2.out N2.out T2.out Z2.out ?_; intro A' c' w5 happ)
          go_roundg (gk - 1)
          case measure => omega
          case rel => exact ⟨k + 1, c', A', by omega, by go_num, rfl, rfl, hidp (fun j hj => by
              by_cases ej : j = k
              · subst ej; exact Hpk.out
              · exact Hk.out j (by omega)), by rw [range_snoc, Hv.out]; exact hown4.app (ps := [0]) happ rfl, sc4.turned happ.turned (fun hf => by have := (Hfp.out _ hf).1; omega), hw4.trans (happ.turned.below hw4.size (fun j hj => by have := (Hfp.out _ hj).1; omega)), Nat.le_trans Z2.out happ.turned.size⟩
      · obtain rfl : k = parts.length := by omega
        obtain ⟨f1, f2⟩ := Hyes.out Hk.out
        have F1 := hidp f1
        have F2 := hidp f2
        have hrow := ho.ok (fun x hx => by obtain ⟨j, _, rfl⟩ := List.mem_map.1 hx; have := HWb.out j; unfold I64; omega)
        have Hr := hidp hrow
        have Hfn := hidp (own_fp ho.own)
        clear f1 f2 hrow
        go_wp2
        try rw [Exit.noGoto_ret]
        go_ret2
        exact RowN.eq ⟨A, c, by simp, Hr.out, hw, fun k hk => by have := (Hfn.out k hk).1; omega⟩ F2.out.symm F1.out.symm
  · have e : thereB s of = false := by simpa using e
    obtain ⟨k1, k2⟩ := waits_no (bs := bs) e
    have Hth := hidp e
    have F1 := hidp k1
    have F2 := hidp k2
    clear e k1 k2 hs hB
    go_enter Try.func14, Try.ntmps14
    go_wp2
    go_step3
    go_wp2_with fail
    refine (there16_any _ _ _ H).mono ?_
    rintro e w2 ⟨rfl, hb2⟩
    replace hb := hb.trans (hb2.mono hb.size)
    replace sc := sc.keep (Keeps.of_below hb2)
    clear hb2
    rw [Hth.out]
    go_wp2
    go_ret2
    exact RowN.eq ⟨none, 0, rfl, nil_ints _, hb, by simp [fp]⟩ F2.out.symm F1.out.symm

end Go.Proofs.Ytlbaohefappfoaa

namespace Go.Proofs.Ytlbaohefappfoaa
open Go.ChangeShapes Go.WideShapes Go.ChangeAt Go.RowKit
set_option linter.unusedVariables false
set_option linter.unusedSimpArgs false

set_option maxHeartbeats 4000000 in
set_option maxRecDepth 100000 in
theorem holds_any (s : SetR) (bs : List Int) (ba : Option Addr) (bc : Nat) (w : World) (hs : SetOk w s) (hB : IntsOk w ba bc bs) : Calls Try.prog 12 #[.agg #[.int .i64 s.proto, .slice s.ca s.cores.length s.cc, .slice s.ha s.homes.length s.hc, .slice s.ta s.tasks.length s.tc], .slice ba bs.length bc] w fun e w' => e = .returned (.bool (holdsV s bs)) ∧ Below w.heap.size w w' := by
  have hb := (Below.refl w.heap.size w).alloc (Nat.le_refl _) (.cells #[.int .i64 s.proto, .slice s.ca s.cores.length s.cc, .slice s.ha s.homes.length s.hc, .slice s.ta s.tasks.length s.tc] 25)
  have sc := SetCells.new w s 25
  have H := hs.keep (Keeps.of_below hb)
  have l3 : s.tasks.length ≤ maxLen := Nat.le_trans hs.tasks.sl.2.1 hs.tasks.sl.2.2
  have l4 : bs.length ≤ maxLen := Nat.le_trans hB.sl.2.1 hB.sl.2.2
  unfold maxLen at l3 l4
  obtain ⟨at0, Hat⟩ : ∃ x, Hid (chkAt s = x) := ⟨_, hidp rfl⟩
  by_cases e : chkE s = 0
  · have ho := (okS_chk s).2 e
    have e1 : (chkE s != 0) = false := by simpa using e
    by_cases e2 : bs.length = s.tasks.length
    · have d1 : ((bs.length : Int) != (s.tasks.length : Int)) = false := by simp [e2]
      have n6 := (Good.of ho).ntasks.2
      have HL := hidp e2
      obtain ⟨N, HN⟩ : ∃ f : Nat → Int, Hid (∀ k : Nat, nextV s bs k = f k) := ⟨fun k => nextV s bs k, hidp (fun _ => rfl)⟩
      obtain ⟨K, HK⟩ : ∃ f : Nat → Bool, Hid (∀ k : Nat, nextK s bs k = f k) := ⟨fun k => nextK s bs k, hidp (fun _ => rfl)⟩
      obtain ⟨R, HRd⟩ : ∃ L, Hid (holdsV s bs = L) := ⟨_, hidp rfl⟩
      obtain ⟨q, Hq⟩ : ∃ q : Nat → Bool, Hid (∀ k, holdB s bs k = q k) := ⟨fun k => holdB s bs k, hidp (fun _ => rfl)⟩
      have Hqd : Hid (∀ k, q k = (K k && (decide (N k ≤ bs.getD k 0) && (decide (1 ≤ bs.getD k 0) && decide (bs.getD k 0 ≤ (s.tasks.getD k default).dl))))) := hidp (fun k => by rw [← Hq.out, ← HN.out, ← HK.out]; rfl)
      have Hoff : Hid (∀ k, k < s.tasks.length → q k = false → R = false) := hidp (fun k hk h => by
        rw [← HRd.out]; unfold holdsV
        rw [upTo_not hk (by rw [Hq.out]; exact h), Bool.and_false, Bool.and_false])
      have Hyes : Hid ((∀ k, k < s.tasks.length → q k = true) → R = true) := hidp (fun h => by
        rw [← HRd.out]; unfold holdsV
        rw [(upTo_iff _ _).2 (fun k hk => by rw [Hq.out]; exact h k hk), ho, decide_eq_true e2]; rfl)
      have HR := hidp hs.tasks.at_
      have HBR := hidp hB.at_
      have HS1 := hidp (fun u (h : Below w.heap.size w u) => hs.keep (Keeps.of_below h))
      have HB1 := hidp (fun u (h : Below w.heap.size w u) => hB.keep (Keeps.of_below h))
      rw [HRd.out]
      obtain ⟨ce, Hce⟩ : ∃ x, Hid (chkE s = x) := ⟨_, hidp rfl⟩
      have e1' : (ce != 0) = false := by rw [← Hce.out]; exact e1
      have HC := check_any s _ H
      rw [Hat.out, Hce.out] at HC
      clear hs hB ho e e1 e2 HRd
      obtain ⟨proto, ca, cc, cores, ha, hc, homes, ta, tc, tasks⟩ := s
      dsimp only at HR hb sc H d1 n6 l3 HL Hoff Hyes HS1 Hqd HC ⊢
      go_enter Try.func12, Try.ntmps12
      go_wp2_with fail
      refine HC.mono ?_
      rintro e w2 ⟨rfl, hb2⟩
      replace hb := hb.trans (hb2.mono hb.size)
      replace sc := sc.keep (Keeps.of_below hb2)
      clear hb2 HC H
      obtain ⟨sc_0, sc_1, sc_2, sc_3⟩ := id sc
      dsimp only at sc_0 sc_1 sc_2 sc_3
      go_wp2_with fail
      clear sc_0 sc_1 sc_2 sc_3
      go_loopg [29] tasks.length (fun gg i wr => ∃ k : Nat, k + gg = tasks.length ∧ i = .int .i64 k ∧ Hid (∀ j, j < k → q j = true) ∧ SetCells wr w.heap.size ⟨proto, ca, cc, cores, ha, hc, homes, ta, tc, tasks⟩ ∧ Below w.heap.size w wr)
      case atStart => exact ⟨0, by omega, rfl, hidp (fun j hj => by omega), sc, hb⟩
      case round =>
        clear hb sc
        obtain ⟨k, hk, rfl, Hk, sc, hw⟩ := hrel
        by_cases hlt : k < tasks.length
        · obtain ⟨g, off, hA, hcl⟩ := HR.out.resolve_left (by intro e; rw [e] at hlt; simp at hlt)
          subst hA
          have hkb : k < bs.length := by rw [HL.out]; exact hlt
          obtain ⟨gb, ob, hBA, hbl⟩ := HBR.out.resolve_left (by intro e; rw [e] at hkb; simp at hkb)
          subst hBA
          obtain ⟨t, HT⟩ : ∃ t, Hid (tasks.getD k default = t) := ⟨_, rfl⟩
          obtain ⟨x, Hx⟩ : ∃ x, Hid (bs.getD k 0 = x) := ⟨_, rfl⟩
          obtain ⟨d0, d1', d2, d3, d4, d5⟩ := (HT.out ▸ hcl k hlt).keep (Keeps.of_below hw)
          have Hbc := hidp (Hx.out ▸ hbl k hkb)
          have hw1 := hw.alloc hw.size (.cells #[.string t.name, .int .i64 t.per, .int .i64 t.dl, .int .i64 t.prio, .int .i64 t.cl, .slice t.pa t.parts.length t.pc] 42)
          have sc1 := sc.keep (Keeps.alloc wr (.cells #[.string t.name, .int .i64 t.per, .int .i64 t.dl, .int .i64 t.prio, .int .i64 t.cl, .slice t.pa t.parts.length t.pc] 42))
          have tb := TaskBox.new wr t 42
          obtain ⟨sc_0, sc_1, sc_2, sc_3⟩ := id sc1
          dsimp only at sc_0 sc_1 sc_2 sc_3
          obtain ⟨v, Hv⟩ : ∃ v, Hid (N k = v) := ⟨_, hidp rfl⟩
          obtain ⟨b, Hb⟩ : ∃ v, Hid (K k = v) := ⟨_, hidp rfl⟩
          have Hqk : Hid (q k = (b && (decide (v ≤ x) && (decide (1 ≤ x) && decide (x ≤ t.dl))))) := hidp (by rw [Hqd.out, Hv.out, Hb.out, Hx.out, HT.out])
          have HX := next_any ⟨proto, ca, cc, cores, ha, hc, homes, some ⟨g, off, none⟩, tc, tasks⟩ bs _ bc k _ (HS1.out _ hw1) (HB1.out _ hw1)
          rw [HN.out, HK.out, Hv.out, Hb.out] at HX
          have kI : (k : Int) < (bs.length : Int) := by omega
          clear hcl hbl hw sc
          go_wp2_with fail
          refine HX.mono ?_
          rintro e w3 ⟨rfl, hb3⟩
          replace hw1 := hw1.trans (hb3.mono hw1.size)
          replace sc1 := sc1.keep (Keeps.of_below hb3)
          replace tb := tb.keep (Keeps.of_below hb3)
          clear hb3 d0 d1' d2 d3 d4 d5 sc_0 sc_1 sc_2 sc_3 HX
          obtain ⟨d0, d1', d2, d3, d4, d5⟩ := id tb
          have cb := Keeps.of_below hw1 _ _ Hbc.out
          cases b with
          | false =>
            have Hz := hidp (Hoff.out k hlt (by rw [Hqk.out]; rfl))
            go_wp2_with fail
            go_quiet (fail)
            go_wp2_with fail
            go_ret
            exact ⟨ret_bool Hz.out.symm, below_drewN hw1 _⟩
          | true =>
            by_cases c1 : x < v
            · have Hz := hidp (Hoff.out k hlt (by rw [Hqk.out]; simp; omega))
              go_wp2_with fail
              go_quiet (fail)
              go_wp2_with fail
              go_ret
              exact ⟨ret_bool Hz.out.symm, below_drewN hw1 _⟩
            · have c1' : decide (x < v) = false := by simpa using c1
              by_cases c2 : x < 1
              · have Hz := hidp (Hoff.out k hlt (by rw [Hqk.out]; simp; omega))
                go_wp2_with fail
                go_quiet (fail)
                go_wp2_with fail
                go_ret
                exact ⟨ret_bool Hz.out.symm, below_drewN hw1 _⟩
              · have c2' : decide (x < 1) = false := by simpa using c2
                by_cases c3 : t.dl < x
                · have Hz := hidp (Hoff.out k hlt (by rw [Hqk.out]; simp; omega))
                  go_wp2_with fail
                  go_quiet (fail)
                  go_wp2_with fail
                  go_ret
                  exact ⟨ret_bool Hz.out.symm, below_drewN hw1 _⟩
                · have c3' : decide (t.dl < x) = false := by simpa using c3
                  have Hk2 : Hid (∀ j, j < k + 1 → q j = true) := hidp (fun j hj => by
                    by_cases ej : j = k
                    · subst ej; rw [Hqk.out]; simp; omega
                    · exact Hk.out j (by omega))
                  clear c1 c2 c3
                  go_wp2_with fail
                  go_quiet (fail)
                  go_wp2_with fail
                  go_roundg (gk - 1)
                  case measure => omega
                  case rel => exact ⟨k + 1, by omega, by go_num, Hk2, sc1.keep (Keeps.drewN _ _), below_drewN hw1 _⟩
        · obtain rfl : k = tasks.length := by omega
          have Hz := hidp (Hyes.out Hk.out)
          go_wp2
          go_ret
          exact ⟨ret_bool Hz.out.symm, hw⟩
    · have d1 : ((bs.length : Int) != (s.tasks.length : Int)) = true := by simp; omega
      have Hz : Hid (holdsV s bs = false) := hidp (by unfold holdsV; rw [decide_eq_false e2, Bool.false_and, Bool.and_false])
      clear e2
      go_enter Try.func12, Try.ntmps12
      go_wp2_with fail
      refine (check_any s _ H).mono ?_
      rintro e w2 ⟨rfl, hb2⟩
      replace hb := hb.trans (hb2.mono hb.size)
      replace sc := sc.keep (Keeps.of_below hb2)
      clear hb2
      try clear sc_0 sc_1 sc_2 sc_3
      have scx := sc
      obtain ⟨sc_0, sc_1, sc_2, sc_3⟩ := scx
      try dsimp only at sc_0 sc_1 sc_2 sc_3
      go_wp2_with fail
      go_ret
      exact ⟨ret_bool Hz.out.symm, hb⟩
  · have Hz : Hid (holdsV s bs = false) := hidp (by
      have : okS s = false := by rw [Bool.eq_false_iff]; intro h; exact e ((okS_chk s).1 h)
      unfold holdsV; rw [this]; rfl)
    have e1 : (chkE s != 0) = true := by simpa using e
    clear e
    go_enter Try.func12, Try.ntmps12
    go_wp2_with fail
    refine (check_any s _ H).mono ?_
    rintro e w2 ⟨rfl, hb2⟩
    replace hb := hb.trans (hb2.mono hb.size)
    replace sc := sc.keep (Keeps.of_below hb2)
    clear hb2
    try clear sc_0 sc_1 sc_2 sc_3
    have scx := sc
    obtain ⟨sc_0, sc_1, sc_2, sc_3⟩ := scx
    try dsimp only at sc_0 sc_1 sc_2 sc_3
    go_wp2_with fail
    go_ret
    exact ⟨ret_bool Hz.out.symm, hb⟩
end Go.Proofs.Ytlbaohefappfoaa

namespace Go.Proofs.Ytlbaohefappfoaa
open Go.ChangeShapes Go.WideShapes Go.ChangeAt Go.RowKit
set_option linter.unusedVariables false
set_option linter.unusedSimpArgs false

structure RowR where
  a : Option Addr
  c : Nat
  zs : List Int
instance : Inhabited RowR := ⟨⟨none, 0, []⟩⟩
def RowR.val (r : RowR) : Value := .slice r.a r.zs.length r.c
def rowsC (rs : List RowR) : List Value := rs.map RowR.val
def RowsAt (w : World) (a : Option Addr) (rs : List RowR) : Prop :=
  rs = [] ∨ ∃ b off, a = some ⟨b, off, none⟩ ∧ ∀ i, i < rs.length → w.cell? ⟨b, off + i, none⟩ = some (rs.getD i default).val
theorem RowsAt.keep {w w' : World} {a : Option Addr} {rs : List RowR} (h : RowsAt w a rs) (k : Keeps w w') : RowsAt w' a rs := by
  rcases h with h | ⟨b, off, e, h⟩
  · exact .inl h
  · exact .inr ⟨b, off, e, fun i hi => k _ _ (h i hi)⟩
theorem rows_lie {B : Nat} {w : World} {a : Option Addr} {rs : List RowR} (h : Lies B w a (rowsC rs)) : RowsAt w a rs := by
  rcases h with h | ⟨b, off, e, _, hc⟩
  · exact .inl (by simpa [rowsC] using h)
  · exact .inr ⟨b, off, e, fun i hi => hc i _ (by simp [rowsC, List.getD, hi])⟩
theorem infoI : (Try.prog.info? 22).map (fun i => (i.zero, i.size, i.bytes)) = some (some (.slice none 0 0), 1, 24) := by kernel_rfl
structure OwnS (B : Nat) (w : World) (A : Option Addr) (n c : Nat) (rs : List RowR) : Prop where
  own : w.ownsRow B 22 1 (.slice A n c) n (rowsC rs)
  len : n = rs.length
  cap : n ≤ c ∧ c ≤ maxLen
  nil : A = none → n = 0 ∧ c = 0
theorem OwnS.none (B : Nat) (w : World) : OwnS B w none 0 0 [] := ⟨World.ownsRow_nil _ _ _ _, rfl, by decide, fun _ => ⟨rfl, rfl⟩⟩
theorem OwnS.app {B : Nat} {w w1 w2 : World} {A A' : Option Addr} {n c c' : Nat} {rs ps : List RowR} {m : Nat} (h : OwnS B w A n c rs) (ha : App B 22 1 w1 A A' (n + m) c' (rowsC rs ++ rowsC ps) w2) (hm : m = ps.length) : OwnS B w2 A' (n + m) c' (rs ++ ps) :=
  ⟨by unfold rowsC; rw [List.map_append]; exact ha.own, by rw [List.length_append, h.len, hm], ha.cap, ha.nil⟩
theorem OwnS.turned {B : Nat} {F : List Nat} {w w' : World} {A : Option Addr} {n c : Nat} {rs : List RowR} (h : OwnS B w A n c rs) (ht : Turned F w w') (hF : ∀ k ∈ fp A, k ∉ F) : OwnS B w' A n c rs := ⟨own_turned h.own ht hF, h.len, h.cap, h.nil⟩
theorem OwnS.at_ {B : Nat} {w : World} {A : Option Addr} {n c : Nat} {rs : List RowR} (h : OwnS B w A n c rs) : RowsAt w A rs := rows_lie (Lies.of_own h.own)
theorem rows_one (r : RowR) : ∀ u ∈ rowsC [r], u.oneCell' = true := fun u hu => by simp [rowsC] at hu; subst hu; rfl
/-- a verdict -/
structure VerdR where
  ok : Bool
  ba : Option Addr
  bc : Nat
  bounds : List Int
  wa : Option Addr
  wc : Nat
  rows : List RowR
structure VerdOk (w : World) (v : VerdR) : Prop where
  bounds : IntsOk w v.ba v.bc v.bounds
  sl : SlOk v.wa v.rows.length v.wc
  at_ : RowsAt w v.wa v.rows
  rows : ∀ r ∈ v.rows, IntsOk w r.a r.c r.zs
theorem VerdOk.keep {w w' : World} {v : VerdR} (h : VerdOk w v) (k : Keeps w w') : VerdOk w' v := ⟨h.bounds.keep k, h.sl, h.at_.keep k, fun r hr => (h.rows r hr).keep k⟩
theorem VerdOk.none (w : World) : VerdOk w ⟨false, none, 0, [], none, 0, []⟩ := ⟨nil_ints w, ⟨fun _ => ⟨rfl, rfl⟩, by decide, by decide⟩, .inl rfl, by simp⟩
def AnPost (w : World) (s : SetR) (e : Ending) (w' : World) : Prop :=
  (∃ v : VerdR, e = .returned (.tuple #[.agg #[.bool v.ok, .slice v.ba v.bounds.length v.bc, .slice v.wa v.rows.length v.wc], .int .i64 (anE s)]) ∧ VerdOk w' v ∧ v.ok = decide (anE s = 0) ∧ v.bounds = anB s ∧ v.rows.map RowR.zs = anW s) ∧ Below w.heap.size w w'
theorem v3_turned (w : World) (g : Nat) (v0 v1 v2 : Value) : Turned [g] w (((w.setCell ⟨g, 0, none⟩ v0).setCell ⟨g, 1, none⟩ v1).setCell ⟨g, 2, none⟩ v2) :=
  (((Turned.refl [g] w).setCell (.inl (by simp)) _).setCell (.inl (by simp)) _).setCell (.inl (by simp)) _
theorem v3_bk {w : World} {g : Nat} {t : TypeId} {c0 c1 c2 v0 v1 v2 : Value} (h : Bk w g t #[c0, c1, c2]) : Bk (((w.setCell ⟨g, 0, none⟩ v0).setCell ⟨g, 1, none⟩ v1).setCell ⟨g, 2, none⟩ v2) g t #[v0, v1, v2] := by
  have := ((h.put 0 v0).put 1 v1).put 2 v2
  simpa using this
theorem Y3 {w : World} {g : Nat} {t : TypeId} {c0 c1 c2 : Value} (h : Bk w g t #[c0, c1, c2]) : w.cell? ⟨g, 0, none⟩ = some c0 ∧ w.cell? ⟨g, 1, none⟩ = some c1 ∧ w.cell? ⟨g, 2, none⟩ = some c2 := ⟨h.cell 0, h.cell 1, h.cell 2⟩
theorem YF3 {w : World} {g : Nat} {t : TypeId} {cs : Array Value} (h : Bk w g t cs) : w.frozen? ⟨g, 0, none⟩ = false ∧ w.frozen? ⟨g, 1, none⟩ = false ∧ w.frozen? ⟨g, 2, none⟩ = false := ⟨h.frozen 0, h.frozen 1, h.frozen 2⟩
/-- a row of numbers doesn't lie in a block without numbers -/
theorem IntsOk.other {w w' : World} {a : Option Addr} {c g : Nat} {t : TypeId} {zs : List Int} {c0 c1 c2 : Value} (h : IntsOk w a c zs) (hb : Bk w g t #[c0, c1, c2]) (h0 : ∀ z, c0 ≠ .int .i64 z) (h1 : ∀ z, c1 ≠ .int .i64 z) (h2 : ∀ z, c2 ≠ .int .i64 z) (ht : Turned [g] w w') : IntsOk w' a c zs := by
  refine ⟨h.sl, ?_, h.wf⟩
  rcases h.at_ with e | ⟨b, off, e, hc⟩
  · exact .inl e
  · by_cases hz : zs = []
    · exact .inl hz
    · have hp : 0 < zs.length := List.length_pos_iff.2 hz
      have hbg : b ≠ g := fun e2 => by
        subst e2
        have := hc 0 hp
        rw [Nat.add_zero, hb.cell off] at this
        match off, this with
        | 0, this => simp at this; exact h0 _ this
        | 1, this => simp at this; exact h1 _ this
        | 2, this => simp at this; exact h2 _ this
        | off + 3, this => simp at this
      exact .inr ⟨b, off, e, fun j hj => ht.cell (hc j hj) (by simpa using hbg)⟩
theorem IntsOk.turned2 {F : List Nat} {w w' : World} {a : Option Addr} {c : Nat} {zs : List Int} (h : IntsOk w a c zs) (ht : Turned F w w') (hF : zs = [] ∨ ∀ k ∈ fp a, k ∉ F) : IntsOk w' a c zs := by
  rcases hF with e | hF
  · exact ⟨h.sl, .inl e, h.wf⟩
  · exact h.turned ht hF

set_option maxHeartbeats 4000000 in
set_option maxRecDepth 100000 in
theorem analyze_any (s : SetR) (w : World) (hs : SetOk w s) : Calls Try.prog 10 #[.agg #[.int .i64 s.proto, .slice s.ca s.cores.length s.cc, .slice s.ha s.homes.length s.hc, .slice s.ta s.tasks.length s.tc]] w (AnPost w s) := by
  have hb := ((Below.refl w.heap.size w).alloc (Nat.le_refl _) (.cells #[.int .i64 s.proto, .slice s.ca s.cores.length s.cc, .slice s.ha s.homes.length s.hc, .slice s.ta s.tasks.length s.tc] 25)).alloc (by simp) (.cells #[.bool false, .slice none 0 0, .slice none 0 0] 31)
  have sc := (SetCells.new w s 25).keep (Keeps.alloc _ (.cells #[.bool false, .slice none 0 0, .slice none 0 0] 31))
  have bk := Bk.at_ (w := w.alloc (.cells #[.int .i64 s.proto, .slice s.ca s.cores.length s.cc, .slice s.ha s.homes.length s.hc, .slice s.ta s.tasks.length s.tc] 25)) (g := w.heap.size + 1) (t := 31) (cs := #[.bool false, .slice none 0 0, .slice none 0 0]) (by simp) rfl
  have hz0 : w.heap.size + 1 < ((w.alloc (.cells #[.int .i64 s.proto, .slice s.ca s.cores.length s.cc, .slice s.ha s.homes.length s.hc, .slice s.ta s.tasks.length s.tc] 25)).alloc (.cells #[.bool false, .slice none 0 0, .slice none 0 0] 31)).heap.size := by simp
  have H := hs.keep (Keeps.of_below hb)
  have l3 : s.tasks.length ≤ maxLen := Nat.le_trans hs.tasks.sl.2.1 hs.tasks.sl.2.2
  unfold maxLen at l3
  obtain ⟨at0, Hat⟩ : ∃ x, Hid (chkAt s = x) := ⟨_, hidp rfl⟩
  obtain ⟨ce, Hce⟩ : ∃ x, Hid (chkE s = x) := ⟨_, hidp rfl⟩
  have HC := check_any s _ H
  rw [Hat.out, Hce.out] at HC
  by_cases e : chkE s = 0
  · have ho := (okS_chk s).2 e
    have Ho := hidp ho
    have e1 : (ce != 0) = false := by rw [← Hce.out]; simpa using e
    have n6 := (Good.of ho).ntasks.2
    obtain ⟨L, HL⟩ : ∃ l, Hid ((settle s).1 = l) := ⟨_, hidp rfl⟩
    obtain ⟨se, Hse⟩ : ∃ l, Hid ((settle s).2 = l) := ⟨_, hidp rfl⟩
    have HanE : Hid (anE s = se) := hidp (by unfold anE; rw [if_pos e, Hse.out])
    have HS := fun u h => settled18_any s u h ho
    rw [HL.out, Hse.out] at HS
    have HS1 := hidp (fun u (h : Below w.heap.size w u) => hs.keep (Keeps.of_below h))
    clear hs ho e
    by_cases es : se = 0
    · have HB : Hid (anB s = L) := hidp (by unfold anB; rw [HanE.out, if_pos es, HL.out])
      have HW : Hid (anW s = (List.range s.tasks.length).map (fun i : Nat => waitsL s L i)) := hidp (by unfold anW; rw [HanE.out, if_pos es, HL.out])
      have es1 : (se != 0) = false := by simpa using es
      have Hes := hidp es
      obtain ⟨wl, Hwl⟩ : ∃ f : Nat → List Int, Hid (∀ k : Nat, waitsL s L k = f k) := ⟨fun k => waitsL s L k, hidp (fun _ => rfl)⟩
      obtain ⟨wk, Hwk⟩ : ∃ f : Nat → Bool, Hid (∀ k : Nat, waitsK s L k = f k) := ⟨fun k => waitsK s L k, hidp (fun _ => rfl)⟩
      obtain ⟨i1, hi0, hy0, hy1, hy2⟩ := info_parts infoI
      obtain ⟨S, HSS⟩ : ∃ S : SetR, Hid (S = s) := ⟨s, hidp rfl⟩
      clear es
      go_enter Try.func10, Try.ntmps10
      go_wp2_with fail
      refine HC.mono ?_
      rintro e w2 ⟨rfl, hb2⟩
      replace hb := hb.trans (hb2.mono hb.size)
      replace sc := sc.keep (Keeps.of_below hb2)
      replace bk := bk.below hb2
      replace hz0 := Nat.lt_of_lt_of_le hz0 hb2.size
      replace H := H.keep (Keeps.of_below hb2)
      clear hb2 HC
      obtain ⟨sc_0, sc_1, sc_2, sc_3⟩ := id sc
      go_wp2_with fail
      refine (HS _ H).mono ?_
      rintro e w4 ⟨A, c, rfl, hA, hb2⟩
      replace hb := hb.trans (hb2.mono hb.size)
      replace sc := sc.keep (Keeps.of_below hb2)
      replace bk := bk.below hb2
      replace hz0 := Nat.lt_of_lt_of_le hz0 hb2.size
      clear hb2 H HS sc_0 sc_1 sc_2 sc_3
      have hB0 := (Below.refl w4.heap.size w4).alloc (Nat.le_refl _) (.cells #[.bool true, .slice A L.length c, .slice none 0 0] 31)
      have bv := Bk.new w4 31 #[.bool true, .slice A L.length c, .slice none 0 0]
      have hz1 : w4.heap.size + 1 ≤ (w4.alloc (.cells #[.bool true, .slice A L.length c, .slice none 0 0] 31)).heap.size := by simp
      have HA := hidp hA
      have HSC := hidp sc
      have HBK := hidp bk
      have HB4 := hidp hb
      have sc1 := sc.keep (Keeps.alloc w4 (.cells #[.bool true, .slice A L.length c, .slice none 0 0] 31))
      obtain ⟨sc_0, sc_1, sc_2, sc_3⟩ := id sc1
      have hz2 := hz0
      clear hA sc bk hb sc1 hz0
      go_wp2_with fail
      clear sc_0 sc_1 sc_2 sc_3
      go_loopg [35] s.tasks.length (fun gg i wr => ∃ (k d : Nat) (W : Option Addr) (rs : List RowR), k + gg = s.tasks.length ∧ i = .int .i64 k ∧ Hid (rs.map RowR.zs = (List.range k).map wl) ∧ OwnS (w4.heap.size + 1) wr W k d rs ∧ (∀ r ∈ rs, IntsOk wr r.a r.c r.zs) ∧ (∀ r ∈ rs, r.zs = [] ∨ ∀ x ∈ fp r.a, w4.heap.size + 1 ≤ x ∧ x < wr.heap.size ∧ x ∉ fp W) ∧ Bk wr w4.heap.size 31 #[.bool true, .slice A L.length c, .slice W k d] ∧ Below w4.heap.size w4 wr ∧ w4.heap.size + 1 ≤ wr.heap.size)
      case atStart => exact ⟨0, 0, none, [], by omega, rfl, hidp rfl, OwnS.none _ _, by simp, by simp, bv, hB0, hz1⟩
      case round =>
        clear bv hB0 hz1
        obtain ⟨k, d, W, rs, hk, rfl, Hm, oW, hro, hap, bv, hB, hz⟩ := hrel
        have hw : Below w.heap.size w wr := HB4.out.trans (hB.mono HB4.out.size)
        by_cases hlt : k < s.tasks.length
        · have sc := HSC.out.keep (Keeps.of_below hB)
          obtain ⟨sc_0, sc_1, sc_2, sc_3⟩ := id sc
          obtain ⟨y0, y1, y2⟩ := Y3 bv
          have HX := wallN_any s L A c k _ (HS1.out _ hw) (HA.out.keep (Keeps.of_below hB))
          rw [Hwl.out, Hwk.out] at HX
          obtain ⟨zs, Hzs⟩ : ∃ l, Hid (wl k = l) := ⟨_, hidp rfl⟩
          obtain ⟨zk, Hzk⟩ : ∃ l, Hid (wk k = l) := ⟨_, hidp rfl⟩
          rw [Hzs.out, Hzk.out] at HX
          have Hrs : Hid (rs.length = k) := hidp oW.len.symm
          go_wp2_with fail
          refine HX.mono ?_
          rintro e w5 ⟨a', c', rfl, hR, hb3, hfr⟩
          have hF : ∀ x ∈ fp a', x ∉ fp W := fun x hx hx2 => by have := hfr x hx; have := (own_fp oW.own x hx2).2; omega
          have hlt5 : ∀ x ∈ fp a', zs ≠ [] → x < w5.heap.size := fun x hx hz => by
            rcases hR.at_ with e | ⟨b, off, e, hc⟩
            · exact absurd e hz
            · subst e; simp [fp] at hx; subst hx; exact cell_lt (hc 0 (List.length_pos_iff.2 hz))
          have HR5 := hidp hR
          have HF5 := hidp hF
          have HL5 := hidp hlt5
          have Hfr := hidp hfr
          have hs5 := hb3.size
          have oW6 := (oW.turned (Turned.of_below hb3 []) (by simp)).turned ((Turned.refl [] w5).alloc (.cells #[.slice a' zs.length c'] 22)) (by simp)
          have S2 := hidp (Lies.newCells' w5 [.slice a' zs.length c'] 22)
          have Z2 : Hid (w4.heap.size + 1 ≤ (w5.alloc (.cells #[.slice a' zs.length c'] 22)).heap.size) := hidp (Nat.le_trans hz (Nat.le_trans hs5 (by simp)))
          have O2 := hidp (rows_one ⟨a', c', zs⟩)
          have N2 : Hid (k + 1 ≤ maxLen) := hidp (by unfold maxLen; omega)
          have T2 : Hid ((k + 1) * 24 ≤ 140737488355328) := hidp (by omega)
          have Hfp := hidp (own_fp oW.own)
          have bv5 := bv.below hb3
          have bv6 := bv5.alloc (.cells #[.slice a' zs.length c'] 22)
          have hB6 := (hB.trans (hb3.mono hB.size)).alloc (hB.trans (hb3.mono hB.size)).size (.cells #[.slice a' zs.length c'] 22)
          have Hb3 := hidp hb3
          clear y0 y1 y2 sc_0 sc_1 sc_2 sc_3 sc HX hR hF hlt5 hfr hb3 oW bv hB
          obtain ⟨y0, y1, y2⟩ := Y3 bv5
          go_wp2_with (at_builtin; refine wpList_app2 _ rfl (.tmp 46) (.tmp 48) 29 rfl (w4.heap.size + 1) 22 i1 _ 1 24 Try.underlying29 hi0 hy0 hy1 hy2 rfl (by decide) W k d _ rfl oW6.own _ _ 1 1 [.slice a' zs.length c'] rfl (by simp) rfl S2.out O2.out N2.out T2.out Z2.out ?_; intro W' d' w7 happ; have D7 := bv6.turned happ.turned (fun hf => by have := (Hfp.out _ hf).1; omega); obtain ⟨x0, x1, x2⟩ := Y3 D7; obtain ⟨f0, f1, f2⟩ := YF3 D7)
          go_roundg (gk - 1)
          case measure => omega
          case rel =>
            have TS := (Turned.refl [w4.heap.size] w7).setCell (p := ⟨w4.heap.size, 2, none⟩) (.inl (by simp)) (.slice W' (k + 1) d')
            have hs7 := happ.turned.size
            have hs6 : w5.heap.size + 1 = (w5.alloc (.cells #[.slice a' zs.length c'] 22)).heap.size := by simp
            refine ⟨k + 1, d', W', rs ++ [⟨a', c', zs⟩], by omega, by go_num, hidp (by rw [List.map_append, Hm.out, List.range_succ, List.map_append]; simp [Hzs.out]), (oW6.app (ps := [⟨a', c', zs⟩]) happ rfl).turned TS (fun j hj => by
              rcases happ.fps j hj with h | h
              · have := (Hfp.out j h).1; simp; omega
              · simp; omega), fun r hr => ?_, fun r hr => ?_, D7.put 2 (.slice W' (k + 1) d'), (hB6.trans (happ.turned.below hB6.size (fun j hj => by have := (Hfp.out j hj).1; omega))).trans (TS.below (Nat.le_trans hB6.size hs7) (by simp)), Nat.le_trans (Nat.le_trans Z2.out hs7) TS.size⟩
            · rcases List.mem_append.1 hr with hm | hm
              · refine (IntsOk.turned2 (((hro r hm).keep (Keeps.of_below Hb3.out)).keep (Keeps.alloc _ _)) happ.turned ?_).turned2 TS ?_
                · rcases hap r hm with e | e
                  · exact .inl e
                  · exact .inr (fun j hj => (e j hj).2.2)
                · rcases hap r hm with e | e
                  · exact .inl e
                  · exact .inr (fun j hj => by have := (e j hj).1; simp; omega)
              · simp only [List.mem_cons, List.not_mem_nil, or_false] at hm
                subst hm
                refine (IntsOk.turned2 (HR5.out.keep (Keeps.alloc _ _)) happ.turned (.inr HF5.out)).turned2 TS (.inr (fun j hj => by have := Hfr.out j hj; simp; omega))
            · rcases List.mem_append.1 hr with hm | hm
              · rcases hap r hm with e | e
                · exact .inl e
                · refine .inr (fun x hx => ⟨(e x hx).1, ?_, fun hf => ?_⟩)
                  · have := (e x hx).2.1; have := TS.size; omega
                  · rcases happ.fps x hf with h | h
                    · exact (e x hx).2.2 h
                    · have := (e x hx).2.1; omega
              · simp only [List.mem_cons, List.not_mem_nil, or_false] at hm
                subst hm
                by_cases ez : zs = []
                · exact .inl ez
                · refine .inr (fun x hx => ⟨by have := Hfr.out x hx; omega, ?_, fun hf => ?_⟩)
                  · have := HL5.out x hx ez; have := TS.size; omega
                  · rcases happ.fps x hf with h | h
                    · exact HF5.out x hx h
                    · have := HL5.out x hx ez; omega
        · have hkn : k = s.tasks.length := by omega
          have bkr := HBK.out.below hB
          obtain ⟨y0, y1, y2⟩ := Y3 bv
          obtain ⟨z0, z1, z2⟩ := Y3 bkr
          obtain ⟨f0, f1, f2⟩ := YF3 bkr
          have hkI : (k : Int) = (s.tasks.length : Int) := by omega
          have hAr := HA.out.keep (Keeps.of_below hB)
          have Hrl := hidp (oW.len)
          have Hkn := hidp hkn
          clear hkn hkI
          go_wp2_with fail
          have PB := v3_bk bkr (v0 := .bool true) (v1 := .slice A L.length c) (v2 := .slice W k d)
          have PT := v3_turned wr (w.heap.size + 1) (.bool true) (.slice A L.length c) (.slice W k d)
          obtain ⟨x0, x1, x2⟩ := Y3 PB
          have hbe := hw.trans (PT.below hw.size (by simp))
          refine bodyPost_ret (v := .tuple #[.agg #[.bool true, .slice A L.length c, .slice W k d], .int .i64 0]) (by simp [results, Try.results10, go_sem, x0, x1, x2]) rfl ⟨⟨⟨true, A, c, L, W, d, rs⟩, ?_, ⟨hAr.other bkr (fun z h => by cases h) (fun z h => by cases h) (fun z h => by cases h) PT, ?_, ?_, fun r hr => (hro r hr).other bkr (fun z h => by cases h) (fun z h => by cases h) (fun z h => by cases h) PT⟩, ?_, HB.out.symm, ?_⟩, hbe⟩
          · rw [HanE.out, Hes.out, ← Hrl.out]
          · show SlOk W rs.length d
            rw [← Hrl.out]; exact ⟨oW.nil, oW.cap⟩
          · exact (oW.turned PT (fun j hj => by have := (own_fp oW.own j hj).1; simp; omega)).at_
          · rw [HanE.out, Hes.out]; rfl
          · rw [HW.out, Hm.out, Hkn.out]
            exact (List.map_congr_left (fun i _ => Hwl.out i)).symm
    · have es1 : (se != 0) = true := by simpa using es
      have HB : Hid (anB s = []) := hidp (by unfold anB; rw [HanE.out, if_neg es])
      have HW : Hid (anW s = []) := hidp (by unfold anW; rw [HanE.out, if_neg es])
      have Hok : Hid (decide (anE s = 0) = false) := hidp (by rw [HanE.out]; simpa using es)
      clear es
      go_enter Try.func10, Try.ntmps10
      go_wp2_with fail
      refine HC.mono ?_
      rintro e w2 ⟨rfl, hb2⟩
      replace hb := hb.trans (hb2.mono hb.size)
      replace sc := sc.keep (Keeps.of_below hb2)
      replace bk := bk.below hb2
      replace H := H.keep (Keeps.of_below hb2)
      clear hb2 HC
      obtain ⟨sc_0, sc_1, sc_2, sc_3⟩ := id sc
      go_wp2_with fail
      refine (HS _ H).mono ?_
      rintro e w4 ⟨A, c, rfl, hA, hb2⟩
      replace hb := hb.trans (hb2.mono hb.size)
      replace bk := bk.below hb2
      obtain ⟨z0, z1, z2⟩ := Y3 bk
      obtain ⟨f0, f1, f2⟩ := YF3 bk
      clear hb2 hA sc_0 sc_1 sc_2 sc_3
      go_wp2_with fail
      have PB := v3_bk bk (v0 := .bool false) (v1 := .slice none 0 0) (v2 := .slice none 0 0)
      have PT := v3_turned w4 (w.heap.size + 1) (.bool false) (.slice none 0 0) (.slice none 0 0)
      obtain ⟨x0, x1, x2⟩ := Y3 PB
      have hbe := hb.trans (PT.below hb.size (by simp))
      exact bodyPost_ret (v := .tuple #[.agg #[.bool false, .slice none 0 0, .slice none 0 0], .int .i64 se]) (by simp [results, Try.results10, go_sem, x0, x1, x2]) rfl ⟨⟨⟨false, none, 0, [], none, 0, []⟩, by rw [HanE.out]; rfl, VerdOk.none _, Hok.out.symm, HB.out.symm, HW.out.symm⟩, hbe⟩
  · have e1 : (ce != 0) = true := by rw [← Hce.out]; simpa using e
    have HanE : Hid (anE s = ce) := hidp (by unfold anE; rw [if_neg e, Hce.out])
    have hne : ¬ anE s = 0 := by rw [HanE.out, ← Hce.out]; exact e
    have HB : Hid (anB s = []) := hidp (by unfold anB; rw [if_neg hne])
    have HW : Hid (anW s = []) := hidp (by unfold anW; rw [if_neg hne])
    have Hok : Hid (decide (anE s = 0) = false) := hidp (by simpa using hne)
    clear e hne
    go_enter Try.func10, Try.ntmps10
    go_wp2_with fail
    refine HC.mono ?_
    rintro e w2 ⟨rfl, hb2⟩
    replace hb := hb.trans (hb2.mono hb.size)
    replace bk := bk.below hb2
    obtain ⟨z0, z1, z2⟩ := Y3 bk
    obtain ⟨f0, f1, f2⟩ := YF3 bk
    clear hb2 HC
    go_wp2_with fail
    have PB := v3_bk bk (v0 := .bool false) (v1 := .slice none 0 0) (v2 := .slice none 0 0)
    have PT := v3_turned w2 (w.heap.size + 1) (.bool false) (.slice none 0 0) (.slice none 0 0)
    obtain ⟨x0, x1, x2⟩ := Y3 PB
    have hbe := hb.trans (PT.below hb.size (by simp))
    exact bodyPost_ret (v := .tuple #[.agg #[.bool false, .slice none 0 0, .slice none 0 0], .int .i64 ce]) (by simp [results, Try.results10, go_sem, x0, x1, x2]) rfl ⟨⟨⟨false, none, 0, [], none, 0, []⟩, by rw [HanE.out]; rfl, VerdOk.none _, Hok.out.symm, HB.out.symm, HW.out.symm⟩, hbe⟩
end Go.Proofs.Ytlbaohefappfoaa

namespace Go.Proofs.Ytlbaohefappfoaa
open Go.ChangeShapes Go.WideShapes Go.ChangeAt Go.RowKit
set_option linter.unusedVariables false
theorem okS_mk {s : SetR} (h1 : inB s.proto 1 3 = true) (h2 : inB s.cores.length 1 3 = true) (h3 : allB s.cores 1 3 = true) (h4 : s.homes.length ≤ 4) (h5 : allB s.homes 0 ((s.cores.length : Int) - 1) = true) (h6 : 1 ≤ s.tasks.length) (h7 : s.tasks.length ≤ 6)
    (ht : ∀ k, k < s.tasks.length → formB (s.tasks.getD k default) = true ∧ inB (s.tasks.getD k default).cl 0 ((s.cores.length : Int) - 1) = true ∧ takenB (s.tasks.take k) (s.tasks.getD k default) = false ∧ partsB (s.tasks.getD k default).parts s.homes.length = true) : okS s = true := by
  refine (okS_iff s).2 ⟨?_, fun k hk => ?_⟩
  · unfold frameV
    rw [if_neg (by simp [h1]), if_neg (by simp [h2]), if_neg (by simp [h3]), if_neg (by omega), if_neg (by simp [h5]), if_neg (by omega), if_neg (by omega)]
  · obtain ⟨a, b, c, d⟩ := ht k hk
    unfold taskE
    rw [if_neg (by rw [a]; decide), if_neg (by rw [b]; decide), if_neg (by rw [c]; decide), if_neg (by rw [d]; decide)]
theorem nameA : nameB ⟨#[97]⟩ = true := by decide +kernel
theorem nameBb : nameB ⟨#[98]⟩ = true := by decide +kernel
theorem namesAB : ((⟨#[97]⟩ : ByteArray).toList == (⟨#[98]⟩ : ByteArray).toList) = false := by decide +kernel
theorem okTwo {S : SetR} {run lock run2 lock2 : Int} {proto : Int} (hp : S.proto = proto) (hc : S.cores = [1]) (hh : S.homes = [0]) {a1 a2 : Option Addr} {c1 c2 : Nat} (ht : S.tasks = [⟨⟨#[97]⟩, 100, 100, 1, 0, a1, c1, [⟨1, run, 0⟩, ⟨3, lock, 0⟩]⟩, ⟨⟨#[98]⟩, 200, 200, 2, 0, a2, c2, [⟨1, run2, 0⟩, ⟨3, lock2, 0⟩]⟩])
    (k0 : 1 ≤ proto ∧ proto ≤ 3) (k1 : 1 ≤ run ∧ run ≤ 60) (k2 : 1 ≤ lock ∧ lock ≤ 60) (k3 : 1 ≤ run2 ∧ run2 ≤ 60) (k4 : 1 ≤ lock2 ∧ lock2 ≤ 60) : okS S = true := by
  refine okS_mk (by rw [hp]; exact inB_true.2 k0) (by rw [hc]; decide) (by rw [hc]; decide) (by rw [hh]; decide) (by rw [hh, hc]; decide) (by rw [ht]; simp) (by rw [ht]; simp) (fun k hk => ?_)
  rw [ht] at hk
  have hp : ∀ x y : Int, 1 ≤ x ∧ x ≤ 60 → 1 ≤ y ∧ y ≤ 60 → partsB [⟨1, x, 0⟩, ⟨3, y, 0⟩] 1 = true := fun x y hx hy => by
    have e1 : inB x 1 60 = true := inB_true.2 hx
    have e2 : inB y 1 60 = true := inB_true.2 hy
    have e3 : inB 0 0 0 = true := by decide
    have e4 : inB 2 1 6 = true := by decide
    simp [partsB, partB, e1, e2, e3, e4]
  match k, hk with
  | 0, _ =>
    rw [ht, hc, hh]
    refine ⟨?_, (by show inB 0 0 0 = true; decide), (by simp [takenB]), hp _ _ k1 k2⟩
    show formB _ = true
    simp only [List.getD_cons_zero, formB, nameA]
    decide
  | 1, _ =>
    rw [ht, hc, hh]
    refine ⟨?_, (by show inB 0 0 0 = true; decide), ?_, hp _ _ k3 k4⟩
    · show formB _ = true
      simp only [List.getD_cons_succ, List.getD_cons_zero, formB, nameBb]
      decide
    · simp [takenB, likeB]
end Go.Proofs.Ytlbaohefappfoaa

namespace Go.Proofs.Ytlbaohefappfoaa
open Go.ChangeShapes Go.WideShapes Go.ChangeAt Go.RowKit
set_option linter.unusedVariables false
/-- what two tasks at one cluster do to one another: the same by each protocol -/
theorem pair_each {S : SetR} {proto run lock run2 lock2 : Int} {a1 a2 : Option Addr} {c1 c2 : Nat} {n1 n2 : ByteArray} {e1 d1 q1 e2 d2 q2 : Int} (hok : okS S = true) (hp : S.proto = proto) (p3 : S.homes = [0]) (p4 : S.tasks = [⟨n1, e1, d1, q1, 0, a1, c1, [⟨1, run, 0⟩, ⟨3, lock, 0⟩]⟩, ⟨n2, e2, d2, q2, 0, a2, c2, [⟨1, run2, 0⟩, ⟨3, lock2, 0⟩]⟩]) :
    eachV S 1 0 = lock2 + (if q2 < q1 then run2 else 0) ∧ eachV S 0 1 = lock + (if q1 < q2 then run else 0) := by
  have s0 : atV S 0 0 = lock := by unfold atV; rw [show ((0 : Int)) = ((0 : Nat) : Int) from rfl, srv_in hok (by rw [p4]; simp), p4, p3]; simp [srvB, sumK]
  have s1 : atV S 1 0 = lock2 := by unfold atV; rw [show ((1 : Int)) = ((1 : Nat) : Int) from rfl, srv_in hok (by rw [p4]; simp), p4, p3]; simp [srvB, sumK]
  have t0 : taskAt S 0 = ⟨n1, e1, d1, q1, 0, a1, c1, [⟨1, run, 0⟩, ⟨3, lock, 0⟩]⟩ := by unfold taskAt; rw [p4]; rfl
  have t1 : taskAt S 1 = ⟨n2, e2, d2, q2, 0, a2, c2, [⟨1, run2, 0⟩, ⟨3, lock2, 0⟩]⟩ := by unfold taskAt; rw [p4]; rfl
  unfold eachV
  rw [t0, t1]
  simp only [s0, s1]
  simp [sumK]
theorem pair_others {S : SetR} {proto run lock run2 lock2 c : Int} {a1 a2 : Option Addr} {c1 c2 : Nat} {n1 n2 : ByteArray} {e1 d1 q1 e2 d2 q2 : Int} (hok : okS S = true) (hp : S.proto = proto) (p2 : S.cores = [c]) (p3 : S.homes = [0]) (p4 : S.tasks = [⟨n1, e1, d1, q1, 0, a1, c1, [⟨1, run, 0⟩, ⟨3, lock, 0⟩]⟩, ⟨n2, e2, d2, q2, 0, a2, c2, [⟨1, run2, 0⟩, ⟨3, lock2, 0⟩]⟩]) {b0 b1 : Int} (h0 : 0 ≤ b0) (h1 : 0 ≤ b1) (wd : Int) :
    othersV S [b0, b1] 0 wd = workV wd b1 e2 (lock2 + (if q2 < q1 then run2 else 0)) / c ∧ othersV S [b0, b1] 1 wd = workV wd b0 e1 (lock + (if q1 < q2 then run else 0)) / c := by
  obtain ⟨x0, x1⟩ := pair_each hok hp p3 p4
  have ht0 : thereB S 0 = true := thereB_true.2 ⟨hok, by decide, by rw [p4]; simp⟩
  have ht1 : thereB S 1 = true := thereB_true.2 ⟨hok, by decide, by rw [p4]; simp⟩
  have hl : ([b0, b1] : List Int).length = S.tasks.length := by rw [p4]; rfl
  have hn : nnB [b0, b1] = true := by simp [nnB, h0, h1]
  have t0 : (taskAt S 0).cl = 0 := by unfold taskAt; rw [p4]; rfl
  have t1 : (taskAt S 1).cl = 0 := by unfold taskAt; rw [p4]; rfl
  have w0 : othW S [b0, b1] 0 wd 0 S.tasks = workV wd b1 e2 (lock2 + (if q2 < q1 then run2 else 0)) := by
    rw [p4]; simp [othW, x0]
  have w1 : othW S [b0, b1] 1 wd 0 S.tasks = workV wd b0 e1 (lock + (if q1 < q2 then run else 0)) := by
    rw [p4]; simp [othW, x1]
  unfold othersV
  rw [if_pos (show othersB S [b0, b1] 0 = true ∧ nnB [b0, b1] = true from ⟨othersB_true.2 ⟨ht0, hl⟩, hn⟩), if_pos (show othersB S [b0, b1] 1 = true ∧ nnB [b0, b1] = true from ⟨othersB_true.2 ⟨ht1, hl⟩, hn⟩), w0, w1, t0, t1, p2]
  exact ⟨rfl, rfl⟩
theorem pair_fair {S : SetR} {run lock run2 lock2 : Int} {a1 a2 : Option Addr} {c1 c2 : Nat} {n1 n2 : ByteArray} {e1 d1 q1 e2 d2 q2 : Int} (hok : okS S = true) (p1 : S.proto = 1) (p4 : S.tasks = [⟨n1, e1, d1, q1, 0, a1, c1, [⟨1, run, 0⟩, ⟨3, lock, 0⟩]⟩, ⟨n2, e2, d2, q2, 0, a2, c2, [⟨1, run2, 0⟩, ⟨3, lock2, 0⟩]⟩]) (hl1 : 1 ≤ lock) (hl2 : 1 ≤ lock2) (b0 b1 : Int) :
    (waitsK S [b0, b1] 0 = true ∧ waitsL S [b0, b1] 0 = [0, lock + lock2] ∧ ownV S [b0, b1] 0 = run + (lock + lock2)) ∧ (waitsK S [b0, b1] 1 = true ∧ waitsL S [b0, b1] 1 = [0, lock2 + lock] ∧ ownV S [b0, b1] 1 = run2 + (lock2 + lock)) := by
  have ht0 : thereB S 0 = true := thereB_true.2 ⟨hok, by decide, by rw [p4]; simp⟩
  have ht1 : thereB S 1 = true := thereB_true.2 ⟨hok, by decide, by rw [p4]; simp⟩
  have hl : ([b0, b1] : List Int).length = S.tasks.length := by rw [p4]; rfl
  have k0 : fairK S 0 1 = true := fairK_iff.2 ⟨ht0, by decide, by rw [p4]; show (1 : Int) < 2; decide, by unfold partAt; rw [p4]; rfl⟩
  have k1 : fairK S 1 1 = true := fairK_iff.2 ⟨ht1, by decide, by rw [p4]; show (1 : Int) < 2; decide, by unfold partAt; rw [p4]; rfl⟩
  have m0 : maxL [⟨1, run, 0⟩, ⟨3, lock, 0⟩] = lock := by simp [maxL]; omega
  have m1 : maxL [⟨1, run2, 0⟩, ⟨3, lock2, 0⟩] = lock2 := by simp [maxL]; omega
  have z0 : ¬ lock = 0 := by omega
  have z1 : ¬ lock2 = 0 := by omega
  have q0 : partAt S 0 1 = ⟨3, lock, 0⟩ := by unfold partAt; rw [p4]; rfl
  have q1 : partAt S 1 1 = ⟨3, lock2, 0⟩ := by unfold partAt; rw [p4]; rfl
  have f0 : fairV S 0 1 = lock + lock2 := by unfold fairV; rw [if_pos k0, q0, p4]; simp [othL, m0, m1, z0, z1, tot]
  have f1 : fairV S 1 1 = lock2 + lock := by unfold fairV; rw [if_pos k1, q1, p4]; simp [othL, m0, m1, z0, z1, tot]
  have v0 : waitV S [b0, b1] 0 1 = lock + lock2 := by unfold waitV; rw [if_pos hl, if_pos p1, f0]
  have v1 : waitV S [b0, b1] 1 1 = lock2 + lock := by unfold waitV; rw [if_pos hl, if_pos p1, f1]
  have j0 : waitK S [b0, b1] 0 1 = true := by unfold waitK; rw [if_pos hl, if_neg (by omega), k0]
  have j1 : waitK S [b0, b1] 1 1 = true := by unfold waitK; rw [if_pos hl, if_neg (by omega), k1]
  have hp0 : partsOf S 0 = [⟨1, run, 0⟩, ⟨3, lock, 0⟩] := by unfold partsOf; rw [p4]; rfl
  have hp1 : partsOf S 1 = [⟨1, run2, 0⟩, ⟨3, lock2, 0⟩] := by unfold partsOf; rw [p4]; rfl
  have x0 : ∀ i : Int, i = 0 ∨ i = 1 → (partAt S i (0 : Nat)).kind = 1 ∧ (partAt S i (1 : Nat)).kind = 3 := fun i hi => by
    rcases hi with rfl | rfl <;> (unfold partAt; rw [p4]; exact ⟨rfl, rfl⟩)
  have y : ∀ (i v : Int), (i = 0 ∨ i = 1) → waitK S [b0, b1] i 1 = true → waitV S [b0, b1] i 1 = v → thereB S i = true → (partsOf S i).length = 2 → waitsK S [b0, b1] i = true ∧ waitsL S [b0, b1] i = [0, v] := fun i v hi hk hv ht hp => by
    obtain ⟨g0, g1⟩ := x0 i hi
    obtain ⟨y1, y2⟩ := waits_yes (s := S) (bs := [b0, b1]) (of := i) ht (by
      rw [hp]; intro k hk2
      match k, hk2 with
      | 0, _ => unfold pK; rw [if_neg (by rw [g0]; decide)]
      | 1, _ => unfold pK; rw [if_pos g1]; exact hk)
    refine ⟨y1, ?_⟩
    rw [y2, hp]
    show [pW S [b0, b1] i 0, pW S [b0, b1] i 1] = _
    have e0 : pW S [b0, b1] i 0 = 0 := by unfold pW; rw [if_neg (by rw [g0]; decide)]
    have e1 : pW S [b0, b1] i 1 = v := by unfold pW; rw [if_pos g1]; exact hv
    rw [e0, e1]
  obtain ⟨y1, y2⟩ := y 0 _ (.inl rfl) j0 v0 ht0 (by rw [hp0]; rfl)
  obtain ⟨w1, w2⟩ := y 1 _ (.inr rfl) j1 v1 ht1 (by rw [hp1]; rfl)
  have r0 : (taskAt S 0).parts = [⟨1, run, 0⟩, ⟨3, lock, 0⟩] := hp0
  have r1 : (taskAt S 1).parts = [⟨1, run2, 0⟩, ⟨3, lock2, 0⟩] := hp1
  refine ⟨⟨y1, y2, ?_⟩, ⟨w1, w2, ?_⟩⟩
  · unfold ownV; rw [if_pos y1, y2, r0]; simp [sumK, tot]
  · unfold ownV; rw [if_pos w1, w2, r1]; simp [sumK, tot]
end Go.Proofs.Ytlbaohefappfoaa

namespace Go.Proofs.Ytlbaohefappfoaa
open Go.ChangeShapes Go.WideShapes Go.ChangeAt Go.RowKit
set_option linter.unusedVariables false
theorem partB_lock {len r R : Int} (h1 : 1 ≤ len ∧ len ≤ 60) (h2 : 0 ≤ r ∧ r < R) : partB ⟨3, len, r⟩ R = true := by
  have e1 : inB len 1 60 = true := inB_true.2 h1
  have e2 : inB r 0 (R - 1) = true := inB_true.2 (by omega)
  simp [partB, e1, e2]
theorem partB_run {k len R : Int} (hk : k = 1 ∨ k = 2) (h1 : 1 ≤ len ∧ len ≤ 60) : partB ⟨k, len, 0⟩ R = true := by
  have e1 : inB len 1 60 = true := inB_true.2 h1
  have e2 : inB 0 0 0 = true := by decide
  have hn : ¬ k = 3 := by omega
  simp [partB, e1, e2, hn, hk]
theorem partsB_mk {ps : List PartM} {R : Int} (hl : 1 ≤ ps.length ∧ ps.length ≤ 6) (h : ∀ p ∈ ps, partB p R = true) : partsB ps R = true := by
  have e1 : inB ps.length 1 6 = true := inB_true.2 (by omega)
  unfold partsB
  rw [e1, Bool.true_and]
  exact List.all_eq_true.2 h
theorem formB_mk {t : TaskR} (h0 : nameB t.name = true) (h1 : 1 ≤ t.per ∧ t.per ≤ 3000) (h2 : 1 ≤ t.dl ∧ t.dl ≤ t.per) (h3 : 1 ≤ t.prio ∧ t.prio ≤ 1000) : formB t = true := by
  have e1 : inB t.per 1 3000 = true := inB_true.2 h1
  have e2 : inB t.dl 1 t.per = true := inB_true.2 h2
  have e3 : inB t.prio 1 1000 = true := inB_true.2 h3
  simp [formB, h0, e1, e2, e3]
theorem taken_no {ts : List TaskR} {k : Nat} {t : TaskR} (hk : k ≤ ts.length) (h : ∀ i, i < k → ((ts.getD i default).name.toList == t.name.toList) = false ∧ ((ts.getD i default).prio == t.prio) = false) : takenB (ts.take k) t = false := by
  unfold takenB
  rw [List.any_eq_false]
  intro o ho
  obtain ⟨i, hi, e⟩ := mem_getD ho
  rw [List.length_take] at hi
  have e2 : (ts.take k).getD i default = ts.getD i default := by simp [List.getD, show i < k by omega]
  rw [e2] at e
  obtain ⟨a, b⟩ := h i (by omega)
  rw [e] at a b
  simp [likeB, a, b]
theorem okS_all {s : SetR} (h1 : 1 ≤ s.proto ∧ s.proto ≤ 3) (h2 : 1 ≤ s.cores.length ∧ s.cores.length ≤ 3) (h3 : ∀ n ∈ s.cores, 1 ≤ n ∧ n ≤ 3) (h4 : s.homes.length ≤ 4) (h5 : ∀ n ∈ s.homes, 0 ≤ n ∧ n < s.cores.length) (h6 : 1 ≤ s.tasks.length ∧ s.tasks.length ≤ 6)
    (ht : ∀ k, k < s.tasks.length → formB (s.tasks.getD k default) = true ∧ (0 ≤ (s.tasks.getD k default).cl ∧ (s.tasks.getD k default).cl < s.cores.length) ∧ partsB (s.tasks.getD k default).parts s.homes.length = true)
    (hd : ∀ i k, i < k → k < s.tasks.length → ((s.tasks.getD i default).name.toList == (s.tasks.getD k default).name.toList) = false ∧ ((s.tasks.getD i default).prio == (s.tasks.getD k default).prio) = false) : okS s = true := by
  have all : ∀ (l : List Int) (lo hi : Int), (∀ n ∈ l, lo ≤ n ∧ n ≤ hi) → allB l lo hi = true := fun l lo hi h => List.all_eq_true.2 (fun n hn => inB_true.2 (h n hn))
  refine okS_mk (inB_true.2 h1) (inB_true.2 (by omega)) (all _ _ _ h3) h4 (all _ _ _ (fun n hn => by have := h5 n hn; omega)) h6.1 h6.2 (fun k hk => ?_)
  obtain ⟨a, b, c⟩ := ht k hk
  exact ⟨a, inB_true.2 (by omega), taken_no (by omega) (fun i hi => hd i k hi hk), c⟩
theorem nameC : nameB ⟨#[99]⟩ = true := by decide +kernel
theorem namesAC : ((⟨#[97]⟩ : ByteArray).toList == (⟨#[99]⟩ : ByteArray).toList) = false := by decide +kernel
theorem namesBC : ((⟨#[98]⟩ : ByteArray).toList == (⟨#[99]⟩ : ByteArray).toList) = false := by decide +kernel
/-- bytes: what is left of one -/
theorem mod_u8 {a : Int} (k : Int) (h : (Lit.int .u8 a).wf = true) (hk : 0 < k) : ∃ x, 0 ≤ x ∧ x < k ∧ a.tmod k = x := by
  have h0 : 0 ≤ a := by simp [Lit.wf, IntKind.min, IntKind.max, IntKind.signed, IntKind.bits] at h; omega
  exact ⟨a.tmod k, Int.tmod_nonneg k h0, Int.tmod_lt_of_pos a hk, rfl⟩
theorem nat_u8 {a : Int} (h : (Lit.int .u8 a).wf = true) : ∃ n : Nat, a = n := by
  have h0 : 0 ≤ a := by simp [Lit.wf, IntKind.min, IntKind.max, IntKind.signed, IntKind.bits] at h; omega
  exact ⟨a.toNat, by omega⟩
theorem u8_le {a : Int} {n : Nat} (h : (Lit.int .u8 a).wf = true) (e : a = n) : n ≤ 255 := by
  simp [Lit.wf, IntKind.min, IntKind.max, IntKind.signed, IntKind.bits] at h; omega
end Go.Proofs.Ytlbaohefappfoaa

namespace Go.Proofs.Ytlbaohefappfoaa
open Go.ChangeShapes Go.WideShapes Go.ChangeAt Go.RowKit
set_option linter.unusedVariables false

theorem two18_vals {S : SetR} (hS : twoS18 S 1 1 3 5 4) : anE S = 0 ∧ anB S = [12, 16] ∧ anW S = [[0, 7], [0, 7]] ∧ holdsV S [12, 16] = true ∧ holdsV S [] = false := by
  obtain ⟨p1, p2, p3, a1, a2, c1, c2, p4⟩ := hS
  have hok := okTwo p1 p2 p3 p4 (by decide) (by decide) (by decide) (by decide) (by decide)
  have hn : S.tasks.length = 2 := by rw [p4]; rfl
  have PF := fun b0 b1 => pair_fair hok p1 p4 (by decide) (by decide) b0 b1
  have hso : soonL S = [4, 9] := by unfold soonL; rw [p4]; rfl
  have nk : ∀ b0 b1, nextK S [b0, b1] 0 = true ∧ nextK S [b0, b1] 1 = true := fun b0 b1 => ⟨nextK_true.2 ⟨(PF b0 b1).1.1, by rw [hn]; rfl⟩, nextK_true.2 ⟨(PF b0 b1).2.1, by rw [hn]; rfl⟩⟩
  have nv : ∀ b0 b1, 0 ≤ b0 → 0 ≤ b1 → nextV S [b0, b1] 0 = 8 + workV b0 b1 200 4 / 1 ∧ nextV S [b0, b1] 1 = 12 + workV b1 b0 100 4 / 1 := fun b0 b1 h0 h1 => by
    have o0 := (pair_others hok p1 p2 p3 p4 h0 h1 b0).1
    have o1 := (pair_others hok p1 p2 p3 p4 h0 h1 b1).2
    refine ⟨?_, ?_⟩
    · unfold nextV
      rw [if_pos (nk b0 b1).1, (PF b0 b1).1.2.2]
      show 1 + (3 + 4) + othersV S [b0, b1] 0 b0 = _
      rw [o0]; simp
    · unfold nextV
      rw [if_pos (nk b0 b1).2, (PF b0 b1).2.2.2]
      show 5 + (4 + 3) + othersV S [b0, b1] 1 b1 = _
      rw [o1]; simp
  have nr : ∀ b0 b1, nextRow S [b0, b1] = [nextV S [b0, b1] 0, nextV S [b0, b1] 1] := fun b0 b1 => by unfold nextRow; rw [hn]; rfl
  have dl : (S.tasks.getD 0 default).dl = 100 ∧ (S.tasks.getD 1 default).dl = 200 := by rw [p4]; exact ⟨rfl, rfl⟩
  have rb : ∀ b0 b1, nextV S [b0, b1] 0 ≤ 100 → nextV S [b0, b1] 1 ≤ 200 → roundB S [b0, b1] = true := fun b0 b1 h0 h1 => by
    unfold roundB
    rw [hn, upTo_iff]
    intro k hk
    have e0 : stepB S [b0, b1] 0 = true := by unfold stepB; rw [dl.1]; show (nextK S [b0, b1] 0 && decide (nextV S [b0, b1] 0 ≤ 100)) = true; rw [(nk b0 b1).1, decide_eq_true h0]; rfl
    have e1 : stepB S [b0, b1] 1 = true := by unfold stepB; rw [dl.2]; show (nextK S [b0, b1] 1 && decide (nextV S [b0, b1] 1 ≤ 200)) = true; rw [(nk b0 b1).2, decide_eq_true h1]; rfl
    match k, hk with
    | 0, _ => exact e0
    | 1, _ => exact e1
  obtain ⟨u0, u1⟩ := nv 4 9 (by decide) (by decide)
  obtain ⟨w0, w1⟩ := nv 12 16 (by decide) (by decide)
  rw [show 8 + workV 4 9 200 4 / 1 = 12 by decide +kernel] at u0
  rw [show 12 + workV 9 4 100 4 / 1 = 16 by decide +kernel] at u1
  rw [show 8 + workV 12 16 200 4 / 1 = 12 by decide +kernel] at w0
  rw [show 12 + workV 16 12 100 4 / 1 = 16 by decide +kernel] at w1
  have r1 : nextRow S [4, 9] = [12, 16] := by rw [nr, u0, u1]
  have r2 : nextRow S [12, 16] = [12, 16] := by rw [nr, w0, w1]
  have hset : settle S = ([12, 16], 0) := by
    unfold settle
    rw [hso, show (200 : Nat) = 198 + 1 + 1 from rfl, setL_succ, if_pos (rb 4 9 (by omega) (by omega)), r1, if_neg (by decide), setL_succ, if_pos (rb 12 16 (by omega) (by omega)), r2, if_pos rfl]
  have hE : anE S = 0 := by unfold anE; rw [if_pos ((okS_chk S).1 hok), hset]
  have hB : anB S = [12, 16] := by unfold anB; rw [if_pos hE, hset]
  refine ⟨hE, hB, ?_, ?_, ?_⟩
  · unfold anW
    rw [if_pos hE, hset, hn]
    show [waitsL S [12, 16] 0, waitsL S [12, 16] 1] = _
    rw [(PF 12 16).1.2.1, (PF 12 16).2.2.1]; rfl
  · unfold holdsV
    have e0 : holdB S [12, 16] 0 = true := by unfold holdB; rw [dl.1]; show (nextK S [12, 16] 0 && (decide (nextV S [12, 16] 0 ≤ 12) && (decide ((1 : Int) ≤ 12) && decide ((12 : Int) ≤ 100)))) = true; rw [(nk 12 16).1, w0]; rfl
    have e1 : holdB S [12, 16] 1 = true := by unfold holdB; rw [dl.2]; show (nextK S [12, 16] 1 && (decide (nextV S [12, 16] 1 ≤ 16) && (decide ((1 : Int) ≤ 16) && decide ((16 : Int) ≤ 200)))) = true; rw [(nk 12 16).2, w1]; rfl
    rw [hok, hn, (upTo_iff _ _).2 (fun k hk => by
      match k, hk with
      | 0, _ => exact e0
      | 1, _ => exact e1)]
    rfl
  · unfold holdsV; rw [hn, hok]; rfl
/-- a task alone that can't be done in time -/
theorem late18 {S : SetR} {a1 : Option Addr} {c1 : Nat} (p1 : S.proto = 1) (p2 : S.cores = [1]) (p3 : S.homes = [0]) (p4 : S.tasks = [⟨⟨#[97]⟩, 100, 50, 1, 0, a1, c1, [⟨1, 60, 0⟩]⟩]) : anE S = 19 := by
  have hok : okS S = true := by
    refine okS_all (by rw [p1]; decide) (by rw [p2]; simp) (by rw [p2]; intro z hz; simp at hz; omega) (by rw [p3]; decide) (by rw [p3, p2]; intro z hz; simp at hz; subst hz; simp) (by rw [p4]; simp) (fun k hk => ?_) (fun i k hi hk => ?_)
    · rw [p4] at hk ⊢
      rw [p2, p3]
      match k, hk with
      | 0, _ => exact ⟨formB_mk nameA (by simp) (by simp) (by simp), by simp, partsB_mk (by simp) (fun p hp => by
        simp at hp; subst hp; exact partB_run (.inl rfl) (by decide))⟩
    · rw [p4] at hk; simp at hk; omega
  have hn : S.tasks.length = 1 := by rw [p4]; rfl
  have hso : soonL S = [60] := by unfold soonL; rw [p4]; rfl
  have ht : thereB S 0 = true := thereB_true.2 ⟨hok, by decide, by rw [hn]; decide⟩
  have hp : partsOf S 0 = [⟨1, 60, 0⟩] := by unfold partsOf; rw [p4]; rfl
  obtain ⟨y1, y2⟩ := waits_yes (s := S) (bs := [60]) (of := 0) ht (by
    rw [hp]; intro k hk
    match k, hk with
    | 0, _ => unfold pK partAt; rw [p4]; rfl)
  have hk : nextK S [60] 0 = true := nextK_true.2 ⟨y1, by rw [hn]; rfl⟩
  have hpp : (taskAt S 0).parts = [⟨1, 60, 0⟩] := hp
  have hv : 60 ≤ nextV S [60] 0 := by
    have h1 := (othersV_bd S [60] 0 (([60] : List Int).getD (0 : Int).toNat 0)).1
    have h2 := (waitsT_bd S [60] 0).1
    unfold nextV ownV
    rw [if_pos hk, if_pos y1, hpp]
    show 60 ≤ sumK 1 [⟨1, 60, 0⟩] + sumK 2 [⟨1, 60, 0⟩] + tot (waitsL S [60] 0) + _
    rw [show sumK 1 [⟨1, 60, 0⟩] = 60 by decide, show sumK 2 [⟨1, 60, 0⟩] = 0 by decide]
    omega
  have hr : roundB S [60] = false := by
    unfold roundB
    refine upTo_not (k := 0) (by rw [hn]; decide) ?_
    unfold stepB
    rw [p4]
    show (nextK S [60] 0 && decide (nextV S [60] 0 ≤ 50)) = false
    rw [hk, decide_eq_false (by omega)]; rfl
  unfold anE settle
  rw [if_pos ((okS_chk S).1 hok), hso, show (200 : Nat) = 199 + 1 from rfl, setL_succ, if_neg (by rw [hr]; decide)]
theorem rows_two {rs : List RowR} {x y : List Int} (h : rs.map RowR.zs = [x, y]) : ∃ r0 r1, rs = [r0, r1] ∧ r0.zs = x ∧ r1.zs = y := by
  match rs, h with
  | [r0, r1], h => simp at h; exact ⟨r0, r1, rfl, h.1, h.2⟩
theorem empty18 (w : World) : SetOk w ⟨0, none, 0, [], none, 0, [], none, 0, []⟩ := ⟨by decide, nil_ints w, nil_ints w, ⟨⟨fun _ => ⟨rfl, rfl⟩, by decide, by decide⟩, .inl rfl, by simp⟩⟩
theorem emptyE : anE ⟨0, none, 0, [], none, 0, [], none, 0, []⟩ = 10 := by decide +kernel
end Go.Proofs.Ytlbaohefappfoaa

namespace Go.Proofs.Ytlbaohefappfoaa
open Go.ChangeShapes Go.WideShapes Go.ChangeAt Go.RowKit
set_option linter.unusedVariables false
set_option linter.unusedSimpArgs false
set_option maxHeartbeats 4000000 in
set_option maxRecDepth 100000 in
theorem known18_any (w : World) : Calls Try.prog 8 #[] w fun e w' => e = .returned (.bool true) ∧ Below w.heap.size w w' := by
  go_enter Try.func8, Try.ntmps8
  go_wp2_with fail
  refine (two18_any 1 1 3 5 4 _ (by decide) (by decide) (by decide) (by decide) (by decide)).mono ?_
  rintro e w1 ⟨⟨S, rfl, hs, hS⟩, hb⟩
  obtain ⟨q1, q2, q3, q4, q5⟩ := two18_vals hS
  have Q1 := hidp q1
  have Q2 := hidp q2
  have Q3 := hidp q3
  have Q4 := hidp q4
  have Q5 := hidp q5
  clear hS q1 q2 q3 q4 q5
  have sc := SetCells.new w1 S 25
  replace hb := hb.alloc hb.size (.cells #[.int .i64 S.proto, .slice S.ca S.cores.length S.cc, .slice S.ha S.homes.length S.hc, .slice S.ta S.tasks.length S.tc] 25)
  replace hs := hs.keep (Keeps.alloc w1 (.cells #[.int .i64 S.proto, .slice S.ca S.cores.length S.cc, .slice S.ha S.homes.length S.hc, .slice S.ta S.tasks.length S.tc] 25))
  go_wp2_with fail
  refine (analyze_any S _ hs).mono ?_
  rintro e u1 ⟨⟨v, rfl, hv, h1, h2, h3⟩, hb2⟩
  replace hb := hb.trans (hb2.mono hb.size)
  replace sc := sc.keep (Keeps.of_below hb2)
  replace hs := hs.keep (Keeps.of_below hb2)
  clear hb2
  try clear sc_0 sc_1 sc_2 sc_3
  have scx := sc
  obtain ⟨sc_0, sc_1, sc_2, sc_3⟩ := scx
  try dsimp only at sc_0 sc_1 sc_2 sc_3
  rw [Q1.out] at *
  rw [Q2.out] at h2
  rw [Q3.out] at h3
  obtain ⟨ok, ba, bc, bounds, wa, wc, rows⟩ := v
  dsimp only at h1 h2 h3 hv ⊢
  subst h1
  subst h2
  obtain ⟨r0, r1, rfl, e0, e1⟩ := rows_two h3
  obtain ⟨a0, c0, z0⟩ := r0
  obtain ⟨a1, c1, z1⟩ := r1
  dsimp only at e0 e1
  subst e0
  subst e1
  clear h3
  have bv := Y3 (Bk.new u1 31 #[.bool true, .slice ba 2 bc, .slice wa 2 wc])
  have kv := Keeps.alloc u1 (.cells #[.bool true, .slice ba 2 bc, .slice wa 2 wc] 31)
  replace hv := hv.keep kv
  replace hs := hs.keep kv
  replace sc := sc.keep kv
  replace hb := hb.alloc hb.size (.cells #[.bool true, .slice ba 2 bc, .slice wa 2 wc] 31)
  clear kv sc_0 sc_1 sc_2 sc_3
  go_wp2_with fail
  refine (analyze_any ⟨0, none, 0, [], none, 0, [], none, 0, []⟩ _ (empty18 _)).mono ?_
  rintro e u2 ⟨⟨v2, rfl, g1, g2, g3, g4⟩, hb2⟩
  replace hb := hb.trans (hb2.mono hb.size)
  replace sc := sc.keep (Keeps.of_below hb2)
  replace hs := hs.keep (Keeps.of_below hb2)
  replace hv := hv.keep (Keeps.of_below hb2)
  replace bv := And.intro (Keeps.of_below hb2 _ _ bv.1) (And.intro (Keeps.of_below hb2 _ _ bv.2.1) (Keeps.of_below hb2 _ _ bv.2.2))
  clear hb2
  clear g1 g2 g3 g4
  obtain ⟨ok2, ba2, bc2, bs2, wa2, wc2, rs2⟩ := v2
  dsimp only
  rw [emptyE]
  have kz := (Keeps.alloc u2 (.cells #[.bool ok2, .slice ba2 bs2.length bc2, .slice wa2 rs2.length wc2] 31)).trans (Keeps.alloc _ (.cells (ptc [⟨1, 60, 0⟩]).toArray 49))
  have P0 := Bk.at_ (w := u2.alloc (.cells #[.bool ok2, .slice ba2 bs2.length bc2, .slice wa2 rs2.length wc2] 31)) (g := u2.heap.size + 1) (t := 49) (cs := (ptc [⟨1, 60, 0⟩]).toArray) (by simp) rfl
  have hzp : u2.heap.size + 1 < ((u2.alloc (.cells #[.bool ok2, .slice ba2 bs2.length bc2, .slice wa2 rs2.length wc2] 31)).alloc (.cells (ptc [⟨1, 60, 0⟩]).toArray 49)).heap.size := by simp
  replace hb := (hb.alloc hb.size (.cells #[.bool ok2, .slice ba2 bs2.length bc2, .slice wa2 rs2.length wc2] 31)).alloc (hb.alloc hb.size _).size (.cells (ptc [⟨1, 60, 0⟩]).toArray 49)
  replace hs := hs.keep kz
  replace sc := sc.keep kz
  replace hv := hv.keep kz
  replace bv := And.intro (kz _ _ bv.1) (And.intro (kz _ _ bv.2.1) (kz _ _ bv.2.2))
  clear kz
  go_wp2_with fail
  refine (one18_any 1 (some ⟨u2.heap.size + 1, 0, none⟩) 1 [⟨1, 60, 0⟩] _).mono ?_
  rintro e w3 ⟨⟨ca, ha, ta, cc, hc, tc, rfl, kc, kh, kt, n1, n2⟩, hb3⟩
  obtain ⟨g, hA, hg1, hg2⟩ := own_at kt.own (by simp)
  subst hA
  have X := (SetCells.new w3 ⟨1, ca, cc, [1], ha, hc, [0], some ⟨g, 0, none⟩, tc, [⟨⟨#[97]⟩, 100, 100, 1, 0, some ⟨u2.heap.size + 1, 0, none⟩, 1, [⟨1, 60, 0⟩]⟩]⟩ 25)
  have T1 := (Turned.refl [] w3).alloc (.cells #[.int .i64 1, .slice ca 1 cc, .slice ha 1 hc, .slice (some ⟨g, 0, none⟩) 1 tc] 25)
  have kt1 := kt.turned T1 (by simp)
  have TS := (Turned.refl [g] (w3.alloc (.cells #[.int .i64 1, .slice ca 1 cc, .slice ha 1 hc, .slice (some ⟨g, 0, none⟩) 1 tc] 25))).setCell (p := ⟨g, 2, none⟩) (.inl (by simp)) (.int .i64 50)
  have kt2 := ownT_put kt1 (i := 0) (by simp) (j := 2) (by decide) ⟨⟨#[97]⟩, 100, 50, 1, 0, some ⟨u2.heap.size + 1, 0, none⟩, 1, [⟨1, 60, 0⟩]⟩ (.int .i64 50) rfl
  have hbx := (hb3.alloc hb3.size (.cells #[.int .i64 1, .slice ca 1 cc, .slice ha 1 hc, .slice (some ⟨g, 0, none⟩) 1 tc] 25)).trans (TS.below (hb3.alloc hb3.size _).size (by simpa using hg1))
  have k3 := Keeps.of_below hbx
  have kc2 := (kc.turned T1 (by simp)).turned TS (fun k hk hm => by simp at hm; subst hm; exact (n1 _ hk).1 (by simp [fp]))
  have kh2 := (kh.turned T1 (by simp)).turned TS (fun k hk hm => by simp at hm; subst hm; exact (n2 _ hk).1 (by simp [fp]))
  have X2 := X.turned TS (by simp; omega)
  have fz := own_frozen kt1.own 2
  have cz : (w3.alloc (.cells #[.int .i64 1, .slice ca 1 cc, .slice ha 1 hc, .slice (some ⟨g, 0, none⟩) 1 tc] 25)).cell? ⟨g, 2, none⟩ = some (.int .i64 100) := by
    obtain ⟨b, off, e, h⟩ := (lies_tasks kt1.tasks).resolve_left (by simp [ttc])
    cases e
    have := h.2 2 (.int .i64 100) rfl
    rw [Nat.zero_add] at this
    exact this
  replace hb := hb.trans (hbx.mono hb.size)
  replace hs := hs.keep k3
  replace sc := sc.keep k3
  replace hv := hv.keep k3
  replace bv := And.intro (k3 _ _ bv.1) (And.intro (k3 _ _ bv.2.1) (k3 _ _ bv.2.2))
  have P2 := P0.below hbx
  have hx : SetOk _ ⟨1, ca, cc, [1], ha, hc, [0], some ⟨g, 0, none⟩, tc, [⟨⟨#[97]⟩, 100, 50, 1, 0, some ⟨u2.heap.size + 1, 0, none⟩, 1, [⟨1, 60, 0⟩]⟩]⟩ := ⟨by show I64 1; decide, kc2, kh2, ⟨kt2.sl, kt2.tasks, fun t ht => by
    simp at ht; subst ht
    exact task_bk (nm := ⟨#[97]⟩) P2 (by decide) (by decide) (by decide) (by decide) (by decide) (by decide) (fun p hp => by simp at hp; subst hp; exact ⟨by decide, by decide, by decide⟩)⟩⟩
  have hE := hidp (late18 (S := ⟨1, ca, cc, [1], ha, hc, [0], some ⟨g, 0, none⟩, tc, [⟨⟨#[97]⟩, 100, 50, 1, 0, some ⟨u2.heap.size + 1, 0, none⟩, 1, [⟨1, 60, 0⟩]⟩]⟩) rfl rfl rfl rfl)
  rw [World.setCell_alloc_past _ g 2 _ hg2] at hb hs sc hv bv hx X2
  obtain ⟨sx_0, sx_1, sx_2, sx_3⟩ := X
  obtain ⟨sy_0, sy_1, sy_2, sy_3⟩ := X2
  dsimp only at sx_0 sx_1 sx_2 sx_3 sy_0 sy_1 sy_2 sy_3
  clear kc kh kt n1 n2 kc2 kh2 kt1 kt2 T1 TS k3 P0 P2 hzp
  go_wp2_with fail
  refine (analyze_any _ _ hx).mono ?_
  rintro e w4 ⟨⟨v3, rfl, g1, g2, g3, g4⟩, hb4⟩
  rw [hE.out]
  clear g1 g2 g3 g4 sx_0 sx_1 sx_2 sx_3 sy_0 sy_1 sy_2 sy_3 fz cz hx hE hbx hb3
  obtain ⟨ok3, ba3, bc3, bs3, wa3, wc3, rs3⟩ := v3
  dsimp only
  have kz := (Keeps.of_below hb4).trans (Keeps.alloc w4 (.cells #[.bool ok3, .slice ba3 bs3.length bc3, .slice wa3 rs3.length wc3] 31))
  replace hb := hb.trans (hb4.mono hb.size)
  replace hb := hb.alloc hb.size (.cells #[.bool ok3, .slice ba3 bs3.length bc3, .slice wa3 rs3.length wc3] 31)
  replace hs := hs.keep kz
  replace sc := sc.keep kz
  replace hv := hv.keep kz
  obtain ⟨bv_0, bv_1, bv_2⟩ := And.intro (kz _ _ bv.1) (And.intro (kz _ _ bv.2.1) (kz _ _ bv.2.2))
  clear kz bv hb4
  obtain ⟨x1, x2, x3, x4⟩ := hv
  have HBS := hidp x1
  obtain ⟨b, off, e, hc⟩ := x1.at_.resolve_left (by simp)
  dsimp only at e
  subst e
  have c0 := hc 0 (by simp)
  have c1 := hc 1 (by simp)
  obtain ⟨b', off', e, hr⟩ := x3.resolve_left (by simp)
  dsimp only at e
  subst e
  have r0 := hr 0 (by simp)
  obtain ⟨b2, off2, e, hw⟩ := (x4 _ (List.mem_cons_self ..)).at_.resolve_left (by simp)
  dsimp only at e
  subst e
  have y1 := hw 1 (by simp)
  clear x1 x2 x3 x4 hc hr hw
  simp [RowR.val] at c0 c1 r0 y1
  obtain ⟨sc_0, sc_1, sc_2, sc_3⟩ := id sc
  go_wp2_with fail
  refine (holds_any S [12, 16] _ _ _ hs HBS.out).mono ?_
  rintro e w5 ⟨rfl, hb5⟩
  rw [Q4.out]
  replace hb := hb.trans (hb5.mono hb.size)
  replace hs := hs.keep (Keeps.of_below hb5)
  replace sc := sc.keep (Keeps.of_below hb5)
  clear hb5 sc_0 sc_1 sc_2 sc_3 bv_0 bv_1 bv_2 c0 c1 r0 y1
  obtain ⟨sc_0, sc_1, sc_2, sc_3⟩ := id sc
  go_wp2_with fail
  refine (holds_any S [] none 0 _ hs (nil_ints _)).mono ?_
  rintro e w6 ⟨rfl, hb5⟩
  rw [Q5.out]
  replace hb := hb.trans (hb5.mono hb.size)
  clear hb5
  go_wp2_with fail
  go_ret
  exact ⟨rfl, hb⟩
end Go.Proofs.Ytlbaohefappfoaa

namespace Go.Proofs.Ytlbaohefappfoaa
open Go.ChangeShapes Go.WideShapes Go.ChangeAt Go.RowKit
set_option linter.unusedVariables false
def FewP18 (w : World) (e : Ending) (w' : World) : Prop := (∃ b : Bool, e = .returned (.bool b)) ∧ Below w.heap.size w w'
set_option maxRecDepth 100000 in
theorem few18_any (s : SetR) (w : World) (hs : SetOk w s) : Calls Try.prog 9 #[.agg #[.int .i64 s.proto, .slice s.ca s.cores.length s.cc, .slice s.ha s.homes.length s.hc, .slice s.ta s.tasks.length s.tc]] w (FewP18 w) := by
  have hb := (Below.refl w.heap.size w).alloc (Nat.le_refl _) (.cells #[.int .i64 s.proto, .slice s.ca s.cores.length s.cc, .slice s.ha s.homes.length s.hc, .slice s.ta s.tasks.length s.tc] 25)
  have CB := hidp (SetCells.new w s 25)
  have l1 : s.tasks.length ≤ maxLen := Nat.le_trans hs.tasks.sl.2.1 hs.tasks.sl.2.2
  have l2 : s.cores.length ≤ maxLen := Nat.le_trans hs.cores.sl.2.1 hs.cores.sl.2.2
  have l3 : s.homes.length ≤ maxLen := Nat.le_trans hs.homes.sl.2.1 hs.homes.sl.2.2
  unfold maxLen at l1 l2 l3
  have HR := hidp hs.tasks.at_
  have Hok := hidp hs.tasks.ok
  clear hs
  obtain ⟨proto, ca, cc, cores, ha, hc, homes, ta, tc, tasks⟩ := s
  dsimp only at HR Hok l1 l2 l3 hb ⊢
  have F : ∀ b : Bool, ∀ w', Below w.heap.size w w' → FewP18 w (.returned (.bool b)) w' := fun b w' h => ⟨⟨b, rfl⟩, h⟩
  have HF := hidp F
  clear F
  have hc0 : (8 : Int) < (cores.length : Int) ∨ ¬ (8 : Int) < (cores.length : Int) ∧ (10 : Int) < (homes.length : Int) ∨ ¬ (8 : Int) < (cores.length : Int) ∧ ¬ (10 : Int) < (homes.length : Int) ∧ (9 : Int) < (tasks.length : Int) ∨ ¬ (8 : Int) < (cores.length : Int) ∧ ¬ (10 : Int) < (homes.length : Int) ∧ ¬ (9 : Int) < (tasks.length : Int) := by omega
  rcases hc0 with h | ⟨h, g⟩ | ⟨h, g, f⟩ | ⟨h, g, f⟩
  · go_enter Try.func9, Try.ntmps9
    go_wp2
    go_ret
    exact HF.out _ _ hb
  · go_enter Try.func9, Try.ntmps9
    go_wp2
    go_ret
    exact HF.out _ _ hb
  · go_enter Try.func9, Try.ntmps9
    go_wp2
    go_ret
    exact HF.out _ _ hb
  · go_enter Try.func9, Try.ntmps9
    go_wp2
    go_loopg [3] tasks.length (fun gg i wr => ∃ k : Nat, k + gg = tasks.length ∧ i = .int .i64 k ∧ SetCells wr w.heap.size ⟨proto, ca, cc, cores, ha, hc, homes, ta, tc, tasks⟩ ∧ Below w.heap.size w wr)
    case atStart => exact ⟨0, by omega, rfl, CB.out, hb⟩
    case round =>
      obtain ⟨k, hk, rfl, sc, hw⟩ := hrel
      have sc2 := sc
      obtain ⟨c0, c1, c2, c3⟩ := sc2
      dsimp only at c0 c1 c2 c3
      by_cases hlt : k < tasks.length
      · obtain ⟨g0, off, hA, hcl⟩ := HR.out.resolve_left (by intro e; rw [e] at hlt; simp at hlt)
        subst hA
        obtain ⟨t, HT⟩ : ∃ t, Hid (tasks.getD k default = t) := ⟨_, rfl⟩
        have tcl := (HT.out ▸ hcl k hlt).keep (Keeps.of_below hw)
        obtain ⟨d0, _, _, _, _, d5⟩ := tcl
        have hok := Hok.out t (HT.out ▸ getD_mem hlt)
        have n1 := hok.name
        have n2 : t.parts.length ≤ maxLen := Nat.le_trans hok.sl.2.1 hok.sl.2.2
        unfold maxLen at n1 n2
        clear hcl hok
        by_cases z1 : (20 : Int) < (t.name.size : Int)
        · go_wp2
          go_ret
          exact HF.out _ _ hw
        · by_cases z2 : (10 : Int) < (t.parts.length : Int)
          · go_wp2
            go_ret
            exact HF.out _ _ hw
          · go_wp2
            go_roundg (gk - 1)
            case measure => omega
            case rel => exact ⟨k + 1, by omega, by go_num, sc, hw⟩
      · go_wp2
        go_ret
        exact HF.out _ _ hw

end Go.Proofs.Ytlbaohefappfoaa

namespace Go.Proofs.Ytlbaohefappfoaa
open Go.ChangeShapes Go.WideShapes Go.ChangeAt Go.RowKit
set_option linter.unusedVariables false

/-! ### The greatest so many of a row -/
def exc (c : Int) : List Int → Int
  | [] => 0
  | z :: l => max (z - c) 0 + exc c l
theorem exc_nn (c : Int) (l : List Int) : 0 ≤ exc c l := by
  induction l with
  | nil => simp [exc]
  | cons z l ih => simp only [exc]; omega
theorem exc_append (c : Int) (a b : List Int) : exc c (a ++ b) = exc c a + exc c b := by
  induction a with
  | nil => simp [exc]
  | cons z a ih => simp only [List.cons_append, exc, ih]; omega
theorem exc_perm {c : Int} {a b : List Int} (h : a.Perm b) : exc c a = exc c b := by
  induction h with
  | nil => rfl
  | cons x _ ih => simp [exc, ih]
  | swap x y l => simp [exc]; omega
  | trans _ _ i1 i2 => exact i1.trans i2
theorem exc_over {c : Int} (l : List Int) : tot l ≤ c * (l.length : Int) + exc c l := by
  induction l with
  | nil => simp [tot, exc]
  | cons z l ih =>
    simp only [tot, exc, List.length_cons]
    rw [Int.natCast_succ, Int.mul_add, Int.mul_one]
    omega
theorem exc_up {c : Int} {l : List Int} (h : ∀ z ∈ l, c ≤ z) : tot l = c * (l.length : Int) + exc c l := by
  induction l with
  | nil => simp [tot, exc]
  | cons z l ih =>
    have h1 := ih (fun y hy => h y (by simp [hy]))
    have h2 := h z (by simp)
    simp only [tot, exc, List.length_cons]
    rw [Int.natCast_succ, Int.mul_add, Int.mul_one]
    omega
theorem exc_down {c : Int} {l : List Int} (h : ∀ z ∈ l, z ≤ c) : exc c l = 0 := by
  induction l with
  | nil => rfl
  | cons z l ih =>
    have h1 := ih (fun y hy => h y (by simp [hy]))
    have h2 := h z (by simp)
    simp only [exc]; omega
theorem top_over {d : List Int} {n : Nat} (hn : n ≤ d.length) {c : Int} : tot (d.take n) ≤ c * (n : Int) + exc c d := by
  have h1 := exc_over (c := c) (d.take n)
  have h2 : exc c d = exc c (d.take n) + exc c (d.drop n) := by rw [← exc_append, List.take_append_drop]
  have h3 := exc_nn c (d.drop n)
  rw [List.length_take, Nat.min_eq_left hn] at h1
  omega
theorem top_at {d : List Int} {n : Nat} (hn : n ≤ d.length) (hs : d.Pairwise (fun a b => b ≤ a)) (h0 : ∀ z ∈ d, 0 ≤ z) : ∃ c : Int, tot (d.take n) = c * (n : Int) + exc c d := by
  have hsplit : ∀ c, exc c d = exc c (d.take n) + exc c (d.drop n) := fun c => by rw [← exc_append, List.take_append_drop]
  by_cases e : n < d.length
  · refine ⟨d[n], ?_⟩
    have h1 : ∀ z ∈ d.take n, d[n] ≤ z := fun z hz => by
      obtain ⟨i, hi, rfl⟩ := List.getElem_of_mem hz
      rw [List.length_take] at hi
      rw [List.getElem_take]
      exact List.pairwise_iff_getElem.1 hs i n (by omega) e (by omega)
    have h2 : ∀ z ∈ d.drop n, z ≤ d[n] := fun z hz => by
      obtain ⟨i, hi, rfl⟩ := List.getElem_of_mem hz
      rw [List.length_drop] at hi
      rw [List.getElem_drop]
      by_cases e0 : i = 0
      · subst e0; simp
      · exact List.pairwise_iff_getElem.1 hs n (n + i) e (by omega) (by omega)
    have h3 := exc_up h1
    rw [List.length_take, Nat.min_eq_left hn] at h3
    rw [hsplit, exc_down h2, h3]; omega
  · have hl : n = d.length := by omega
    refine ⟨0, ?_⟩
    rw [hl, List.take_length, exc_up h0]
/-- number by number not less -/
def LeL : List Int → List Int → Prop
  | [], [] => True
  | x :: a, y :: b => x ≤ y ∧ LeL a b
  | _, _ => False
theorem LeL.len {a b : List Int} (h : LeL a b) : a.length = b.length := by
  induction a generalizing b with
  | nil => cases b with
    | nil => rfl
    | cons y b => exact h.elim
  | cons x a ih => cases b with
    | nil => exact h.elim
    | cons y b => simp [ih h.2]
theorem LeL.exc {c : Int} {a b : List Int} (h : LeL a b) : exc c a ≤ exc c b := by
  induction a generalizing b with
  | nil => cases b with
    | nil => exact Int.le_refl _
    | cons y b => exact h.elim
  | cons x a ih => cases b with
    | nil => exact h.elim
    | cons y b =>
      have := ih h.2
      have := h.1
      simp only [Go.Proofs.Ytlbaohefappfoaa.exc]; omega
theorem LeL.tot {a b : List Int} (h : LeL a b) : tot a ≤ tot b := by
  induction a generalizing b with
  | nil => cases b with
    | nil => exact Int.le_refl _
    | cons y b => exact h.elim
  | cons x a ih => cases b with
    | nil => exact h.elim
    | cons y b =>
      have := ih h.2
      have := h.1
      simp only [Go.Proofs.Ytlbaohefappfoaa.tot]; omega
theorem tops_le {a b : List Int} (h : LeL a b) (hb : ∀ n ∈ b, 0 ≤ n) (k : Int) : tot (tops a k) ≤ tot (tops b k) := by
  have hl := h.len
  unfold tops
  rw [hl]
  have hn := clampN_le k b.length
  obtain ⟨c, hc⟩ := top_at (d := desc b) (n := clampN k b.length) (by rw [desc_len]; exact hn) (desc_srt b) (fun z hz => hb z ((desc_perm b).mem_iff.1 hz))
  rw [hc]
  have h1 := top_over (d := desc a) (n := clampN k b.length) (by rw [desc_len, hl]; exact hn) (c := c)
  rw [exc_perm (desc_perm a)] at h1
  rw [exc_perm (desc_perm b)]
  have := h.exc (c := c)
  omega
theorem sum_tops6 {zs : List Int} {k : Int} (h : ∀ n ∈ zs, 0 ≤ n ∧ n ≤ 60) (hl : zs.length ≤ 6) : sumW (tops zs k) = tot (tops zs k) := by
  have h1 : ∀ n ∈ tops zs k, 0 ≤ n ∧ n ≤ 60 := fun n hn => h n (tops_sub n hn)
  have h2 : (tops zs k).length ≤ 6 := by rw [tops_len]; exact Nat.le_trans (clampN_le _ _) hl
  unfold sumW
  rw [fold_small _ 0 h1 (by omega) (by omega)]
  omega

/-! ### Parts that are not shorter -/
def LeP : List PartM → List PartM → Prop
  | [], [] => True
  | p :: a, q :: b => (p.kind = q.kind ∧ p.res = q.res ∧ p.len ≤ q.len) ∧ LeP a b
  | _, _ => False
theorem LeP.refl (a : List PartM) : LeP a a := by
  induction a with
  | nil => trivial
  | cons p a ih => exact ⟨⟨rfl, rfl, Int.le_refl _⟩, ih⟩
theorem LeP.ind {P : List PartM → List PartM → Prop} (h0 : P [] []) (h1 : ∀ p q a b, p.kind = q.kind → p.res = q.res → p.len ≤ q.len → LeP a b → P a b → P (p :: a) (q :: b)) {a b : List PartM} (h : LeP a b) : P a b := by
  induction a generalizing b with
  | nil => cases b with
    | nil => exact h0
    | cons y b => exact h.elim
  | cons x a ih => cases b with
    | nil => exact h.elim
    | cons y b => exact h1 _ _ _ _ h.1.1 h.1.2.1 h.1.2.2 h.2 (ih h.2)
theorem LeP.len {a b : List PartM} (h : LeP a b) : a.length = b.length := LeP.ind (P := fun a b => a.length = b.length) rfl (fun p q a b _ _ _ _ h => by simp [h]) h
theorem LeP.get {a b : List PartM} (h : LeP a b) (k : Nat) : (a.getD k default).kind = (b.getD k default).kind ∧ (a.getD k default).res = (b.getD k default).res ∧ (a.getD k default).len ≤ (b.getD k default).len := by
  induction a generalizing b k with
  | nil => cases b with
    | nil => exact ⟨rfl, rfl, Int.le_refl _⟩
    | cons y b => exact h.elim
  | cons x a ih => cases b with
    | nil => exact h.elim
    | cons y b =>
      cases k with
      | zero => exact h.1
      | succ k => simpa using ih h.2 k
theorem LeP.max {a b : List PartM} (h : LeP a b) (hl : LenOk a) : maxL a ≤ maxL b ∧ (maxL a = 0 ↔ maxL b = 0) := by
  revert hl
  refine LeP.ind (P := fun a b => LenOk a → maxL a ≤ maxL b ∧ (maxL a = 0 ↔ maxL b = 0)) (fun _ => ⟨Int.le_refl _, Iff.rfl⟩) (fun p q a b h1 h2 h3 _ ih hl => ?_) h
  have h4 := ih (fun r hr => hl r (by simp [hr]))
  have h5 := hl p (by simp)
  have h6 := maxL_nn a
  have h7 := maxL_nn b
  obtain ⟨i1, i2⟩ := h4
  simp only [maxL]
  rw [← h1]
  split
  · refine ⟨by omega, ?_⟩
    constructor <;> intro h <;> omega
  · refine ⟨by omega, ?_⟩
    constructor
    · intro h; have := i2.1 (by omega); omega
    · intro h; have := i2.2 (by omega); omega
theorem LeP.sum {a b : List PartM} (h : LeP a b) (k : Int) : sumK k a ≤ sumK k b := by
  refine LeP.ind (P := fun a b => sumK k a ≤ sumK k b) (Int.le_refl _) (fun p q a b h1 h2 h3 _ ih => ?_) h
  simp only [sumK]
  rw [← h1]
  split <;> omega
theorem LeP.filter {a b : List PartM} (h : LeP a b) (homes : List Int) (cl : Int) : LeP (a.filter (srvB homes cl)) (b.filter (srvB homes cl)) := by
  refine LeP.ind (P := fun a b => LeP (a.filter (srvB homes cl)) (b.filter (srvB homes cl))) trivial (fun p q a b h1 h2 h3 _ ih => ?_) h
  have e : srvB homes cl q = srvB homes cl p := by unfold srvB; rw [h1, h2]
  simp only [List.filter_cons]
  rw [e]
  split
  · exact ⟨⟨h1, h2, h3⟩, ih⟩
  · exact ih
def LeT (t u : TaskR) : Prop := t.per = u.per ∧ t.prio = u.prio ∧ t.cl = u.cl ∧ LeP t.parts u.parts
theorem LeT.refl (t : TaskR) : LeT t t := ⟨rfl, rfl, rfl, LeP.refl _⟩
def LeTs : List TaskR → List TaskR → Prop
  | [], [] => True
  | p :: a, q :: b => LeT p q ∧ LeTs a b
  | _, _ => False
theorem LeTs.refl (a : List TaskR) : LeTs a a := by
  induction a with
  | nil => trivial
  | cons p a ih => exact ⟨LeT.refl _, ih⟩
theorem LeTs.set {a : List TaskR} {k : Nat} {u : TaskR} (h : LeT (a.getD k default) u) : LeTs a (a.set k u) := by
  induction a generalizing k with
  | nil => trivial
  | cons p a ih =>
    cases k with
    | zero => exact ⟨h, LeTs.refl _⟩
    | succ k => exact ⟨LeT.refl _, ih (by simpa using h)⟩
theorem LeP.set {a : List PartM} {k : Nat} {q : PartM} (h : (a.getD k default).kind = q.kind ∧ (a.getD k default).res = q.res ∧ (a.getD k default).len ≤ q.len) : LeP a (a.set k q) := by
  induction a generalizing k with
  | nil => trivial
  | cons p a ih =>
    cases k with
    | zero => exact ⟨h, LeP.refl _⟩
    | succ k => exact ⟨⟨rfl, rfl, Int.le_refl _⟩, ih (by simpa using h)⟩
theorem LeTs.get {a b : List TaskR} (h : LeTs a b) (k : Nat) : LeT (a.getD k default) (b.getD k default) := by
  induction a generalizing b k with
  | nil => cases b with
    | nil => exact LeT.refl _
    | cons y b => exact h.elim
  | cons x a ih => cases b with
    | nil => exact h.elim
    | cons y b =>
      cases k with
      | zero => exact h.1
      | succ k => simpa using ih h.2 k
theorem LeTs.len {a b : List TaskR} (h : LeTs a b) : a.length = b.length := by
  induction a generalizing b with
  | nil => cases b with
    | nil => rfl
    | cons y b => exact h.elim
  | cons x a ih => cases b with
    | nil => exact h.elim
    | cons y b => simp [ih h.2]
structure LeS (s t : SetR) : Prop where
  proto : s.proto = t.proto
  cores : s.cores = t.cores
  homes : s.homes = t.homes
  tasks : LeTs s.tasks t.tasks
  oks : okS s = true
  okt : okS t = true
section
variable {s t : SetR}
theorem LeS.lens (h : LeS s t) (k : Nat) : LenOk (s.tasks.getD k default).parts := by
  by_cases hk : k < s.tasks.length
  · exact ((Good.of h.oks).parts _ (getD_mem hk)).lens
  · have e : s.tasks.getD k default = default := by simp [List.getD, hk]
    rw [e]; intro p hp; exact absurd hp (by show p ∉ ([] : List PartM); simp)
theorem LeS.there (h : LeS s t) (of : Int) : thereB t of = thereB s of := by unfold thereB; rw [h.oks, h.okt, h.tasks.len]
theorem LeS.part (h : LeS s t) (of part : Int) : (partAt s of part).kind = (partAt t of part).kind ∧ (partAt s of part).res = (partAt t of part).res ∧ (partAt s of part).len ≤ (partAt t of part).len := by
  unfold partAt; exact (h.tasks.get _).2.2.2.get _
theorem LeS.fairK (h : LeS s t) (of part : Int) : fairK t of part = fairK s of part := by
  unfold Go.Proofs.Ytlbaohefappfoaa.fairK
  rw [h.there, (h.tasks.get of.toNat).2.2.2.len, (h.part of part).1]
theorem roth_le {of : Int} {k : Nat} {a b : List TaskR} (h : LeTs a b) (hl : ∀ t ∈ a, LenOk t.parts) : LeL (rothL of k a) (rothL of k b) := by
  induction a generalizing b k with
  | nil => cases b with
    | nil => trivial
    | cons y b => exact h.elim
  | cons x a ih => cases b with
    | nil => exact h.elim
    | cons y b =>
      have h1 := ih (k := k + 1) h.2 (fun t ht => hl t (by simp [ht]))
      have h2 := (h.1.2.2.2.max (hl x (by simp))).1
      simp only [rothL]
      split
      · simpa using h1
      · exact ⟨h2, h1⟩
theorem LeS.roth (h : LeS s t) (of : Int) : LeL (rothL of 0 s.tasks) (rothL of 0 t.tasks) := roth_le h.tasks (fun q hq => ((Good.of h.oks).parts q hq).lens)
theorem LeS.fairV (h : LeS s t) (of part : Int) : fairV s of part ≤ fairV t of part := by
  unfold Go.Proofs.Ytlbaohefappfoaa.fairV
  rw [h.fairK]
  have h1 := (h.part of part).2.2
  have h2 := (h.roth of).tot
  rw [(roth_is of 0 s.tasks).1, (roth_is of 0 t.tasks).1] at h2
  split <;> omega
theorem LeS.besV (h : LeS s t) (of : Int) : besV s of ≤ besV t of := by
  have hs := Good.of h.oks
  have ht := Good.of h.okt
  have b1 : ∀ n ∈ rothL of 0 s.tasks, 0 ≤ n ∧ n ≤ 60 := fun n hn => rothL_bd (fun q hq => (hs.parts q hq).lens) n hn
  have b2 : ∀ n ∈ rothL of 0 t.tasks, 0 ≤ n ∧ n ≤ 60 := fun n hn => rothL_bd (fun q hq => (ht.parts q hq).lens) n hn
  have l1 := Nat.le_trans (rothL_len of 0 s.tasks) hs.ntasks.2
  have l2 := Nat.le_trans (rothL_len of 0 t.tasks) ht.ntasks.2
  have e : coresV t = coresV s := by unfold coresV; rw [h.oks, h.okt, h.cores]
  unfold Go.Proofs.Ytlbaohefappfoaa.besV
  rw [sum_tops6 b1 l1, sum_tops6 b2 l2, e]
  exact tops_le (h.roth of) (fun n hn => (b2 n hn).1) _
theorem LeS.insV (h : LeS s t) (of part : Int) : insV s of part ≤ insV t of part := by
  have h1 := (h.part of part).2.2
  have h2 := h.besV of
  unfold Go.Proofs.Ytlbaohefappfoaa.insV
  rw [h.fairK]
  split <;> omega
theorem ask_le {cl : Int} {a b : List TaskR} (h : LeTs a b) (hl : ∀ t ∈ a, LenOk t.parts) (hl2 : ∀ t ∈ b, LenOk t.parts) : askN cl b = askN cl a := by
  induction a generalizing b with
  | nil => cases b with
    | nil => rfl
    | cons y b => exact h.elim
  | cons x a ih => cases b with
    | nil => exact h.elim
    | cons y b =>
      have h1 := ih h.2 (fun t ht => hl t (by simp [ht])) (fun t ht => hl2 t (by simp [ht]))
      have h2 := h.1.2.2.2.max (hl x (by simp))
      have h3 : sumK 3 x.parts ≠ 0 ↔ sumK 3 y.parts ≠ 0 := by
        have a1 := maxL_le_sum (hl x (by simp))
        have a2 := maxL_le_sum (hl2 y (by simp))
        have a3 := maxL_nn x.parts
        have a4 := maxL_nn y.parts
        constructor
        · intro e h0; exact e (sum_le_maxL (hl x (by simp)) (h2.2.2 (by omega)))
        · intro e h0; exact e (sum_le_maxL (hl2 y (by simp)) (h2.2.1 (by omega)))
      have h4 := h.1.2.2.1
      simp only [askN, h1, h4]
      by_cases e : y.cl = cl ∧ sumK 3 y.parts ≠ 0
      · rw [if_pos e, if_pos ⟨e.1, h3.2 e.2⟩]
      · rw [if_neg e, if_neg (fun g => e ⟨g.1, h3.1 g.2⟩)]
theorem LeS.rnd (h : LeS s t) (cl : Int) : rndV t cl = rndV s cl := by
  have e : askersV t cl = askersV s cl := by
    unfold askersV; rw [h.oks, h.okt]
    exact ask_le h.tasks (fun q hq => ((Good.of h.oks).parts q hq).lens) (fun q hq => ((Good.of h.okt).parts q hq).lens)
  unfold rndV coreAt
  rw [e, h.cores]
theorem LeS.slow (h : LeS s t) (cl : Int) {k : Nat} {a b : List TaskR} (hab : LeTs a b) (hl : ∀ t ∈ a, LenOk t.parts) : slowL s cl k a ≤ slowL t cl k b := by
  induction a generalizing b k with
  | nil => cases b with
    | nil => exact Int.le_refl _
    | cons y b => exact hab.elim
  | cons x a ih => cases b with
    | nil => exact hab.elim
    | cons y b =>
      have h1 := ih (k := k + 1) hab.2 (fun t ht => hl t (by simp [ht]))
      have h2 := hab.1.2.2.2.max (hl x (by simp))
      have h3 := h.besV k
      have h4 := hab.1.2.2.1
      simp only [slowL]
      rw [h4]
      by_cases e : y.cl = cl ∧ maxL y.parts ≠ 0
      · have e2 : y.cl = cl ∧ maxL x.parts ≠ 0 := ⟨e.1, fun g => e.2 (h2.2.1 g)⟩
        simp only [if_pos e, if_pos e2]; omega
      · have e2 : ¬ (y.cl = cl ∧ maxL x.parts ≠ 0) := fun g => e ⟨g.1, fun g2 => g.2 (h2.2.2 g2)⟩
        simp only [if_neg e, if_neg e2]; omega
theorem LeS.outV (h : LeS s t) (of : Int) : outV s of ≤ outV t of := by
  have h1 := h.tasks.get of.toNat
  have h2 := h1.2.2.2.max (h.lens _)
  have h3 := h.slow (s.tasks.getD of.toNat default).cl (k := 0) h.tasks (fun q hq => ((Good.of h.oks).parts q hq).lens)
  have h5 : ∀ q ∈ s.tasks, LenOk q.parts := fun q hq => ((Good.of h.oks).parts q hq).lens
  unfold Go.Proofs.Ytlbaohefappfoaa.outV
  rw [h.there, ← h1.2.2.1, h.rnd]
  by_cases e : thereB s of = true ∧ maxL (s.tasks.getD of.toNat default).parts ≠ 0
  · rw [if_pos e, if_pos ⟨e.1, fun g => e.2 (h2.2.2 g)⟩]
    obtain ⟨ho, r1, r2⟩ := thereB_true.1 e.1
    have hg := Good.of ho
    have hm : s.tasks.getD of.toNat default ∈ s.tasks := getD_mem (by omega)
    have hp := hg.place _ hm
    exact Int.mul_le_mul_of_nonneg_left h3 (rndV_bd ho (by omega)).1
  · rw [if_neg e, if_neg (fun g => e ⟨g.1, fun g2 => g.2 (h2.2.1 g2)⟩)]
    exact Int.le_refl _
theorem LeS.tokV (h : LeS s t) (of part : Int) : tokV s of part ≤ tokV t of part := by
  have h1 := h.insV of part
  have h2 := h.outV of
  unfold Go.Proofs.Ytlbaohefappfoaa.tokV
  rw [h.fairK]
  split <;> omega
theorem LeS.srv (h : LeS s t) (of cl : Int) : LeP (srv s of cl) (srv t of cl) := by
  unfold Go.Proofs.Ytlbaohefappfoaa.srv
  rw [h.oks, h.okt, h.tasks.len, h.homes]
  split
  · exact (h.tasks.get of.toNat).2.2.2.filter _ _
  · trivial
theorem LeS.low (h : LeS s t) (pr cl : Int) {k : Nat} {a b : List TaskR} (hab : LeTs a b) : lowL s pr cl k a ≤ lowL t pr cl k b := by
  induction a generalizing b k with
  | nil => cases b with
    | nil => exact Int.le_refl _
    | cons y b => exact hab.elim
  | cons x a ih => cases b with
    | nil => exact hab.elim
    | cons y b =>
      have h1 := ih (k := k + 1) hab.2
      have h2 : mostV s k cl ≤ mostV t k cl := ((h.srv k cl).max (srv_len s k cl).1).1
      simp only [lowL]
      rw [hab.1.2.1]
      split <;> omega
theorem workV_each {w b p e e' : Int} (h : e ≤ e') : workV w b p e ≤ workV w b p e' := by
  have h2 := (jobV_bd w b p).1
  have h3 : jobV w b p * max e 0 ≤ jobV w b p * max e' 0 := Int.mul_le_mul_of_nonneg_left (by omega) h2
  unfold workV; omega
theorem LeS.riv (h : LeS s t) (bs : List Int) (pr cl wd : Int) {k : Nat} {a b : List TaskR} (hab : LeTs a b) : workS wd (rivL s bs pr cl k a) ≤ workS wd (rivL t bs pr cl k b) := by
  induction a generalizing b k with
  | nil => cases b with
    | nil => exact Int.le_refl _
    | cons y b => exact hab.elim
  | cons x a ih => cases b with
    | nil => exact hab.elim
    | cons y b =>
      have h1 := ih (k := k + 1) hab.2
      have h2 : atV s k cl ≤ atV t k cl := (h.srv k cl).sum 3
      simp only [rivL, workS_append]
      rw [hab.1.2.1, hab.1.1]
      split
      · have := workV_each (w := wd) (b := bs.getD k 0) (p := y.per) h2
        simp only [workS]; omega
      · simp only [workS]; omega
theorem LeS.agent (h : LeS s t) (bs : List Int) (of part : Int) (hk : agentK t bs of part = true) : agentK s bs of part = true ∧ agentV s bs of part ≤ agentV t bs of part := by
  obtain ⟨k1, k2⟩ := agent_lock hk
  have f1 : Go.Proofs.Ytlbaohefappfoaa.fairK s of part = true := by rw [← h.fairK]; exact k1
  have hb : agentB t bs of part = true := agentB_true.2 ⟨k1, k2⟩
  have hb2 : agentB s bs of part = true := agentB_true.2 ⟨f1, by rw [h.tasks.len]; exact k2⟩
  have eh : homeV t of part = homeV s of part := by unfold homeV; rw [h.homes, (h.part of part).2.1]
  have ep : prioOf t of = prioOf s of := by unfold prioOf; exact (h.tasks.get of.toNat).2.1.symm
  have hl : leastV s of part ≤ leastV t of part := by
    have a1 := (h.part of part).2.2
    have a2 : lowerV s of (homeV s of part) ≤ lowerV t of (homeV s of part) := by
      unfold lowerV
      rw [h.there, ep]
      split
      · exact h.low _ _ h.tasks
      · exact Int.le_refl _
    unfold leastV; rw [eh]; omega
  obtain ⟨_, l1, l2, _⟩ := lock_part k1
  have hlo := lowerV_bd t of (homeV t of part)
  unfold agentK agentO at hk
  unfold agentV agentK agentO
  rw [if_pos hb] at hk ⊢
  rw [if_pos hb2]
  cases e : fixO (winF (leastV t of part) (rivL t bs (prioOf t of) (homeV t of part) 0 t.tasks)) (leastV t of part) with
  | none => rw [e] at hk; cases hk
  | some v =>
    obtain ⟨u, hu, huv⟩ := fix_le (F := winF (leastV s of part) (rivL s bs (prioOf s of) (homeV s of part) 0 s.tasks)) (fun x y hxy => winF_mono _ _ hxy) (fun x => by
      have := h.riv bs (prioOf s of) (homeV s of part) x (k := 0) h.tasks
      rw [ep, eh]
      unfold winF capV; omega) hl (fun x => (winF_own _ _ x).1) (by unfold leastV; omega) e
    rw [hu]
    exact ⟨rfl, huv⟩
theorem LeS.wait (h : LeS s t) (bs : List Int) (of part : Int) (hk : waitK t bs of part = true) : waitK s bs of part = true ∧ waitV s bs of part ≤ waitV t bs of part := by
  unfold waitK at hk ⊢
  unfold waitV
  rw [h.tasks.len, h.proto] at *
  split at hk
  · rename_i e
    rw [if_pos e, if_pos e, if_pos e]
    by_cases p2 : t.proto = 2
    · rw [if_pos p2] at hk ⊢
      have p1 : ¬ t.proto = 1 := by omega
      rw [if_neg p1, if_neg p1, if_pos p2, if_pos p2]
      exact h.agent bs of part hk
    · rw [if_neg p2] at hk ⊢
      refine ⟨by rw [← h.fairK]; exact hk, ?_⟩
      rw [if_neg p2, if_neg p2]
      split
      · exact h.fairV of part
      · exact h.tokV of part
  · cases hk
end
theorem wait_own {s : SetR} {bs : List Int} {of part : Int} (h : waitK s bs of part = true) : (partAt s of part).len ≤ waitV s bs of part := by
  obtain ⟨f, hl⟩ := waitK_lock h
  obtain ⟨ho, l1, l2, _⟩ := lock_part f
  have hg := Good.of ho
  unfold waitK at h
  unfold waitV
  rw [if_pos hl] at h ⊢
  by_cases p1 : s.proto = 1
  · rw [if_pos p1]
    have hb := tot_small (fun x (hx : x ∈ othL of 0 s.tasks) => by have := othL_bd (fun q hq => (hg.parts q hq).lens) x hx; omega)
    unfold fairV; rw [if_pos f]; omega
  · rw [if_neg p1]
    by_cases p2 : s.proto = 2
    · rw [if_pos p2] at h ⊢
      have h1 := (agentV_in h).1
      have hlo := lowerV_bd s of (homeV s of part)
      unfold leastV at h1; omega
    · rw [if_neg p2]
      have h1 := (besV_bd ho of).1
      have h2 := (outV_bd s of).1
      unfold tokV insV; rw [if_pos f, if_pos f]; omega
end Go.Proofs.Ytlbaohefappfoaa

namespace Go.Proofs.Ytlbaohefappfoaa
open Go.ChangeShapes Go.WideShapes Go.ChangeAt Go.RowKit
set_option linter.unusedVariables false
section
variable {s : SetR} {bs cs : List Int}
theorem holds_split (h : holdsV s bs = true) : okS s = true ∧ bs.length = s.tasks.length ∧ ∀ i, i < s.tasks.length → nextK s bs i = true ∧ nextV s bs i ≤ bs.getD i 0 ∧ 1 ≤ bs.getD i 0 := by
  unfold holdsV at h
  simp only [Bool.and_eq_true, decide_eq_true_eq] at h
  refine ⟨h.1, h.2.1, fun i hi => ?_⟩
  have e := (upTo_iff _ _).1 h.2.2 i hi
  unfold holdB at e
  simp only [Bool.and_eq_true, decide_eq_true_eq] at e
  exact ⟨e.1, e.2.1, e.2.2.1⟩
theorem nextRow_at {i : Nat} (hi : i < s.tasks.length) : (nextRow s bs).getD i 0 = nextV s bs i := by
  unfold nextRow
  simp [List.getD, hi]
theorem nn_of (h : ∀ n ∈ bs, 0 ≤ n) : nnB bs = true := nnB_true.2 h
/-- a round does not lead over bounds that hold -/
theorem round_under (h : holdsV s bs = true) (hl : cs.length = s.tasks.length) (hc : nnB cs = true) (hle : ∀ k, cs.getD k 0 ≤ bs.getD k 0) : ∀ k, (nextRow s cs).getD k 0 ≤ bs.getD k 0 := by
  obtain ⟨ho, hb, hh⟩ := holds_split h
  intro k
  by_cases hk : k < s.tasks.length
  · have hn : nnB bs = true := nn_yes (fun k hk => by have := (hh k (by omega)).2.2; omega)
    obtain ⟨h1, h2, _⟩ := hh k hk
    have := (next_rises hle (by omega) hc hn h1).2
    rw [nextRow_at hk]; omega
  · have e1 : (nextRow s cs).getD k 0 = 0 := by
      have := nextRow_len s cs
      simp [List.getD, show (nextRow s cs)[k]? = none by simp; omega]
    have e2 : bs.getD k 0 = 0 := by simp [List.getD, show bs[k]? = none by simp; omega]
    rw [e1, e2]; exact Int.le_refl _
theorem set_under (h : holdsV s bs = true) (n : Nat) : ∀ cs : List Int, cs.length = s.tasks.length → nnB cs = true → (∀ k, cs.getD k 0 ≤ bs.getD k 0) → (setL s n cs).2 = 0 → ∀ k, (setL s n cs).1.getD k 0 ≤ bs.getD k 0 := by
  induction n with
  | zero => intro cs _ _ _ h0; simp [setL] at h0
  | succ n ih =>
    intro cs hl hc hle h0
    rw [setL_succ] at h0 ⊢
    by_cases e : roundB s cs = true
    · rw [if_pos e] at h0 ⊢
      by_cases e2 : nextRow s cs = cs
      · rw [if_pos e2] at h0 ⊢; exact hle
      · rw [if_neg e2] at h0 ⊢
        exact ih _ (nextRow_len s cs) (nn_of fun n hn => (nextRow_ok s cs n hn).1) (round_under h hl hc hle) h0
    · rw [if_neg e] at h0; simp at h0
theorem waits_over {of : Int} (h : waitsK s bs of = true) : sumK 3 (taskAt s of).parts ≤ tot (waitsL s bs of) := by
  have hw := h
  unfold waitsK at hw
  simp only [Bool.and_eq_true] at hw
  have hk := (upTo_iff _ _).1 hw.2
  have e : waitsL s bs of = (List.range (partsOf s of).length).map (pW s bs of) := by unfold waitsL; rw [if_pos h]
  have all : ∀ n, n ≤ (partsOf s of).length → sumK 3 ((taskAt s of).parts.take n) ≤ tot ((List.range n).map (pW s bs of)) := fun n => by
    induction n with
    | zero => intro _; simp [sumK, tot]
    | succ n ih =>
      intro hn
      have h1 := ih (by omega)
      have hp : n < (taskAt s of).parts.length := hn
      rw [range_snoc, tot_append, sumK_snoc 3 _ n hp]
      have hq : (taskAt s of).parts.getD n default = partAt s of n := by unfold partAt taskAt; simp
      rw [hq]
      have h2 : (if (partAt s of n).kind = 3 then (partAt s of n).len else 0) ≤ pW s bs of n := by
        unfold pW
        have := hk n (by omega)
        unfold pK at this
        split
        · rename_i e3; rw [if_pos e3] at this; exact wait_own this
        · exact Int.le_refl _
      simp only [tot]
      omega
  have := all _ (Nat.le_refl _)
  rw [e]
  rw [show (taskAt s of).parts.take (partsOf s of).length = (taskAt s of).parts from List.take_length] at this
  exact this
/-- nor are the soonest bounds over them -/
theorem soon_under (h : holdsV s bs = true) : ∀ k, (soonL s).getD k 0 ≤ bs.getD k 0 := by
  obtain ⟨ho, hb, hh⟩ := holds_split h
  intro k
  by_cases hk : k < s.tasks.length
  · obtain ⟨h1, h2, _⟩ := hh k hk
    have h3 := next_own h1
    have h4 := (nextK_true.1 h1).1
    have h5 := waits_over h4
    have hg := (Good.of ho).parts (s.tasks.getD k default) (getD_mem hk)
    have e : (soonL s).getD k 0 = allK (s.tasks.getD k default).parts := by unfold soonL; simp [List.getD, hk]
    have et : (taskAt s (k : Nat)).parts = (s.tasks.getD k default).parts := by unfold taskAt; simp
    have ek := allK_is hg.good
    rw [e, ek, ← et]
    unfold ownV at h3
    rw [if_pos h4] at h3
    omega
  · have e1 : (soonL s).getD k 0 = 0 := by simp [List.getD, soonL, show s.tasks[k]? = none by simp; omega]
    have e2 : bs.getD k 0 = 0 := by simp [List.getD, show bs[k]? = none by simp; omega]
    rw [e1, e2]; exact Int.le_refl _
/-- the told bounds are the least that hold -/
theorem least_of (hE : anE s = 0) (h : holdsV s bs = true) : ∀ k, (anB s).getD k 0 ≤ bs.getD k 0 := by
  obtain ⟨ho, h0⟩ := anE_zero hE
  rw [(anB_rest hE).1]
  exact set_under h 200 _ (soonL_len s) (nn_of fun n hn => (soonL_ok ho n hn).1) (soon_under h) h0
end
end Go.Proofs.Ytlbaohefappfoaa

namespace Go.Proofs.Ytlbaohefappfoaa
open Go.ChangeShapes Go.WideShapes Go.ChangeAt Go.RowKit
set_option linter.unusedVariables false
theorem allK_pos {ps : List PartM} (h : LenOk ps) (hl : 1 ≤ ps.length) : 1 ≤ allK ps := by
  cases ps with
  | nil => simp at hl
  | cons p ps =>
    have h1 := h p (by simp)
    have h2 := (allK_bd (ps := ps) (fun q hq => h q (by simp [hq]))).1
    simp only [allK]; omega
theorem next_pos {s : SetR} {bs : List Int} {i : Nat} (ho : okS s = true) (hi : i < s.tasks.length) (h : nextK s bs i = true) : 1 ≤ nextV s bs i := by
  have h3 := next_own h
  have h4 := (nextK_true.1 h).1
  have h5 := waits_over h4
  have hg := (Good.of ho).parts (s.tasks.getD i default) (getD_mem hi)
  have et : (taskAt s (i : Nat)).parts = (s.tasks.getD i default).parts := by unfold taskAt; simp
  have ek := allK_is hg.good
  have e1 := allK_pos hg.lens hg.len.1
  rw [← et] at ek e1
  unfold ownV at h3
  rw [if_pos h4] at h3
  omega
/-- the told bounds hold -/
theorem told_holds {s : SetR} (h : anE s = 0) : holdsV s (anB s) = true := by
  obtain ⟨h1, h2, h3, h4⟩ := anB_rest h
  have ho := (anE_zero h).1
  unfold holdsV
  rw [ho, decide_eq_true h4, Bool.true_and, Bool.true_and, upTo_iff]
  intro i hi
  have e := (upTo_iff _ _).1 h2 i hi
  unfold stepB at e
  simp only [Bool.and_eq_true, decide_eq_true_eq] at e
  have ev : nextV s (anB s) i = (anB s).getD i 0 := by rw [← nextRow_at hi, h3]
  have hp := next_pos ho hi e.1
  unfold holdB
  rw [e.1, ev]
  rw [ev] at hp e
  simp only [Bool.true_and, Bool.and_eq_true, decide_eq_true_eq]
  exact ⟨Int.le_refl _, hp, e.2⟩
/-- each told bound is just what comes of all of them, within its deadline; its waits are told -/
theorem told_at {s : SetR} (h : anE s = 0) {i : Nat} (hi : i < s.tasks.length) : nextK s (anB s) i = true ∧ nextV s (anB s) i = (anB s).getD i 0 ∧ (anB s).getD i 0 ≤ (s.tasks.getD i default).dl ∧ waitsK s (anB s) i = true ∧ (anW s).getD i [] = waitsL s (anB s) i ∧ 1 ≤ (anB s).getD i 0 := by
  obtain ⟨h1, h2, h3, h4⟩ := anB_rest h
  have e := (upTo_iff _ _).1 h2 i hi
  unfold stepB at e
  simp only [Bool.and_eq_true, decide_eq_true_eq] at e
  have ev : nextV s (anB s) i = (anB s).getD i 0 := by rw [← nextRow_at hi, h3]
  have hp := next_pos (anE_zero h).1 hi e.1
  refine ⟨e.1, ev, by rw [← ev]; exact e.2, (nextK_true.1 e.1).1, ?_, by rw [← ev]; exact hp⟩
  unfold anW
  rw [if_pos h, h1]
  simp [List.getD, hi]
theorem anW_len {s : SetR} (h : anE s = 0) : (anW s).length = s.tasks.length := by unfold anW; rw [if_pos h]; simp
/-- bounds that are nowhere above the told ones, and somewhere below, don't hold -/
theorem lower_not {s : SetR} {cs : List Int} (h : anE s = 0) {i : Nat} (hi : cs.getD i 0 < (anB s).getD i 0) : holdsV s cs = false := by
  rw [Bool.eq_false_iff]
  intro hh
  have := least_of h hh i
  omega
end Go.Proofs.Ytlbaohefappfoaa

namespace Go.Proofs.Ytlbaohefappfoaa
open Go.ChangeShapes Go.WideShapes Go.ChangeAt Go.RowKit
set_option linter.unusedVariables false

/-! ### What is told of all tasks, number by number -/
theorem upto_all {α : Type} [Inhabited α] {P : List α → Nat → Prop} (ts : List α) (h0 : P [] 0) (hs : ∀ n, n < ts.length → P (ts.take n) n → P (ts.take (n + 1)) (n + 1)) : P ts ts.length := by
  have : ∀ n, n ≤ ts.length → P (ts.take n) n := fun n => by
    induction n with
    | zero => intro _; rw [List.take_zero]; exact h0
    | succ n ih => intro hn; exact hs n (by omega) (ih (by omega))
  have := this ts.length (Nat.le_refl _)
  rwa [List.take_length] at this
theorem flat_snoc {α : Type} (f : Nat → List α) (n : Nat) : (List.range (n + 1)).flatMap f = (List.range n).flatMap f ++ f n := by rw [List.range_succ, List.flatMap_append]; simp
theorem flat_congr {α β : Type} {f g : α → List β} {l : List α} (h : ∀ x ∈ l, f x = g x) : l.flatMap f = l.flatMap g := by
  induction l with
  | nil => rfl
  | cons a l ih => rw [List.flatMap_cons, List.flatMap_cons, h a (by simp), ih (fun x hx => h x (by simp [hx]))]
def mx : List Int → Int
  | [] => 0
  | a :: l => max a (mx l)
theorem mx_perm {a b : List Int} (h : a.Perm b) : mx a = mx b := by
  induction h with
  | nil => rfl
  | cons x _ ih => simp [mx, ih]
  | swap x y l => simp [mx]; omega
  | trans _ _ i1 i2 => exact i1.trans i2
theorem mx_nn (l : List Int) : 0 ≤ mx l := by
  induction l with
  | nil => simp [mx]
  | cons a l ih => simp only [mx]; omega
theorem mx_append (a b : List Int) : mx (a ++ b) = max (mx a) (mx b) := by
  induction a with
  | nil => have := mx_nn b; simp [mx]; omega
  | cons x a ih => simp only [List.cons_append, mx, ih]; omega
theorem othL_flat (of : Int) (ts : List TaskR) : othL of 0 ts = (List.range ts.length).flatMap (fun i : Nat => if (i : Int) = of ∨ maxL (ts.getD i default).parts = 0 then [] else [maxL (ts.getD i default).parts]) :=
  upto_all (P := fun l n => othL of 0 l = (List.range n).flatMap (fun i : Nat => if (i : Int) = of ∨ maxL (ts.getD i default).parts = 0 then [] else [maxL (ts.getD i default).parts])) ts rfl (fun n hn ih => by rw [othL_snoc of ts n hn, ih, flat_snoc])
theorem rothL_flat (of : Int) (ts : List TaskR) : rothL of 0 ts = (List.range ts.length).flatMap (fun i : Nat => if (i : Int) = of then [] else [maxL (ts.getD i default).parts]) :=
  upto_all (P := fun l n => rothL of 0 l = (List.range n).flatMap (fun i : Nat => if (i : Int) = of then [] else [maxL (ts.getD i default).parts])) ts rfl (fun n hn ih => by rw [rothL_snoc of ts n hn, ih, flat_snoc])
theorem rivL_flat (s : SetR) (bs : List Int) (pr cl : Int) (ts : List TaskR) : rivL s bs pr cl 0 ts = (List.range ts.length).flatMap (fun i : Nat => if (ts.getD i default).prio < pr then [PartM.mk (bs.getD i 0) (ts.getD i default).per (atV s i cl)] else []) :=
  upto_all (P := fun l n => rivL s bs pr cl 0 l = (List.range n).flatMap (fun i : Nat => if (ts.getD i default).prio < pr then [PartM.mk (bs.getD i 0) (ts.getD i default).per (atV s i cl)] else [])) ts rfl (fun n hn ih => by rw [rivL_snoc s bs pr cl ts n hn, ih, flat_snoc])
theorem lowL_flat (s : SetR) (pr cl : Int) (ts : List TaskR) : lowL s pr cl 0 ts = mx ((List.range ts.length).map (fun i : Nat => if pr < (ts.getD i default).prio then mostV s i cl else 0)) :=
  upto_all (P := fun l n => lowL s pr cl 0 l = mx ((List.range n).map (fun i : Nat => if pr < (ts.getD i default).prio then mostV s i cl else 0))) ts rfl (fun n hn ih => by
    rw [lowL_snoc s pr cl ts n hn, ih, List.range_succ, List.map_append, mx_append]
    have := (mostV_bd s n cl).1
    simp only [List.map_cons, List.map_nil, mx]
    congr 1
    split <;> omega)
theorem slowL_flat {s : SetR} (ho : okS s = true) (cl : Int) {ts : List TaskR} (hts : ∀ t ∈ ts, LenOk t.parts) : slowL s cl 0 ts = mx ((List.range ts.length).map (fun i : Nat => if (ts.getD i default).cl = cl ∧ maxL (ts.getD i default).parts ≠ 0 then maxL (ts.getD i default).parts + besV s i else 0)) :=
  upto_all (P := fun l n => slowL s cl 0 l = mx ((List.range n).map (fun i : Nat => if (ts.getD i default).cl = cl ∧ maxL (ts.getD i default).parts ≠ 0 then maxL (ts.getD i default).parts + besV s i else 0))) ts rfl (fun n hn ih => by
    rw [slowL_snoc ho cl hts n hn, ih, List.range_succ, List.map_append, mx_append]
    have := (besV_bd ho n).1
    have := maxL_nn (ts.getD n default).parts
    simp only [List.map_cons, List.map_nil, mx]
    congr 1
    split <;> omega)
theorem askN_flat (cl : Int) (ts : List TaskR) : askN cl ts = tot ((List.range ts.length).map (fun i : Nat => if (ts.getD i default).cl = cl ∧ sumK 3 (ts.getD i default).parts ≠ 0 then 1 else 0)) :=
  upto_all (P := fun l n => askN cl l = tot ((List.range n).map (fun i : Nat => if (ts.getD i default).cl = cl ∧ sumK 3 (ts.getD i default).parts ≠ 0 then 1 else 0))) ts rfl (fun n hn ih => by
    rw [askN_snoc cl ts n hn, ih, range_snoc, tot_append]; simp [tot])
theorem othW_flat (s : SetR) (bs : List Int) (of wd : Int) (ts : List TaskR) : othW s bs of wd 0 ts = tot ((List.range ts.length).map (fun i : Nat => if (i : Int) = of then 0 else workV wd (bs.getD i 0) (ts.getD i default).per (eachV s i of))) :=
  upto_all (P := fun l n => othW s bs of wd 0 l = tot ((List.range n).map (fun i : Nat => if (i : Int) = of then 0 else workV wd (bs.getD i 0) (ts.getD i default).per (eachV s i of)))) ts rfl (fun n hn ih => by
    rw [othW_snoc s bs of wd ts n hn, ih, range_snoc, tot_append]; simp [tot])
theorem workS_perm (wd : Int) {a b : List PartM} (h : a.Perm b) : workS wd a = workS wd b := by
  induction h with
  | nil => rfl
  | cons x _ ih => simp [workS, ih]
  | swap x y l => simp [workS]; omega
  | trans _ _ i1 i2 => exact i1.trans i2
theorem perm_uniq : ∀ (a b : List Int), a.Perm b → a.Pairwise (fun x y => y ≤ x) → b.Pairwise (fun x y => y ≤ x) → a = b
  | [], b, h, _, _ => (List.Perm.nil_eq h)
  | x :: a, [], h, _, _ => absurd h.length_eq (by simp)
  | x :: a, y :: b, h, ha, hb => by
    have h1 := List.pairwise_cons.1 ha
    have h2 := List.pairwise_cons.1 hb
    have e : x = y := by
      have m1 : x ∈ y :: b := h.mem_iff.1 (by simp)
      have m2 : y ∈ x :: a := h.mem_iff.2 (by simp)
      rcases List.mem_cons.1 m1 with e | m1
      · exact e
      · rcases List.mem_cons.1 m2 with e | m2
        · exact e.symm
        · have := h2.1 x m1; have := h1.1 y m2; omega
    subst e
    rw [perm_uniq a b (List.Perm.cons_inv h) h1.2 h2.2]
theorem desc_same {a b : List Int} (h : a.Perm b) : desc a = desc b := perm_uniq _ _ ((desc_perm a).trans (h.trans (desc_perm b).symm)) (desc_srt a) (desc_srt b)
theorem tops_perm {a b : List Int} (h : a.Perm b) (k : Int) : tops a k = tops b k := by unfold tops; rw [desc_same h, h.length_eq]

/-- the tasks of t are those of s, each at another place -/
structure Moved (s t : SetR) (σ τ : Nat → Nat) : Prop where
  proto : t.proto = s.proto
  cores : t.cores = s.cores
  homes : t.homes = s.homes
  len : t.tasks.length = s.tasks.length
  task : ∀ i, i < s.tasks.length → t.tasks.getD i default = s.tasks.getD (σ i) default
  lt : ∀ i, i < s.tasks.length → σ i < s.tasks.length
  lt' : ∀ i, i < s.tasks.length → τ i < s.tasks.length
  back : ∀ i, i < s.tasks.length → τ (σ i) = i
  forth : ∀ i, i < s.tasks.length → σ (τ i) = i
section
variable {s t : SetR} {σ τ : Nat → Nat}
theorem Moved.symm (h : Moved s t σ τ) : Moved t s τ σ :=
  ⟨h.proto.symm, h.cores.symm, h.homes.symm, h.len.symm, fun i hi => by rw [h.len] at hi; rw [h.task _ (h.lt' i hi), h.forth i hi], fun i hi => by rw [h.len] at hi ⊢; exact h.lt' i hi, fun i hi => by rw [h.len] at hi ⊢; exact h.lt i hi, fun i hi => by rw [h.len] at hi; exact h.forth i hi, fun i hi => by rw [h.len] at hi; exact h.back i hi⟩
theorem Moved.inj (h : Moved s t σ τ) {i j : Nat} (hi : i < s.tasks.length) (hj : j < s.tasks.length) (e : σ i = σ j) : i = j := by
  rw [← h.back i hi, ← h.back j hj, e]
theorem Moved.perm (h : Moved s t σ τ) : ((List.range s.tasks.length).map σ).Perm (List.range s.tasks.length) := by
  have hn : ((List.range s.tasks.length).map σ).Nodup := by
    rw [List.nodup_iff_pairwise_ne, List.pairwise_map]
    have hp : (List.range s.tasks.length).Pairwise (fun a b => a < b) := List.pairwise_lt_range
    refine List.Pairwise.imp_of_mem (fun {a b} ha hb hlt e => ?_) hp
    have := h.inj (List.mem_range.1 ha) (List.mem_range.1 hb) e
    omega
  refine (List.perm_ext_iff_of_nodup hn List.nodup_range).2 (fun x => ?_)
  rw [List.mem_map, List.mem_range]
  constructor
  · rintro ⟨i, hi, rfl⟩; exact h.lt i (List.mem_range.1 hi)
  · intro hx; exact ⟨τ x, List.mem_range.2 (h.lt' x hx), h.forth x hx⟩
theorem Moved.flat {α : Type} (h : Moved s t σ τ) {f g : Nat → List α} (hf : ∀ i, i < s.tasks.length → f i = g (σ i)) : ((List.range t.tasks.length).flatMap f).Perm ((List.range s.tasks.length).flatMap g) := by
  rw [h.len]
  have e : (List.range s.tasks.length).flatMap f = ((List.range s.tasks.length).map σ).flatMap g := by
    rw [List.flatMap_map]
    refine flat_congr (fun i hi => ?_)
    exact hf i (List.mem_range.1 hi)
  rw [e]
  exact List.Perm.flatMap_right g h.perm
theorem Moved.maps {α : Type} (h : Moved s t σ τ) {f g : Nat → α} (hf : ∀ i, i < s.tasks.length → f i = g (σ i)) : ((List.range t.tasks.length).map f).Perm ((List.range s.tasks.length).map g) := by
  rw [h.len]
  have e : (List.range s.tasks.length).map f = ((List.range s.tasks.length).map σ).map g := by
    rw [List.map_map]
    refine List.map_congr_left (fun i hi => ?_)
    exact hf i (List.mem_range.1 hi)
  rw [e]
  exact h.perm.map g
theorem like_no {a b : TaskR} (h : likeB a b = false) : ((b.name.toList == a.name.toList) = false ∧ (b.prio == a.prio) = false) := by
  unfold likeB at h
  rw [Bool.or_eq_false_iff] at h
  exact h
theorem bytes_comm (a b : ByteArray) : (a.toList == b.toList) = (b.toList == a.toList) := by
  rw [Bool.eq_iff_iff, beq_iff_eq, beq_iff_eq]; exact eq_comm
theorem apart_of {s : SetR} (ho : okS s = true) {i k : Nat} (hi : i < s.tasks.length) (hk : k < s.tasks.length) (hne : i ≠ k) : ((s.tasks.getD i default).name.toList == (s.tasks.getD k default).name.toList) = false ∧ ((s.tasks.getD i default).prio == (s.tasks.getD k default).prio) = false := by
  have hg := Good.of ho
  have key : ∀ i k, i < k → k < s.tasks.length → ((s.tasks.getD i default).name.toList == (s.tasks.getD k default).name.toList) = false ∧ ((s.tasks.getD i default).prio == (s.tasks.getD k default).prio) = false := fun i k hik hk => by
    have h := hg.apart k hk
    unfold takenB at h
    rw [List.any_eq_false] at h
    have hm : s.tasks.getD i default ∈ s.tasks.take k := by
      have e2 : (s.tasks.take k).getD i default = s.tasks.getD i default := by simp [List.getD, show i < k by omega]
      rw [← e2]; exact getD_mem (by rw [List.length_take]; omega)
    exact like_no (by simpa using h _ hm)
  rcases Nat.lt_or_ge i k with h | h
  · exact key i k h hk
  · obtain ⟨a, b⟩ := key k i (by omega) hi
    refine ⟨by rw [bytes_comm]; exact a, ?_⟩
    rw [beq_eq_false_iff_ne] at b ⊢
    exact fun e => b e.symm
theorem Moved.ok1 (h : Moved s t σ τ) (ho : okS s = true) : okS t = true := by
  have hg := Good.of ho
  have ht := ((okS_iff s).1 ho).2
  refine okS_all (by rw [h.proto]; exact hg.proto) (by rw [h.cores]; exact hg.ncores) (by rw [h.cores]; exact hg.cores) (by rw [h.homes]; exact hg.nhomes) (by rw [h.homes, h.cores]; intro n hn; have := hg.homes n hn; omega) (by rw [h.len]; exact hg.ntasks) (fun k hk => ?_) (fun i k hik hk => ?_)
  · rw [h.len] at hk
    rw [h.task k hk, h.cores, h.homes]
    obtain ⟨a, b, c, d⟩ := taskE_ok (ht _ (h.lt k hk))
    have b2 := inB_true.1 b
    exact ⟨a, by omega, d⟩
  · rw [h.len] at hk
    rw [h.task k hk, h.task i (by omega)]
    exact apart_of ho (h.lt i (by omega)) (h.lt k hk) (fun e => by have := h.inj (by omega) hk e; omega)
theorem Moved.ok (h : Moved s t σ τ) : okS t = okS s := by
  rw [Bool.eq_iff_iff]
  exact ⟨h.symm.ok1, h.ok1⟩
theorem Moved.at (h : Moved s t σ τ) {i : Nat} (hi : i < s.tasks.length) : taskAt t i = taskAt s (σ i : Nat) := by
  unfold taskAt; simp only [Int.toNat_natCast]; exact h.task i hi
theorem Moved.there (h : Moved s t σ τ) {i : Nat} (hi : i < s.tasks.length) : thereB t i = thereB s (σ i : Nat) := by
  have := h.lt i hi
  unfold thereB
  rw [h.ok, h.len, decide_eq_true (show (0 : Int) ≤ (i : Int) by omega), decide_eq_true (show (0 : Int) ≤ ((σ i : Nat) : Int) by omega), decide_eq_true (show (i : Int) < (s.tasks.length : Int) by omega), decide_eq_true (show ((σ i : Nat) : Int) < (s.tasks.length : Int) by omega)]
theorem Moved.part (h : Moved s t σ τ) {i : Nat} (hi : i < s.tasks.length) (p : Int) : partAt t i p = partAt s (σ i : Nat) p := by
  unfold partAt; simp only [Int.toNat_natCast]; rw [h.task i hi]
theorem Moved.parts (h : Moved s t σ τ) {i : Nat} (hi : i < s.tasks.length) : partsOf t i = partsOf s (σ i : Nat) := by
  unfold partsOf; simp only [Int.toNat_natCast]; rw [h.task i hi]
theorem Moved.fairK (h : Moved s t σ τ) {i : Nat} (hi : i < s.tasks.length) (p : Int) : fairK t i p = fairK s (σ i : Nat) p := by
  rw [Bool.eq_iff_iff, fairK_iff, fairK_iff, h.there hi, h.part hi]
  simp only [Int.toNat_natCast]
  rw [h.task i hi]
theorem Moved.num (h : Moved s t σ τ) {i j : Nat} (hi : i < s.tasks.length) (hj : j < s.tasks.length) : ((i : Int) = (j : Int)) = (((σ i : Nat) : Int) = ((σ j : Nat) : Int)) := by
  apply propext
  constructor
  · intro e; have : i = j := by omega
    rw [this]
  · intro e; have := h.inj hi hj (by omega); rw [this]
theorem Moved.fair (h : Moved s t σ τ) {i : Nat} (hi : i < s.tasks.length) (p : Int) : fairV t i p = fairV s (σ i : Nat) p := by
  have e : tot (othL i 0 t.tasks) = tot (othL (σ i : Nat) 0 s.tasks) := by
    rw [othL_flat, othL_flat]
    refine tot_perm (h.flat (fun j hj => ?_))
    rw [h.task j hj]; simp only [h.num hj hi]
  unfold fairV
  rw [h.fairK hi, h.part hi, e]
theorem Moved.srv (h : Moved s t σ τ) {i : Nat} (hi : i < s.tasks.length) (cl : Int) : srv t i cl = srv s (σ i : Nat) cl := by
  have := h.lt i hi
  unfold Go.Proofs.Ytlbaohefappfoaa.srv
  simp only [Int.toNat_natCast]
  rw [h.ok, h.len, h.homes, h.task i hi]
  by_cases ho : okS s = true
  · rw [if_pos ⟨ho, by omega, by omega⟩, if_pos ⟨ho, by omega, by omega⟩]
  · rw [if_neg (fun x => ho x.1), if_neg (fun x => ho x.1)]
theorem Moved.low (h : Moved s t σ τ) {i : Nat} (hi : i < s.tasks.length) (cl : Int) : lowerV t i cl = lowerV s (σ i : Nat) cl := by
  unfold lowerV prioOf
  simp only [Int.toNat_natCast]
  rw [h.there hi, h.task i hi, lowL_flat, lowL_flat]
  rw [mx_perm (h.maps (fun j hj => ?_))]
  unfold mostV
  rw [h.task j hj, h.srv hj]
/-- bounds of the tasks, each at the other place -/
def Bounds (s : SetR) (σ : Nat → Nat) (bs cs : List Int) : Prop := bs.length = s.tasks.length ∧ cs.length = s.tasks.length ∧ ∀ i, i < s.tasks.length → cs.getD i 0 = bs.getD (σ i) 0
variable {bs cs : List Int}
theorem Moved.agent (h : Moved s t σ τ) (hb : Bounds s σ bs cs) {i : Nat} (hi : i < s.tasks.length) (p : Int) : agentO t cs i p = agentO s bs (σ i : Nat) p := by
  have e1 : agentB t cs i p = agentB s bs (σ i : Nat) p := by
    unfold agentB
    rw [h.fairK hi, h.len, hb.1, hb.2.1]
  have e2 : homeV t i p = homeV s (σ i : Nat) p := by unfold homeV; rw [h.homes, h.part hi]
  have e3 : leastV t i p = leastV s (σ i : Nat) p := by unfold leastV; rw [h.part hi, e2, h.low hi]
  have e4 : prioOf t i = prioOf s (σ i : Nat) := by unfold prioOf; simp only [Int.toNat_natCast]; rw [h.task i hi]
  have e5 : winF (leastV s (σ i : Nat) p) (rivL t cs (prioOf s (σ i : Nat)) (homeV s (σ i : Nat) p) 0 t.tasks) = winF (leastV s (σ i : Nat) p) (rivL s bs (prioOf s (σ i : Nat)) (homeV s (σ i : Nat) p) 0 s.tasks) := by
    funext x
    unfold winF
    rw [rivL_flat, rivL_flat, workS_perm x (h.flat (fun j hj => ?_))]
    unfold atV
    rw [h.task j hj, h.srv hj, hb.2.2 j hj]
  unfold agentO
  rw [e1, e2, e3, e4, e5]
theorem Moved.coresV (h : Moved s t σ τ) : coresV t = coresV s := by unfold Go.Proofs.Ytlbaohefappfoaa.coresV; rw [h.ok, h.cores]
theorem Moved.bes (h : Moved s t σ τ) {i : Nat} (hi : i < s.tasks.length) : besV t i = besV s (σ i : Nat) := by
  unfold besV
  rw [h.coresV, rothL_flat, rothL_flat, tops_perm (h.flat (fun j hj => ?_))]
  rw [h.task j hj]; simp only [h.num hj hi]
theorem Moved.slow (h : Moved s t σ τ) (ho : okS s = true) (cl : Int) : slowL t cl 0 t.tasks = slowL s cl 0 s.tasks := by
  have l1 : ∀ q ∈ s.tasks, LenOk q.parts := fun q hq => ((Good.of ho).parts q hq).lens
  have l2 : ∀ q ∈ t.tasks, LenOk q.parts := fun q hq => ((Good.of (h.ok1 ho)).parts q hq).lens
  rw [slowL_flat (h.ok1 ho) cl l2, slowL_flat ho cl l1]
  rw [mx_perm (h.maps (fun j hj => ?_))]
  rw [h.task j hj, h.bes hj]
theorem Moved.ask (h : Moved s t σ τ) (cl : Int) : askersV t cl = askersV s cl := by
  unfold askersV
  rw [h.ok, askN_flat, askN_flat, tot_perm (h.maps (fun j hj => ?_))]
  rw [h.task j hj]
theorem Moved.out (h : Moved s t σ τ) {i : Nat} (hi : i < s.tasks.length) : outV t i = outV s (σ i : Nat) := by
  unfold outV
  simp only [Int.toNat_natCast]
  rw [h.there hi, h.task i hi]
  by_cases e : thereB s (σ i : Nat) = true ∧ maxL (s.tasks.getD (σ i) default).parts ≠ 0
  · rw [if_pos e, if_pos e, h.slow (thereB_true.1 e.1).1]
    unfold rndV coreAt
    rw [h.ask, h.cores]
  · rw [if_neg e, if_neg e]
theorem Moved.tok (h : Moved s t σ τ) {i : Nat} (hi : i < s.tasks.length) (p : Int) : tokV t i p = tokV s (σ i : Nat) p := by
  unfold tokV insV
  rw [h.fairK hi, h.part hi, h.bes hi, h.out hi]
theorem Moved.wait (h : Moved s t σ τ) (hb : Bounds s σ bs cs) {i : Nat} (hi : i < s.tasks.length) (p : Int) : waitV t cs i p = waitV s bs (σ i : Nat) p ∧ waitK t cs i p = waitK s bs (σ i : Nat) p := by
  have e := h.agent hb hi p
  unfold waitV waitK agentV agentK
  rw [h.proto, h.len, hb.1, hb.2.1, e, h.fair hi, h.fairK hi, h.tok hi]
  exact ⟨rfl, rfl⟩
theorem Moved.waits (h : Moved s t σ τ) (hb : Bounds s σ bs cs) {i : Nat} (hi : i < s.tasks.length) : waitsK t cs i = waitsK s bs (σ i : Nat) ∧ waitsL t cs i = waitsL s bs (σ i : Nat) := by
  have ew : pW t cs i = pW s bs (σ i : Nat) := by funext k; unfold pW; rw [h.part hi, (h.wait hb hi k).1]
  have ek : pK t cs i = pK s bs (σ i : Nat) := by funext k; unfold pK; rw [h.part hi, (h.wait hb hi k).2]
  have e1 : waitsK t cs i = waitsK s bs (σ i : Nat) := by unfold waitsK; rw [h.there hi, h.parts hi, ek]
  refine ⟨e1, ?_⟩
  unfold waitsL
  rw [e1, h.parts hi, ew]
theorem Moved.nn (h : Moved s t σ τ) (hb : Bounds s σ bs cs) : nnB cs = nnB bs := by
  have key : ∀ {s t : SetR} {σ τ : Nat → Nat} {bs cs : List Int}, Moved s t σ τ → Bounds s σ bs cs → nnB bs = true → nnB cs = true := fun {s t σ τ bs cs} h hb e => by
    refine nn_yes (fun k hk => ?_)
    rw [hb.2.1] at hk
    rw [hb.2.2 k hk]
    have hl := h.lt k hk
    exact nnB_true.1 e _ (by rw [← hb.1] at hl; simp [List.getD, hl])
  rw [Bool.eq_iff_iff]
  refine ⟨key h.symm ⟨by rw [h.len]; exact hb.2.1, by rw [h.len]; exact hb.1, fun i hi => ?_⟩, key h hb⟩
  rw [h.len] at hi
  rw [hb.2.2 _ (h.lt' i hi), h.forth i hi]
theorem Moved.each (h : Moved s t σ τ) {i j : Nat} (hi : i < s.tasks.length) (hj : j < s.tasks.length) : eachV t j i = eachV s (σ j : Nat) (σ i : Nat) := by
  unfold eachV atV
  rw [h.at hi, h.at hj, h.proto, h.srv hj]
theorem Moved.others (h : Moved s t σ τ) (hb : Bounds s σ bs cs) {i : Nat} (hi : i < s.tasks.length) (wd : Int) : othersV t cs i wd = othersV s bs (σ i : Nat) wd := by
  have e1 : othersB t cs i = othersB s bs (σ i : Nat) := by unfold othersB; rw [h.there hi, h.len, hb.1, hb.2.1]
  have e2 : othW t cs i wd 0 t.tasks = othW s bs (σ i : Nat) wd 0 s.tasks := by
    rw [othW_flat, othW_flat, tot_perm (h.maps (fun j hj => ?_))]
    rw [h.task j hj, hb.2.2 j hj, h.each hi hj]; simp only [h.num hj hi]
  unfold othersV
  rw [e1, e2, h.nn hb, h.at hi, h.cores]
theorem Moved.next (h : Moved s t σ τ) (hb : Bounds s σ bs cs) {i : Nat} (hi : i < s.tasks.length) : nextK t cs i = nextK s bs (σ i : Nat) ∧ nextV t cs i = nextV s bs (σ i : Nat) := by
  have e1 : nextK t cs i = nextK s bs (σ i : Nat) := by unfold nextK; rw [(h.waits hb hi).1, h.len, hb.1, hb.2.1]
  refine ⟨e1, ?_⟩
  unfold nextV ownV
  simp only [Int.toNat_natCast]
  rw [e1, (h.waits hb hi).1, (h.waits hb hi).2, h.at hi, hb.2.2 i hi, h.others hb hi]
theorem Moved.upTo (h : Moved s t σ τ) {p q : Nat → Bool} (hp : ∀ i, i < s.tasks.length → p i = q (σ i)) : upTo p s.tasks.length = upTo q s.tasks.length := by
  rw [Bool.eq_iff_iff, upTo_iff, upTo_iff]
  constructor
  · intro H k hk
    have := H _ (h.lt' k hk)
    rwa [hp _ (h.lt' k hk), h.forth k hk] at this
  · intro H k hk
    rw [hp k hk]; exact H _ (h.lt k hk)
theorem Moved.round (h : Moved s t σ τ) (hb : Bounds s σ bs cs) : roundB t cs = roundB s bs := by
  unfold roundB
  rw [h.len]
  refine h.upTo (fun i hi => ?_)
  unfold stepB
  rw [(h.next hb hi).1, (h.next hb hi).2, h.task i hi]
theorem row_at (s : SetR) (bs : List Int) {i : Nat} (hi : i < s.tasks.length) : (nextRow s bs).getD i 0 = nextV s bs i := by
  unfold nextRow
  simp [List.getD, hi]
theorem Moved.row (h : Moved s t σ τ) (hb : Bounds s σ bs cs) : Bounds s σ (nextRow s bs) (nextRow t cs) :=
  ⟨nextRow_len _ _, by rw [nextRow_len, h.len], fun i hi => by rw [row_at t cs (by rw [h.len]; exact hi), row_at s bs (h.lt i hi), (h.next hb hi).2]⟩
theorem rows_eq {a b : List Int} {n : Nat} (ha : a.length = n) (hb : b.length = n) (h : ∀ i, i < n → a.getD i 0 = b.getD i 0) : a = b := by
  refine List.ext_getElem (by rw [ha, hb]) (fun i h1 h2 => ?_)
  have := h i (by omega)
  simpa [List.getD, h1, h2] using this
theorem Moved.rest (h : Moved s t σ τ) (hb : Bounds s σ bs cs) : (nextRow t cs = cs) ↔ (nextRow s bs = bs) := by
  have hr := h.row hb
  constructor
  · intro e
    refine rows_eq hr.1 hb.1 (fun i hi => ?_)
    have h1 := hr.2.2 _ (h.lt' i hi)
    have h2 := hb.2.2 _ (h.lt' i hi)
    rw [h.forth i hi] at h1 h2
    rw [← h1, ← h2, e]
  · intro e
    refine rows_eq hr.2.1 hb.2.1 (fun i hi => ?_)
    rw [hr.2.2 i hi, hb.2.2 i hi, e]
theorem Moved.set (h : Moved s t σ τ) (n : Nat) : ∀ bs cs : List Int, Bounds s σ bs cs → (setL t n cs).2 = (setL s n bs).2 ∧ ((setL s n bs).2 = 0 → Bounds s σ (setL s n bs).1 (setL t n cs).1) := by
  induction n with
  | zero => intro bs cs hb; exact ⟨rfl, fun e => by simp [setL] at e⟩
  | succ n ih =>
    intro bs cs hb
    rw [setL_succ, setL_succ, h.round hb]
    by_cases e : roundB s bs = true
    · rw [if_pos e, if_pos e]
      by_cases e2 : nextRow s bs = bs
      · rw [if_pos e2, if_pos ((h.rest hb).2 e2)]
        exact ⟨rfl, fun _ => hb⟩
      · rw [if_neg e2, if_neg (fun x => e2 ((h.rest hb).1 x))]
        exact ih _ _ (h.row hb)
    · rw [if_neg e, if_neg e]
      exact ⟨rfl, fun x => by simp at x⟩
theorem Moved.soon (h : Moved s t σ τ) : Bounds s σ (soonL s) (soonL t) :=
  ⟨soonL_len s, by rw [soonL_len, h.len], fun i hi => by
    have e : ∀ (u : SetR) (j : Nat), j < u.tasks.length → (soonL u).getD j 0 = allK (u.tasks.getD j default).parts := fun u j hj => by unfold soonL; simp [List.getD, hj]
    rw [e t i (by rw [h.len]; exact hi), e s _ (h.lt i hi), h.task i hi]⟩
/-- what is told of a set whose tasks stand otherwise -/
theorem Moved.told (h : Moved s t σ τ) : ((anE t = 0) = (anE s = 0)) ∧ (okS s = true → anE t = anE s) ∧ (anE s = 0 → Bounds s σ (anB s) (anB t)) := by
  obtain ⟨h1, h2⟩ := h.set 200 _ _ h.soon
  have hE : ∀ u : SetR, okS u = true → anE u = (settle u).2 := fun u hu => by unfold anE; rw [if_pos ((okS_chk u).1 hu)]
  have e : okS s = true → anE t = anE s := fun ho => by rw [hE t (h.ok1 ho), hE s ho]; exact h1
  refine ⟨?_, e, fun h0 => ?_⟩
  · by_cases ho : okS s = true
    · rw [e ho]
    · have n1 : ¬ anE s = 0 := fun x => ho (anE_zero x).1
      have n2 : ¬ anE t = 0 := fun x => ho (by rw [← h.ok]; exact (anE_zero x).1)
      simp [n1, n2]
  · have ho := (anE_zero h0).1
    have h0' : anE t = 0 := by rw [e ho]; exact h0
    rw [(anB_rest h0).1, (anB_rest h0').1]
    exact h2 (anE_zero h0).2
/-- turned round -/
theorem moved_turn {s t : SetR} {k : Nat} (h1 : t.proto = s.proto) (h2 : t.cores = s.cores) (h3 : t.homes = s.homes) (h4 : t.tasks = s.tasks.drop k ++ s.tasks.take k) (hk : k < s.tasks.length) : Moved s t (fun i => (i + k) % s.tasks.length) (fun i => (i + (s.tasks.length - k)) % s.tasks.length) := by
  have hn : 0 < s.tasks.length := by omega
  refine ⟨h1, h2, h3, by rw [h4]; simp; omega, fun i hi => ?_, fun i _ => Nat.mod_lt _ hn, fun i _ => Nat.mod_lt _ hn, fun i hi => ?_, fun i hi => ?_⟩
  · rw [h4]
    rcases Nat.lt_or_ge (i + k) s.tasks.length with h | h
    · rw [Nat.mod_eq_of_lt h]
      simp only [List.getD, List.getElem?_append, List.length_drop]
      rw [if_pos (by omega), List.getElem?_drop, Nat.add_comm k i]
    · have e : (i + k) % s.tasks.length = i + k - s.tasks.length := by
        rw [Nat.mod_eq_sub_mod h, Nat.mod_eq_of_lt (by omega)]
      rw [e]
      simp only [List.getD, List.getElem?_append, List.length_drop]
      rw [if_neg (by omega), List.getElem?_take, if_pos (by omega), show i - (s.tasks.length - k) = i + k - s.tasks.length by omega]
  · rcases Nat.lt_or_ge (i + k) s.tasks.length with h | h
    · rw [Nat.mod_eq_of_lt h, show i + k + (s.tasks.length - k) = i + s.tasks.length by omega, Nat.add_mod_right, Nat.mod_eq_of_lt hi]
    · have e : (i + k) % s.tasks.length = i + k - s.tasks.length := by
        rw [Nat.mod_eq_sub_mod h, Nat.mod_eq_of_lt (by omega)]
      rw [e, show i + k - s.tasks.length + (s.tasks.length - k) = i by omega, Nat.mod_eq_of_lt hi]
  · rcases Nat.lt_or_ge i k with h | h
    · rw [Nat.mod_eq_of_lt (show i + (s.tasks.length - k) < s.tasks.length by omega), show i + (s.tasks.length - k) + k = i + s.tasks.length by omega, Nat.add_mod_right, Nat.mod_eq_of_lt hi]
    · have e : (i + (s.tasks.length - k)) % s.tasks.length = i - k := by
        rw [Nat.mod_eq_sub_mod (by omega), show i + (s.tasks.length - k) - s.tasks.length = i - k by omega, Nat.mod_eq_of_lt (by omega)]
      rw [e, show i - k + k = i by omega, Nat.mod_eq_of_lt hi]
end
end Go.Proofs.Ytlbaohefappfoaa

namespace Go.Proofs.Ytlbaohefappfoaa
open Go.ChangeShapes Go.WideShapes Go.ChangeAt Go.RowKit
set_option linter.unusedVariables false
theorem LeP.anti {a b : List PartM} (h : LeP a b) (g : LeP b a) : a = b := by
  induction a generalizing b with
  | nil => cases b with
    | nil => rfl
    | cons y b => exact h.elim
  | cons x a ih => cases b with
    | nil => exact h.elim
    | cons y b =>
      have e : x = y := by
        obtain ⟨⟨h1, h2, h3⟩, _⟩ := h
        obtain ⟨⟨g1, g2, g3⟩, _⟩ := g
        cases x; cases y
        simp only [PartM.mk.injEq] at *
        exact ⟨h1, by omega, h2⟩
      rw [e, ih h.2 g.2]
structure SameS (s t : SetR) : Prop where
  le : LeS s t
  ge : LeS t s
section
variable {s t : SetR}
theorem SameS.parts (h : SameS s t) (k : Nat) : (t.tasks.getD k default).parts = (s.tasks.getD k default).parts := ((h.ge.tasks.get k).2.2.2).anti ((h.le.tasks.get k).2.2.2)
theorem SameS.part (h : SameS s t) (of part : Int) : partAt t of part = partAt s of part := by unfold partAt; rw [h.parts]
theorem SameS.waitK (h : SameS s t) (bs : List Int) (of part : Int) : waitK t bs of part = waitK s bs of part := by
  rw [Bool.eq_iff_iff]
  exact ⟨fun e => (h.le.wait bs of part e).1, fun e => (h.ge.wait bs of part e).1⟩
theorem wait_zero {s : SetR} {bs : List Int} {of part : Int} (h : waitK s bs of part = false) : waitV s bs of part = 0 := by
  unfold waitK at h
  unfold waitV
  split at h
  · rename_i e
    rw [if_pos e]
    split at h
    · rename_i p2
      have p1 : ¬ s.proto = 1 := by omega
      rw [if_neg p1, if_pos p2]
      exact agentV_no h
    · rename_i p2
      rw [if_neg p2]
      split
      · unfold fairV; rw [h]; rfl
      · unfold tokV; rw [h]; rfl
  · rename_i e; rw [if_neg e]
theorem SameS.waitV (h : SameS s t) (bs : List Int) (of part : Int) : waitV t bs of part = waitV s bs of part := by
  have e := h.waitK bs of part
  by_cases k : Go.Proofs.Ytlbaohefappfoaa.waitK s bs of part = true
  · have h1 := (h.le.wait bs of part (by rw [e]; exact k)).2
    have h2 := (h.ge.wait bs of part k).2
    omega
  · have k' : Go.Proofs.Ytlbaohefappfoaa.waitK s bs of part = false := by simpa using k
    rw [wait_zero k', wait_zero (by rw [e]; exact k')]
theorem SameS.waits (h : SameS s t) (bs : List Int) (of : Int) : waitsK t bs of = waitsK s bs of ∧ waitsL t bs of = waitsL s bs of := by
  have ew : pW t bs of = pW s bs of := by funext k; unfold pW; rw [h.part, h.waitV]
  have ek : pK t bs of = pK s bs of := by funext k; unfold pK; rw [h.part, h.waitK]
  have ep : partsOf t of = partsOf s of := by unfold partsOf; exact h.parts _
  have e1 : waitsK t bs of = waitsK s bs of := by unfold waitsK; rw [h.le.there, ep, ek]
  refine ⟨e1, ?_⟩
  unfold waitsL
  rw [e1, ep, ew]
theorem SameS.srv (h : SameS s t) (of cl : Int) : srv t of cl = srv s of cl := by
  unfold Go.Proofs.Ytlbaohefappfoaa.srv
  rw [h.le.oks, h.le.okt, h.le.tasks.len, h.le.homes, h.parts]
theorem SameS.each (h : SameS s t) (a b : Int) : eachV t a b = eachV s a b := by
  have h1 := h.le.tasks.get a.toNat
  have h2 := h.le.tasks.get b.toNat
  unfold eachV atV taskAt
  rw [h.srv, h.le.proto, h1.2.2.1, h2.2.2.1, h1.2.1, h2.2.1, h.parts]
theorem SameS.oth (h : SameS s t) (bs : List Int) (of wd : Int) {a b : List TaskR} (hab : LeTs a b) (k : Nat) : othW t bs of wd k b = othW s bs of wd k a := by
  induction a generalizing b k with
  | nil => cases b with
    | nil => rfl
    | cons y b => exact hab.elim
  | cons x a ih => cases b with
    | nil => exact hab.elim
    | cons y b => simp only [othW]; rw [ih hab.2 (k + 1), h.each, hab.1.1]
theorem SameS.others (h : SameS s t) (bs : List Int) (of wd : Int) : othersV t bs of wd = othersV s bs of wd := by
  have h2 := h.le.tasks.get of.toNat
  unfold othersV othersB taskAt
  rw [h.le.there, h.le.tasks.len, h.oth bs of wd h.le.tasks, h.le.cores, h2.2.2.1]
theorem SameS.next (h : SameS s t) (bs : List Int) (of : Int) : nextK t bs of = nextK s bs of ∧ nextV t bs of = nextV s bs of := by
  have e1 : nextK t bs of = nextK s bs of := by unfold nextK; rw [(h.waits bs of).1, h.le.tasks.len]
  have ep : (taskAt t of).parts = (taskAt s of).parts := by unfold taskAt; exact h.parts _
  refine ⟨e1, ?_⟩
  unfold nextV ownV
  rw [e1, (h.waits bs of).1, (h.waits bs of).2, ep, h.others]
theorem SameS.row (h : SameS s t) (bs : List Int) : nextRow t bs = nextRow s bs := by
  unfold nextRow
  rw [h.le.tasks.len]
  exact List.map_congr_left (fun i _ => (h.next bs i).2)
theorem SameS.soon (h : SameS s t) : soonL t = soonL s := by
  have e : ∀ {a b : List TaskR}, LeTs a b → LeTs b a → b.map (fun t => allK t.parts) = a.map (fun t => allK t.parts) := fun {a b} => by
    induction a generalizing b with
    | nil => intro h g; cases b with
      | nil => rfl
      | cons y b => exact h.elim
    | cons x a ih => intro h g; cases b with
      | nil => exact h.elim
      | cons y b => rw [List.map_cons, List.map_cons, ih h.2 g.2, (h.1.2.2.2).anti (g.1.2.2.2)]
  exact e h.le.tasks h.ge.tasks
/-- with later deadlines all is as it was -/
theorem SameS.later (h : SameS s t) (hd : ∀ k, k < s.tasks.length → (s.tasks.getD k default).dl ≤ (t.tasks.getD k default).dl) (n : Nat) : ∀ bs : List Int, (setL s n bs).2 = 0 → setL t n bs = setL s n bs := by
  induction n with
  | zero => intro bs e; simp [setL] at e
  | succ n ih =>
    intro bs e
    rw [setL_succ] at e ⊢
    rw [setL_succ]
    by_cases r : roundB s bs = true
    · have r2 : roundB t bs = true := by
        unfold roundB at r ⊢
        rw [upTo_iff] at r ⊢
        intro k hk
        rw [← h.le.tasks.len] at hk
        have := r k hk
        unfold stepB at this ⊢
        rw [(h.next bs k).1, (h.next bs k).2]
        simp only [Bool.and_eq_true, decide_eq_true_eq] at this ⊢
        exact ⟨this.1, Int.le_trans this.2 (hd k hk)⟩
      rw [if_pos r] at e ⊢
      rw [if_pos r2, h.row]
      by_cases e2 : nextRow s bs = bs
      · rw [if_pos e2, if_pos e2]
      · rw [if_neg e2] at e
        rw [if_neg e2, if_neg e2]
        exact ih _ e
    · rw [if_neg r] at e; simp at e
theorem SameS.told (h : SameS s t) (hd : ∀ k, k < s.tasks.length → (s.tasks.getD k default).dl ≤ (t.tasks.getD k default).dl) (hE : anE s = 0) : anE t = 0 ∧ anB t = anB s ∧ anW t = anW s := by
  have ho := (anE_zero hE)
  have es : settle t = settle s := by
    unfold settle
    rw [h.soon]
    exact h.later hd 200 _ (by have := ho.2; unfold settle at this; exact this)
  have hE2 : anE t = 0 := by unfold anE; rw [if_pos ((okS_chk t).1 h.le.okt), es]; exact ho.2
  refine ⟨hE2, ?_, ?_⟩
  · unfold anB; rw [if_pos hE, if_pos hE2, es]
  · unfold anW
    rw [if_pos hE, if_pos hE2, es, h.le.tasks.len]
    exact List.map_congr_left (fun i _ => (h.waits _ i).2)
/-- with a deadline below its bound a task isn't admitted -/
theorem SameS.late (h : SameS s t) (hE : anE s = 0) {i : Nat} (hi : i < s.tasks.length) (hd : (t.tasks.getD i default).dl < (anB s).getD i 0) (hd2 : ∀ k, k < s.tasks.length → k ≠ i → (t.tasks.getD k default).dl = (s.tasks.getD k default).dl) : anE t = 19 ∨ anE t = 20 := by
  have e : anE t = (settle t).2 := by unfold anE; rw [if_pos ((okS_chk t).1 h.le.okt)]
  rcases setL_err t 200 (soonL t) with h0 | h0
  · exfalso
    have hE2 : anE t = 0 := by rw [e]; exact h0
    have ht := told_holds hE2
    have hs : holdsV s (anB t) = true := by
      unfold holdsV at ht ⊢
      simp only [Bool.and_eq_true, decide_eq_true_eq] at ht ⊢
      refine ⟨h.le.oks, by rw [ht.2.1, h.le.tasks.len], ?_⟩
      rw [upTo_iff]
      intro k hk
      have hb := (upTo_iff _ _).1 ht.2.2 k (by rw [← h.le.tasks.len]; exact hk)
      unfold holdB at hb ⊢
      rw [(h.next _ k).1, (h.next _ k).2] at hb
      simp only [Bool.and_eq_true, decide_eq_true_eq] at hb ⊢
      refine ⟨hb.1, hb.2.1, hb.2.2.1, ?_⟩
      by_cases ek : k = i
      · subst ek
        have := (told_at hE hk).2.2.1
        omega
      · rw [← hd2 k hk ek]; exact hb.2.2.2
    have h1 := least_of hE hs i
    have h2 := (told_at hE2 (i := i) (by rw [← h.le.tasks.len]; exact hi)).2.2.1
    omega
  · rw [e]; exact h0
end
def dlTo (s : SetR) (i : Nat) (x : Int) : List TaskR := s.tasks.set i { s.tasks.getD i default with dl := x }
theorem dlTo_len (s : SetR) (i : Nat) (x : Int) : (dlTo s i x).length = s.tasks.length := by simp [dlTo]
theorem dlTo_at {s : SetR} {i : Nat} (hi : i < s.tasks.length) (x : Int) : (dlTo s i x).getD i default = { s.tasks.getD i default with dl := x } := by simp [dlTo, List.getD, hi]
theorem dlTo_else {s : SetR} {i k : Nat} (hk : k ≠ i) (x : Int) : (dlTo s i x).getD k default = s.tasks.getD k default := by
  unfold dlTo
  simp [List.getD, Ne.symm hk]
/-- a set with another deadline -/
theorem same_dl {s t : SetR} {i : Nat} {x : Int} (ho : okS s = true) (hi : i < s.tasks.length) (h1 : t.proto = s.proto) (h2 : t.cores = s.cores) (h3 : t.homes = s.homes) (h4 : t.tasks = dlTo s i x) (hx : 1 ≤ x ∧ x ≤ (s.tasks.getD i default).per) : SameS s t := by
  have hg := Good.of ho
  have ht := ((okS_iff s).1 ho).2
  have hl : t.tasks.length = s.tasks.length := by rw [h4, dlTo_len]
  have hat : ∀ k, (t.tasks.getD k default).name = (s.tasks.getD k default).name ∧ (t.tasks.getD k default).per = (s.tasks.getD k default).per ∧ (t.tasks.getD k default).prio = (s.tasks.getD k default).prio ∧ (t.tasks.getD k default).cl = (s.tasks.getD k default).cl ∧ (t.tasks.getD k default).parts = (s.tasks.getD k default).parts ∧ ((t.tasks.getD k default).dl = (s.tasks.getD k default).dl ∨ k = i ∧ (t.tasks.getD k default).dl = x) := fun k => by
    rw [h4]
    by_cases e : k = i
    · subst e; rw [dlTo_at hi]; exact ⟨rfl, rfl, rfl, rfl, rfl, .inr ⟨rfl, rfl⟩⟩
    · rw [dlTo_else e]; exact ⟨rfl, rfl, rfl, rfl, rfl, .inl rfl⟩
  have hok : okS t = true := by
    refine okS_all (by rw [h1]; exact hg.proto) (by rw [h2]; exact hg.ncores) (by rw [h2]; exact hg.cores) (by rw [h3]; exact hg.nhomes) (by rw [h3, h2]; intro n hn; have := hg.homes n hn; omega) (by rw [hl]; exact hg.ntasks) (fun k hk => ?_) (fun j k hjk hk => ?_)
    · rw [hl] at hk
      obtain ⟨a, b, c, d⟩ := taskE_ok (ht k hk)
      have b2 := inB_true.1 b
      obtain ⟨q1, q2, q3, q4, q5, q6⟩ := hat k
      unfold formB at a
      simp only [Bool.and_eq_true] at a
      obtain ⟨a0, a1, a2, a3⟩ := a
      have a1' := inB_true.1 a1
      have a2' := inB_true.1 a2
      have a3' := inB_true.1 a3
      refine ⟨formB_mk (by rw [q1]; exact a0) (by rw [q2]; exact a1') ?_ (by rw [q3]; exact a3'), by rw [q4, h2]; omega, by rw [q5, h3]; exact d⟩
      rw [q2]
      rcases q6 with e | ⟨rfl, e⟩
      · rw [e]; exact a2'
      · rw [e]; exact hx
    · rw [hl] at hk
      rw [(hat k).1, (hat k).2.2.1, (hat j).1, (hat j).2.2.1]
      exact apart_of ho (by omega) hk (by omega)
  have l1 : LeTs s.tasks t.tasks := by rw [h4]; exact LeTs.set ⟨rfl, rfl, rfl, LeP.refl _⟩
  have l2 : LeTs t.tasks s.tasks := by
    have e : s.tasks = t.tasks.set i (s.tasks.getD i default) := by
      rw [h4]; unfold dlTo
      rw [List.set_set]
      refine List.ext_getElem (by simp) (fun k k1 k2 => ?_)
      rw [List.getElem_set]
      split
      · rename_i e; subst e; simp [List.getD, k1]
      · rfl
    have g : LeTs t.tasks (t.tasks.set i (s.tasks.getD i default)) := LeTs.set ⟨(hat i).2.1, (hat i).2.2.1, (hat i).2.2.2.1, by rw [(hat i).2.2.2.2.1]; exact LeP.refl _⟩
    rw [← e] at g; exact g
  exact ⟨⟨h1.symm, h2.symm, h3.symm, l1, ho, hok⟩, ⟨h1, h2, h3, l2, hok, ho⟩⟩
end Go.Proofs.Ytlbaohefappfoaa

namespace Go.Proofs.Ytlbaohefappfoaa
open Go.ChangeShapes Go.WideShapes Go.ChangeAt Go.RowKit
set_option linter.unusedVariables false

theorem same_yes {w : World} {A B : Option Addr} {zs : List Int} {n m c d : Nat} (ha : Row w .i64 A zs) (hb : Row w .i64 B zs) (hn : n = zs.length) (hm : m = zs.length) (hl : zs.length ≤ 1000) :
    Calls Try.prog 25 #[.slice A n c, .slice B m d] w fun e w' => e = .returned (.bool true) ∧ Qt w w' := by
  subst hn
  subst hm
  go_enter Try.func25, Try.ntmps25
  go_wp2
  go_loopg [5] zs.length (fun g i wr => ∃ k : Nat, k + g = zs.length ∧ i = .int .i64 k ∧ Qt w wr)
  case atStart => exact ⟨0, by omega, rfl, Qt.refl _⟩
  case round =>
    obtain ⟨k, hk, rfl, hq⟩ := hrel
    by_cases hlt : k < zs.length
    · obtain ⟨g, off, rfl, hc⟩ := ha.resolve_left (by intro e; subst e; simp at hlt)
      obtain ⟨g2, off2, rfl, hc2⟩ := hb.resolve_left (by intro e; subst e; simp at hlt)
      obtain ⟨n, HN⟩ : ∃ n, Hid (zs.getD k 0 = n) := ⟨_, rfl⟩
      have c1 : wr.cell? ⟨g, off + k, none⟩ = some (.int .i64 n) := hq.cell (HN.out ▸ hc k hlt)
      have c2 : wr.cell? ⟨g2, off2 + k, none⟩ = some (.int .i64 n) := hq.cell (HN.out ▸ hc2 k hlt)
      have b1 : (0 : Int) ≤ (k : Int) := by omega
      have b2 : (k : Int) < (zs.length : Int) := by omega
      clear hc hc2 ha hb
      go_wp2
      go_quiet (fail)
      go_wp2
      go_roundg (gk - 1)
      case measure => omega
      case rel => exact ⟨k + 1, by omega, by go_num, hq.add _⟩
    · obtain rfl : k = zs.length := by omega
      go_wp2
      go_ret
      exact ⟨rfl, hq⟩
end Go.Proofs.Ytlbaohefappfoaa

namespace Go.Proofs.Ytlbaohefappfoaa
open Go.ChangeShapes Go.WideShapes Go.ChangeAt Go.RowKit
set_option linter.unusedVariables false
set_option linter.unusedSimpArgs false

set_option maxHeartbeats 4000000 in
set_option maxRecDepth 100000 in
theorem vsame_yes (v u : VerdR) (w : World) (hv : VerdOk w v) (hu : VerdOk w u) (h0 : u.ok = v.ok) (h1 : u.bounds = v.bounds) (h2 : u.rows.map RowR.zs = v.rows.map RowR.zs) (hl : v.bounds.length ≤ 1000) (hr : ∀ r ∈ v.rows, r.zs.length ≤ 1000) :
    Calls Try.prog 15 #[.agg #[.bool v.ok, .slice v.ba v.bounds.length v.bc, .slice v.wa v.rows.length v.wc], .agg #[.bool u.ok, .slice u.ba u.bounds.length u.bc, .slice u.wa u.rows.length u.wc]] w fun e w' => e = .returned (.bool true) ∧ Below w.heap.size w w' := by
  obtain ⟨ok, ba, bc, bs, wa, wc, rs⟩ := v
  obtain ⟨ok2, ba2, bc2, bs2, wa2, wc2, rs2⟩ := u
  dsimp only at h0 h1 h2 hl hr ⊢
  subst h0
  subst h1
  have hln : rs2.length = rs.length := by have := congrArg List.length h2; simpa using this
  have d1 : ((rs.length : Int) != (rs2.length : Int)) = false := by rw [hln]; simp
  have H2 := hidp h2
  have HR := hidp hr
  have HLN := hidp hln
  have rl : rs.length ≤ maxLen := Nat.le_trans hv.sl.2.1 hv.sl.2.2
  unfold maxLen at rl
  have B0 := (Bk.new w 31 #[.bool ok2, .slice ba bs2.length bc, .slice wa rs.length wc]).alloc (.cells #[.bool ok2, .slice ba2 bs2.length bc2, .slice wa2 rs2.length wc2] 31)
  have B1 := Bk.at_ (w := w.alloc (.cells #[.bool ok2, .slice ba bs2.length bc, .slice wa rs.length wc] 31)) (g := w.heap.size + 1) (t := 31) (cs := #[.bool ok2, .slice ba2 bs2.length bc2, .slice wa2 rs2.length wc2]) (by simp) rfl
  have hb := ((Below.refl w.heap.size w).alloc (Nat.le_refl _) (.cells #[.bool ok2, .slice ba bs2.length bc, .slice wa rs.length wc] 31)).alloc (by simp) (.cells #[.bool ok2, .slice ba2 bs2.length bc2, .slice wa2 rs2.length wc2] 31)
  have hv1 := hv.keep (Keeps.of_below hb)
  have hu1 := hu.keep (Keeps.of_below hb)
  have y := Y3 B0
  have z := Y3 B1
  obtain ⟨y0, y1, y2⟩ := id y
  obtain ⟨z0, z1, z2⟩ := id z
  clear hv hu B0 B1 h2 hr hln
  go_enter Try.func15, Try.ntmps15
  go_wp2_with fail
  refine (same_yes (zs := bs2) hv1.bounds.at_ hu1.bounds.at_ rfl rfl hl).mono ?_
  rintro e w2 ⟨rfl, hq⟩
  have kq := Keeps.of_qt hq
  replace hb := hq.below hb
  have HV := hidp (hv1.keep kq)
  have HU := hidp (hu1.keep kq)
  have Y := hidp (And.intro (kq _ _ y.1) (And.intro (kq _ _ y.2.1) (kq _ _ y.2.2)))
  have Z := hidp (And.intro (kq _ _ z.1) (And.intro (kq _ _ z.2.1) (kq _ _ z.2.2)))
  clear hv1 hu1 y z kq hq y0 y1 y2 z0 z1 z2
  obtain ⟨y0, y1, y2⟩ := id Y.out
  obtain ⟨z0, z1, z2⟩ := id Z.out
  go_wp2_with fail
  clear y0 y1 y2 z0 z1 z2 d1
  go_loopg [5] rs.length (fun gg i wr => ∃ k : Nat, k + gg = rs.length ∧ i = .int .i64 k ∧ Qt w2 wr)
  case atStart => exact ⟨0, by omega, rfl, Qt.refl _⟩
  case round =>
    obtain ⟨k, hk, rfl, hq⟩ := hrel
    have kq := Keeps.of_qt hq
    have y2 := kq _ _ Y.out.2.2
    have z2 := kq _ _ Z.out.2.2
    by_cases hlt : k < rs.length
    · have hlt2 : k < rs2.length := by rw [HLN.out]; exact hlt
      obtain ⟨g, off, eA, hc⟩ := (HV.out.keep kq).at_.resolve_left (by intro e; dsimp only at e; rw [e] at hlt; simp at hlt)
      obtain ⟨g2, off2, eA2, hc2⟩ := (HU.out.keep kq).at_.resolve_left (by intro e; dsimp only at e; rw [e] at hlt2; simp at hlt2)
      dsimp only at eA eA2
      subst eA
      subst eA2
      obtain ⟨r, Hr⟩ : ∃ r, Hid (rs.getD k default = r) := ⟨_, rfl⟩
      obtain ⟨q, Hq⟩ : ∃ r, Hid (rs2.getD k default = r) := ⟨_, rfl⟩
      have c1 := Hr.out ▸ hc k hlt
      have c2 := Hq.out ▸ hc2 k hlt2
      have hm : r ∈ rs := Hr.out ▸ getD_mem hlt
      have hm2 : q ∈ rs2 := Hq.out ▸ getD_mem hlt2
      have ez : q.zs = r.zs := by
        have e1 : (rs.map RowR.zs).getD k [] = (rs.getD k default).zs := by simp [List.getD, hlt]
        have e2 : (rs2.map RowR.zs).getD k [] = (rs2.getD k default).zs := by simp [List.getD, hlt2]
        rw [← Hq.out, ← Hr.out, ← e1, ← e2, H2.out]
      have i1 := ((HV.out.keep kq).rows r hm).at_
      have i2 := ((HU.out.keep kq).rows q hm2).at_
      have hz := HR.out r hm
      obtain ⟨ra, rc, zs⟩ := r
      obtain ⟨qa, qc, zs2⟩ := q
      dsimp only at ez hz i1 i2
      subst ez
      simp only [RowR.val] at c1 c2
      have HS : Hid (∀ n, Calls Try.prog 25 #[.slice ra zs2.length rc, .slice qa zs2.length qc] (wr.drewN n) fun e w' => e = .returned (.bool true) ∧ ∃ m, w' = (wr.drewN n).drewN m) := hidp (fun n => same_yes (i1.drewN n) (i2.drewN n) rfl rfl hz)
      have kI : (k : Int) < (rs.length : Int) := by omega
      have kI2 : (k : Int) < (rs2.length : Int) := by omega
      have k0 : (0 : Int) ≤ (k : Int) := by omega
      clear hc hc2 hm hm2 i1 i2
      go_wp2_with fail
      go_quiet ((go_at_call 25; exact Calls.quiet_of (HS.out _)))
      go_wp2_with fail
      go_roundg (gk - 1)
      case measure => omega
      case rel => exact ⟨k + 1, by omega, by go_num, hq.add _⟩
    · obtain rfl : k = rs.length := by omega
      go_wp2_with fail
      go_ret
      exact ⟨rfl, hq.below hb⟩
end Go.Proofs.Ytlbaohefappfoaa

set_option linter.unusedSimpArgs false
namespace Go.Proofs.Ytlbaohefappfoaa
open Go.ChangeShapes Go.WideShapes Go.ChangeAt Go.RowKit
theorem task_bd {s : SetR} (ho : okS s = true) {i : Nat} (hi : i < s.tasks.length) : (1 ≤ (s.tasks.getD i default).dl ∧ (s.tasks.getD i default).dl ≤ (s.tasks.getD i default).per) ∧ (s.tasks.getD i default).per ≤ 3000 := by
  obtain ⟨a, b, c, d⟩ := taskE_ok (((okS_iff s).1 ho).2 i hi)
  unfold formB at a
  simp only [Bool.and_eq_true] at a
  obtain ⟨a0, a1, a2, a3⟩ := a
  have a1' := inB_true.1 a1
  have a2' := inB_true.1 a2
  exact ⟨a2', by omega⟩
theorem dlTo_ok {s : SetR} {w : World} {i : Nat} {x : Int} (h : ∀ t ∈ s.tasks, TaskOk w t) (hi : i < s.tasks.length) (hx : I64 x) : ∀ t ∈ dlTo s i x, TaskOk w t := fun t ht => by
  unfold dlTo at ht
  rcases List.mem_or_eq_of_mem_set ht with h1 | h1
  · exact h t h1
  · have h2 := h _ (getD_mem hi)
    rw [h1]
    exact { h2 with dl := hx }
theorem ownT_dl {B : Nat} {w : World} {g n c : Nat} {ts : List TaskR} (h : OwnT B w (some ⟨g, 0, none⟩) n c ts) {i : Nat} (hi : i < ts.length) (x : Int) : OwnT B (w.setCell ⟨g, i * 6 + 2, none⟩ (.int .i64 x)) (some ⟨g, 0, none⟩) n c (ts.set i { ts.getD i default with dl := x }) := by
  have hgd : ts[i] = ts.getD i default := by simp [List.getD, hi]
  exact ownT_put h hi (by omega) _ _ (by rw [hgd]; rfl)
theorem keeps_at {B : Nat} {w w' : World} (h : Below B w w') (hB : w.heap.size = B) : Keeps w w' := by subst hB; exact Keeps.of_below h
theorem dlTo_dl {s : SetR} {i k : Nat} {x : Int} : k ≠ i → ((dlTo s i x).getD k default).dl = (s.tasks.getD k default).dl := fun h => by rw [dlTo_else h]
theorem dlTo_again {s : SetR} {i : Nat} {x y : Int} (hi : i < s.tasks.length) : (dlTo s i x).set i { (dlTo s i x).getD i default with dl := y } = dlTo s i y := by
  rw [dlTo_at hi]
  unfold dlTo
  rw [List.set_set]
end Go.Proofs.Ytlbaohefappfoaa
set_option maxHeartbeats 8000000
set_option maxRecDepth 100000
namespace Go.Proofs.Ytlbaohefappfoaa.admitSlack
open Go.ChangeShapes Go.WideShapes Go.ChangeAt Go.RowKit
open Go.ChangeMaps (open_string shut_string)
set_option linter.unusedVariables false

/-- THE WALK: the Go text returns true, and writes nothing that was there. -/
theorem walk (s0 : SetR) (a1 : Int) (a2 : Int) (w : World) (w0 : SetOk w s0) (w1 : (Lit.int .u8 a1).wf = true) (w2 : (Lit.int .u8 a2).wf = true) :
    Calls Try.prog 5 #[.agg #[.int .i64 s0.proto, .slice s0.ca s0.cores.length s0.cc, .slice s0.ha s0.homes.length s0.hc, .slice s0.ta s0.tasks.length s0.tc], .int .u8 a1, .int .u8 a2] w fun e w' => e = .returned (.bool true) ∧ Below w.heap.size w w' := by
  have hb := (Below.refl w.heap.size w).alloc (Nat.le_refl _) (.cells #[.int .i64 s0.proto, .slice s0.ca s0.cores.length s0.cc, .slice s0.ha s0.homes.length s0.hc, .slice s0.ta s0.tasks.length s0.tc] 25)
  have sc := SetCells.new w s0 25
  have hs := w0.keep (Keeps.of_below hb)
  obtain ⟨wh, hn⟩ : ∃ n : Nat, a1 = n := nat_u8 w1
  have wh255 : wh ≤ 255 := u8_le w1 hn
  subst hn
  obtain ⟨q, hn⟩ : ∃ n : Nat, a2 = n := nat_u8 w2
  have q255 : q ≤ 255 := u8_le w2 hn
  subst hn
  clear w0 w1 w2
  obtain ⟨j0, hj0, hk0, hk1, hk2⟩ := info_parts infoTask
  have htl : s0.tasks.length ≤ maxLen := Nat.le_trans hs.tasks.sl.2.1 hs.tasks.sl.2.2
  unfold maxLen at htl
  obtain ⟨E, HE⟩ : ∃ E, Hid (anE s0 = E) := ⟨_, hidp rfl⟩
  obtain ⟨proto, ca, cc, cores, ha, hc, homes, ta, tc, tasks⟩ := s0
  dsimp only at hb sc hs htl ⊢
  go_enter Try.func5, Try.ntmps5
  go_wp2_with fail
  refine (known18_any _).mono ?_
  rintro e u1 ⟨rfl, hb2⟩
  replace hb := hb.trans (hb2.mono hb.size)
  replace sc := sc.keep (Keeps.of_below hb2)
  replace hs := hs.keep (Keeps.of_below hb2)
  clear hb2
  try clear sc_0 sc_1 sc_2 sc_3
  have scx := sc
  obtain ⟨sc_0, sc_1, sc_2, sc_3⟩ := scx
  try dsimp only at sc_0 sc_1 sc_2 sc_3
  go_wp2_with fail
  refine (few18_any _ _ hs).mono ?_
  rintro e u2 ⟨⟨b, rfl⟩, hb2⟩
  replace hb := hb.trans (hb2.mono hb.size)
  replace sc := sc.keep (Keeps.of_below hb2)
  replace hs := hs.keep (Keeps.of_below hb2)
  clear hb2
  try clear sc_0 sc_1 sc_2 sc_3
  have scx := sc
  obtain ⟨sc_0, sc_1, sc_2, sc_3⟩ := scx
  try dsimp only at sc_0 sc_1 sc_2 sc_3
  cases b
  · go_wp2_with fail
    go_ret
    exact ⟨rfl, hb⟩
  go_wp2_with fail
  refine (analyze_any _ _ hs).mono ?_
  rintro e u3 ⟨⟨v, rfl, hv, h1, h2, h3⟩, hb2⟩
  replace hb := hb.trans (hb2.mono hb.size)
  replace sc := sc.keep (Keeps.of_below hb2)
  replace hs := hs.keep (Keeps.of_below hb2)
  clear hb2
  rw [HE.out] at h1 ⊢
  obtain ⟨ok, ba, bc, bs, wa, wc, rs⟩ := v
  dsimp only at h1 h2 h3 hv ⊢
  have kv := Keeps.alloc u3 (.cells #[.bool ok, .slice ba bs.length bc, .slice wa rs.length wc] 31)
  have bv := Y3 (Bk.new u3 31 #[.bool ok, .slice ba bs.length bc, .slice wa rs.length wc])
  replace hb := hb.alloc hb.size (.cells #[.bool ok, .slice ba bs.length bc, .slice wa rs.length wc] 31)
  replace hv := hv.keep kv
  replace hs := hs.keep kv
  replace sc := sc.keep kv
  clear kv sc_0 sc_1 sc_2 sc_3
  obtain ⟨bv_0, bv_1, bv_2⟩ := id bv
  obtain ⟨sc_0, sc_1, sc_2, sc_3⟩ := id sc
  try dsimp only at sc_0 sc_1 sc_2 sc_3 bv_0 bv_1 bv_2
  by_cases e0 : E = 0
  · have hE := HE.out
    rw [e0] at hE
    have HE0 := hidp hE
    have ho := (anE_zero hE).1
    have n6 := (Good.of ho).ntasks
    have lw := anW_len hE
    obtain ⟨_, _, _, lb⟩ := anB_rest hE
    rw [← h2] at lb
    rw [← h3, List.length_map] at lw
    try dsimp only at n6 lw lb
    have e1 : (E != 0) = false := by rw [e0]; rfl
    obtain rfl : ok = true := by rw [h1, e0]; rfl
    have d1 : ((bs.length : Int) != (tasks.length : Int)) = false := by rw [lb]; simp
    have d2 : ((bs.length : Int) == 0) = false := by rw [lb, beq_eq_false_iff_ne]; omega
    have LB := hidp lb
    have LW := hidp lw
    have Ho := hidp ho
    have H2 := hidp h2
    have H3 := hidp h3
    obtain ⟨gt, ot, hTA, _⟩ := hs.tasks.at_.resolve_left (by intro e; have := congrArg List.length e; simp at this; subst this; simp at n6)
    try dsimp only at hTA
    subst hTA
    obtain ⟨n1, n6⟩ := n6
    obtain ⟨kk, hkk⟩ : ∃ kk, wh % tasks.length = kk := ⟨_, rfl⟩
    have hkl : kk < tasks.length := by rw [← hkk]; exact Nat.mod_lt _ (by omega)
    have ht1 : (wh : Int).tmod (tasks.length : Int) = (kk : Int) := by rw [Int.tmod_eq_emod_of_nonneg (by omega), ← hkk]; simp
    have hzI : ¬ (tasks.length : Int) = 0 := by omega
    have hwwh : IntKind.i64.wrap (wh : Int) = (wh : Int) := IntWalk.i64_in _ (by omega)
    clear hkk hE ho lb lw h1 h2 h3 e0
    have kI : (kk : Int) < (tasks.length : Int) := by omega
    have hul : w.heap.size < u3.heap.size + 1 := Nat.lt_of_lt_of_le (cell_lt sc.1) (by simp)
    have Hul := hidp hul
    have Bt := Bk.at_ (w := (u3.alloc (.cells #[.bool true, .slice ba bs.length bc, .slice wa rs.length wc] 31))) (g := u3.heap.size + 1) (t := 25) (cs := #[.int .i64 proto, .slice ca cores.length cc, .slice ha homes.length hc, .slice (some ⟨gt, ot, none⟩) tasks.length tc]) (by simp) rfl
    have hbu := (Below.refl (u3.heap.size + 1) (u3.alloc (.cells #[.bool true, .slice ba bs.length bc, .slice wa rs.length wc] 31))).alloc (by simp) (.cells #[.int .i64 proto, .slice ca cores.length cc, .slice ha homes.length hc, .slice (some ⟨gt, ot, none⟩) tasks.length tc] 25)
    have hV : u3.heap.size + 1 + 1 ≤ ((u3.alloc (.cells #[.bool true, .slice ba bs.length bc, .slice wa rs.length wc] 31)).alloc (.cells #[.int .i64 proto, .slice ca cores.length cc, .slice ha homes.length hc, .slice (some ⟨gt, ot, none⟩) tasks.length tc] 25)).heap.size := by simp
    have Q2 : Hid ((some ⟨gt, ot, none⟩ : Option Addr) = none → tasks.length = 0 ∧ tc = 0) := hidp (fun e => by cases e)
    have L2 : Hid ((ttc tasks).length = tasks.length * 6) := hidp (ttc_len _)
    have S2 : Hid (Lies ((u3.alloc (.cells #[.bool true, .slice ba bs.length bc, .slice wa rs.length wc] 31)).alloc (.cells #[.int .i64 proto, .slice ca cores.length cc, .slice ha homes.length hc, .slice (some ⟨gt, ot, none⟩) tasks.length tc] 25)).heap.size ((u3.alloc (.cells #[.bool true, .slice ba bs.length bc, .slice wa rs.length wc] 31)).alloc (.cells #[.int .i64 proto, .slice ca cores.length cc, .slice ha homes.length hc, .slice (some ⟨gt, ot, none⟩) tasks.length tc] 25)) (some ⟨gt, ot, none⟩) (ttc tasks)) := hidp (lies_tasks (hs.keep (keeps_at hbu (show (u3.alloc (.cells #[.bool true, .slice ba bs.length bc, .slice wa rs.length wc] 31)).heap.size = u3.heap.size + 1 by simp))).tasks.at_)
    have O2 := hidp (ttc_one tasks)
    have N2 : Hid (0 + tasks.length ≤ maxLen) := hidp (by unfold maxLen; omega)
    have T2 : Hid ((0 + tasks.length) * 72 ≤ 140737488355328) := hidp (by omega)
    have scw := sc.keep (keeps_at hbu (show (u3.alloc (.cells #[.bool true, .slice ba bs.length bc, .slice wa rs.length wc] 31)).heap.size = u3.heap.size + 1 by simp))
    obtain ⟨sw_0, sw_1, sw_2, sw_3⟩ := id scw
    try dsimp only at sw_0 sw_1 sw_2 sw_3
    have HS1 := hidp hs
    have HV1 := hidp hv
    have SC1 := hidp sc
    have BV1 := hidp bv
    have HB1 := hidp hb
    have Hkk := hidp hkl
    clear hs hv sc bv hb scw hul
    go_wp2_with (at_builtin; go_loud ((refine wpList_app2 _ rfl (.const (.slice none 0 0)) (.tmp 52) 23 rfl (u3.heap.size + 1 + 1) 42 j0 _ 6 72 Try.underlying23 hj0 hk0 hk1 hk2 rfl (by decide) none 0 0 [] rfl (World.ownsRow_nil _ _ _ _) _ _ tasks.length tc (ttc tasks) rfl Q2.out L2.out S2.out O2.out N2.out T2.out hV ?_; intro A2 k2 u6 happ; have bk6 := Bt.turned happ.turned (by simp [fp]); have fz := (ZF4 bk6).2.2.2; have cz := (Z4 bk6).2.2.2)))
    have TS := (Turned.refl [u3.heap.size + 1] u6).setCell (p := ⟨u3.heap.size + 1, 3, none⟩) (.inl (by simp)) (.slice A2 tasks.length k2)
    have hbu7 := (hbu.trans (happ.turned.below (Nat.le_of_succ_le hV) (by simp [fp]))).setCell (p := ⟨u3.heap.size + 1, 3, none⟩) (Nat.le_refl _) (.slice A2 tasks.length k2)
    have bk7 := bk6.put 3 (.slice A2 tasks.length k2)
    rw [Nat.zero_add, List.nil_append] at happ
    have ot6 : OwnT (u3.heap.size + 1 + 1) u6 A2 tasks.length k2 tasks := ⟨happ.own, rfl, happ.cap, happ.nil⟩
    obtain ⟨g2, hA2, hg2, hg2'⟩ := own_at happ.own (by omega)
    subst hA2
    have ot7 := ot6.turned TS (by simp [fp]; omega)
    clear bk6 cz fz TS happ ot6 hV hbu Bt S2 sw_0 sw_1 sw_2 sw_3 sc_0 sc_1 sc_2 sc_3 bv_0 bv_1 bv_2
    obtain ⟨v7, hv7⟩ : ∃ v, u6.setCell ⟨u3.heap.size + 1, 3, none⟩ (.slice (some ⟨g2, 0, none⟩) tasks.length k2) = v := ⟨_, rfl⟩
    have bk7' : Bk v7 (u3.heap.size + 1) 25 #[.int .i64 proto, .slice ca cores.length cc, .slice ha homes.length hc, .slice (some ⟨g2, 0, none⟩) tasks.length k2] := hv7 ▸ bk7
    rw [hv7] at ot7 hbu7 ⊢
    clear hv7 bk7
    obtain ⟨per, Hper⟩ : ∃ x, Hid ((tasks.getD kk default).per = x) := ⟨_, hidp rfl⟩
    obtain ⟨dl, Hdl⟩ : ∃ x, Hid ((tasks.getD kk default).dl = x) := ⟨_, hidp rfl⟩
    obtain ⟨⟨pd0, pd1⟩, pd2⟩ := task_bd (i := kk) Ho.out hkl
    try dsimp only at pd0 pd1 pd2
    rw [Hdl.out] at pd0 pd1
    rw [Hper.out] at pd1 pd2
    obtain ⟨x, hx⟩ : ∃ x, min per (dl + (q : Int)) = x := ⟨_, rfl⟩
    have x1 : dl ≤ x := by omega
    have x2 : x ≤ per := by omega
    have Hx := hidp hx
    clear hx
    have hwq : IntKind.i64.wrap (q : Int) = (q : Int) := IntWalk.i64_in _ (by omega)
    have hwd : IntKind.i64.wrap (dl + (q : Int)) = dl + (q : Int) := IntWalk.i64_in _ (by omega)
    obtain ⟨tk, Htk⟩ : ∃ t, Hid (tasks.getD kk default = t) := ⟨_, hidp rfl⟩
    obtain ⟨b', o', eA, hcl⟩ := ot7.tasks.resolve_left (by intro e; rw [e] at hkl; simp at hkl)
    injection eA with eA; injection eA with ea1 ea2; subst ea1; subst ea2
    have y1 := (hcl kk hkl).2.1
    have y2 := (hcl kk hkl).2.2.1
    rw [Nat.zero_add] at y1 y2
    rw [Hper.out] at y1
    rw [Hdl.out] at y2
    have z2 := own_frozen ot7.own (kk * 6 + 2)
    have gl := cell_lt y1
    obtain ⟨d0, d1, d2, d3⟩ := Z4 bk7'
    have ot8 := ownT_dl ot7 (i := kk) hkl x
    have T8 := ((Turned.refl [g2] v7).setCell (p := ⟨g2, kk * 6 + 2, none⟩) (.inl (by simp)) (.int .i64 x)).drew
    have ot8' := ot8.turned (Turned.refl [] (v7.setCell ⟨g2, kk * 6 + 2, none⟩ (.int .i64 x))).drew (by simp)
    have hug : u3.heap.size + 1 ≠ g2 := by omega
    have bk8 : Bk (v7.setCell ⟨g2, kk * 6 + 2, none⟩ (.int .i64 x)).drew (u3.heap.size + 1) 25 #[.int .i64 proto, .slice ca cores.length cc, .slice ha homes.length hc, .slice (some ⟨g2, 0, none⟩) tasks.length k2] := bk7'.turned T8 (by simpa using hug)
    have hbu8 := hbu7.trans (T8.below (Nat.le_of_lt (cell_lt d0)) (by simp; omega))
    have htt : dlTo ⟨proto, ca, cc, cores, ha, hc, homes, some ⟨gt, ot, none⟩, tc, tasks⟩ kk x = tasks.set kk { tasks.getD kk default with dl := x } := rfl
    rw [← htt] at ot8'
    clear hcl ot8 ot7 bk7' hbu7 htt T8
    go_wp2_with fail
    go_still_tail 21, (by kernel_rfl)
    change wpList _ _ _ _ _ v7.drew
    go_wp2_with fail
    rw [Hx.out]
    obtain ⟨v8, hv8⟩ : ∃ v, (v7.setCell ⟨g2, kk * 6 + 2, none⟩ (.int .i64 x)).drew = v := ⟨_, rfl⟩
    rw [hv8] at ot8' bk8 hbu8 ⊢
    clear d0 d1 d2 d3 y1 y2 z2 gl hv8
    have hk1 : (u3.alloc (.cells #[.bool true, .slice ba bs.length bc, .slice wa rs.length wc] 31)).heap.size = u3.heap.size + 1 := by simp
    have Hk1 := hidp hk1
    clear hk1
    have HE0' := HE0.out
    have CA : Hid (∀ (y : Int) (u : World), SetOk u ⟨proto, ca, cc, cores, ha, hc, homes, some ⟨g2, 0, none⟩, k2, dlTo ⟨proto, ca, cc, cores, ha, hc, homes, some ⟨gt, ot, none⟩, tc, tasks⟩ kk y⟩ → Calls Try.prog 10 #[.agg #[.int .i64 proto, .slice ca cores.length cc, .slice ha homes.length hc, .slice (some ⟨g2, 0, none⟩) tasks.length k2]] u (AnPost u ⟨proto, ca, cc, cores, ha, hc, homes, some ⟨g2, 0, none⟩, k2, dlTo ⟨proto, ca, cc, cores, ha, hc, homes, some ⟨gt, ot, none⟩, tc, tasks⟩ kk y⟩)) := hidp (fun y u h => by
      have := analyze_any ⟨proto, ca, cc, cores, ha, hc, homes, some ⟨g2, 0, none⟩, k2, dlTo ⟨proto, ca, cc, cores, ha, hc, homes, some ⟨gt, ot, none⟩, tc, tasks⟩ kk y⟩ u h
      dsimp only at this
      rw [dlTo_len] at this
      exact this)
    have HSd : Hid (∀ y : Int, 1 ≤ y ∧ y ≤ per → SameS ⟨proto, ca, cc, cores, ha, hc, homes, some ⟨gt, ot, none⟩, tc, tasks⟩ ⟨proto, ca, cc, cores, ha, hc, homes, some ⟨g2, 0, none⟩, k2, dlTo ⟨proto, ca, cc, cores, ha, hc, homes, some ⟨gt, ot, none⟩, tc, tasks⟩ kk y⟩) := hidp (fun y hy => same_dl (i := kk) (x := y) Ho.out hkl rfl rfl rfl rfl (by show 1 ≤ y ∧ y ≤ (tasks.getD kk default).per; rw [Hper.out]; exact hy))
    have HT1 : Hid (anE ⟨proto, ca, cc, cores, ha, hc, homes, some ⟨g2, 0, none⟩, k2, dlTo ⟨proto, ca, cc, cores, ha, hc, homes, some ⟨gt, ot, none⟩, tc, tasks⟩ kk x⟩ = 0 ∧ anB ⟨proto, ca, cc, cores, ha, hc, homes, some ⟨g2, 0, none⟩, k2, dlTo ⟨proto, ca, cc, cores, ha, hc, homes, some ⟨gt, ot, none⟩, tc, tasks⟩ kk x⟩ = anB ⟨proto, ca, cc, cores, ha, hc, homes, some ⟨gt, ot, none⟩, tc, tasks⟩ ∧ anW ⟨proto, ca, cc, cores, ha, hc, homes, some ⟨g2, 0, none⟩, k2, dlTo ⟨proto, ca, cc, cores, ha, hc, homes, some ⟨gt, ot, none⟩, tc, tasks⟩ kk x⟩ = anW ⟨proto, ca, cc, cores, ha, hc, homes, some ⟨gt, ot, none⟩, tc, tasks⟩) := hidp (SameS.told (HSd.out x ⟨by omega, x2⟩) (fun k hk => by
      show _ ≤ ((dlTo ⟨proto, ca, cc, cores, ha, hc, homes, some ⟨gt, ot, none⟩, tc, tasks⟩ kk x).getD k default).dl
      by_cases e : k = kk
      · subst e
        rw [dlTo_at hkl]
        show (tasks.getD k default).dl ≤ x
        rw [Hdl.out]; exact x1
      · rw [dlTo_dl e]; exact Int.le_refl _) HE0')
    obtain ⟨b, Hb⟩ : ∃ b, Hid (bs.getD kk 0 = b) := ⟨_, hidp rfl⟩
    have Hbd : Hid (b ≤ dl) := hidp (by
      have h := (told_at HE0' (i := kk) hkl).2.2.1
      rw [← H2.out] at h
      rw [← Hb.out, ← Hdl.out]; exact h)
    have HLT : Hid (2 ≤ b → anE ⟨proto, ca, cc, cores, ha, hc, homes, some ⟨g2, 0, none⟩, k2, dlTo ⟨proto, ca, cc, cores, ha, hc, homes, some ⟨gt, ot, none⟩, tc, tasks⟩ kk (b - 1)⟩ = 19 ∨ anE ⟨proto, ca, cc, cores, ha, hc, homes, some ⟨g2, 0, none⟩, k2, dlTo ⟨proto, ca, cc, cores, ha, hc, homes, some ⟨gt, ot, none⟩, tc, tasks⟩ kk (b - 1)⟩ = 20) := hidp (fun h2 => SameS.late (HSd.out (b - 1) ⟨by omega, by have := Hbd.out; omega⟩) HE0' hkl (by
      show ((dlTo ⟨proto, ca, cc, cores, ha, hc, homes, some ⟨gt, ot, none⟩, tc, tasks⟩ kk (b - 1)).getD kk default).dl < _
      rw [dlTo_at hkl, ← H2.out, Hb.out]
      show b - 1 < b
      omega) (fun k hk hne => by
      show ((dlTo ⟨proto, ca, cc, cores, ha, hc, homes, some ⟨gt, ot, none⟩, tc, tasks⟩ kk (b - 1)).getD k default).dl = _
      rw [dlTo_dl hne]))
    have HTO : Hid (∀ (y : Int) (u : World), Below (u3.heap.size + 1) (u3.alloc (.cells #[.bool true, .slice ba bs.length bc, .slice wa rs.length wc] 31)) u → OwnT (u3.heap.size + 1 + 1) u (some ⟨g2, 0, none⟩) tasks.length k2 (dlTo ⟨proto, ca, cc, cores, ha, hc, homes, some ⟨gt, ot, none⟩, tc, tasks⟩ kk y) → I64 y → SetOk u ⟨proto, ca, cc, cores, ha, hc, homes, some ⟨g2, 0, none⟩, k2, dlTo ⟨proto, ca, cc, cores, ha, hc, homes, some ⟨gt, ot, none⟩, tc, tasks⟩ kk y⟩) := hidp (fun y u h ho hy => by
      have hs8 := HS1.out.keep (keeps_at h Hk1.out)
      exact ⟨hs8.proto, hs8.cores, hs8.homes, ⟨ho.sl, ho.tasks, dlTo_ok hs8.tasks.ok hkl hy⟩⟩)
    have hbd := Hbd.out
    clear HE0'
    refine (CA.out x v8 (HTO.out x v8 hbu8 ot8' (by unfold I64; omega))).mono ?_
    rintro e u9 ⟨⟨v2, rfl, hv2, k1, k2', k3⟩, hb2⟩
    obtain ⟨ok2, ba2, bc2, bs2, wa2, wc2, rs2⟩ := v2
    try dsimp only at k1 k2' k3 hv2 ⊢
    rw [HT1.out.1] at k1 ⊢
    have hbu9 := (hbu8.trans (hb2.mono (Nat.le_of_lt bk8.lt))).alloc (Nat.le_trans (Nat.le_of_lt bk8.lt) hb2.size) (.cells #[.bool ok2, .slice ba2 bs2.length bc2, .slice wa2 rs2.length wc2] 31)
    have bk9 := (bk8.below hb2).alloc (.cells #[.bool ok2, .slice ba2 bs2.length bc2, .slice wa2 rs2.length wc2] 31)
    have ot9 := (ot8'.turned (Turned.of_below hb2 []) (by simp)).turned ((Turned.refl [] u9).alloc (.cells #[.bool ok2, .slice ba2 bs2.length bc2, .slice wa2 rs2.length wc2] 31)) (by simp)
    have kV := keeps_at hbu9 Hk1.out
    have hv9 := HV1.out.keep kV
    have hv29 := hv2.keep (Keeps.alloc u9 (.cells #[.bool ok2, .slice ba2 bs2.length bc2, .slice wa2 rs2.length wc2] 31))
    have bw := Y3 (Bk.new u9 31 #[.bool ok2, .slice ba2 bs2.length bc2, .slice wa2 rs2.length wc2])
    obtain ⟨bw_0, bw_1, bw_2⟩ := id bw
    have bv_0 := kV _ _ BV1.out.1
    have bv_1 := kV _ _ BV1.out.2.1
    have bv_2 := kV _ _ BV1.out.2.2
    have CS := vsame_yes ⟨true, ba, bc, bs, wa, wc, rs⟩ ⟨ok2, ba2, bc2, bs2, wa2, wc2, rs2⟩ _ hv9 hv29 (by rw [k1]; rfl) (by show bs2 = bs; rw [k2', HT1.out.2.1, H2.out]) (by show rs2.map RowR.zs = rs.map RowR.zs; rw [k3, HT1.out.2.2, H3.out]) (by have := LB.out; show bs.length ≤ 1000; omega) (fun r hr => by
      have hm : r.zs ∈ anW ⟨proto, ca, cc, cores, ha, hc, homes, some ⟨gt, ot, none⟩, tc, tasks⟩ := by rw [← H3.out]; exact List.mem_map_of_mem hr
      unfold anW at hm
      rw [if_pos HE0.out] at hm
      obtain ⟨i, _, hi⟩ := List.mem_map.1 hm
      rw [← hi]
      have := (waitsL_len ⟨proto, ca, cc, cores, ha, hc, homes, some ⟨gt, ot, none⟩, tc, tasks⟩ (settle ⟨proto, ca, cc, cores, ha, hc, homes, some ⟨gt, ot, none⟩, tc, tasks⟩).1 i).1
      omega)
    have Hbu9 := hidp hbu9
    have Ot9 := hidp ot9
    have Bk9 := hidp bk9
    clear k1 k2' k3 hv2 hv29 hv9 kV bw hb2 hbu9 ot9 bk9 bk8 ot8' hbu8
    go_wp2_with fail
    refine CS.mono ?_
    rintro e u10 ⟨rfl, hb10⟩
    have hbu := Hbu9.out.trans (hb10.mono (Nat.le_of_lt Bk9.out.lt))
    have bk := Bk9.out.below hb10
    have ot := Ot9.out.turned (Turned.of_below hb10 []) (by simp)
    have kV := keeps_at hbu Hk1.out
    clear bv_0 bv_1 bv_2 bw_0 bw_1 bw_2 CS hb10
    have bv_0 := kV _ _ BV1.out.1
    have bv_1 := kV _ _ BV1.out.2.1
    have bv_2 := kV _ _ BV1.out.2.2
    have hbw := HB1.out.trans (hbu.mono (Nat.le_of_lt Hul.out))
    have kB : (kk : Int) < (bs.length : Int) := by have := LB.out; omega
    obtain ⟨gb, ob, hBA, hcb⟩ := (HV1.out.keep kV).bounds.at_.resolve_left (by intro e; have := congrArg List.length e; have h2 := LB.out; try dsimp only at this; simp at this; rw [this] at h2; simp at h2; omega)
    try dsimp only at hBA hcb
    subst hBA
    have cb := Hb.out ▸ hcb kk (by have := LB.out; omega)
    clear hcb kV
    by_cases hb2 : b < 2
    · clear ot bk hbu
      go_wp2_with fail
      go_ret
      exact ⟨rfl, hbw⟩
    · have HLT2 := hidp (HLT.out (by omega))
      have hbn : ¬ b < 2 := hb2
      obtain ⟨b', o', eA, hcl⟩ := ot.tasks.resolve_left (by intro e; have := congrArg List.length e; rw [dlTo_len] at this; simp at this; subst this; simp at hkl)
      injection eA with eA; injection eA with ea1 ea2; subst ea1; subst ea2
      have y1 := (hcl kk (by rw [dlTo_len]; exact hkl)).2.1
      have y2 := (hcl kk (by rw [dlTo_len]; exact hkl)).2.2.1
      rw [Nat.zero_add] at y1 y2
      rw [dlTo_at hkl] at y2
      try dsimp only at y2
      have z2 := own_frozen ot.own (kk * 6 + 2)
      have gl := cell_lt y1
      obtain ⟨d0, d1, d2, d3⟩ := Z4 bk
      have hwb : IntKind.i64.wrap (b - 1) = b - 1 := IntWalk.i64_in _ (by omega)
      have ot2 := ownT_dl ot (i := kk) (by rw [dlTo_len]; exact hkl) (b - 1)
      rw [dlTo_again hkl] at ot2
      have T8 := ((Turned.refl [g2] u10).setCell (p := ⟨g2, kk * 6 + 2, none⟩) (.inl (by simp)) (.int .i64 (b - 1))).drew
      have ot2' := ot2.turned (Turned.refl [] (u10.setCell ⟨g2, kk * 6 + 2, none⟩ (.int .i64 (b - 1)))).drew (by simp)
      have hbu2 := hbu.trans (T8.below (Nat.le_of_lt bk.lt) (by simp; omega))
      clear hcl ot ot2 bk hbu hbw T8 hb2
      go_wp2_with fail
      go_still_tail 11, (by kernel_rfl)
      change wpList _ _ _ _ _ u10.drew
      go_wp2_with fail
      have hbw := HB1.out.trans (hbu2.mono (Nat.le_of_lt Hul.out))
      refine (CA.out (b - 1) _ (HTO.out (b - 1) _ hbu2 ot2' (by unfold I64; omega))).mono ?_
      rintro e u11 ⟨⟨v3, rfl, -, -, -, -⟩, hb2⟩
      have hbz := hbw.trans (hb2.mono hbw.size)
      clear ot2' hbu2 hbw hb2 d0 d1 d2 d3 y1 y2 z2 gl
      rcases HLT2.out with e | e
      · rw [e]
        clear e
        go_wp2_with fail
        go_ret
        exact ⟨rfl, hbz.alloc hbz.size _⟩
      · rw [e]
        clear e
        go_wp2_with fail
        go_ret
        exact ⟨rfl, hbz.alloc hbz.size _⟩
  · have e1 : (E != 0) = true := by simpa using e0
    clear e0 hv h1 h2 h3
    go_wp2_with fail
    go_ret
    exact ⟨rfl, hb⟩

theorem own : ownKnob Try.prog.godebug = none := by kernel_rfl
theorem laidOut : laidOutB Try.prog = true := by kernel_rfl

/-! THE ROW's STEP -/
set_option maxRecDepth 100000 in
theorem lifted (os : Os) (started : os.Started) (H : Type) (enc : TypeId × Value → H) :
    ReturnsInHanded {} Try.checked os 5 .any (Rows.admitSlackSpec.pre6 enc Try.prog Try.f5 Rows.admitSlackRow.domain false) (Rows.admitSlackSpec.post enc Try.prog Try.f5 false true false false) := by
  refine returnsInHanded_of_change (C := Try.checked) own started (by kernel_rfl) Try.func5
    (ChangeSpec.witness6 (enc := enc) (C := Try.checked) false ⟨#[], #[.agg #[.int .i64 0, .slice none 0 0, .slice none 0 0, .slice none 0 0], .int .u8 0, .int .u8 0], []⟩ 8 (by kernel_rfl) (by kernel_rfl) (by kernel_rfl) (by kernel_rfl)) ?_
  intro W base args ds gs before hval0 hW hcnd _
  have hval : ∀ (j : Nat) t v, Try.f5.params[j]? = some t → args[j]? = some v → Value.okWide Try.prog W .any base t v := hval0
  have hW' := hW
  obtain ⟨p, q, hA0, hV, rfl, hfz, hnd⟩ := hW
  have hA : DataW.TrodAll enc Try.prog W 0 (fun _ => true) true Try.f5.params.toList args.toList ds p := hA0
  rw [Try.params5] at hA hval
  obtain ⟨v0, vs0, d0, ds0, p0, q0, hargs, rfl, rfl, h0, r0⟩ := trodAll_cons hA
  obtain ⟨v1, vs1, d1, ds1, p1, q1, rfl, rfl, rfl, h1, r1⟩ := trodAll_cons r0
  obtain ⟨v2, vs2, d2, ds2, p2, q2, rfl, rfl, rfl, h2, r2⟩ := trodAll_cons r1
  obtain ⟨rfl, rfl, rfl⟩ := trodAll_nil r2
  obtain rfl : args = #[v0, v1, v2] := by cases args; simp_all
  obtain ⟨rfl, rfl⟩ := trodVars_none hV
  have k0 := h0
  have lt0 : ∀ x ∈ p0, x.block < W.heap.size := by obtain ⟨m, hm⟩ := k0; exact DataW.trod_lt m _ _ _ hm
  obtain ⟨s0, w0, rfl⟩ := setTypes.arg_set (hval 0 25 v0 rfl rfl) h0
  obtain ⟨a1, rfl, rfl, rfl, w1⟩ := open_int Try.underlying5 (hval 1 5 v1 rfl rfl) h1
  obtain ⟨a2, rfl, rfl, rfl, w2⟩ := open_int Try.underlying5 (hval 2 5 v2 rfl rfl) h2
  clear hA0 hval0
  refine (walk s0 a1 a2 W w0 w1 w2).mono fun e W' ⟨he, bel⟩ => ?_
  subst he
  exact ⟨_, rfl, _, _, _, [], _, [], hW', trodAll_mk1 (shut_bool Try.underlying4 _), (trodAll_cons_mk (Below.trod laidOut (by kernel_rfl) (of_decide_eq_true (by kernel_rfl)) k0 bel lt0) (trodAll_cons_mk (shut_int Try.underlying5 w1) (trodAll_cons_mk (shut_int Try.underlying5 w2) trodAll_mk0))), rfl, bel.frame _, fun h => by cases h⟩

theorem over : Rows.admitSlackRow.holds Try.pinned (OpenSpec.ofChange Rows.admitSlackSpec) :=
  OpenClaim.holds_of_wide 5 Try.f5 rfl rfl rfl rfl rfl rfl rfl ⟨rfl, rfl, rfl, rfl, rfl⟩ rfl rfl rfl rfl rfl (by kernel_rfl) Try.func5 (by kernel_rfl)
    (of_decide_eq_true (by kernel_rfl)) (by unfold Func.isWrapper; first | (rw [if_pos (by decide +kernel)]; kernel_rfl) | (rw [if_neg (by decide +kernel)]; exact ⟨rfl, rfl⟩))
    (fun os started H enc _ => lifted os started H enc)

/-- THE STATEMENT -/
theorem proved : Rows.AdmitSlackSaid := over
#print axioms proved
end Go.Proofs.Ytlbaohefappfoaa.admitSlack

