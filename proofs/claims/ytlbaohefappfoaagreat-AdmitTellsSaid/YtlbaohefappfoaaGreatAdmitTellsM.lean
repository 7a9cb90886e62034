/- AdmitTells: of every set just its own verdict, its own reason; of every bounds whether they hold. No condition. -/
import Derived.Test.YtlbaohefappfoaaGreatWait
import Derived.Test.YtlbaohefappfoaaGreatAdmit1
import Derived.Test.YtlbaohefappfoaaGreatOwnT
import Derived.Test.YtlbaohefappfoaaGreatSound
import Derived.Test.YtlbaohefappfoaaGreatBoundNums
import Derived.Test.YtlbaohefappfoaaGreatDemandNums
import Derived.Test.YtlbaohefappfoaaGreatLit
import Derived.Deep.LoopGhost
import Derived.Deep.QuietTactic
import Derived.BigQuiet
import Derived.Test.YtlbaohefappfoaaGreatRef17M
import Derived.Test.YtlbaohefappfoaaGreatRef7d
import Derived.Test.YtlbaohefappfoaaGreatReg
namespace Go.Proofs.YtlbaohefappfoaaGreat
open Go.ChangeShapes Go.WideShapes Go.ChangeAt Go.RowKit
set_option linter.unusedVariables false
set_option linter.unusedSimpArgs false
def RowN (w : World) (zs : List Int) (k : Bool) (e : Ending) (w' : World) : Prop := ∃ A c, e = .returned (.tuple #[.slice A zs.length c, .bool k]) ∧ IntsOk w' A c zs ∧ Below w.heap.size w w' ∧ ∀ k ∈ fp A, w.heap.size ≤ k
theorem RowN.eq {w w' : World} {zs ys : List Int} {k j : Bool} {e : Ending} (h : RowN w zs k e w') (h1 : zs = ys) (h2 : k = j) : RowN w ys j e w' := h1 ▸ h2 ▸ h

set_option maxHeartbeats 4000000 in
set_option maxRecDepth 100000 in
theorem wallN_any (s : SetR) (bs : List Int) (ba : Option Addr) (bc : Nat) (of : Int) (w : World) (hs : SetOk w s) (hB : IntsOk w ba bc bs) : Calls Tryz.prog 15 #[.agg #[.int .i64 s.proto, .slice s.ca s.cores.length s.cc, .slice s.ha s.homes.length s.hc, .slice s.ta s.tasks.length s.tc], .slice ba bs.length bc, .int .i64 of] w (RowN w (waitsL s bs of) (waitsK s bs of)) := by
  have hb := (Below.refl w.heap.size w).alloc (Nat.le_refl _) (.cells #[.int .i64 s.proto, .slice s.ca s.cores.length s.cc, .slice s.ha s.homes.length s.hc, .slice s.ta s.tasks.length s.tc] 25)
  have sc := SetCells.new w s 25
  have H := hs.keep (Keeps.of_below hb)
  have l3 : s.tasks.length ≤ maxLen := Nat.le_trans hs.tasks.sl.2.1 hs.tasks.sl.2.2
  unfold maxLen at l3
  by_cases e : thereB s of = true
  · have Hth := hidp e
    obtain ⟨ho, r1, r2⟩ := thereB_true.1 e
    obtain ⟨n, rfl⟩ : ∃ n : Nat, of = n := ⟨of.toNat, by omega⟩
    have hn : n < s.tasks.length := by omega
    have hg := Good.of ho
    obtain ⟨t, HT⟩ : ∃ t, Hid (s.tasks.getD n default = t) := ⟨_, rfl⟩
    have hm : t ∈ s.tasks := HT.out ▸ getD_mem hn
    have Tok := hs.tasks.ok t hm
    have Tg := hg.parts t hm
    obtain ⟨g, off, hA, hcl⟩ := hs.tasks.at_.resolve_left (by intro e; rw [e] at hn; simp at hn)
    have Ht5 := hidp ((HT.out ▸ hcl n hn).2.2.2.2.2)
    have hpl := Tg.len
    obtain ⟨gp, op, hP, hpc⟩ := Tok.at_.resolve_left (by intro e; rw [e] at hpl; simp at hpl)
    have Hpc := hidp hpc
    obtain ⟨parts, hparts⟩ : ∃ parts, t.parts = parts := ⟨_, rfl⟩
    have Hpt : Hid (partsOf s n = parts) := hidp (by unfold partsOf; simp only [Int.toNat_natCast]; rw [HT.out, hparts])
    rw [hP, hparts] at Ht5
    rw [hparts] at Hpc hpl
    obtain ⟨V, HV⟩ : ∃ V : Nat → Int, Hid (∀ k : Nat, waitV s bs n k = V k) := ⟨fun k => waitV s bs n k, hidp (fun _ => rfl)⟩
    obtain ⟨K, HK⟩ : ∃ K : Nat → Bool, Hid (∀ k : Nat, waitK s bs n k = K k) := ⟨fun k => waitK s bs n k, hidp (fun _ => rfl)⟩
    have Hpa : Hid (∀ k : Nat, partAt s n k = parts.getD k default) := hidp (fun k => by unfold partAt; have := Hpt.out; unfold partsOf at this; rw [this]; simp)
    obtain ⟨PW, HPW⟩ : ∃ f : Nat → Int, Hid (pW s bs n = f) := ⟨_, hidp rfl⟩
    obtain ⟨PK, HPK⟩ : ∃ f : Nat → Bool, Hid (pK s bs n = f) := ⟨_, hidp rfl⟩
    have HPWl : Hid (∀ k, (parts.getD k default).kind = 3 → PW k = V k ∧ PK k = K k) := hidp (fun k h => by
      rw [← HPW.out, ← HPK.out]; unfold pW pK; rw [Hpa.out, if_pos h, if_pos h, HV.out, HK.out]; exact ⟨rfl, rfl⟩)
    have HPWn : Hid (∀ k, (parts.getD k default).kind ≠ 3 → PW k = 0 ∧ PK k = true) := hidp (fun k h => by
      rw [← HPW.out, ← HPK.out]; unfold pW pK; rw [Hpa.out, if_neg h, if_neg h]; exact ⟨rfl, rfl⟩)
    have HWb : Hid (∀ k, 0 ≤ PW k ∧ PW k ≤ 3000) := hidp (fun k => by rw [← HPW.out]; exact pW_bd s bs n k)
    have Hoff : Hid (∀ k, k < parts.length → PK k = false → waitsK s bs n = false ∧ waitsL s bs n = []) := hidp (fun k hk h => waits_off (by rw [Hpt.out]; exact hk) (by rw [HPK.out]; exact h))
    have Hyes : Hid ((∀ k, k < parts.length → PK k = true) → waitsK s bs n = true ∧ waitsL s bs n = (List.range parts.length).map PW) := hidp (fun h => by
      have := waits_yes (s := s) (bs := bs) (of := n) Hth.out (by rw [Hpt.out, HPK.out]; exact h)
      rw [Hpt.out, HPW.out] at this; exact this)
    obtain ⟨RL, HRL⟩ : ∃ L, Hid (waitsL s bs n = L) := ⟨_, hidp rfl⟩
    obtain ⟨RK, HRK⟩ : ∃ L, Hid (waitsK s bs n = L) := ⟨_, hidp rfl⟩
    rw [HRL.out, HRK.out] at Hoff Hyes ⊢
    have HS1 := hidp (fun u (h : Below w.heap.size w u) => hs.keep (Keeps.of_below h))
    have HB1 := hidp (fun u (h : Below w.heap.size w u) => hB.keep (Keeps.of_below h))
    obtain ⟨S, HSS⟩ : ∃ S : SetR, Hid (S = s) := ⟨s, rfl⟩
    obtain ⟨i0, hi0, hy0, hy1, hy2⟩ := info_parts infoZ
    clear hcl hm Tok Tg hpc hP hparts hg ho HT e hs hB r1
    have dn : decide (s.tasks.length ≤ n) = false := by simp; omega
    obtain ⟨proto, ca, cc, cores, ha, hc, homes, ta, tc, tasks⟩ := s
    dsimp only at hA hn l3 r2 hb sc H dn HS1 ⊢
    subst hA
    go_enter Tryz.func15, Tryz.ntmps15
    go_wp2
    go_step3
    go_wp2_with fail
    refine (there16_any _ _ _ H).mono ?_
    rintro e w2 ⟨rfl, hb2⟩
    replace hb := hb.trans (hb2.mono hb.size)
    replace sc := sc.keep (Keeps.of_below hb2)
    clear hb2
    try clear sc_0 sc_1 sc_2 sc_3
    have scx := sc
    obtain ⟨sc_0, sc_1, sc_2, sc_3⟩ := scx
    try dsimp only at sc_0 sc_1 sc_2 sc_3
    rw [Hth.out]
    have hz0 : w.heap.size + 1 ≤ w2.heap.size := cell_lt sc_0
    have d5 := Keeps.of_below hb _ _ Ht5.out
    go_wp2
    go_step3
    go_wp2
    clear sc_0 sc_1 sc_2 sc_3 d5
    go_loopg [8, 9, 24] parts.length (fun gg a ok i wr => ∃ (k c : Nat) (A : Option Addr), k + gg = parts.length ∧ i = .int .i64 k ∧ ok = .bool true ∧ a = .slice A k c ∧ Hid (∀ j, j < k → PK j = true) ∧ OwnN (w.heap.size + 1) wr A k c ((List.range k).map PW) ∧ SetCells wr w.heap.size ⟨proto, ca, cc, cores, ha, hc, homes, some ⟨g, off, none⟩, tc, tasks⟩ ∧ Below w.heap.size w wr ∧ w.heap.size + 1 ≤ wr.heap.size)
    case atStart => exact ⟨0, 0, none, by omega, rfl, rfl, rfl, hidp (fun j hj => by omega), OwnN.none _ _, sc, hb, hz0⟩
    case round =>
      clear sc hb
      obtain ⟨k, c, A, hk, rfl, rfl, rfl, Hk, ho, sc, hw, hz⟩ := hrel
      by_cases hlt : k < parts.length
      · obtain ⟨p, HP⟩ : ∃ p, Hid (parts.getD k default = p) := ⟨_, rfl⟩
        have pcl := (HP.out ▸ Hpc.out k hlt).keep (Keeps.of_below hw)
        obtain ⟨x0, x1, x2⟩ := pcl
        have hw1 := hw.alloc hw.size (.cells #[.int .i64 p.kind, .int .i64 p.len, .int .i64 p.res] 41)
        have ho1 := ho.turned ((Turned.refl [] wr).alloc (.cells #[.int .i64 p.kind, .int .i64 p.len, .int .i64 p.res] 41)) (by simp)
        have hz1 : w.heap.size + 1 ≤ (wr.alloc (.cells #[.int .i64 p.kind, .int .i64 p.len, .int .i64 p.res] 41)).heap.size := Nat.le_trans hz (by simp)
        have sc1 := sc.keep (Keeps.alloc wr (.cells #[.int .i64 p.kind, .int .i64 p.len, .int .i64 p.res] 41))
        obtain ⟨sc_0, sc_1, sc_2, sc_3⟩ := id sc1
        dsimp only at sc_0 sc_1 sc_2 sc_3
        have N2 : Hid (k + 1 ≤ maxLen) := hidp (by unfold maxLen; omega)
        have T2 : Hid ((k + 1) * 8 ≤ 140737488355328) := hidp (by omega)
        by_cases e : p.kind = 3
        · obtain ⟨v1, v2⟩ := HPWl.out k (by rw [HP.out]; exact e)
          have e' : (p.kind == 3) = true := by simpa using e
          obtain ⟨b, Hb⟩ : ∃ b, Hid (K k = b) := ⟨_, rfl⟩
          rw [Hb.out] at v2
          obtain ⟨v, Hv⟩ : ∃ v, Hid (PW k = v) := ⟨_, rfl⟩
          rw [Hv.out] at v1
          have Hvv := hidp v1.symm
          have Hpk := hidp v2
          clear v1 v2 e
          cases b with
          | false =>
            obtain ⟨f1, f2⟩ := Hoff.out k hlt Hpk.out
            have F1 := hidp f1
            have F2 := hidp f2
            clear f1 f2
            go_wp2_with fail
            refine (wpart_any _ bs ba bc n k _ (HS1.out _ hw1) (HB1.out _ hw1)).mono ?_
            rintro e w3 ⟨rfl, hb3⟩
            rw [HV.out k, HK.out k, Hb.out]
            go_wp2_with fail
            try rw [Exit.noGoto_ret]
            go_ret2
            exact RowN.eq ⟨none, 0, rfl, nil_ints _, hw1.trans (hb3.mono hw1.size), by simp [fp]⟩ F2.out.symm F1.out.symm
          | true =>
            go_wp2_with fail
            refine (wpart_any _ bs ba bc n k _ (HS1.out _ hw1) (HB1.out _ hw1)).mono ?_
            rintro e w3 ⟨rfl, hb3⟩
            rw [HV.out k, HK.out k, Hb.out, Hvv.out]
            have hw3 := hw1.trans (hb3.mono hw1.size)
            have hown4 := ((ho1.turned (Turned.of_below hb3 []) (by simp)).turned ((Turned.refl [] w3).alloc (.cells #[.int .i64 v] 3)) (by simp))
            have S2 := hidp (Lies.newCells' w3 [.int .i64 v] 3)
            have Z2 : Hid (w.heap.size + 1 ≤ (w3.alloc (.cells #[.int .i64 v] 3)).heap.size) := hidp (Nat.le_trans hz1 (Nat.le_trans hb3.size (by simp)))
            have sc4 := (sc1.keep (Keeps.of_below hb3)).keep (Keeps.alloc _ (.cells #[.int .i64 v] 3))
            have hw4 := hw3.alloc hw3.size (.cells #[.int .i64 v] 3)
            have O2 := hidp (ints_one v)
            have Hfp := hidp (own_fp hown4.own)
            clear x0 x1 x2 sc_0 sc_1 sc_2 sc_3
            go_wp2_with (at_builtin; refine wpList_app2 _ rfl (.tmp 42) (.tmp 44) 22 rfl (w.heap.size + 1) 3 i0 _ 1 8 Tryz.underlying22 hi0 hy0 hy1 hy2 rfl (by decide) A k c _ rfl hown4.own _ _ 1 1 [.int .i64 v] rfl (by simp) rfl S2.out O2.out N2.out T2.out Z2.out ?_; intro A' c' w5 happ)
            go_roundg (gk - 1)
            case measure => omega
            case rel => exact ⟨k + 1, c', A', by omega, by go_num, rfl, rfl, hidp (fun j hj => by
              by_cases ej : j = k
              · subst ej; exact Hpk.out
              · exact Hk.out j (by omega)), by rw [range_snoc, Hv.out]; exact hown4.app (ps := [v]) happ rfl, sc4.turned happ.turned (fun hf => by have := (Hfp.out _ hf).1; omega), hw4.trans (happ.turned.below hw4.size (fun j hj => by have := (Hfp.out _ hj).1; omega)), Nat.le_trans Z2.out happ.turned.size⟩
        · obtain ⟨v1, v2⟩ := HPWn.out k (by rw [HP.out]; exact e)
          have e' : (p.kind == 3) = false := by simpa using e
          have Hv := hidp v1
          have Hpk := hidp v2
          clear v1 v2 e
          have hw3 := hw1
          have hown4 := ho1.turned ((Turned.refl [] (wr.alloc (.cells #[.int .i64 p.kind, .int .i64 p.len, .int .i64 p.res] 41))).alloc (.cells #[.int .i64 0] 3)) (by simp)
          have S2' := Lies.newCells' (wr.alloc (.cells #[.int .i64 p.kind, .int .i64 p.len, .int .i64 p.res] 41)) [.int .i64 0] 3
          rw [show (wr.alloc (.cells #[.int .i64 p.kind, .int .i64 p.len, .int .i64 p.res] 41)).heap.size = wr.heap.size + 1 by simp] at S2'
          have S2 := hidp S2'
          clear S2'
          have Z2 : Hid (w.heap.size + 1 ≤ ((wr.alloc (.cells #[.int .i64 p.kind, .int .i64 p.len, .int .i64 p.res] 41)).alloc (.cells #[.int .i64 0] 3)).heap.size) := hidp (Nat.le_trans hz1 (by simp))
          have sc4 := sc1.keep (Keeps.alloc _ (.cells #[.int .i64 0] 3))
          have hw4 := hw3.alloc hw3.size (.cells #[.int .i64 0] 3)
          have O2 := hidp (ints_one 0)
          have Hfp := hidp (own_fp hown4.own)
          go_wp2_with (at_builtin; refine wpList_app2 _ rfl (.tmp 42) (.tmp 44) 22 rfl (w.heap.size + 1) 3 i0 _ 1 8 Tryz.underlying22 hi0 hy0 hy1 hy2 rfl (by decide) A k c _ rfl hown4.own _ _ 1 1 [.int .i64 0] rfl (by simp) rfl S2.out O2.out N2.out T2.out Z2.out ?_; intro A' c' w5 happ)
          go_roundg (gk - 1)
          case measure => omega
          case rel => exact ⟨k + 1, c', A', by omega, by go_num, rfl, rfl, hidp (fun j hj => by
              by_cases ej : j = k
              · subst ej; exact Hpk.out
              · exact Hk.out j (by omega)), by rw [range_snoc, Hv.out]; exact hown4.app (ps := [0]) happ rfl, sc4.turned happ.turned (fun hf => by have := (Hfp.out _ hf).1; omega), hw4.trans (happ.turned.below hw4.size (fun j hj => by have := (Hfp.out _ hj).1; omega)), Nat.le_trans Z2.out happ.turned.size⟩
      · obtain rfl : k = parts.length := by omega
        obtain ⟨f1, f2⟩ := Hyes.out Hk.out
        have F1 := hidp f1
        have F2 := hidp f2
        have hrow := ho.ok (fun x hx => by obtain ⟨j, _, rfl⟩ := List.mem_map.1 hx; have := HWb.out j; unfold I64; omega)
        have Hr := hidp hrow
        have Hfn := hidp (own_fp ho.own)
        clear f1 f2 hrow
        go_wp2
        try rw [Exit.noGoto_ret]
        go_ret2
        exact RowN.eq ⟨A, c, by simp, Hr.out, hw, fun k hk => by have := (Hfn.out k hk).1; omega⟩ F2.out.symm F1.out.symm
  · have e : thereB s of = false := by simpa using e
    obtain ⟨k1, k2⟩ := waits_no (bs := bs) e
    have Hth := hidp e
    have F1 := hidp k1
    have F2 := hidp k2
    clear e k1 k2 hs hB
    go_enter Tryz.func15, Tryz.ntmps15
    go_wp2
    go_step3
    go_wp2_with fail
    refine (there16_any _ _ _ H).mono ?_
    rintro e w2 ⟨rfl, hb2⟩
    replace hb := hb.trans (hb2.mono hb.size)
    replace sc := sc.keep (Keeps.of_below hb2)
    clear hb2
    rw [Hth.out]
    go_wp2
    go_ret2
    exact RowN.eq ⟨none, 0, rfl, nil_ints _, hb, by simp [fp]⟩ F2.out.symm F1.out.symm

end Go.Proofs.YtlbaohefappfoaaGreat

namespace Go.Proofs.YtlbaohefappfoaaGreat
open Go.ChangeShapes Go.WideShapes Go.ChangeAt Go.RowKit
set_option linter.unusedVariables false
set_option linter.unusedSimpArgs false

set_option maxHeartbeats 4000000 in
set_option maxRecDepth 100000 in
theorem holds_any (s : SetR) (bs : List Int) (ba : Option Addr) (bc : Nat) (w : World) (hs : SetOk w s) (hB : IntsOk w ba bc bs) : Calls Tryz.prog 9 #[.agg #[.int .i64 s.proto, .slice s.ca s.cores.length s.cc, .slice s.ha s.homes.length s.hc, .slice s.ta s.tasks.length s.tc], .slice ba bs.length bc] w fun e w' => e = .returned (.bool (holdsV s bs)) ∧ Below w.heap.size w w' := by
  have hb := (Below.refl w.heap.size w).alloc (Nat.le_refl _) (.cells #[.int .i64 s.proto, .slice s.ca s.cores.length s.cc, .slice s.ha s.homes.length s.hc, .slice s.ta s.tasks.length s.tc] 25)
  have sc := SetCells.new w s 25
  have H := hs.keep (Keeps.of_below hb)
  have l3 : s.tasks.length ≤ maxLen := Nat.le_trans hs.tasks.sl.2.1 hs.tasks.sl.2.2
  have l4 : bs.length ≤ maxLen := Nat.le_trans hB.sl.2.1 hB.sl.2.2
  unfold maxLen at l3 l4
  obtain ⟨at0, Hat⟩ : ∃ x, Hid (chkAt s = x) := ⟨_, hidp rfl⟩
  by_cases e : chkE s = 0
  · have ho := (okS_chk s).2 e
    have e1 : (chkE s != 0) = false := by simpa using e
    by_cases e2 : bs.length = s.tasks.length
    · have d1 : ((bs.length : Int) != (s.tasks.length : Int)) = false := by simp [e2]
      have n6 := (Good.of ho).ntasks.2
      have HL := hidp e2
      obtain ⟨N, HN⟩ : ∃ f : Nat → Int, Hid (∀ k : Nat, nextV s bs k = f k) := ⟨fun k => nextV s bs k, hidp (fun _ => rfl)⟩
      obtain ⟨K, HK⟩ : ∃ f : Nat → Bool, Hid (∀ k : Nat, nextK s bs k = f k) := ⟨fun k => nextK s bs k, hidp (fun _ => rfl)⟩
      obtain ⟨R, HRd⟩ : ∃ L, Hid (holdsV s bs = L) := ⟨_, hidp rfl⟩
      obtain ⟨q, Hq⟩ : ∃ q : Nat → Bool, Hid (∀ k, holdB s bs k = q k) := ⟨fun k => holdB s bs k, hidp (fun _ => rfl)⟩
      have Hqd : Hid (∀ k, q k = (K k && (decide (N k ≤ bs.getD k 0) && (decide (1 ≤ bs.getD k 0) && decide (bs.getD k 0 ≤ (s.tasks.getD k default).dl))))) := hidp (fun k => by rw [← Hq.out, ← HN.out, ← HK.out]; rfl)
      have Hoff : Hid (∀ k, k < s.tasks.length → q k = false → R = false) := hidp (fun k hk h => by
        rw [← HRd.out]; unfold holdsV
        rw [upTo_not hk (by rw [Hq.out]; exact h), Bool.and_false, Bool.and_false])
      have Hyes : Hid ((∀ k, k < s.tasks.length → q k = true) → R = true) := hidp (fun h => by
        rw [← HRd.out]; unfold holdsV
        rw [(upTo_iff _ _).2 (fun k hk => by rw [Hq.out]; exact h k hk), ho, decide_eq_true e2]; rfl)
      have HR := hidp hs.tasks.at_
      have HBR := hidp hB.at_
      have HS1 := hidp (fun u (h : Below w.heap.size w u) => hs.keep (Keeps.of_below h))
      have HB1 := hidp (fun u (h : Below w.heap.size w u) => hB.keep (Keeps.of_below h))
      rw [HRd.out]
      obtain ⟨ce, Hce⟩ : ∃ x, Hid (chkE s = x) := ⟨_, hidp rfl⟩
      have e1' : (ce != 0) = false := by rw [← Hce.out]; exact e1
      have HC := check_any s _ H
      rw [Hat.out, Hce.out] at HC
      clear hs hB ho e e1 e2 HRd
      obtain ⟨proto, ca, cc, cores, ha, hc, homes, ta, tc, tasks⟩ := s
      dsimp only at HR hb sc H d1 n6 l3 HL Hoff Hyes HS1 Hqd HC ⊢
      go_enter Tryz.func9, Tryz.ntmps9
      go_wp2_with fail
      refine HC.mono ?_
      rintro e w2 ⟨rfl, hb2⟩
      replace hb := hb.trans (hb2.mono hb.size)
      replace sc := sc.keep (Keeps.of_below hb2)
      clear hb2 HC H
      obtain ⟨sc_0, sc_1, sc_2, sc_3⟩ := id sc
      dsimp only at sc_0 sc_1 sc_2 sc_3
      go_wp2_with fail
      clear sc_0 sc_1 sc_2 sc_3
      go_loopg [29] tasks.length (fun gg i wr => ∃ k : Nat, k + gg = tasks.length ∧ i = .int .i64 k ∧ Hid (∀ j, j < k → q j = true) ∧ SetCells wr w.heap.size ⟨proto, ca, cc, cores, ha, hc, homes, ta, tc, tasks⟩ ∧ Below w.heap.size w wr)
      case atStart => exact ⟨0, by omega, rfl, hidp (fun j hj => by omega), sc, hb⟩
      case round =>
        clear hb sc
        obtain ⟨k, hk, rfl, Hk, sc, hw⟩ := hrel
        by_cases hlt : k < tasks.length
        · obtain ⟨g, off, hA, hcl⟩ := HR.out.resolve_left (by intro e; rw [e] at hlt; simp at hlt)
          subst hA
          have hkb : k < bs.length := by rw [HL.out]; exact hlt
          obtain ⟨gb, ob, hBA, hbl⟩ := HBR.out.resolve_left (by intro e; rw [e] at hkb; simp at hkb)
          subst hBA
          obtain ⟨t, HT⟩ : ∃ t, Hid (tasks.getD k default = t) := ⟨_, rfl⟩
          obtain ⟨x, Hx⟩ : ∃ x, Hid (bs.getD k 0 = x) := ⟨_, rfl⟩
          obtain ⟨d0, d1', d2, d3, d4, d5⟩ := (HT.out ▸ hcl k hlt).keep (Keeps.of_below hw)
          have Hbc := hidp (Hx.out ▸ hbl k hkb)
          have hw1 := hw.alloc hw.size (.cells #[.string t.name, .int .i64 t.per, .int .i64 t.dl, .int .i64 t.prio, .int .i64 t.cl, .slice t.pa t.parts.length t.pc] 44)
          have sc1 := sc.keep (Keeps.alloc wr (.cells #[.string t.name, .int .i64 t.per, .int .i64 t.dl, .int .i64 t.prio, .int .i64 t.cl, .slice t.pa t.parts.length t.pc] 44))
          have tb := TaskBox.new wr t 44
          obtain ⟨sc_0, sc_1, sc_2, sc_3⟩ := id sc1
          dsimp only at sc_0 sc_1 sc_2 sc_3
          obtain ⟨v, Hv⟩ : ∃ v, Hid (N k = v) := ⟨_, hidp rfl⟩
          obtain ⟨b, Hb⟩ : ∃ v, Hid (K k = v) := ⟨_, hidp rfl⟩
          have Hqk : Hid (q k = (b && (decide (v ≤ x) && (decide (1 ≤ x) && decide (x ≤ t.dl))))) := hidp (by rw [Hqd.out, Hv.out, Hb.out, Hx.out, HT.out])
          have HX := next_any ⟨proto, ca, cc, cores, ha, hc, homes, some ⟨g, off, none⟩, tc, tasks⟩ bs _ bc k _ (HS1.out _ hw1) (HB1.out _ hw1)
          rw [HN.out, HK.out, Hv.out, Hb.out] at HX
          have kI : (k : Int) < (bs.length : Int) := by omega
          clear hcl hbl hw sc
          go_wp2_with fail
          refine HX.mono ?_
          rintro e w3 ⟨rfl, hb3⟩
          replace hw1 := hw1.trans (hb3.mono hw1.size)
          replace sc1 := sc1.keep (Keeps.of_below hb3)
          replace tb := tb.keep (Keeps.of_below hb3)
          clear hb3 d0 d1' d2 d3 d4 d5 sc_0 sc_1 sc_2 sc_3 HX
          obtain ⟨d0, d1', d2, d3, d4, d5⟩ := id tb
          have cb := Keeps.of_below hw1 _ _ Hbc.out
          cases b with
          | false =>
            have Hz := hidp (Hoff.out k hlt (by rw [Hqk.out]; rfl))
            go_wp2_with fail
            go_quiet (fail)
            go_wp2_with fail
            go_ret
            exact ⟨ret_bool Hz.out.symm, below_drewN hw1 _⟩
          | true =>
            by_cases c1 : x < v
            · have Hz := hidp (Hoff.out k hlt (by rw [Hqk.out]; simp; omega))
              go_wp2_with fail
              go_quiet (fail)
              go_wp2_with fail
              go_ret
              exact ⟨ret_bool Hz.out.symm, below_drewN hw1 _⟩
            · have c1' : decide (x < v) = false := by simpa using c1
              by_cases c2 : x < 1
              · have Hz := hidp (Hoff.out k hlt (by rw [Hqk.out]; simp; omega))
                go_wp2_with fail
                go_quiet (fail)
                go_wp2_with fail
                go_ret
                exact ⟨ret_bool Hz.out.symm, below_drewN hw1 _⟩
              · have c2' : decide (x < 1) = false := by simpa using c2
                by_cases c3 : t.dl < x
                · have Hz := hidp (Hoff.out k hlt (by rw [Hqk.out]; simp; omega))
                  go_wp2_with fail
                  go_quiet (fail)
                  go_wp2_with fail
                  go_ret
                  exact ⟨ret_bool Hz.out.symm, below_drewN hw1 _⟩
                · have c3' : decide (t.dl < x) = false := by simpa using c3
                  have Hk2 : Hid (∀ j, j < k + 1 → q j = true) := hidp (fun j hj => by
                    by_cases ej : j = k
                    · subst ej; rw [Hqk.out]; simp; omega
                    · exact Hk.out j (by omega))
                  clear c1 c2 c3
                  go_wp2_with fail
                  go_quiet (fail)
                  go_wp2_with fail
                  go_roundg (gk - 1)
                  case measure => omega
                  case rel => exact ⟨k + 1, by omega, by go_num, Hk2, sc1.keep (Keeps.drewN _ _), below_drewN hw1 _⟩
        · obtain rfl : k = tasks.length := by omega
          have Hz := hidp (Hyes.out Hk.out)
          go_wp2
          go_ret
          exact ⟨ret_bool Hz.out.symm, hw⟩
    · have d1 : ((bs.length : Int) != (s.tasks.length : Int)) = true := by simp; omega
      have Hz : Hid (holdsV s bs = false) := hidp (by unfold holdsV; rw [decide_eq_false e2, Bool.false_and, Bool.and_false])
      clear e2
      go_enter Tryz.func9, Tryz.ntmps9
      go_wp2_with fail
      refine (check_any s _ H).mono ?_
      rintro e w2 ⟨rfl, hb2⟩
      replace hb := hb.trans (hb2.mono hb.size)
      replace sc := sc.keep (Keeps.of_below hb2)
      clear hb2
      try clear sc_0 sc_1 sc_2 sc_3
      have scx := sc
      obtain ⟨sc_0, sc_1, sc_2, sc_3⟩ := scx
      try dsimp only at sc_0 sc_1 sc_2 sc_3
      go_wp2_with fail
      go_ret
      exact ⟨ret_bool Hz.out.symm, hb⟩
  · have Hz : Hid (holdsV s bs = false) := hidp (by
      have : okS s = false := by rw [Bool.eq_false_iff]; intro h; exact e ((okS_chk s).1 h)
      unfold holdsV; rw [this]; rfl)
    have e1 : (chkE s != 0) = true := by simpa using e
    clear e
    go_enter Tryz.func9, Tryz.ntmps9
    go_wp2_with fail
    refine (check_any s _ H).mono ?_
    rintro e w2 ⟨rfl, hb2⟩
    replace hb := hb.trans (hb2.mono hb.size)
    replace sc := sc.keep (Keeps.of_below hb2)
    clear hb2
    try clear sc_0 sc_1 sc_2 sc_3
    have scx := sc
    obtain ⟨sc_0, sc_1, sc_2, sc_3⟩ := scx
    try dsimp only at sc_0 sc_1 sc_2 sc_3
    go_wp2_with fail
    go_ret
    exact ⟨ret_bool Hz.out.symm, hb⟩
end Go.Proofs.YtlbaohefappfoaaGreat

namespace Go.Proofs.YtlbaohefappfoaaGreat
open Go.ChangeShapes Go.WideShapes Go.ChangeAt Go.RowKit
set_option linter.unusedVariables false
set_option linter.unusedSimpArgs false

structure RowR where
  a : Option Addr
  c : Nat
  zs : List Int
instance : Inhabited RowR := ⟨⟨none, 0, []⟩⟩
def RowR.val (r : RowR) : Value := .slice r.a r.zs.length r.c
def rowsC (rs : List RowR) : List Value := rs.map RowR.val
def RowsAt (w : World) (a : Option Addr) (rs : List RowR) : Prop :=
  rs = [] ∨ ∃ b off, a = some ⟨b, off, none⟩ ∧ ∀ i, i < rs.length → w.cell? ⟨b, off + i, none⟩ = some (rs.getD i default).val
theorem RowsAt.keep {w w' : World} {a : Option Addr} {rs : List RowR} (h : RowsAt w a rs) (k : Keeps w w') : RowsAt w' a rs := by
  rcases h with h | ⟨b, off, e, h⟩
  · exact .inl h
  · exact .inr ⟨b, off, e, fun i hi => k _ _ (h i hi)⟩
theorem rows_lie {B : Nat} {w : World} {a : Option Addr} {rs : List RowR} (h : Lies B w a (rowsC rs)) : RowsAt w a rs := by
  rcases h with h | ⟨b, off, e, _, hc⟩
  · exact .inl (by simpa [rowsC] using h)
  · exact .inr ⟨b, off, e, fun i hi => hc i _ (by simp [rowsC, List.getD, hi])⟩
theorem infoI : (Tryz.prog.info? 22).map (fun i => (i.zero, i.size, i.bytes)) = some (some (.slice none 0 0), 1, 24) := by kernel_rfl
structure OwnS (B : Nat) (w : World) (A : Option Addr) (n c : Nat) (rs : List RowR) : Prop where
  own : w.ownsRow B 22 1 (.slice A n c) n (rowsC rs)
  len : n = rs.length
  cap : n ≤ c ∧ c ≤ maxLen
  nil : A = none → n = 0 ∧ c = 0
theorem OwnS.none (B : Nat) (w : World) : OwnS B w none 0 0 [] := ⟨World.ownsRow_nil _ _ _ _, rfl, by decide, fun _ => ⟨rfl, rfl⟩⟩
theorem OwnS.app {B : Nat} {w w1 w2 : World} {A A' : Option Addr} {n c c' : Nat} {rs ps : List RowR} {m : Nat} (h : OwnS B w A n c rs) (ha : App B 22 1 w1 A A' (n + m) c' (rowsC rs ++ rowsC ps) w2) (hm : m = ps.length) : OwnS B w2 A' (n + m) c' (rs ++ ps) :=
  ⟨by unfold rowsC; rw [List.map_append]; exact ha.own, by rw [List.length_append, h.len, hm], ha.cap, ha.nil⟩
theorem OwnS.turned {B : Nat} {F : List Nat} {w w' : World} {A : Option Addr} {n c : Nat} {rs : List RowR} (h : OwnS B w A n c rs) (ht : Turned F w w') (hF : ∀ k ∈ fp A, k ∉ F) : OwnS B w' A n c rs := ⟨own_turned h.own ht hF, h.len, h.cap, h.nil⟩
theorem OwnS.at_ {B : Nat} {w : World} {A : Option Addr} {n c : Nat} {rs : List RowR} (h : OwnS B w A n c rs) : RowsAt w A rs := rows_lie (Lies.of_own h.own)
theorem rows_one (r : RowR) : ∀ u ∈ rowsC [r], u.oneCell' = true := fun u hu => by simp [rowsC] at hu; subst hu; rfl
/-- a verdict -/
structure VerdR where
  ok : Bool
  ba : Option Addr
  bc : Nat
  bounds : List Int
  wa : Option Addr
  wc : Nat
  rows : List RowR
structure VerdOk (w : World) (v : VerdR) : Prop where
  bounds : IntsOk w v.ba v.bc v.bounds
  sl : SlOk v.wa v.rows.length v.wc
  at_ : RowsAt w v.wa v.rows
  rows : ∀ r ∈ v.rows, IntsOk w r.a r.c r.zs
theorem VerdOk.keep {w w' : World} {v : VerdR} (h : VerdOk w v) (k : Keeps w w') : VerdOk w' v := ⟨h.bounds.keep k, h.sl, h.at_.keep k, fun r hr => (h.rows r hr).keep k⟩
theorem VerdOk.none (w : World) : VerdOk w ⟨false, none, 0, [], none, 0, []⟩ := ⟨nil_ints w, ⟨fun _ => ⟨rfl, rfl⟩, by decide, by decide⟩, .inl rfl, by simp⟩
def AnPost (w : World) (s : SetR) (e : Ending) (w' : World) : Prop :=
  (∃ v : VerdR, e = .returned (.tuple #[.agg #[.bool v.ok, .slice v.ba v.bounds.length v.bc, .slice v.wa v.rows.length v.wc], .int .i64 (anE s)]) ∧ VerdOk w' v ∧ v.ok = decide (anE s = 0) ∧ v.bounds = anB s ∧ v.rows.map RowR.zs = anW s) ∧ Below w.heap.size w w'
theorem v3_turned (w : World) (g : Nat) (v0 v1 v2 : Value) : Turned [g] w (((w.setCell ⟨g, 0, none⟩ v0).setCell ⟨g, 1, none⟩ v1).setCell ⟨g, 2, none⟩ v2) :=
  (((Turned.refl [g] w).setCell (.inl (by simp)) _).setCell (.inl (by simp)) _).setCell (.inl (by simp)) _
theorem v3_bk {w : World} {g : Nat} {t : TypeId} {c0 c1 c2 v0 v1 v2 : Value} (h : Bk w g t #[c0, c1, c2]) : Bk (((w.setCell ⟨g, 0, none⟩ v0).setCell ⟨g, 1, none⟩ v1).setCell ⟨g, 2, none⟩ v2) g t #[v0, v1, v2] := by
  have := ((h.put 0 v0).put 1 v1).put 2 v2
  simpa using this
theorem Y3 {w : World} {g : Nat} {t : TypeId} {c0 c1 c2 : Value} (h : Bk w g t #[c0, c1, c2]) : w.cell? ⟨g, 0, none⟩ = some c0 ∧ w.cell? ⟨g, 1, none⟩ = some c1 ∧ w.cell? ⟨g, 2, none⟩ = some c2 := ⟨h.cell 0, h.cell 1, h.cell 2⟩
theorem YF3 {w : World} {g : Nat} {t : TypeId} {cs : Array Value} (h : Bk w g t cs) : w.frozen? ⟨g, 0, none⟩ = false ∧ w.frozen? ⟨g, 1, none⟩ = false ∧ w.frozen? ⟨g, 2, none⟩ = false := ⟨h.frozen 0, h.frozen 1, h.frozen 2⟩
/-- a row of numbers doesn't lie in a block without numbers -/
theorem IntsOk.other {w w' : World} {a : Option Addr} {c g : Nat} {t : TypeId} {zs : List Int} {c0 c1 c2 : Value} (h : IntsOk w a c zs) (hb : Bk w g t #[c0, c1, c2]) (h0 : ∀ z, c0 ≠ .int .i64 z) (h1 : ∀ z, c1 ≠ .int .i64 z) (h2 : ∀ z, c2 ≠ .int .i64 z) (ht : Turned [g] w w') : IntsOk w' a c zs := by
  refine ⟨h.sl, ?_, h.wf⟩
  rcases h.at_ with e | ⟨b, off, e, hc⟩
  · exact .inl e
  · by_cases hz : zs = []
    · exact .inl hz
    · have hp : 0 < zs.length := List.length_pos_iff.2 hz
      have hbg : b ≠ g := fun e2 => by
        subst e2
        have := hc 0 hp
        rw [Nat.add_zero, hb.cell off] at this
        match off, this with
        | 0, this => simp at this; exact h0 _ this
        | 1, this => simp at this; exact h1 _ this
        | 2, this => simp at this; exact h2 _ this
        | off + 3, this => simp at this
      exact .inr ⟨b, off, e, fun j hj => ht.cell (hc j hj) (by simpa using hbg)⟩
theorem IntsOk.turned2 {F : List Nat} {w w' : World} {a : Option Addr} {c : Nat} {zs : List Int} (h : IntsOk w a c zs) (ht : Turned F w w') (hF : zs = [] ∨ ∀ k ∈ fp a, k ∉ F) : IntsOk w' a c zs := by
  rcases hF with e | hF
  · exact ⟨h.sl, .inl e, h.wf⟩
  · exact h.turned ht hF

set_option maxHeartbeats 4000000 in
set_option maxRecDepth 100000 in
theorem analyze_any (s : SetR) (w : World) (hs : SetOk w s) : Calls Tryz.prog 6 #[.agg #[.int .i64 s.proto, .slice s.ca s.cores.length s.cc, .slice s.ha s.homes.length s.hc, .slice s.ta s.tasks.length s.tc]] w (AnPost w s) := by
  have hb := ((Below.refl w.heap.size w).alloc (Nat.le_refl _) (.cells #[.int .i64 s.proto, .slice s.ca s.cores.length s.cc, .slice s.ha s.homes.length s.hc, .slice s.ta s.tasks.length s.tc] 25)).alloc (by simp) (.cells #[.bool false, .slice none 0 0, .slice none 0 0] 30)
  have sc := (SetCells.new w s 25).keep (Keeps.alloc _ (.cells #[.bool false, .slice none 0 0, .slice none 0 0] 30))
  have bk := Bk.at_ (w := w.alloc (.cells #[.int .i64 s.proto, .slice s.ca s.cores.length s.cc, .slice s.ha s.homes.length s.hc, .slice s.ta s.tasks.length s.tc] 25)) (g := w.heap.size + 1) (t := 30) (cs := #[.bool false, .slice none 0 0, .slice none 0 0]) (by simp) rfl
  have hz0 : w.heap.size + 1 < ((w.alloc (.cells #[.int .i64 s.proto, .slice s.ca s.cores.length s.cc, .slice s.ha s.homes.length s.hc, .slice s.ta s.tasks.length s.tc] 25)).alloc (.cells #[.bool false, .slice none 0 0, .slice none 0 0] 30)).heap.size := by simp
  have H := hs.keep (Keeps.of_below hb)
  have l3 : s.tasks.length ≤ maxLen := Nat.le_trans hs.tasks.sl.2.1 hs.tasks.sl.2.2
  unfold maxLen at l3
  obtain ⟨at0, Hat⟩ : ∃ x, Hid (chkAt s = x) := ⟨_, hidp rfl⟩
  obtain ⟨ce, Hce⟩ : ∃ x, Hid (chkE s = x) := ⟨_, hidp rfl⟩
  have HC := check_any s _ H
  rw [Hat.out, Hce.out] at HC
  by_cases e : chkE s = 0
  · have ho := (okS_chk s).2 e
    have Ho := hidp ho
    have e1 : (ce != 0) = false := by rw [← Hce.out]; simpa using e
    have n6 := (Good.of ho).ntasks.2
    obtain ⟨L, HL⟩ : ∃ l, Hid ((settle s).1 = l) := ⟨_, hidp rfl⟩
    obtain ⟨se, Hse⟩ : ∃ l, Hid ((settle s).2 = l) := ⟨_, hidp rfl⟩
    have HanE : Hid (anE s = se) := hidp (by unfold anE; rw [if_pos e, Hse.out])
    have HS := fun u h => settled18_any s u h ho
    rw [HL.out, Hse.out] at HS
    have HS1 := hidp (fun u (h : Below w.heap.size w u) => hs.keep (Keeps.of_below h))
    clear hs ho e
    by_cases es : se = 0
    · have HB : Hid (anB s = L) := hidp (by unfold anB; rw [HanE.out, if_pos es, HL.out])
      have HW : Hid (anW s = (List.range s.tasks.length).map (fun i : Nat => waitsL s L i)) := hidp (by unfold anW; rw [HanE.out, if_pos es, HL.out])
      have es1 : (se != 0) = false := by simpa using es
      have Hes := hidp es
      obtain ⟨wl, Hwl⟩ : ∃ f : Nat → List Int, Hid (∀ k : Nat, waitsL s L k = f k) := ⟨fun k => waitsL s L k, hidp (fun _ => rfl)⟩
      obtain ⟨wk, Hwk⟩ : ∃ f : Nat → Bool, Hid (∀ k : Nat, waitsK s L k = f k) := ⟨fun k => waitsK s L k, hidp (fun _ => rfl)⟩
      obtain ⟨i1, hi0, hy0, hy1, hy2⟩ := info_parts infoI
      obtain ⟨S, HSS⟩ : ∃ S : SetR, Hid (S = s) := ⟨s, hidp rfl⟩
      clear es
      go_enter Tryz.func6, Tryz.ntmps6
      go_wp2_with fail
      refine HC.mono ?_
      rintro e w2 ⟨rfl, hb2⟩
      replace hb := hb.trans (hb2.mono hb.size)
      replace sc := sc.keep (Keeps.of_below hb2)
      replace bk := bk.below hb2
      replace hz0 := Nat.lt_of_lt_of_le hz0 hb2.size
      replace H := H.keep (Keeps.of_below hb2)
      clear hb2 HC
      obtain ⟨sc_0, sc_1, sc_2, sc_3⟩ := id sc
      go_wp2_with fail
      refine (HS _ H).mono ?_
      rintro e w4 ⟨A, c, rfl, hA, hb2⟩
      replace hb := hb.trans (hb2.mono hb.size)
      replace sc := sc.keep (Keeps.of_below hb2)
      replace bk := bk.below hb2
      replace hz0 := Nat.lt_of_lt_of_le hz0 hb2.size
      clear hb2 H HS sc_0 sc_1 sc_2 sc_3
      have hB0 := (Below.refl w4.heap.size w4).alloc (Nat.le_refl _) (.cells #[.bool true, .slice A L.length c, .slice none 0 0] 30)
      have bv := Bk.new w4 30 #[.bool true, .slice A L.length c, .slice none 0 0]
      have hz1 : w4.heap.size + 1 ≤ (w4.alloc (.cells #[.bool true, .slice A L.length c, .slice none 0 0] 30)).heap.size := by simp
      have HA := hidp hA
      have HSC := hidp sc
      have HBK := hidp bk
      have HB4 := hidp hb
      have sc1 := sc.keep (Keeps.alloc w4 (.cells #[.bool true, .slice A L.length c, .slice none 0 0] 30))
      obtain ⟨sc_0, sc_1, sc_2, sc_3⟩ := id sc1
      have hz2 := hz0
      clear hA sc bk hb sc1 hz0
      go_wp2_with fail
      clear sc_0 sc_1 sc_2 sc_3
      go_loopg [35] s.tasks.length (fun gg i wr => ∃ (k d : Nat) (W : Option Addr) (rs : List RowR), k + gg = s.tasks.length ∧ i = .int .i64 k ∧ Hid (rs.map RowR.zs = (List.range k).map wl) ∧ OwnS (w4.heap.size + 1) wr W k d rs ∧ (∀ r ∈ rs, IntsOk wr r.a r.c r.zs) ∧ (∀ r ∈ rs, r.zs = [] ∨ ∀ x ∈ fp r.a, w4.heap.size + 1 ≤ x ∧ x < wr.heap.size ∧ x ∉ fp W) ∧ Bk wr w4.heap.size 30 #[.bool true, .slice A L.length c, .slice W k d] ∧ Below w4.heap.size w4 wr ∧ w4.heap.size + 1 ≤ wr.heap.size)
      case atStart => exact ⟨0, 0, none, [], by omega, rfl, hidp rfl, OwnS.none _ _, by simp, by simp, bv, hB0, hz1⟩
      case round =>
        clear bv hB0 hz1
        obtain ⟨k, d, W, rs, hk, rfl, Hm, oW, hro, hap, bv, hB, hz⟩ := hrel
        have hw : Below w.heap.size w wr := HB4.out.trans (hB.mono HB4.out.size)
        by_cases hlt : k < s.tasks.length
        · have sc := HSC.out.keep (Keeps.of_below hB)
          obtain ⟨sc_0, sc_1, sc_2, sc_3⟩ := id sc
          obtain ⟨y0, y1, y2⟩ := Y3 bv
          have HX := wallN_any s L A c k _ (HS1.out _ hw) (HA.out.keep (Keeps.of_below hB))
          rw [Hwl.out, Hwk.out] at HX
          obtain ⟨zs, Hzs⟩ : ∃ l, Hid (wl k = l) := ⟨_, hidp rfl⟩
          obtain ⟨zk, Hzk⟩ : ∃ l, Hid (wk k = l) := ⟨_, hidp rfl⟩
          rw [Hzs.out, Hzk.out] at HX
          have Hrs : Hid (rs.length = k) := hidp oW.len.symm
          go_wp2_with fail
          refine HX.mono ?_
          rintro e w5 ⟨a', c', rfl, hR, hb3, hfr⟩
          have hF : ∀ x ∈ fp a', x ∉ fp W := fun x hx hx2 => by have := hfr x hx; have := (own_fp oW.own x hx2).2; omega
          have hlt5 : ∀ x ∈ fp a', zs ≠ [] → x < w5.heap.size := fun x hx hz => by
            rcases hR.at_ with e | ⟨b, off, e, hc⟩
            · exact absurd e hz
            · subst e; simp [fp] at hx; subst hx; exact cell_lt (hc 0 (List.length_pos_iff.2 hz))
          have HR5 := hidp hR
          have HF5 := hidp hF
          have HL5 := hidp hlt5
          have Hfr := hidp hfr
          have hs5 := hb3.size
          have oW6 := (oW.turned (Turned.of_below hb3 []) (by simp)).turned ((Turned.refl [] w5).alloc (.cells #[.slice a' zs.length c'] 22)) (by simp)
          have S2 := hidp (Lies.newCells' w5 [.slice a' zs.length c'] 22)
          have Z2 : Hid (w4.heap.size + 1 ≤ (w5.alloc (.cells #[.slice a' zs.length c'] 22)).heap.size) := hidp (Nat.le_trans hz (Nat.le_trans hs5 (by simp)))
          have O2 := hidp (rows_one ⟨a', c', zs⟩)
          have N2 : Hid (k + 1 ≤ maxLen) := hidp (by unfold maxLen; omega)
          have T2 : Hid ((k + 1) * 24 ≤ 140737488355328) := hidp (by omega)
          have Hfp := hidp (own_fp oW.own)
          have bv5 := bv.below hb3
          have bv6 := bv5.alloc (.cells #[.slice a' zs.length c'] 22)
          have hB6 := (hB.trans (hb3.mono hB.size)).alloc (hB.trans (hb3.mono hB.size)).size (.cells #[.slice a' zs.length c'] 22)
          have Hb3 := hidp hb3
          clear y0 y1 y2 sc_0 sc_1 sc_2 sc_3 sc HX hR hF hlt5 hfr hb3 oW bv hB
          obtain ⟨y0, y1, y2⟩ := Y3 bv5
          go_wp2_with (at_builtin; refine wpList_app2 _ rfl (.tmp 46) (.tmp 48) 28 rfl (w4.heap.size + 1) 22 i1 _ 1 24 Tryz.underlying28 hi0 hy0 hy1 hy2 rfl (by decide) W k d _ rfl oW6.own _ _ 1 1 [.slice a' zs.length c'] rfl (by simp) rfl S2.out O2.out N2.out T2.out Z2.out ?_; intro W' d' w7 happ; have D7 := bv6.turned happ.turned (fun hf => by have := (Hfp.out _ hf).1; omega); obtain ⟨x0, x1, x2⟩ := Y3 D7; obtain ⟨f0, f1, f2⟩ := YF3 D7)
          go_roundg (gk - 1)
          case measure => omega
          case rel =>
            have TS := (Turned.refl [w4.heap.size] w7).setCell (p := ⟨w4.heap.size, 2, none⟩) (.inl (by simp)) (.slice W' (k + 1) d')
            have hs7 := happ.turned.size
            have hs6 : w5.heap.size + 1 = (w5.alloc (.cells #[.slice a' zs.length c'] 22)).heap.size := by simp
            refine ⟨k + 1, d', W', rs ++ [⟨a', c', zs⟩], by omega, by go_num, hidp (by rw [List.map_append, Hm.out, List.range_succ, List.map_append]; simp [Hzs.out]), (oW6.app (ps := [⟨a', c', zs⟩]) happ rfl).turned TS (fun j hj => by
              rcases happ.fps j hj with h | h
              · have := (Hfp.out j h).1; simp; omega
              · simp; omega), fun r hr => ?_, fun r hr => ?_, D7.put 2 (.slice W' (k + 1) d'), (hB6.trans (happ.turned.below hB6.size (fun j hj => by have := (Hfp.out j hj).1; omega))).trans (TS.below (Nat.le_trans hB6.size hs7) (by simp)), Nat.le_trans (Nat.le_trans Z2.out hs7) TS.size⟩
            · rcases List.mem_append.1 hr with hm | hm
              · refine (IntsOk.turned2 (((hro r hm).keep (Keeps.of_below Hb3.out)).keep (Keeps.alloc _ _)) happ.turned ?_).turned2 TS ?_
                · rcases hap r hm with e | e
                  · exact .inl e
                  · exact .inr (fun j hj => (e j hj).2.2)
                · rcases hap r hm with e | e
                  · exact .inl e
                  · exact .inr (fun j hj => by have := (e j hj).1; simp; omega)
              · simp only [List.mem_cons, List.not_mem_nil, or_false] at hm
                subst hm
                refine (IntsOk.turned2 (HR5.out.keep (Keeps.alloc _ _)) happ.turned (.inr HF5.out)).turned2 TS (.inr (fun j hj => by have := Hfr.out j hj; simp; omega))
            · rcases List.mem_append.1 hr with hm | hm
              · rcases hap r hm with e | e
                · exact .inl e
                · refine .inr (fun x hx => ⟨(e x hx).1, ?_, fun hf => ?_⟩)
                  · have := (e x hx).2.1; have := TS.size; omega
                  · rcases happ.fps x hf with h | h
                    · exact (e x hx).2.2 h
                    · have := (e x hx).2.1; omega
              · simp only [List.mem_cons, List.not_mem_nil, or_false] at hm
                subst hm
                by_cases ez : zs = []
                · exact .inl ez
                · refine .inr (fun x hx => ⟨by have := Hfr.out x hx; omega, ?_, fun hf => ?_⟩)
                  · have := HL5.out x hx ez; have := TS.size; omega
                  · rcases happ.fps x hf with h | h
                    · exact HF5.out x hx h
                    · have := HL5.out x hx ez; omega
        · have hkn : k = s.tasks.length := by omega
          have bkr := HBK.out.below hB
          obtain ⟨y0, y1, y2⟩ := Y3 bv
          obtain ⟨z0, z1, z2⟩ := Y3 bkr
          obtain ⟨f0, f1, f2⟩ := YF3 bkr
          have hkI : (k : Int) = (s.tasks.length : Int) := by omega
          have hAr := HA.out.keep (Keeps.of_below hB)
          have Hrl := hidp (oW.len)
          have Hkn := hidp hkn
          clear hkn hkI
          go_wp2_with fail
          have PB := v3_bk bkr (v0 := .bool true) (v1 := .slice A L.length c) (v2 := .slice W k d)
          have PT := v3_turned wr (w.heap.size + 1) (.bool true) (.slice A L.length c) (.slice W k d)
          obtain ⟨x0, x1, x2⟩ := Y3 PB
          have hbe := hw.trans (PT.below hw.size (by simp))
          refine bodyPost_ret (v := .tuple #[.agg #[.bool true, .slice A L.length c, .slice W k d], .int .i64 0]) (by simp [results, Tryz.results6, go_sem, x0, x1, x2]) rfl ⟨⟨⟨true, A, c, L, W, d, rs⟩, ?_, ⟨hAr.other bkr (fun z h => by cases h) (fun z h => by cases h) (fun z h => by cases h) PT, ?_, ?_, fun r hr => (hro r hr).other bkr (fun z h => by cases h) (fun z h => by cases h) (fun z h => by cases h) PT⟩, ?_, HB.out.symm, ?_⟩, hbe⟩
          · rw [HanE.out, Hes.out, ← Hrl.out]
          · show SlOk W rs.length d
            rw [← Hrl.out]; exact ⟨oW.nil, oW.cap⟩
          · exact (oW.turned PT (fun j hj => by have := (own_fp oW.own j hj).1; simp; omega)).at_
          · rw [HanE.out, Hes.out]; rfl
          · rw [HW.out, Hm.out, Hkn.out]
            exact (List.map_congr_left (fun i _ => Hwl.out i)).symm
    · have es1 : (se != 0) = true := by simpa using es
      have HB : Hid (anB s = []) := hidp (by unfold anB; rw [HanE.out, if_neg es])
      have HW : Hid (anW s = []) := hidp (by unfold anW; rw [HanE.out, if_neg es])
      have Hok : Hid (decide (anE s = 0) = false) := hidp (by rw [HanE.out]; simpa using es)
      clear es
      go_enter Tryz.func6, Tryz.ntmps6
      go_wp2_with fail
      refine HC.mono ?_
      rintro e w2 ⟨rfl, hb2⟩
      replace hb := hb.trans (hb2.mono hb.size)
      replace sc := sc.keep (Keeps.of_below hb2)
      replace bk := bk.below hb2
      replace H := H.keep (Keeps.of_below hb2)
      clear hb2 HC
      obtain ⟨sc_0, sc_1, sc_2, sc_3⟩ := id sc
      go_wp2_with fail
      refine (HS _ H).mono ?_
      rintro e w4 ⟨A, c, rfl, hA, hb2⟩
      replace hb := hb.trans (hb2.mono hb.size)
      replace bk := bk.below hb2
      obtain ⟨z0, z1, z2⟩ := Y3 bk
      obtain ⟨f0, f1, f2⟩ := YF3 bk
      clear hb2 hA sc_0 sc_1 sc_2 sc_3
      go_wp2_with fail
      have PB := v3_bk bk (v0 := .bool false) (v1 := .slice none 0 0) (v2 := .slice none 0 0)
      have PT := v3_turned w4 (w.heap.size + 1) (.bool false) (.slice none 0 0) (.slice none 0 0)
      obtain ⟨x0, x1, x2⟩ := Y3 PB
      have hbe := hb.trans (PT.below hb.size (by simp))
      exact bodyPost_ret (v := .tuple #[.agg #[.bool false, .slice none 0 0, .slice none 0 0], .int .i64 se]) (by simp [results, Tryz.results6, go_sem, x0, x1, x2]) rfl ⟨⟨⟨false, none, 0, [], none, 0, []⟩, by rw [HanE.out]; rfl, VerdOk.none _, Hok.out.symm, HB.out.symm, HW.out.symm⟩, hbe⟩
  · have e1 : (ce != 0) = true := by rw [← Hce.out]; simpa using e
    have HanE : Hid (anE s = ce) := hidp (by unfold anE; rw [if_neg e, Hce.out])
    have hne : ¬ anE s = 0 := by rw [HanE.out, ← Hce.out]; exact e
    have HB : Hid (anB s = []) := hidp (by unfold anB; rw [if_neg hne])
    have HW : Hid (anW s = []) := hidp (by unfold anW; rw [if_neg hne])
    have Hok : Hid (decide (anE s = 0) = false) := hidp (by simpa using hne)
    clear e hne
    go_enter Tryz.func6, Tryz.ntmps6
    go_wp2_with fail
    refine HC.mono ?_
    rintro e w2 ⟨rfl, hb2⟩
    replace hb := hb.trans (hb2.mono hb.size)
    replace bk := bk.below hb2
    obtain ⟨z0, z1, z2⟩ := Y3 bk
    obtain ⟨f0, f1, f2⟩ := YF3 bk
    clear hb2 HC
    go_wp2_with fail
    have PB := v3_bk bk (v0 := .bool false) (v1 := .slice none 0 0) (v2 := .slice none 0 0)
    have PT := v3_turned w2 (w.heap.size + 1) (.bool false) (.slice none 0 0) (.slice none 0 0)
    obtain ⟨x0, x1, x2⟩ := Y3 PB
    have hbe := hb.trans (PT.below hb.size (by simp))
    exact bodyPost_ret (v := .tuple #[.agg #[.bool false, .slice none 0 0, .slice none 0 0], .int .i64 ce]) (by simp [results, Tryz.results6, go_sem, x0, x1, x2]) rfl ⟨⟨⟨false, none, 0, [], none, 0, []⟩, by rw [HanE.out]; rfl, VerdOk.none _, Hok.out.symm, HB.out.symm, HW.out.symm⟩, hbe⟩
end Go.Proofs.YtlbaohefappfoaaGreat

namespace Go.Proofs.YtlbaohefappfoaaGreat
open Go.ChangeShapes Go.WideShapes Go.ChangeAt Go.RowKit
set_option linter.unusedVariables false
/-- a set made by hand, whose row of tasks is of the call's own -/
def OneS18 (w : World) (B : Nat) (proto : Int) (ts : List TaskR) (e : Ending) : Prop := ∃ (ca ha ta : Option Addr) (cc hc tc : Nat), e = .returned (.agg #[.int .i64 proto, .slice ca 1 cc, .slice ha 1 hc, .slice ta ts.length tc]) ∧ IntsOk w ca cc [1] ∧ IntsOk w ha hc [0] ∧ OwnT B w ta ts.length tc ts ∧ (∀ k ∈ fp ca, k ∉ fp ta ∧ B ≤ k ∧ k < w.heap.size) ∧ ∀ k ∈ fp ha, k ∉ fp ta ∧ B ≤ k ∧ k < w.heap.size
theorem one18_any (proto : Int) (a : Option Addr) (c : Nat) (ps : List PartM) (w : World) : Calls Tryz.prog 12 #[.int .i64 proto, .slice a ps.length c] w fun e w' => OneS18 w' w.heap.size proto [⟨⟨#[97]⟩, 100, 100, 1, 0, a, c, ps⟩] e ∧ Below w.heap.size w w' := by
  go_enter Tryz.func12, Tryz.ntmps12
  go_wp2
  have B1 := ((Bk.at_ (w := w.alloc (.cells #[.int .i64 proto, .slice (some ⟨w.heap.size + 1, 0, none⟩) 1 1, .slice (some ⟨w.heap.size + 1 + 1, 0, none⟩) 1 1, .slice (some ⟨w.heap.size + 1 + 1 + 1, 0, none⟩) 1 1] 25)) (g := w.heap.size + 1) (t := 3) (cs := ([1].map (Value.int .i64)).toArray) (by simp) rfl).alloc (.cells #[.int .i64 0] 3)).alloc (.cells #[.string ⟨#[97]⟩, .int .i64 100, .int .i64 100, .int .i64 1, .int .i64 0, .slice a ps.length c] 44)
  have B2 := (Bk.at_ (w := (w.alloc (.cells #[.int .i64 proto, .slice (some ⟨w.heap.size + 1, 0, none⟩) 1 1, .slice (some ⟨w.heap.size + 1 + 1, 0, none⟩) 1 1, .slice (some ⟨w.heap.size + 1 + 1 + 1, 0, none⟩) 1 1] 25)).alloc (.cells #[.int .i64 1] 3)) (g := w.heap.size + 1 + 1) (t := 3) (cs := ([0].map (Value.int .i64)).toArray) (by simp) rfl).alloc (.cells #[.string ⟨#[97]⟩, .int .i64 100, .int .i64 100, .int .i64 1, .int .i64 0, .slice a ps.length c] 44)
  have B3 := Bk.at_ (w := ((w.alloc (.cells #[.int .i64 proto, .slice (some ⟨w.heap.size + 1, 0, none⟩) 1 1, .slice (some ⟨w.heap.size + 1 + 1, 0, none⟩) 1 1, .slice (some ⟨w.heap.size + 1 + 1 + 1, 0, none⟩) 1 1] 25)).alloc (.cells #[.int .i64 1] 3)).alloc (.cells #[.int .i64 0] 3)) (g := w.heap.size + 1 + 1 + 1) (t := 44) (cs := (ttc [⟨⟨#[97]⟩, 100, 100, 1, 0, a, c, ps⟩]).toArray) (by simp) rfl
  refine bodyPost_ret (v := .agg #[.int .i64 proto, .slice (some ⟨w.heap.size + 1, 0, none⟩) 1 1, .slice (some ⟨w.heap.size + 1 + 1, 0, none⟩) 1 1, .slice (some ⟨w.heap.size + 1 + 1 + 1, 0, none⟩) 1 1]) (by simp [results, Tryz.results12, go_sem]) rfl
    ⟨⟨_, _, _, 1, 1, 1, rfl, ⟨⟨(fun e => by cases e), by simp, by first | decide | (simp; done) | (simp; decide)⟩, ints_lit B1, by first | decide | (simp; done) | (simp; decide)⟩, ⟨⟨(fun e => by cases e), by simp, by first | decide | (simp; done) | (simp; decide)⟩, ints_lit B2, by first | decide | (simp; done) | (simp; decide)⟩, ⟨own_lit B3 (by omega) (ttc_len _) (by first | decide | (simp; done) | (simp; decide)), rfl, by first | decide | (simp; done) | (simp; decide), (fun e => by cases e)⟩, by simp [fp]; try omega, by simp [fp]; try omega⟩, ?_⟩
  exact ((((Below.refl _ _).alloc (Nat.le_refl _) _).alloc (by simp) _).alloc (by simp; omega) _).alloc (by simp; omega) _
/-- two tasks at one cluster -/
def twoS18 (S : SetR) (proto run lock run2 lock2 : Int) : Prop := S.proto = proto ∧ S.cores = [1] ∧ S.homes = [0] ∧ ∃ (a1 a2 : Option Addr) (c1 c2 : Nat), S.tasks = [⟨⟨#[97]⟩, 100, 100, 1, 0, a1, c1, [⟨1, run, 0⟩, ⟨3, lock, 0⟩]⟩, ⟨⟨#[98]⟩, 200, 200, 2, 0, a2, c2, [⟨1, run2, 0⟩, ⟨3, lock2, 0⟩]⟩]
def TwoP18 (w : World) (proto run lock run2 lock2 : Int) (e : Ending) (w' : World) : Prop := (∃ S : SetR, e = .returned (.agg #[.int .i64 S.proto, .slice S.ca S.cores.length S.cc, .slice S.ha S.homes.length S.hc, .slice S.ta S.tasks.length S.tc]) ∧ SetOk w' S ∧ twoS18 S proto run lock run2 lock2) ∧ Below w.heap.size w w'
set_option maxRecDepth 100000 in
theorem two18_any (proto run lock run2 lock2 : Int) (w : World) (h0 : I64 proto) (h1 : I64 run) (h2 : I64 lock) (h3 : I64 run2) (h4 : I64 lock2) : Calls Tryz.prog 11 #[.int .i64 proto, .int .i64 run, .int .i64 lock, .int .i64 run2, .int .i64 lock2] w (TwoP18 w proto run lock run2 lock2) := by
  obtain ⟨i0, hi0, hy0, hy1, hy2⟩ := info_parts infoTask
  have P0 := (Bk.new w 25 #[.int .i64 0, .slice none 0 0, .slice none 0 0, .slice none 0 0]).alloc (.cells (ptc [⟨1, run, 0⟩, ⟨3, lock, 0⟩]).toArray 41)
  have P1 := Bk.at_ (w := w.alloc (.cells #[.int .i64 0, .slice none 0 0, .slice none 0 0, .slice none 0 0] 25)) (g := w.heap.size + 1) (t := 41) (cs := (ptc [⟨1, run, 0⟩, ⟨3, lock, 0⟩]).toArray) (by simp) rfl
  have hb0 := ((Below.refl w.heap.size w).alloc (Nat.le_refl _) (.cells #[.int .i64 0, .slice none 0 0, .slice none 0 0, .slice none 0 0] 25)).alloc (by simp) (.cells (ptc [⟨1, run, 0⟩, ⟨3, lock, 0⟩]).toArray 41)
  have hz0 : ((w.alloc (.cells #[.int .i64 0, .slice none 0 0, .slice none 0 0, .slice none 0 0] 25)).alloc (.cells (ptc [⟨1, run, 0⟩, ⟨3, lock, 0⟩]).toArray 41)).heap.size = w.heap.size + 2 := by simp
  have Hz0 := hidp hz0
  clear hz0
  go_enter Tryz.func11, Tryz.ntmps11
  go_wp2_with fail
  refine (one18_any proto (some ⟨w.heap.size + 1, 0, none⟩) 2 [⟨1, run, 0⟩, ⟨3, lock, 0⟩] _).mono ?_
  rintro e w2 ⟨⟨ca, ha, ta, cc, hc, tc, rfl, kc, kh, kt, n1, n2⟩, hb⟩
  have hsz : w.heap.size + 2 ≤ w2.heap.size := by have := hb.size; rw [← Hz0.out]; exact this
  replace P0 := P0.below hb
  replace P1 := P1.below hb
  have hbe := hb0.trans (hb.mono hb0.size)
  clear hb hb0
  have kt := kt.low (show w.heap.size + 2 ≤ _ by rw [← Hz0.out]; exact Nat.le_refl _)
  have n1' : ∀ k ∈ fp ca, k ∉ fp ta ∧ w.heap.size + 2 ≤ k ∧ k < w2.heap.size := fun k hk => ⟨(n1 k hk).1, by have := (n1 k hk).2.1; rw [← Hz0.out]; exact this, (n1 k hk).2.2⟩
  have n2' : ∀ k ∈ fp ha, k ∉ fp ta ∧ w.heap.size + 2 ≤ k ∧ k < w2.heap.size := fun k hk => ⟨(n2 k hk).1, by have := (n2 k hk).2.1; rw [← Hz0.out]; exact this, (n2 k hk).2.2⟩
  have N1 := hidp n1'
  have N2 := hidp n2'
  have Hft := hidp (own_fp kt.own)
  clear n1 n2 n1' n2'
  obtain ⟨V, hV⟩ : ∃ V, w2.heap.size = V := ⟨_, rfl⟩
  have HV := hidp hV
  clear hV
  -- the boxes that come now
  have T0 := (((Turned.refl [] w2).alloc (.cells #[.int .i64 proto, .slice ca 1 cc, .slice ha 1 hc, .slice ta 1 tc] 25)).alloc (.cells (ptc [⟨1, run2, 0⟩, ⟨3, lock2, 0⟩]).toArray 41)).alloc (.cells (ttc [⟨⟨#[98]⟩, 200, 200, 2, 0, some ⟨w2.heap.size + 1, 0, none⟩, 2, [⟨1, run2, 0⟩, ⟨3, lock2, 0⟩]⟩]).toArray 44)
  have X0 := ((Bk.new w2 25 #[.int .i64 proto, .slice ca 1 cc, .slice ha 1 hc, .slice ta 1 tc]).alloc (.cells (ptc [⟨1, run2, 0⟩, ⟨3, lock2, 0⟩]).toArray 41)).alloc (.cells (ttc [⟨⟨#[98]⟩, 200, 200, 2, 0, some ⟨w2.heap.size + 1, 0, none⟩, 2, [⟨1, run2, 0⟩, ⟨3, lock2, 0⟩]⟩]).toArray 44)
  have X1 := (Bk.at_ (w := w2.alloc (.cells #[.int .i64 proto, .slice ca 1 cc, .slice ha 1 hc, .slice ta 1 tc] 25)) (g := w2.heap.size + 1) (t := 41) (cs := (ptc [⟨1, run2, 0⟩, ⟨3, lock2, 0⟩]).toArray) (by simp) rfl).alloc (.cells (ttc [⟨⟨#[98]⟩, 200, 200, 2, 0, some ⟨w2.heap.size + 1, 0, none⟩, 2, [⟨1, run2, 0⟩, ⟨3, lock2, 0⟩]⟩]).toArray 44)
  have S2 := Lies.newCells' ((w2.alloc (.cells #[.int .i64 proto, .slice ca 1 cc, .slice ha 1 hc, .slice ta 1 tc] 25)).alloc (.cells (ptc [⟨1, run2, 0⟩, ⟨3, lock2, 0⟩]).toArray 41)) (ttc [⟨⟨#[98]⟩, 200, 200, 2, 0, some ⟨w2.heap.size + 1, 0, none⟩, 2, [⟨1, run2, 0⟩, ⟨3, lock2, 0⟩]⟩]) 44
  rw [show ((w2.alloc (.cells #[.int .i64 proto, .slice ca 1 cc, .slice ha 1 hc, .slice ta 1 tc] 25)).alloc (.cells (ptc [⟨1, run2, 0⟩, ⟨3, lock2, 0⟩]).toArray 41)).heap.size = w2.heap.size + 1 + 1 by simp] at S2
  have O2 := hidp (ttc_one [⟨⟨#[98]⟩, 200, 200, 2, 0, some ⟨w2.heap.size + 1, 0, none⟩, 2, [⟨1, run2, 0⟩, ⟨3, lock2, 0⟩]⟩])
  have hown := own_turned kt.own T0 (by simp)
  have Z2 : Hid (w.heap.size + 2 ≤ (((w2.alloc (.cells #[.int .i64 proto, .slice ca 1 cc, .slice ha 1 hc, .slice ta 1 tc] 25)).alloc (.cells (ptc [⟨1, run2, 0⟩, ⟨3, lock2, 0⟩]).toArray 41)).alloc (.cells (ttc [⟨⟨#[98]⟩, 200, 200, 2, 0, some ⟨w2.heap.size + 1, 0, none⟩, 2, [⟨1, run2, 0⟩, ⟨3, lock2, 0⟩]⟩]).toArray 44)).heap.size) := hidp (Nat.le_trans hsz T0.size)
  have HS2 := hidp S2
  have HT0 := hidp T0
  have HX0 := hidp X0
  have HX1 := hidp X1
  clear S2 T0 X0 X1
  go_wp2_with (at_builtin; go_loud ((refine wpList_app2 _ rfl (.tmp 20) (.tmp 27) 23 rfl (w.heap.size + 2) 44 i0 _ 6 72 Tryz.underlying23 hi0 hy0 hy1 hy2 rfl (by decide) ta 1 tc _ rfl hown _ _ 1 1 (ttc [⟨⟨#[98]⟩, 200, 200, 2, 0, some ⟨w2.heap.size + 1, 0, none⟩, 2, [⟨1, run2, 0⟩, ⟨3, lock2, 0⟩]⟩]) rfl (by simp) rfl HS2.out O2.out (by decide) (by decide) Z2.out ?_; intro A' c' w3 happ; have X0 := HX0.out.turned happ.turned (fun hf => by have := (Hft.out _ hf).2; omega); have Y0 := (P0.turned HT0.out (by simp)).turned happ.turned (fun hf => by have := (Hft.out _ hf).1; omega); obtain ⟨f0, f1, f2, f3⟩ := ZF4 X0; obtain ⟨e0, e1, e2, e3⟩ := Z4 X0; obtain ⟨p0, p1, p2, p3⟩ := ZF4 Y0; obtain ⟨q0, q1, q2, q3⟩ := Z4 Y0)))
  have TS := (Turned.refl [w2.heap.size] w3).setCell (p := ⟨w2.heap.size, 3, none⟩) (.inl (by simp)) (.slice A' 2 c')
  have TP := put4_turned (w3.setCell ⟨w2.heap.size, 3, none⟩ (.slice A' 2 c')) w.heap.size (.int .i64 proto) (.slice ca 1 cc) (.slice ha 1 hc) (.slice A' 2 c')
  have PB := put4_bk (v0 := .int .i64 proto) (v1 := .slice ca 1 cc) (v2 := .slice ha 1 hc) (v3 := .slice A' 2 c') (Y0.turned TS (by simp; omega))
  have gV : ∀ k, k < w2.heap.size → k ∉ [w2.heap.size] := fun k hk hm => by simp at hm; omega
  have gH : ∀ k, w.heap.size + 1 ≤ k → k ∉ [w.heap.size] := fun k hk hm => by simp at hm; omega
  have kc5 := (((kc.turned HT0.out (by simp)).turned happ.turned (fun k hk => (N1.out k hk).1)).turned TS (fun k hk => gV k (N1.out k hk).2.2)).turned TP (fun k hk => gH k (by have := (N1.out k hk).2.1; omega))
  have kh5 := (((kh.turned HT0.out (by simp)).turned happ.turned (fun k hk => (N2.out k hk).1)).turned TS (fun k hk => gV k (N2.out k hk).2.2)).turned TP (fun k hk => gH k (by have := (N2.out k hk).2.1; omega))
  have P5 := parts_lit (((P1.turned HT0.out (by simp)).turned happ.turned (fun hf => by have := (Hft.out _ hf).1; omega)).turned TS (gV _ (by omega)) |>.turned TP (gH _ (by omega)))
  have Q5 := parts_lit ((HX1.out.turned happ.turned (fun hf => by have := (Hft.out _ hf).2; omega)).turned TS (by simp) |>.turned TP (gH _ (by omega)))
  have o3 := kt.app (ts := [⟨⟨#[98]⟩, 200, 200, 2, 0, some ⟨w2.heap.size + 1, 0, none⟩, 2, [⟨1, run2, 0⟩, ⟨3, lock2, 0⟩]⟩]) happ rfl
  have hz5 := HT0.out.size
  have o5 := (o3.turned TS (fun k hk => by
    rcases happ.fps k hk with h | h
    · exact gV k (Hft.out k h).2
    · intro hm; simp at hm h; omega)).turned TP (fun k hk => gH k (by have := (own_fp o3.own k hk).1; omega))
  have hall := (((hbe.trans (HT0.out.below hbe.size (by simp))).trans (happ.turned.below (Nat.le_trans hbe.size hz5) (fun k hk => by have := (Hft.out k hk).1; omega))).trans (TS.below (Nat.le_trans (Nat.le_trans hbe.size hz5) happ.turned.size) (by simp; omega))).trans (TP.below (Nat.le_trans (Nat.le_trans (Nat.le_trans hbe.size hz5) happ.turned.size) TS.size) (by simp))
  have W2 : ∀ x y : Int, I64 x → I64 y → ∀ p ∈ [PartM.mk 1 x 0, PartM.mk 3 y 0], p.wf := fun x y hx hy p hp => by
    simp at hp
    rcases hp with rfl | rfl
    · exact ⟨(by show I64 1; decide), hx, (by show I64 0; decide)⟩
    · exact ⟨(by show I64 3; decide), hy, (by show I64 0; decide)⟩
  have SL2 : ∀ a : Addr, SlOk (some a) 2 2 := fun a => ⟨(fun e => by cases e), Nat.le_refl _, by decide⟩
  have K1 := TaskOk.mk (w := put4 (w3.setCell ⟨w2.heap.size, 3, none⟩ (.slice A' 2 c')) w.heap.size (.int .i64 proto) (.slice ca 1 cc) (.slice ha 1 hc) (.slice A' 2 c')) (t := ⟨⟨#[97]⟩, 100, 100, 1, 0, some ⟨w.heap.size + 1, 0, none⟩, 2, [⟨1, run, 0⟩, ⟨3, lock, 0⟩]⟩) (by show 1 ≤ maxLen; decide) (by show I64 100; decide) (by show I64 100; decide) (by show I64 1; decide) (by show I64 0; decide) (SL2 _) P5 (W2 _ _ h1 h2)
  have K2 := TaskOk.mk (w := put4 (w3.setCell ⟨w2.heap.size, 3, none⟩ (.slice A' 2 c')) w.heap.size (.int .i64 proto) (.slice ca 1 cc) (.slice ha 1 hc) (.slice A' 2 c')) (t := ⟨⟨#[98]⟩, 200, 200, 2, 0, some ⟨w2.heap.size + 1, 0, none⟩, 2, [⟨1, run2, 0⟩, ⟨3, lock2, 0⟩]⟩) (by show 1 ≤ maxLen; decide) (by show I64 200; decide) (by show I64 200; decide) (by show I64 2; decide) (by show I64 0; decide) (SL2 _) Q5 (W2 _ _ h3 h4)
  have KA : TasksOk (put4 (w3.setCell ⟨w2.heap.size, 3, none⟩ (.slice A' 2 c')) w.heap.size (.int .i64 proto) (.slice ca 1 cc) (.slice ha 1 hc) (.slice A' 2 c')) A' c' [⟨⟨#[97]⟩, 100, 100, 1, 0, some ⟨w.heap.size + 1, 0, none⟩, 2, [⟨1, run, 0⟩, ⟨3, lock, 0⟩]⟩, ⟨⟨#[98]⟩, 200, 200, 2, 0, some ⟨w2.heap.size + 1, 0, none⟩, 2, [⟨1, run2, 0⟩, ⟨3, lock2, 0⟩]⟩] := ⟨o5.sl, o5.tasks, fun t ht => by
    simp only [List.mem_cons, List.not_mem_nil, or_false] at ht
    rcases ht with rfl | rfl
    · exact K1
    · exact K2⟩
  obtain ⟨r0, r1, r2, r3⟩ := Z4 PB
  unfold put4 at r0 r1 r2 r3 kc5 kh5 KA hall
  refine bodyPost_ret (v := .agg #[.int .i64 proto, .slice ca 1 cc, .slice ha 1 hc, .slice A' 2 c']) (by simp [results, Tryz.results11, go_sem, r0, r1, r2, r3]) rfl ⟨⟨⟨proto, ca, cc, [1], ha, hc, [0], A', c', [⟨⟨#[97]⟩, 100, 100, 1, 0, some ⟨w.heap.size + 1, 0, none⟩, 2, [⟨1, run, 0⟩, ⟨3, lock, 0⟩]⟩, ⟨⟨#[98]⟩, 200, 200, 2, 0, some ⟨w2.heap.size + 1, 0, none⟩, 2, [⟨1, run2, 0⟩, ⟨3, lock2, 0⟩]⟩]⟩, rfl, ⟨h0, kc5, kh5, KA⟩, rfl, rfl, rfl, _, _, _, _, rfl⟩, hall⟩

end Go.Proofs.YtlbaohefappfoaaGreat

namespace Go.Proofs.YtlbaohefappfoaaGreat
open Go.ChangeShapes Go.WideShapes Go.ChangeAt Go.RowKit
set_option linter.unusedVariables false
theorem okS_mk {s : SetR} (h1 : inB s.proto 1 3 = true) (h2 : inB s.cores.length 1 3 = true) (h3 : allB s.cores 1 3 = true) (h4 : s.homes.length ≤ 4) (h5 : allB s.homes 0 ((s.cores.length : Int) - 1) = true) (h6 : 1 ≤ s.tasks.length) (h7 : s.tasks.length ≤ 6)
    (ht : ∀ k, k < s.tasks.length → formB (s.tasks.getD k default) = true ∧ inB (s.tasks.getD k default).cl 0 ((s.cores.length : Int) - 1) = true ∧ takenB (s.tasks.take k) (s.tasks.getD k default) = false ∧ partsB (s.tasks.getD k default).parts s.homes.length = true) : okS s = true := by
  refine (okS_iff s).2 ⟨?_, fun k hk => ?_⟩
  · unfold frameV
    rw [if_neg (by simp [h1]), if_neg (by simp [h2]), if_neg (by simp [h3]), if_neg (by omega), if_neg (by simp [h5]), if_neg (by omega), if_neg (by omega)]
  · obtain ⟨a, b, c, d⟩ := ht k hk
    unfold taskE
    rw [if_neg (by rw [a]; decide), if_neg (by rw [b]; decide), if_neg (by rw [c]; decide), if_neg (by rw [d]; decide)]
theorem nameA : nameB ⟨#[97]⟩ = true := by decide +kernel
theorem nameBb : nameB ⟨#[98]⟩ = true := by decide +kernel
theorem namesAB : ((⟨#[97]⟩ : ByteArray).toList == (⟨#[98]⟩ : ByteArray).toList) = false := by decide +kernel
theorem okTwo {S : SetR} {run lock run2 lock2 : Int} {proto : Int} (hp : S.proto = proto) (hc : S.cores = [1]) (hh : S.homes = [0]) {a1 a2 : Option Addr} {c1 c2 : Nat} (ht : S.tasks = [⟨⟨#[97]⟩, 100, 100, 1, 0, a1, c1, [⟨1, run, 0⟩, ⟨3, lock, 0⟩]⟩, ⟨⟨#[98]⟩, 200, 200, 2, 0, a2, c2, [⟨1, run2, 0⟩, ⟨3, lock2, 0⟩]⟩])
    (k0 : 1 ≤ proto ∧ proto ≤ 3) (k1 : 1 ≤ run ∧ run ≤ 60) (k2 : 1 ≤ lock ∧ lock ≤ 60) (k3 : 1 ≤ run2 ∧ run2 ≤ 60) (k4 : 1 ≤ lock2 ∧ lock2 ≤ 60) : okS S = true := by
  refine okS_mk (by rw [hp]; exact inB_true.2 k0) (by rw [hc]; decide) (by rw [hc]; decide) (by rw [hh]; decide) (by rw [hh, hc]; decide) (by rw [ht]; simp) (by rw [ht]; simp) (fun k hk => ?_)
  rw [ht] at hk
  have hp : ∀ x y : Int, 1 ≤ x ∧ x ≤ 60 → 1 ≤ y ∧ y ≤ 60 → partsB [⟨1, x, 0⟩, ⟨3, y, 0⟩] 1 = true := fun x y hx hy => by
    have e1 : inB x 1 60 = true := inB_true.2 hx
    have e2 : inB y 1 60 = true := inB_true.2 hy
    have e3 : inB 0 0 0 = true := by decide
    have e4 : inB 2 1 6 = true := by decide
    simp [partsB, partB, e1, e2, e3, e4]
  match k, hk with
  | 0, _ =>
    rw [ht, hc, hh]
    refine ⟨?_, (by show inB 0 0 0 = true; decide), (by simp [takenB]), hp _ _ k1 k2⟩
    show formB _ = true
    simp only [List.getD_cons_zero, formB, nameA]
    decide
  | 1, _ =>
    rw [ht, hc, hh]
    refine ⟨?_, (by show inB 0 0 0 = true; decide), ?_, hp _ _ k3 k4⟩
    · show formB _ = true
      simp only [List.getD_cons_succ, List.getD_cons_zero, formB, nameBb]
      decide
    · simp [takenB, likeB]
end Go.Proofs.YtlbaohefappfoaaGreat

namespace Go.Proofs.YtlbaohefappfoaaGreat
open Go.ChangeShapes Go.WideShapes Go.ChangeAt Go.RowKit
set_option linter.unusedVariables false
/-- what two tasks at one cluster do to one another: the same by each protocol -/
theorem pair_each {S : SetR} {proto run lock run2 lock2 : Int} {a1 a2 : Option Addr} {c1 c2 : Nat} {n1 n2 : ByteArray} {e1 d1 q1 e2 d2 q2 : Int} (hok : okS S = true) (hp : S.proto = proto) (p3 : S.homes = [0]) (p4 : S.tasks = [⟨n1, e1, d1, q1, 0, a1, c1, [⟨1, run, 0⟩, ⟨3, lock, 0⟩]⟩, ⟨n2, e2, d2, q2, 0, a2, c2, [⟨1, run2, 0⟩, ⟨3, lock2, 0⟩]⟩]) :
    eachV S 1 0 = lock2 + (if q2 < q1 then run2 else 0) ∧ eachV S 0 1 = lock + (if q1 < q2 then run else 0) := by
  have s0 : atV S 0 0 = lock := by unfold atV; rw [show ((0 : Int)) = ((0 : Nat) : Int) from rfl, srv_in hok (by rw [p4]; simp), p4, p3]; simp [srvB, sumK]
  have s1 : atV S 1 0 = lock2 := by unfold atV; rw [show ((1 : Int)) = ((1 : Nat) : Int) from rfl, srv_in hok (by rw [p4]; simp), p4, p3]; simp [srvB, sumK]
  have t0 : taskAt S 0 = ⟨n1, e1, d1, q1, 0, a1, c1, [⟨1, run, 0⟩, ⟨3, lock, 0⟩]⟩ := by unfold taskAt; rw [p4]; rfl
  have t1 : taskAt S 1 = ⟨n2, e2, d2, q2, 0, a2, c2, [⟨1, run2, 0⟩, ⟨3, lock2, 0⟩]⟩ := by unfold taskAt; rw [p4]; rfl
  unfold eachV
  rw [t0, t1]
  simp only [s0, s1]
  simp [sumK]
theorem pair_others {S : SetR} {proto run lock run2 lock2 c : Int} {a1 a2 : Option Addr} {c1 c2 : Nat} {n1 n2 : ByteArray} {e1 d1 q1 e2 d2 q2 : Int} (hok : okS S = true) (hp : S.proto = proto) (p2 : S.cores = [c]) (p3 : S.homes = [0]) (p4 : S.tasks = [⟨n1, e1, d1, q1, 0, a1, c1, [⟨1, run, 0⟩, ⟨3, lock, 0⟩]⟩, ⟨n2, e2, d2, q2, 0, a2, c2, [⟨1, run2, 0⟩, ⟨3, lock2, 0⟩]⟩]) {b0 b1 : Int} (h0 : 0 ≤ b0) (h1 : 0 ≤ b1) (wd : Int) :
    othersV S [b0, b1] 0 wd = workV wd b1 e2 (lock2 + (if q2 < q1 then run2 else 0)) / c ∧ othersV S [b0, b1] 1 wd = workV wd b0 e1 (lock + (if q1 < q2 then run else 0)) / c := by
  obtain ⟨x0, x1⟩ := pair_each hok hp p3 p4
  have ht0 : thereB S 0 = true := thereB_true.2 ⟨hok, by decide, by rw [p4]; simp⟩
  have ht1 : thereB S 1 = true := thereB_true.2 ⟨hok, by decide, by rw [p4]; simp⟩
  have hl : ([b0, b1] : List Int).length = S.tasks.length := by rw [p4]; rfl
  have hn : nnB [b0, b1] = true := by simp [nnB, h0, h1]
  have t0 : (taskAt S 0).cl = 0 := by unfold taskAt; rw [p4]; rfl
  have t1 : (taskAt S 1).cl = 0 := by unfold taskAt; rw [p4]; rfl
  have w0 : othW S [b0, b1] 0 wd 0 S.tasks = workV wd b1 e2 (lock2 + (if q2 < q1 then run2 else 0)) := by
    rw [p4]; simp [othW, x0]
  have w1 : othW S [b0, b1] 1 wd 0 S.tasks = workV wd b0 e1 (lock + (if q1 < q2 then run else 0)) := by
    rw [p4]; simp [othW, x1]
  unfold othersV
  rw [if_pos (show othersB S [b0, b1] 0 = true ∧ nnB [b0, b1] = true from ⟨othersB_true.2 ⟨ht0, hl⟩, hn⟩), if_pos (show othersB S [b0, b1] 1 = true ∧ nnB [b0, b1] = true from ⟨othersB_true.2 ⟨ht1, hl⟩, hn⟩), w0, w1, t0, t1, p2]
  exact ⟨rfl, rfl⟩
theorem pair_fair {S : SetR} {run lock run2 lock2 : Int} {a1 a2 : Option Addr} {c1 c2 : Nat} {n1 n2 : ByteArray} {e1 d1 q1 e2 d2 q2 : Int} (hok : okS S = true) (p1 : S.proto = 1) (p4 : S.tasks = [⟨n1, e1, d1, q1, 0, a1, c1, [⟨1, run, 0⟩, ⟨3, lock, 0⟩]⟩, ⟨n2, e2, d2, q2, 0, a2, c2, [⟨1, run2, 0⟩, ⟨3, lock2, 0⟩]⟩]) (hl1 : 1 ≤ lock) (hl2 : 1 ≤ lock2) (b0 b1 : Int) :
    (waitsK S [b0, b1] 0 = true ∧ waitsL S [b0, b1] 0 = [0, lock + lock2] ∧ ownV S [b0, b1] 0 = run + (lock + lock2)) ∧ (waitsK S [b0, b1] 1 = true ∧ waitsL S [b0, b1] 1 = [0, lock2 + lock] ∧ ownV S [b0, b1] 1 = run2 + (lock2 + lock)) := by
  have ht0 : thereB S 0 = true := thereB_true.2 ⟨hok, by decide, by rw [p4]; simp⟩
  have ht1 : thereB S 1 = true := thereB_true.2 ⟨hok, by decide, by rw [p4]; simp⟩
  have hl : ([b0, b1] : List Int).length = S.tasks.length := by rw [p4]; rfl
  have k0 : fairK S 0 1 = true := fairK_iff.2 ⟨ht0, by decide, by rw [p4]; show (1 : Int) < 2; decide, by unfold partAt; rw [p4]; rfl⟩
  have k1 : fairK S 1 1 = true := fairK_iff.2 ⟨ht1, by decide, by rw [p4]; show (1 : Int) < 2; decide, by unfold partAt; rw [p4]; rfl⟩
  have m0 : maxL [⟨1, run, 0⟩, ⟨3, lock, 0⟩] = lock := by simp [maxL]; omega
  have m1 : maxL [⟨1, run2, 0⟩, ⟨3, lock2, 0⟩] = lock2 := by simp [maxL]; omega
  have z0 : ¬ lock = 0 := by omega
  have z1 : ¬ lock2 = 0 := by omega
  have q0 : partAt S 0 1 = ⟨3, lock, 0⟩ := by unfold partAt; rw [p4]; rfl
  have q1 : partAt S 1 1 = ⟨3, lock2, 0⟩ := by unfold partAt; rw [p4]; rfl
  have f0 : fairV S 0 1 = lock + lock2 := by unfold fairV; rw [if_pos k0, q0, p4]; simp [othL, m0, m1, z0, z1, tot]
  have f1 : fairV S 1 1 = lock2 + lock := by unfold fairV; rw [if_pos k1, q1, p4]; simp [othL, m0, m1, z0, z1, tot]
  have v0 : waitV S [b0, b1] 0 1 = lock + lock2 := by unfold waitV; rw [if_pos hl, if_pos p1, f0]
  have v1 : waitV S [b0, b1] 1 1 = lock2 + lock := by unfold waitV; rw [if_pos hl, if_pos p1, f1]
  have j0 : waitK S [b0, b1] 0 1 = true := by unfold waitK; rw [if_pos hl, if_neg (by omega), k0]
  have j1 : waitK S [b0, b1] 1 1 = true := by unfold waitK; rw [if_pos hl, if_neg (by omega), k1]
  have hp0 : partsOf S 0 = [⟨1, run, 0⟩, ⟨3, lock, 0⟩] := by unfold partsOf; rw [p4]; rfl
  have hp1 : partsOf S 1 = [⟨1, run2, 0⟩, ⟨3, lock2, 0⟩] := by unfold partsOf; rw [p4]; rfl
  have x0 : ∀ i : Int, i = 0 ∨ i = 1 → (partAt S i (0 : Nat)).kind = 1 ∧ (partAt S i (1 : Nat)).kind = 3 := fun i hi => by
    rcases hi with rfl | rfl <;> (unfold partAt; rw [p4]; exact ⟨rfl, rfl⟩)
  have y : ∀ (i v : Int), (i = 0 ∨ i = 1) → waitK S [b0, b1] i 1 = true → waitV S [b0, b1] i 1 = v → thereB S i = true → (partsOf S i).length = 2 → waitsK S [b0, b1] i = true ∧ waitsL S [b0, b1] i = [0, v] := fun i v hi hk hv ht hp => by
    obtain ⟨g0, g1⟩ := x0 i hi
    obtain ⟨y1, y2⟩ := waits_yes (s := S) (bs := [b0, b1]) (of := i) ht (by
      rw [hp]; intro k hk2
      match k, hk2 with
      | 0, _ => unfold pK; rw [if_neg (by rw [g0]; decide)]
      | 1, _ => unfold pK; rw [if_pos g1]; exact hk)
    refine ⟨y1, ?_⟩
    rw [y2, hp]
    show [pW S [b0, b1] i 0, pW S [b0, b1] i 1] = _
    have e0 : pW S [b0, b1] i 0 = 0 := by unfold pW; rw [if_neg (by rw [g0]; decide)]
    have e1 : pW S [b0, b1] i 1 = v := by unfold pW; rw [if_pos g1]; exact hv
    rw [e0, e1]
  obtain ⟨y1, y2⟩ := y 0 _ (.inl rfl) j0 v0 ht0 (by rw [hp0]; rfl)
  obtain ⟨w1, w2⟩ := y 1 _ (.inr rfl) j1 v1 ht1 (by rw [hp1]; rfl)
  have r0 : (taskAt S 0).parts = [⟨1, run, 0⟩, ⟨3, lock, 0⟩] := hp0
  have r1 : (taskAt S 1).parts = [⟨1, run2, 0⟩, ⟨3, lock2, 0⟩] := hp1
  refine ⟨⟨y1, y2, ?_⟩, ⟨w1, w2, ?_⟩⟩
  · unfold ownV; rw [if_pos y1, y2, r0]; simp [sumK, tot]
  · unfold ownV; rw [if_pos w1, w2, r1]; simp [sumK, tot]
end Go.Proofs.YtlbaohefappfoaaGreat

namespace Go.Proofs.YtlbaohefappfoaaGreat
open Go.ChangeShapes Go.WideShapes Go.ChangeAt Go.RowKit
set_option linter.unusedVariables false
theorem partB_lock {len r R : Int} (h1 : 1 ≤ len ∧ len ≤ 60) (h2 : 0 ≤ r ∧ r < R) : partB ⟨3, len, r⟩ R = true := by
  have e1 : inB len 1 60 = true := inB_true.2 h1
  have e2 : inB r 0 (R - 1) = true := inB_true.2 (by omega)
  simp [partB, e1, e2]
theorem partB_run {k len R : Int} (hk : k = 1 ∨ k = 2) (h1 : 1 ≤ len ∧ len ≤ 60) : partB ⟨k, len, 0⟩ R = true := by
  have e1 : inB len 1 60 = true := inB_true.2 h1
  have e2 : inB 0 0 0 = true := by decide
  have hn : ¬ k = 3 := by omega
  simp [partB, e1, e2, hn, hk]
theorem partsB_mk {ps : List PartM} {R : Int} (hl : 1 ≤ ps.length ∧ ps.length ≤ 6) (h : ∀ p ∈ ps, partB p R = true) : partsB ps R = true := by
  have e1 : inB ps.length 1 6 = true := inB_true.2 (by omega)
  unfold partsB
  rw [e1, Bool.true_and]
  exact List.all_eq_true.2 h
theorem formB_mk {t : TaskR} (h0 : nameB t.name = true) (h1 : 1 ≤ t.per ∧ t.per ≤ 3000) (h2 : 1 ≤ t.dl ∧ t.dl ≤ t.per) (h3 : 1 ≤ t.prio ∧ t.prio ≤ 1000) : formB t = true := by
  have e1 : inB t.per 1 3000 = true := inB_true.2 h1
  have e2 : inB t.dl 1 t.per = true := inB_true.2 h2
  have e3 : inB t.prio 1 1000 = true := inB_true.2 h3
  simp [formB, h0, e1, e2, e3]
theorem taken_no {ts : List TaskR} {k : Nat} {t : TaskR} (hk : k ≤ ts.length) (h : ∀ i, i < k → ((ts.getD i default).name.toList == t.name.toList) = false ∧ ((ts.getD i default).prio == t.prio) = false) : takenB (ts.take k) t = false := by
  unfold takenB
  rw [List.any_eq_false]
  intro o ho
  obtain ⟨i, hi, e⟩ := mem_getD ho
  rw [List.length_take] at hi
  have e2 : (ts.take k).getD i default = ts.getD i default := by simp [List.getD, show i < k by omega]
  rw [e2] at e
  obtain ⟨a, b⟩ := h i (by omega)
  rw [e] at a b
  simp [likeB, a, b]
theorem okS_all {s : SetR} (h1 : 1 ≤ s.proto ∧ s.proto ≤ 3) (h2 : 1 ≤ s.cores.length ∧ s.cores.length ≤ 3) (h3 : ∀ n ∈ s.cores, 1 ≤ n ∧ n ≤ 3) (h4 : s.homes.length ≤ 4) (h5 : ∀ n ∈ s.homes, 0 ≤ n ∧ n < s.cores.length) (h6 : 1 ≤ s.tasks.length ∧ s.tasks.length ≤ 6)
    (ht : ∀ k, k < s.tasks.length → formB (s.tasks.getD k default) = true ∧ (0 ≤ (s.tasks.getD k default).cl ∧ (s.tasks.getD k default).cl < s.cores.length) ∧ partsB (s.tasks.getD k default).parts s.homes.length = true)
    (hd : ∀ i k, i < k → k < s.tasks.length → ((s.tasks.getD i default).name.toList == (s.tasks.getD k default).name.toList) = false ∧ ((s.tasks.getD i default).prio == (s.tasks.getD k default).prio) = false) : okS s = true := by
  have all : ∀ (l : List Int) (lo hi : Int), (∀ n ∈ l, lo ≤ n ∧ n ≤ hi) → allB l lo hi = true := fun l lo hi h => List.all_eq_true.2 (fun n hn => inB_true.2 (h n hn))
  refine okS_mk (inB_true.2 h1) (inB_true.2 (by omega)) (all _ _ _ h3) h4 (all _ _ _ (fun n hn => by have := h5 n hn; omega)) h6.1 h6.2 (fun k hk => ?_)
  obtain ⟨a, b, c⟩ := ht k hk
  exact ⟨a, inB_true.2 (by omega), taken_no (by omega) (fun i hi => hd i k hi hk), c⟩
theorem nameC : nameB ⟨#[99]⟩ = true := by decide +kernel
theorem namesAC : ((⟨#[97]⟩ : ByteArray).toList == (⟨#[99]⟩ : ByteArray).toList) = false := by decide +kernel
theorem namesBC : ((⟨#[98]⟩ : ByteArray).toList == (⟨#[99]⟩ : ByteArray).toList) = false := by decide +kernel
/-- bytes: what is left of one -/
theorem mod_u8 {a : Int} (k : Int) (h : (Lit.int .u8 a).wf = true) (hk : 0 < k) : ∃ x, 0 ≤ x ∧ x < k ∧ a.tmod k = x := by
  have h0 : 0 ≤ a := by simp [Lit.wf, IntKind.min, IntKind.max, IntKind.signed, IntKind.bits] at h; omega
  exact ⟨a.tmod k, Int.tmod_nonneg k h0, Int.tmod_lt_of_pos a hk, rfl⟩
theorem nat_u8 {a : Int} (h : (Lit.int .u8 a).wf = true) : ∃ n : Nat, a = n := by
  have h0 : 0 ≤ a := by simp [Lit.wf, IntKind.min, IntKind.max, IntKind.signed, IntKind.bits] at h; omega
  exact ⟨a.toNat, by omega⟩
theorem u8_le {a : Int} {n : Nat} (h : (Lit.int .u8 a).wf = true) (e : a = n) : n ≤ 255 := by
  simp [Lit.wf, IntKind.min, IntKind.max, IntKind.signed, IntKind.bits] at h; omega
end Go.Proofs.YtlbaohefappfoaaGreat

namespace Go.Proofs.YtlbaohefappfoaaGreat
open Go.ChangeShapes Go.WideShapes Go.ChangeAt Go.RowKit
set_option linter.unusedVariables false

theorem two18_vals {S : SetR} (hS : twoS18 S 1 1 3 5 4) : anE S = 0 ∧ anB S = [12, 16] ∧ anW S = [[0, 7], [0, 7]] ∧ holdsV S [12, 16] = true ∧ holdsV S [] = false := by
  obtain ⟨p1, p2, p3, a1, a2, c1, c2, p4⟩ := hS
  have hok := okTwo p1 p2 p3 p4 (by decide) (by decide) (by decide) (by decide) (by decide)
  have hn : S.tasks.length = 2 := by rw [p4]; rfl
  have PF := fun b0 b1 => pair_fair hok p1 p4 (by decide) (by decide) b0 b1
  have hso : soonL S = [4, 9] := by unfold soonL; rw [p4]; rfl
  have nk : ∀ b0 b1, nextK S [b0, b1] 0 = true ∧ nextK S [b0, b1] 1 = true := fun b0 b1 => ⟨nextK_true.2 ⟨(PF b0 b1).1.1, by rw [hn]; rfl⟩, nextK_true.2 ⟨(PF b0 b1).2.1, by rw [hn]; rfl⟩⟩
  have nv : ∀ b0 b1, 0 ≤ b0 → 0 ≤ b1 → nextV S [b0, b1] 0 = 8 + workV b0 b1 200 4 / 1 ∧ nextV S [b0, b1] 1 = 12 + workV b1 b0 100 4 / 1 := fun b0 b1 h0 h1 => by
    have o0 := (pair_others hok p1 p2 p3 p4 h0 h1 b0).1
    have o1 := (pair_others hok p1 p2 p3 p4 h0 h1 b1).2
    refine ⟨?_, ?_⟩
    · unfold nextV
      rw [if_pos (nk b0 b1).1, (PF b0 b1).1.2.2]
      show 1 + (3 + 4) + othersV S [b0, b1] 0 b0 = _
      rw [o0]; simp
    · unfold nextV
      rw [if_pos (nk b0 b1).2, (PF b0 b1).2.2.2]
      show 5 + (4 + 3) + othersV S [b0, b1] 1 b1 = _
      rw [o1]; simp
  have nr : ∀ b0 b1, nextRow S [b0, b1] = [nextV S [b0, b1] 0, nextV S [b0, b1] 1] := fun b0 b1 => by unfold nextRow; rw [hn]; rfl
  have dl : (S.tasks.getD 0 default).dl = 100 ∧ (S.tasks.getD 1 default).dl = 200 := by rw [p4]; exact ⟨rfl, rfl⟩
  have rb : ∀ b0 b1, nextV S [b0, b1] 0 ≤ 100 → nextV S [b0, b1] 1 ≤ 200 → roundB S [b0, b1] = true := fun b0 b1 h0 h1 => by
    unfold roundB
    rw [hn, upTo_iff]
    intro k hk
    have e0 : stepB S [b0, b1] 0 = true := by unfold stepB; rw [dl.1]; show (nextK S [b0, b1] 0 && decide (nextV S [b0, b1] 0 ≤ 100)) = true; rw [(nk b0 b1).1, decide_eq_true h0]; rfl
    have e1 : stepB S [b0, b1] 1 = true := by unfold stepB; rw [dl.2]; show (nextK S [b0, b1] 1 && decide (nextV S [b0, b1] 1 ≤ 200)) = true; rw [(nk b0 b1).2, decide_eq_true h1]; rfl
    match k, hk with
    | 0, _ => exact e0
    | 1, _ => exact e1
  obtain ⟨u0, u1⟩ := nv 4 9 (by decide) (by decide)
  obtain ⟨w0, w1⟩ := nv 12 16 (by decide) (by decide)
  rw [show 8 + workV 4 9 200 4 / 1 = 12 by decide +kernel] at u0
  rw [show 12 + workV 9 4 100 4 / 1 = 16 by decide +kernel] at u1
  rw [show 8 + workV 12 16 200 4 / 1 = 12 by decide +kernel] at w0
  rw [show 12 + workV 16 12 100 4 / 1 = 16 by decide +kernel] at w1
  have r1 : nextRow S [4, 9] = [12, 16] := by rw [nr, u0, u1]
  have r2 : nextRow S [12, 16] = [12, 16] := by rw [nr, w0, w1]
  have hset : settle S = ([12, 16], 0) := by
    unfold settle
    rw [hso, show (200 : Nat) = 198 + 1 + 1 from rfl, setL_succ, if_pos (rb 4 9 (by omega) (by omega)), r1, if_neg (by decide), setL_succ, if_pos (rb 12 16 (by omega) (by omega)), r2, if_pos rfl]
  have hE : anE S = 0 := by unfold anE; rw [if_pos ((okS_chk S).1 hok), hset]
  have hB : anB S = [12, 16] := by unfold anB; rw [if_pos hE, hset]
  refine ⟨hE, hB, ?_, ?_, ?_⟩
  · unfold anW
    rw [if_pos hE, hset, hn]
    show [waitsL S [12, 16] 0, waitsL S [12, 16] 1] = _
    rw [(PF 12 16).1.2.1, (PF 12 16).2.2.1]; rfl
  · unfold holdsV
    have e0 : holdB S [12, 16] 0 = true := by unfold holdB; rw [dl.1]; show (nextK S [12, 16] 0 && (decide (nextV S [12, 16] 0 ≤ 12) && (decide ((1 : Int) ≤ 12) && decide ((12 : Int) ≤ 100)))) = true; rw [(nk 12 16).1, w0]; rfl
    have e1 : holdB S [12, 16] 1 = true := by unfold holdB; rw [dl.2]; show (nextK S [12, 16] 1 && (decide (nextV S [12, 16] 1 ≤ 16) && (decide ((1 : Int) ≤ 16) && decide ((16 : Int) ≤ 200)))) = true; rw [(nk 12 16).2, w1]; rfl
    rw [hok, hn, (upTo_iff _ _).2 (fun k hk => by
      match k, hk with
      | 0, _ => exact e0
      | 1, _ => exact e1)]
    rfl
  · unfold holdsV; rw [hn, hok]; rfl
/-- a task alone that can't be done in time -/
theorem late18 {S : SetR} {a1 : Option Addr} {c1 : Nat} (p1 : S.proto = 1) (p2 : S.cores = [1]) (p3 : S.homes = [0]) (p4 : S.tasks = [⟨⟨#[97]⟩, 100, 50, 1, 0, a1, c1, [⟨1, 60, 0⟩]⟩]) : anE S = 19 := by
  have hok : okS S = true := by
    refine okS_all (by rw [p1]; decide) (by rw [p2]; simp) (by rw [p2]; intro z hz; simp at hz; omega) (by rw [p3]; decide) (by rw [p3, p2]; intro z hz; simp at hz; subst hz; simp) (by rw [p4]; simp) (fun k hk => ?_) (fun i k hi hk => ?_)
    · rw [p4] at hk ⊢
      rw [p2, p3]
      match k, hk with
      | 0, _ => exact ⟨formB_mk nameA (by simp) (by simp) (by simp), by simp, partsB_mk (by simp) (fun p hp => by
        simp at hp; subst hp; exact partB_run (.inl rfl) (by decide))⟩
    · rw [p4] at hk; simp at hk; omega
  have hn : S.tasks.length = 1 := by rw [p4]; rfl
  have hso : soonL S = [60] := by unfold soonL; rw [p4]; rfl
  have ht : thereB S 0 = true := thereB_true.2 ⟨hok, by decide, by rw [hn]; decide⟩
  have hp : partsOf S 0 = [⟨1, 60, 0⟩] := by unfold partsOf; rw [p4]; rfl
  obtain ⟨y1, y2⟩ := waits_yes (s := S) (bs := [60]) (of := 0) ht (by
    rw [hp]; intro k hk
    match k, hk with
    | 0, _ => unfold pK partAt; rw [p4]; rfl)
  have hk : nextK S [60] 0 = true := nextK_true.2 ⟨y1, by rw [hn]; rfl⟩
  have hpp : (taskAt S 0).parts = [⟨1, 60, 0⟩] := hp
  have hv : 60 ≤ nextV S [60] 0 := by
    have h1 := (othersV_bd S [60] 0 (([60] : List Int).getD (0 : Int).toNat 0)).1
    have h2 := (waitsT_bd S [60] 0).1
    unfold nextV ownV
    rw [if_pos hk, if_pos y1, hpp]
    show 60 ≤ sumK 1 [⟨1, 60, 0⟩] + sumK 2 [⟨1, 60, 0⟩] + tot (waitsL S [60] 0) + _
    rw [show sumK 1 [⟨1, 60, 0⟩] = 60 by decide, show sumK 2 [⟨1, 60, 0⟩] = 0 by decide]
    omega
  have hr : roundB S [60] = false := by
    unfold roundB
    refine upTo_not (k := 0) (by rw [hn]; decide) ?_
    unfold stepB
    rw [p4]
    show (nextK S [60] 0 && decide (nextV S [60] 0 ≤ 50)) = false
    rw [hk, decide_eq_false (by omega)]; rfl
  unfold anE settle
  rw [if_pos ((okS_chk S).1 hok), hso, show (200 : Nat) = 199 + 1 from rfl, setL_succ, if_neg (by rw [hr]; decide)]
theorem rows_two {rs : List RowR} {x y : List Int} (h : rs.map RowR.zs = [x, y]) : ∃ r0 r1, rs = [r0, r1] ∧ r0.zs = x ∧ r1.zs = y := by
  match rs, h with
  | [r0, r1], h => simp at h; exact ⟨r0, r1, rfl, h.1, h.2⟩
theorem empty18 (w : World) : SetOk w ⟨0, none, 0, [], none, 0, [], none, 0, []⟩ := ⟨by decide, nil_ints w, nil_ints w, ⟨⟨fun _ => ⟨rfl, rfl⟩, by decide, by decide⟩, .inl rfl, by simp⟩⟩
theorem emptyE : anE ⟨0, none, 0, [], none, 0, [], none, 0, []⟩ = 10 := by decide +kernel
end Go.Proofs.YtlbaohefappfoaaGreat

namespace Go.Proofs.YtlbaohefappfoaaGreat
open Go.ChangeShapes Go.WideShapes Go.ChangeAt Go.RowKit
set_option linter.unusedVariables false
set_option linter.unusedSimpArgs false
set_option maxHeartbeats 4000000 in
set_option maxRecDepth 100000 in
theorem known18_any (w : World) : Calls Tryz.prog 4 #[] w fun e w' => e = .returned (.bool true) ∧ Below w.heap.size w w' := by
  go_enter Tryz.func4, Tryz.ntmps4
  go_wp2_with fail
  refine (two18_any 1 1 3 5 4 _ (by decide) (by decide) (by decide) (by decide) (by decide)).mono ?_
  rintro e w1 ⟨⟨S, rfl, hs, hS⟩, hb⟩
  obtain ⟨q1, q2, q3, q4, q5⟩ := two18_vals hS
  have Q1 := hidp q1
  have Q2 := hidp q2
  have Q3 := hidp q3
  have Q4 := hidp q4
  have Q5 := hidp q5
  clear hS q1 q2 q3 q4 q5
  have sc := SetCells.new w1 S 25
  replace hb := hb.alloc hb.size (.cells #[.int .i64 S.proto, .slice S.ca S.cores.length S.cc, .slice S.ha S.homes.length S.hc, .slice S.ta S.tasks.length S.tc] 25)
  replace hs := hs.keep (Keeps.alloc w1 (.cells #[.int .i64 S.proto, .slice S.ca S.cores.length S.cc, .slice S.ha S.homes.length S.hc, .slice S.ta S.tasks.length S.tc] 25))
  go_wp2_with fail
  refine (analyze_any S _ hs).mono ?_
  rintro e u1 ⟨⟨v, rfl, hv, h1, h2, h3⟩, hb2⟩
  replace hb := hb.trans (hb2.mono hb.size)
  replace sc := sc.keep (Keeps.of_below hb2)
  replace hs := hs.keep (Keeps.of_below hb2)
  clear hb2
  try clear sc_0 sc_1 sc_2 sc_3
  have scx := sc
  obtain ⟨sc_0, sc_1, sc_2, sc_3⟩ := scx
  try dsimp only at sc_0 sc_1 sc_2 sc_3
  rw [Q1.out] at *
  rw [Q2.out] at h2
  rw [Q3.out] at h3
  obtain ⟨ok, ba, bc, bounds, wa, wc, rows⟩ := v
  dsimp only at h1 h2 h3 hv ⊢
  subst h1
  subst h2
  obtain ⟨r0, r1, rfl, e0, e1⟩ := rows_two h3
  obtain ⟨a0, c0, z0⟩ := r0
  obtain ⟨a1, c1, z1⟩ := r1
  dsimp only at e0 e1
  subst e0
  subst e1
  clear h3
  have bv := Y3 (Bk.new u1 30 #[.bool true, .slice ba 2 bc, .slice wa 2 wc])
  have kv := Keeps.alloc u1 (.cells #[.bool true, .slice ba 2 bc, .slice wa 2 wc] 30)
  replace hv := hv.keep kv
  replace hs := hs.keep kv
  replace sc := sc.keep kv
  replace hb := hb.alloc hb.size (.cells #[.bool true, .slice ba 2 bc, .slice wa 2 wc] 30)
  clear kv sc_0 sc_1 sc_2 sc_3
  go_wp2_with fail
  refine (analyze_any ⟨0, none, 0, [], none, 0, [], none, 0, []⟩ _ (empty18 _)).mono ?_
  rintro e u2 ⟨⟨v2, rfl, g1, g2, g3, g4⟩, hb2⟩
  replace hb := hb.trans (hb2.mono hb.size)
  replace sc := sc.keep (Keeps.of_below hb2)
  replace hs := hs.keep (Keeps.of_below hb2)
  replace hv := hv.keep (Keeps.of_below hb2)
  replace bv := And.intro (Keeps.of_below hb2 _ _ bv.1) (And.intro (Keeps.of_below hb2 _ _ bv.2.1) (Keeps.of_below hb2 _ _ bv.2.2))
  clear hb2
  clear g1 g2 g3 g4
  obtain ⟨ok2, ba2, bc2, bs2, wa2, wc2, rs2⟩ := v2
  dsimp only
  rw [emptyE]
  have kz := (Keeps.alloc u2 (.cells #[.bool ok2, .slice ba2 bs2.length bc2, .slice wa2 rs2.length wc2] 30)).trans (Keeps.alloc _ (.cells (ptc [⟨1, 60, 0⟩]).toArray 41))
  have P0 := Bk.at_ (w := u2.alloc (.cells #[.bool ok2, .slice ba2 bs2.length bc2, .slice wa2 rs2.length wc2] 30)) (g := u2.heap.size + 1) (t := 41) (cs := (ptc [⟨1, 60, 0⟩]).toArray) (by simp) rfl
  have hzp : u2.heap.size + 1 < ((u2.alloc (.cells #[.bool ok2, .slice ba2 bs2.length bc2, .slice wa2 rs2.length wc2] 30)).alloc (.cells (ptc [⟨1, 60, 0⟩]).toArray 41)).heap.size := by simp
  replace hb := (hb.alloc hb.size (.cells #[.bool ok2, .slice ba2 bs2.length bc2, .slice wa2 rs2.length wc2] 30)).alloc (hb.alloc hb.size _).size (.cells (ptc [⟨1, 60, 0⟩]).toArray 41)
  replace hs := hs.keep kz
  replace sc := sc.keep kz
  replace hv := hv.keep kz
  replace bv := And.intro (kz _ _ bv.1) (And.intro (kz _ _ bv.2.1) (kz _ _ bv.2.2))
  clear kz
  go_wp2_with fail
  refine (one18_any 1 (some ⟨u2.heap.size + 1, 0, none⟩) 1 [⟨1, 60, 0⟩] _).mono ?_
  rintro e w3 ⟨⟨ca, ha, ta, cc, hc, tc, rfl, kc, kh, kt, n1, n2⟩, hb3⟩
  obtain ⟨g, hA, hg1, hg2⟩ := own_at kt.own (by simp)
  subst hA
  have X := (SetCells.new w3 ⟨1, ca, cc, [1], ha, hc, [0], some ⟨g, 0, none⟩, tc, [⟨⟨#[97]⟩, 100, 100, 1, 0, some ⟨u2.heap.size + 1, 0, none⟩, 1, [⟨1, 60, 0⟩]⟩]⟩ 25)
  have T1 := (Turned.refl [] w3).alloc (.cells #[.int .i64 1, .slice ca 1 cc, .slice ha 1 hc, .slice (some ⟨g, 0, none⟩) 1 tc] 25)
  have kt1 := kt.turned T1 (by simp)
  have TS := (Turned.refl [g] (w3.alloc (.cells #[.int .i64 1, .slice ca 1 cc, .slice ha 1 hc, .slice (some ⟨g, 0, none⟩) 1 tc] 25))).setCell (p := ⟨g, 2, none⟩) (.inl (by simp)) (.int .i64 50)
  have kt2 := ownT_put kt1 (i := 0) (by simp) (j := 2) (by decide) ⟨⟨#[97]⟩, 100, 50, 1, 0, some ⟨u2.heap.size + 1, 0, none⟩, 1, [⟨1, 60, 0⟩]⟩ (.int .i64 50) rfl
  have hbx := (hb3.alloc hb3.size (.cells #[.int .i64 1, .slice ca 1 cc, .slice ha 1 hc, .slice (some ⟨g, 0, none⟩) 1 tc] 25)).trans (TS.below (hb3.alloc hb3.size _).size (by simpa using hg1))
  have k3 := Keeps.of_below hbx
  have kc2 := (kc.turned T1 (by simp)).turned TS (fun k hk hm => by simp at hm; subst hm; exact (n1 _ hk).1 (by simp [fp]))
  have kh2 := (kh.turned T1 (by simp)).turned TS (fun k hk hm => by simp at hm; subst hm; exact (n2 _ hk).1 (by simp [fp]))
  have X2 := X.turned TS (by simp; omega)
  have fz := own_frozen kt1.own 2
  have cz : (w3.alloc (.cells #[.int .i64 1, .slice ca 1 cc, .slice ha 1 hc, .slice (some ⟨g, 0, none⟩) 1 tc] 25)).cell? ⟨g, 2, none⟩ = some (.int .i64 100) := by
    obtain ⟨b, off, e, h⟩ := (lies_tasks kt1.tasks).resolve_left (by simp [ttc])
    cases e
    have := h.2 2 (.int .i64 100) rfl
    rw [Nat.zero_add] at this
    exact this
  replace hb := hb.trans (hbx.mono hb.size)
  replace hs := hs.keep k3
  replace sc := sc.keep k3
  replace hv := hv.keep k3
  replace bv := And.intro (k3 _ _ bv.1) (And.intro (k3 _ _ bv.2.1) (k3 _ _ bv.2.2))
  have P2 := P0.below hbx
  have hx : SetOk _ ⟨1, ca, cc, [1], ha, hc, [0], some ⟨g, 0, none⟩, tc, [⟨⟨#[97]⟩, 100, 50, 1, 0, some ⟨u2.heap.size + 1, 0, none⟩, 1, [⟨1, 60, 0⟩]⟩]⟩ := ⟨by show I64 1; decide, kc2, kh2, ⟨kt2.sl, kt2.tasks, fun t ht => by
    simp at ht; subst ht
    exact task_bk (nm := ⟨#[97]⟩) P2 (by decide) (by decide) (by decide) (by decide) (by decide) (by decide) (fun p hp => by simp at hp; subst hp; exact ⟨by decide, by decide, by decide⟩)⟩⟩
  have hE := hidp (late18 (S := ⟨1, ca, cc, [1], ha, hc, [0], some ⟨g, 0, none⟩, tc, [⟨⟨#[97]⟩, 100, 50, 1, 0, some ⟨u2.heap.size + 1, 0, none⟩, 1, [⟨1, 60, 0⟩]⟩]⟩) rfl rfl rfl rfl)
  rw [World.setCell_alloc_past _ g 2 _ hg2] at hb hs sc hv bv hx X2
  obtain ⟨sx_0, sx_1, sx_2, sx_3⟩ := X
  obtain ⟨sy_0, sy_1, sy_2, sy_3⟩ := X2
  dsimp only at sx_0 sx_1 sx_2 sx_3 sy_0 sy_1 sy_2 sy_3
  clear kc kh kt n1 n2 kc2 kh2 kt1 kt2 T1 TS k3 P0 P2 hzp
  go_wp2_with fail
  refine (analyze_any _ _ hx).mono ?_
  rintro e w4 ⟨⟨v3, rfl, g1, g2, g3, g4⟩, hb4⟩
  rw [hE.out]
  clear g1 g2 g3 g4 sx_0 sx_1 sx_2 sx_3 sy_0 sy_1 sy_2 sy_3 fz cz hx hE hbx hb3
  obtain ⟨ok3, ba3, bc3, bs3, wa3, wc3, rs3⟩ := v3
  dsimp only
  have kz := (Keeps.of_below hb4).trans (Keeps.alloc w4 (.cells #[.bool ok3, .slice ba3 bs3.length bc3, .slice wa3 rs3.length wc3] 30))
  replace hb := hb.trans (hb4.mono hb.size)
  replace hb := hb.alloc hb.size (.cells #[.bool ok3, .slice ba3 bs3.length bc3, .slice wa3 rs3.length wc3] 30)
  replace hs := hs.keep kz
  replace sc := sc.keep kz
  replace hv := hv.keep kz
  obtain ⟨bv_0, bv_1, bv_2⟩ := And.intro (kz _ _ bv.1) (And.intro (kz _ _ bv.2.1) (kz _ _ bv.2.2))
  clear kz bv hb4
  obtain ⟨x1, x2, x3, x4⟩ := hv
  have HBS := hidp x1
  obtain ⟨b, off, e, hc⟩ := x1.at_.resolve_left (by simp)
  dsimp only at e
  subst e
  have c0 := hc 0 (by simp)
  have c1 := hc 1 (by simp)
  obtain ⟨b', off', e, hr⟩ := x3.resolve_left (by simp)
  dsimp only at e
  subst e
  have r0 := hr 0 (by simp)
  obtain ⟨b2, off2, e, hw⟩ := (x4 _ (List.mem_cons_self ..)).at_.resolve_left (by simp)
  dsimp only at e
  subst e
  have y1 := hw 1 (by simp)
  clear x1 x2 x3 x4 hc hr hw
  simp [RowR.val] at c0 c1 r0 y1
  obtain ⟨sc_0, sc_1, sc_2, sc_3⟩ := id sc
  go_wp2_with fail
  refine (holds_any S [12, 16] _ _ _ hs HBS.out).mono ?_
  rintro e w5 ⟨rfl, hb5⟩
  rw [Q4.out]
  replace hb := hb.trans (hb5.mono hb.size)
  replace hs := hs.keep (Keeps.of_below hb5)
  replace sc := sc.keep (Keeps.of_below hb5)
  clear hb5 sc_0 sc_1 sc_2 sc_3 bv_0 bv_1 bv_2 c0 c1 r0 y1
  obtain ⟨sc_0, sc_1, sc_2, sc_3⟩ := id sc
  go_wp2_with fail
  refine (holds_any S [] none 0 _ hs (nil_ints _)).mono ?_
  rintro e w6 ⟨rfl, hb5⟩
  rw [Q5.out]
  replace hb := hb.trans (hb5.mono hb.size)
  clear hb5
  go_wp2_with fail
  go_ret
  exact ⟨rfl, hb⟩
end Go.Proofs.YtlbaohefappfoaaGreat

namespace Go.Proofs.YtlbaohefappfoaaGreat
open Go.ChangeShapes Go.WideShapes Go.ChangeAt Go.RowKit
set_option linter.unusedVariables false
def FewP18 (w : World) (e : Ending) (w' : World) : Prop := (∃ b : Bool, e = .returned (.bool b)) ∧ Below w.heap.size w w'
set_option maxRecDepth 100000 in
theorem few18_any (s : SetR) (w : World) (hs : SetOk w s) : Calls Tryz.prog 5 #[.agg #[.int .i64 s.proto, .slice s.ca s.cores.length s.cc, .slice s.ha s.homes.length s.hc, .slice s.ta s.tasks.length s.tc]] w (FewP18 w) := by
  have hb := (Below.refl w.heap.size w).alloc (Nat.le_refl _) (.cells #[.int .i64 s.proto, .slice s.ca s.cores.length s.cc, .slice s.ha s.homes.length s.hc, .slice s.ta s.tasks.length s.tc] 25)
  have CB := hidp (SetCells.new w s 25)
  have l1 : s.tasks.length ≤ maxLen := Nat.le_trans hs.tasks.sl.2.1 hs.tasks.sl.2.2
  have l2 : s.cores.length ≤ maxLen := Nat.le_trans hs.cores.sl.2.1 hs.cores.sl.2.2
  have l3 : s.homes.length ≤ maxLen := Nat.le_trans hs.homes.sl.2.1 hs.homes.sl.2.2
  unfold maxLen at l1 l2 l3
  have HR := hidp hs.tasks.at_
  have Hok := hidp hs.tasks.ok
  clear hs
  obtain ⟨proto, ca, cc, cores, ha, hc, homes, ta, tc, tasks⟩ := s
  dsimp only at HR Hok l1 l2 l3 hb ⊢
  have F : ∀ b : Bool, ∀ w', Below w.heap.size w w' → FewP18 w (.returned (.bool b)) w' := fun b w' h => ⟨⟨b, rfl⟩, h⟩
  have HF := hidp F
  clear F
  have hc0 : (8 : Int) < (cores.length : Int) ∨ ¬ (8 : Int) < (cores.length : Int) ∧ (10 : Int) < (homes.length : Int) ∨ ¬ (8 : Int) < (cores.length : Int) ∧ ¬ (10 : Int) < (homes.length : Int) ∧ (9 : Int) < (tasks.length : Int) ∨ ¬ (8 : Int) < (cores.length : Int) ∧ ¬ (10 : Int) < (homes.length : Int) ∧ ¬ (9 : Int) < (tasks.length : Int) := by omega
  rcases hc0 with h | ⟨h, g⟩ | ⟨h, g, f⟩ | ⟨h, g, f⟩
  · go_enter Tryz.func5, Tryz.ntmps5
    go_wp2
    go_ret
    exact HF.out _ _ hb
  · go_enter Tryz.func5, Tryz.ntmps5
    go_wp2
    go_ret
    exact HF.out _ _ hb
  · go_enter Tryz.func5, Tryz.ntmps5
    go_wp2
    go_ret
    exact HF.out _ _ hb
  · go_enter Tryz.func5, Tryz.ntmps5
    go_wp2
    go_loopg [3] tasks.length (fun gg i wr => ∃ k : Nat, k + gg = tasks.length ∧ i = .int .i64 k ∧ SetCells wr w.heap.size ⟨proto, ca, cc, cores, ha, hc, homes, ta, tc, tasks⟩ ∧ Below w.heap.size w wr)
    case atStart => exact ⟨0, by omega, rfl, CB.out, hb⟩
    case round =>
      obtain ⟨k, hk, rfl, sc, hw⟩ := hrel
      have sc2 := sc
      obtain ⟨c0, c1, c2, c3⟩ := sc2
      dsimp only at c0 c1 c2 c3
      by_cases hlt : k < tasks.length
      · obtain ⟨g0, off, hA, hcl⟩ := HR.out.resolve_left (by intro e; rw [e] at hlt; simp at hlt)
        subst hA
        obtain ⟨t, HT⟩ : ∃ t, Hid (tasks.getD k default = t) := ⟨_, rfl⟩
        have tcl := (HT.out ▸ hcl k hlt).keep (Keeps.of_below hw)
        obtain ⟨d0, _, _, _, _, d5⟩ := tcl
        have hok := Hok.out t (HT.out ▸ getD_mem hlt)
        have n1 := hok.name
        have n2 : t.parts.length ≤ maxLen := Nat.le_trans hok.sl.2.1 hok.sl.2.2
        unfold maxLen at n1 n2
        clear hcl hok
        by_cases z1 : (20 : Int) < (t.name.size : Int)
        · go_wp2
          go_ret
          exact HF.out _ _ hw
        · by_cases z2 : (10 : Int) < (t.parts.length : Int)
          · go_wp2
            go_ret
            exact HF.out _ _ hw
          · go_wp2
            go_roundg (gk - 1)
            case measure => omega
            case rel => exact ⟨k + 1, by omega, by go_num, sc, hw⟩
      · go_wp2
        go_ret
        exact HF.out _ _ hw

end Go.Proofs.YtlbaohefappfoaaGreat

namespace Go.Proofs.YtlbaohefappfoaaGreat
open Go.ChangeShapes Go.WideShapes Go.ChangeAt Go.RowKit
set_option linter.unusedVariables false

theorem same_yes {w : World} {A B : Option Addr} {zs : List Int} {n m c d : Nat} (ha : Row w .i64 A zs) (hb : Row w .i64 B zs) (hn : n = zs.length) (hm : m = zs.length) (hl : zs.length ≤ 1000) :
    Calls Tryz.prog 20 #[.slice A n c, .slice B m d] w fun e w' => e = .returned (.bool true) ∧ Qt w w' := by
  subst hn
  subst hm
  go_enter Tryz.func20, Tryz.ntmps20
  go_wp2
  go_loopg [5] zs.length (fun g i wr => ∃ k : Nat, k + g = zs.length ∧ i = .int .i64 k ∧ Qt w wr)
  case atStart => exact ⟨0, by omega, rfl, Qt.refl _⟩
  case round =>
    obtain ⟨k, hk, rfl, hq⟩ := hrel
    by_cases hlt : k < zs.length
    · obtain ⟨g, off, rfl, hc⟩ := ha.resolve_left (by intro e; subst e; simp at hlt)
      obtain ⟨g2, off2, rfl, hc2⟩ := hb.resolve_left (by intro e; subst e; simp at hlt)
      obtain ⟨n, HN⟩ : ∃ n, Hid (zs.getD k 0 = n) := ⟨_, rfl⟩
      have c1 : wr.cell? ⟨g, off + k, none⟩ = some (.int .i64 n) := hq.cell (HN.out ▸ hc k hlt)
      have c2 : wr.cell? ⟨g2, off2 + k, none⟩ = some (.int .i64 n) := hq.cell (HN.out ▸ hc2 k hlt)
      have b1 : (0 : Int) ≤ (k : Int) := by omega
      have b2 : (k : Int) < (zs.length : Int) := by omega
      clear hc hc2 ha hb
      go_wp2
      go_quiet (fail)
      go_wp2
      go_roundg (gk - 1)
      case measure => omega
      case rel => exact ⟨k + 1, by omega, by go_num, hq.add _⟩
    · obtain rfl : k = zs.length := by omega
      go_wp2
      go_ret
      exact ⟨rfl, hq⟩
end Go.Proofs.YtlbaohefappfoaaGreat

namespace Go.Proofs.YtlbaohefappfoaaGreat
open Go.ChangeShapes Go.WideShapes Go.ChangeAt Go.RowKit
set_option linter.unusedVariables false
set_option linter.unusedSimpArgs false

set_option maxHeartbeats 4000000 in
set_option maxRecDepth 100000 in
theorem vsame_yes (v u : VerdR) (w : World) (hv : VerdOk w v) (hu : VerdOk w u) (h0 : u.ok = v.ok) (h1 : u.bounds = v.bounds) (h2 : u.rows.map RowR.zs = v.rows.map RowR.zs) (hl : v.bounds.length ≤ 1000) (hr : ∀ r ∈ v.rows, r.zs.length ≤ 1000) :
    Calls Tryz.prog 8 #[.agg #[.bool v.ok, .slice v.ba v.bounds.length v.bc, .slice v.wa v.rows.length v.wc], .agg #[.bool u.ok, .slice u.ba u.bounds.length u.bc, .slice u.wa u.rows.length u.wc]] w fun e w' => e = .returned (.bool true) ∧ Below w.heap.size w w' := by
  obtain ⟨ok, ba, bc, bs, wa, wc, rs⟩ := v
  obtain ⟨ok2, ba2, bc2, bs2, wa2, wc2, rs2⟩ := u
  dsimp only at h0 h1 h2 hl hr ⊢
  subst h0
  subst h1
  have hln : rs2.length = rs.length := by have := congrArg List.length h2; simpa using this
  have d1 : ((rs.length : Int) != (rs2.length : Int)) = false := by rw [hln]; simp
  have H2 := hidp h2
  have HR := hidp hr
  have HLN := hidp hln
  have rl : rs.length ≤ maxLen := Nat.le_trans hv.sl.2.1 hv.sl.2.2
  unfold maxLen at rl
  have B0 := (Bk.new w 30 #[.bool ok2, .slice ba bs2.length bc, .slice wa rs.length wc]).alloc (.cells #[.bool ok2, .slice ba2 bs2.length bc2, .slice wa2 rs2.length wc2] 30)
  have B1 := Bk.at_ (w := w.alloc (.cells #[.bool ok2, .slice ba bs2.length bc, .slice wa rs.length wc] 30)) (g := w.heap.size + 1) (t := 30) (cs := #[.bool ok2, .slice ba2 bs2.length bc2, .slice wa2 rs2.length wc2]) (by simp) rfl
  have hb := ((Below.refl w.heap.size w).alloc (Nat.le_refl _) (.cells #[.bool ok2, .slice ba bs2.length bc, .slice wa rs.length wc] 30)).alloc (by simp) (.cells #[.bool ok2, .slice ba2 bs2.length bc2, .slice wa2 rs2.length wc2] 30)
  have hv1 := hv.keep (Keeps.of_below hb)
  have hu1 := hu.keep (Keeps.of_below hb)
  have y := Y3 B0
  have z := Y3 B1
  obtain ⟨y0, y1, y2⟩ := id y
  obtain ⟨z0, z1, z2⟩ := id z
  clear hv hu B0 B1 h2 hr hln
  go_enter Tryz.func8, Tryz.ntmps8
  go_wp2_with fail
  refine (same_yes (zs := bs2) hv1.bounds.at_ hu1.bounds.at_ rfl rfl hl).mono ?_
  rintro e w2 ⟨rfl, hq⟩
  have kq := Keeps.of_qt hq
  replace hb := hq.below hb
  have HV := hidp (hv1.keep kq)
  have HU := hidp (hu1.keep kq)
  have Y := hidp (And.intro (kq _ _ y.1) (And.intro (kq _ _ y.2.1) (kq _ _ y.2.2)))
  have Z := hidp (And.intro (kq _ _ z.1) (And.intro (kq _ _ z.2.1) (kq _ _ z.2.2)))
  clear hv1 hu1 y z kq hq y0 y1 y2 z0 z1 z2
  obtain ⟨y0, y1, y2⟩ := id Y.out
  obtain ⟨z0, z1, z2⟩ := id Z.out
  go_wp2_with fail
  clear y0 y1 y2 z0 z1 z2 d1
  go_loopg [5] rs.length (fun gg i wr => ∃ k : Nat, k + gg = rs.length ∧ i = .int .i64 k ∧ Qt w2 wr)
  case atStart => exact ⟨0, by omega, rfl, Qt.refl _⟩
  case round =>
    obtain ⟨k, hk, rfl, hq⟩ := hrel
    have kq := Keeps.of_qt hq
    have y2 := kq _ _ Y.out.2.2
    have z2 := kq _ _ Z.out.2.2
    by_cases hlt : k < rs.length
    · have hlt2 : k < rs2.length := by rw [HLN.out]; exact hlt
      obtain ⟨g, off, eA, hc⟩ := (HV.out.keep kq).at_.resolve_left (by intro e; dsimp only at e; rw [e] at hlt; simp at hlt)
      obtain ⟨g2, off2, eA2, hc2⟩ := (HU.out.keep kq).at_.resolve_left (by intro e; dsimp only at e; rw [e] at hlt2; simp at hlt2)
      dsimp only at eA eA2
      subst eA
      subst eA2
      obtain ⟨r, Hr⟩ : ∃ r, Hid (rs.getD k default = r) := ⟨_, rfl⟩
      obtain ⟨q, Hq⟩ : ∃ r, Hid (rs2.getD k default = r) := ⟨_, rfl⟩
      have c1 := Hr.out ▸ hc k hlt
      have c2 := Hq.out ▸ hc2 k hlt2
      have hm : r ∈ rs := Hr.out ▸ getD_mem hlt
      have hm2 : q ∈ rs2 := Hq.out ▸ getD_mem hlt2
      have ez : q.zs = r.zs := by
        have e1 : (rs.map RowR.zs).getD k [] = (rs.getD k default).zs := by simp [List.getD, hlt]
        have e2 : (rs2.map RowR.zs).getD k [] = (rs2.getD k default).zs := by simp [List.getD, hlt2]
        rw [← Hq.out, ← Hr.out, ← e1, ← e2, H2.out]
      have i1 := ((HV.out.keep kq).rows r hm).at_
      have i2 := ((HU.out.keep kq).rows q hm2).at_
      have hz := HR.out r hm
      obtain ⟨ra, rc, zs⟩ := r
      obtain ⟨qa, qc, zs2⟩ := q
      dsimp only at ez hz i1 i2
      subst ez
      simp only [RowR.val] at c1 c2
      have HS : Hid (∀ n, Calls Tryz.prog 20 #[.slice ra zs2.length rc, .slice qa zs2.length qc] (wr.drewN n) fun e w' => e = .returned (.bool true) ∧ ∃ m, w' = (wr.drewN n).drewN m) := hidp (fun n => same_yes (i1.drewN n) (i2.drewN n) rfl rfl hz)
      have kI : (k : Int) < (rs.length : Int) := by omega
      have kI2 : (k : Int) < (rs2.length : Int) := by omega
      have k0 : (0 : Int) ≤ (k : Int) := by omega
      clear hc hc2 hm hm2 i1 i2
      go_wp2_with fail
      go_quiet ((go_at_call 20; exact Calls.quiet_of (HS.out _)))
      go_wp2_with fail
      go_roundg (gk - 1)
      case measure => omega
      case rel => exact ⟨k + 1, by omega, by go_num, hq.add _⟩
    · obtain rfl : k = rs.length := by omega
      go_wp2_with fail
      go_ret
      exact ⟨rfl, hq.below hb⟩
end Go.Proofs.YtlbaohefappfoaaGreat

namespace Go.Proofs.YtlbaohefappfoaaGreat
open Go.ChangeShapes Go.WideShapes Go.ChangeAt Go.RowKit
set_option linter.unusedVariables false
set_option linter.unusedSimpArgs false

def eqB (s : SetR) (bs : List Int) (i : Nat) : Bool := decide (nextV s bs i = bs.getD i 0)
def turnB (s : SetR) (bs : List Int) : Bool := roundB s bs && !(upTo (eqB s bs) s.tasks.length)
def errR (s : SetR) (bs : List Int) : Int := if roundB s bs = true then 0 else 19
/-- a row of numbers, a bool, a number -/
def RowT (w : World) (zs : List Int) (q : Bool) (k : Int) (e : Ending) (w' : World) : Prop := ∃ A c, e = .returned (.tuple #[.slice A zs.length c, .bool q, .int .i64 k]) ∧ IntsOk w' A c zs ∧ Below w.heap.size w w'
theorem RowT.eq {w w' : World} {zs ys : List Int} {q p : Bool} {k j : Int} {e : Ending} (h : RowT w zs q k e w') (h1 : zs = ys) (h2 : q = p) (h3 : k = j) : RowT w ys p j e w' := h1 ▸ h2 ▸ h3 ▸ h
theorem rest_iff {s : SetR} {bs : List Int} (hl : bs.length = s.tasks.length) : upTo (eqB s bs) s.tasks.length = true ↔ nextRow s bs = bs := by
  rw [upTo_iff]
  constructor
  · intro h
    refine List.ext_getElem (by rw [nextRow_len, hl]) (fun i h1 h2 => ?_)
    have hi : i < s.tasks.length := by rw [← hl]; exact h2
    have := h i hi
    unfold eqB at this
    rw [decide_eq_true_eq] at this
    simpa [nextRow, List.getD, h2] using this
  · intro h k hk
    unfold eqB
    rw [decide_eq_true_eq]
    have : (nextRow s bs).getD k 0 = nextV s bs k := by unfold nextRow; simp [List.getD, hk]
    rw [← this, h]

set_option maxHeartbeats 4000000 in
set_option maxRecDepth 100000 in
theorem rround_any (s : SetR) (bs : List Int) (ba : Option Addr) (bc : Nat) (w : World) (hs : SetOk w s) (hB : IntsOk w ba bc bs) (hn : s.tasks.length ≤ 6) (hbl : bs.length = s.tasks.length) : Calls Tryz.prog 18 #[.agg #[.int .i64 s.proto, .slice s.ca s.cores.length s.cc, .slice s.ha s.homes.length s.hc, .slice s.ta s.tasks.length s.tc], .slice ba bs.length bc] w (RowT w (roundL s bs) (turnB s bs) (errR s bs)) := by
  have hb := (Below.refl w.heap.size w).alloc (Nat.le_refl _) (.cells #[.int .i64 s.proto, .slice s.ca s.cores.length s.cc, .slice s.ha s.homes.length s.hc, .slice s.ta s.tasks.length s.tc] 25)
  have sc := SetCells.new w s 25
  have HR := hidp hs.tasks.at_
  obtain ⟨N, HN⟩ : ∃ f : Nat → Int, Hid (∀ k : Nat, nextV s bs k = f k) := ⟨fun k => nextV s bs k, hidp (fun _ => rfl)⟩
  obtain ⟨K, HK⟩ : ∃ f : Nat → Bool, Hid (∀ k : Nat, nextK s bs k = f k) := ⟨fun k => nextK s bs k, hidp (fun _ => rfl)⟩
  have HNb : Hid (∀ k, 0 ≤ N k ∧ N k ≤ 6100000) := hidp (fun k => by rw [← HN.out]; exact nextV_bd s bs k)
  obtain ⟨L, HL⟩ : ∃ L, Hid (roundL s bs = L) := ⟨_, hidp rfl⟩
  obtain ⟨R, HRd⟩ : ∃ L, Hid (turnB s bs = L) := ⟨_, hidp rfl⟩
  obtain ⟨X, HX⟩ : ∃ L, Hid (errR s bs = L) := ⟨_, hidp rfl⟩
  obtain ⟨Q, HQ⟩ : ∃ f : Nat → Bool, Hid (∀ k : Nat, (!(upTo (eqB s bs) k)) = f k) := ⟨fun k => !(upTo (eqB s bs) k), hidp (fun _ => rfl)⟩
  have HQ0 : Hid (Q 0 = false) := hidp (by rw [← HQ.out]; rfl)
  have HQs : Hid (∀ k : Nat, Q (k + 1) = (Q k || decide (N k ≠ bs.getD k 0))) := hidp (fun k => by
    rw [← HQ.out, ← HQ.out, ← HN.out]
    show (!(upTo (eqB s bs) k && eqB s bs k)) = _
    unfold eqB
    cases upTo (fun i => decide (nextV s bs i = bs.getD i 0)) k <;> simp)
  have HBL := hidp hbl
  have l4 : bs.length ≤ maxLen := Nat.le_trans hB.sl.2.1 hB.sl.2.2
  unfold maxLen at l4
  have HBR := hidp hB.at_
  have Hoff : Hid (∀ k, k < s.tasks.length → (K k && decide (N k ≤ (s.tasks.getD k default).dl)) = false → R = false ∧ L = [] ∧ X = 19) := hidp (fun k hk h => by
    have e : roundB s bs = false := upTo_not hk (by unfold stepB; rw [HN.out, HK.out]; exact h)
    rw [← HRd.out, ← HL.out, ← HX.out]
    exact ⟨by unfold turnB; rw [e]; rfl, by unfold roundL; rw [e]; rfl, by unfold errR; rw [e]; rfl⟩)
  have Hyes : Hid ((∀ k, k < s.tasks.length → (K k && decide (N k ≤ (s.tasks.getD k default).dl)) = true) → R = Q s.tasks.length ∧ L = (List.range s.tasks.length).map N ∧ X = 0) := hidp (fun h => by
    have e : roundB s bs = true := (upTo_iff _ _).2 (fun k hk => by unfold stepB; rw [HN.out, HK.out]; exact h k hk)
    rw [← HRd.out, ← HL.out, ← HX.out, ← HQ.out]
    refine ⟨by unfold turnB; rw [e, Bool.true_and], ?_, by unfold errR; rw [if_pos e]⟩
    unfold roundL nextRow
    rw [if_pos e]
    exact List.map_congr_left (fun i _ => HN.out i))
  have HS1 := hidp (fun u (h : Below w.heap.size w u) => hs.keep (Keeps.of_below h))
  have HB1 := hidp (fun u (h : Below w.heap.size w u) => hB.keep (Keeps.of_below h))
  obtain ⟨i0, hi0, hy0, hy1, hy2⟩ := info_parts infoZ
  rw [HL.out, HRd.out, HX.out]
  clear hs hB HL HRd HX hbl
  obtain ⟨proto, ca, cc, cores, ha, hc, homes, ta, tc, tasks⟩ := s
  dsimp only at HR hn hb sc HS1 Hoff Hyes HBL ⊢
  obtain ⟨sc_0, sc_1, sc_2, sc_3⟩ := id sc
  dsimp only at sc_0 sc_1 sc_2 sc_3
  have hz0 : w.heap.size + 1 ≤ (w.alloc (.cells #[.int .i64 proto, .slice ca cores.length cc, .slice ha homes.length hc, .slice ta tasks.length tc] 25)).heap.size := by simp
  go_enter Tryz.func18, Tryz.ntmps18
  go_wp2
  clear sc_0 sc_1 sc_2 sc_3
  go_loopg [7, 8, 9] bs.length (fun gg a tb i wr => ∃ (k c : Nat) (A : Option Addr) (q : Bool), k + gg = bs.length ∧ i = .int .i64 k ∧ a = .slice A k c ∧ tb = .bool q ∧ Hid (Q k = q) ∧ Hid (∀ j, j < k → (K j && decide (N j ≤ (tasks.getD j default).dl)) = true) ∧ OwnN (w.heap.size + 1) wr A k c ((List.range k).map N) ∧ SetCells wr w.heap.size ⟨proto, ca, cc, cores, ha, hc, homes, ta, tc, tasks⟩ ∧ Below w.heap.size w wr ∧ w.heap.size + 1 ≤ wr.heap.size)
  case atStart => exact ⟨0, 0, none, false, by omega, rfl, rfl, rfl, HQ0, hidp (fun j hj => by omega), OwnN.none _ _, sc, hb, hz0⟩
  case round =>
    clear hb hz0 sc
    obtain ⟨k, c, A, q, hk, rfl, rfl, rfl, Hq, Hk, ho, sc, hw, hz⟩ := hrel
    by_cases hltb : k < bs.length
    · have hlt : k < tasks.length := by rw [← HBL.out]; exact hltb
      have k6 : k < 6 := by omega
      obtain ⟨gb, ob, hBA, hbc⟩ := HBR.out.resolve_left (by intro e; rw [e] at hltb; simp at hltb)
      subst hBA
      obtain ⟨x, Hx⟩ : ∃ x, Hid (bs.getD k 0 = x) := ⟨_, rfl⟩
      have Hbc := hidp (Hx.out ▸ hbc k hltb)
      have kI : (k : Int) < (bs.length : Int) := by omega
      obtain ⟨g, off, hA, hcl⟩ := HR.out.resolve_left (by intro e; rw [e] at hlt; simp at hlt)
      subst hA
      obtain ⟨t, HT⟩ : ∃ t, Hid (tasks.getD k default = t) := ⟨_, rfl⟩
      obtain ⟨d0, d1, d2, d3, d4, d5⟩ := (HT.out ▸ hcl k hlt).keep (Keeps.of_below hw)
      have hw1 := hw
      have ho1 := ho
      have hz1 := hz
      have sc1 := sc
      obtain ⟨sc_0, sc_1, sc_2, sc_3⟩ := id sc1
      dsimp only at sc_0 sc_1 sc_2 sc_3
      obtain ⟨v, Hv⟩ : ∃ v, Hid (N k = v) := ⟨_, hidp rfl⟩
      obtain ⟨b, Hb⟩ : ∃ v, Hid (K k = v) := ⟨_, hidp rfl⟩
      have hvb := HNb.out k
      rw [Hv.out] at hvb
      obtain ⟨v0, v1⟩ := hvb
      clear hcl hbc ho hw hz sc
      go_wp2_with fail
      refine (rnext_any _ bs _ bc k _ (HS1.out _ hw1) (HB1.out _ hw1)).mono ?_
      rintro e w3 ⟨rfl, hb3⟩
      rw [HN.out, HK.out, Hv.out, Hb.out]
      replace hw1 := hw1.trans (hb3.mono hw1.size)
      replace ho1 := ho1.turned (Turned.of_below hb3 []) (by simp)
      replace hz1 := Nat.le_trans hz1 hb3.size
      replace sc1 := sc1.keep (Keeps.of_below hb3)
      have d2' := Keeps.of_below hb3 _ _ d2
      clear hb3 d0 d1 d2 d3 d4 d5 sc_0 sc_1 sc_2 sc_3
      obtain ⟨sc_0, sc_1, sc_2, sc_3⟩ := id sc1
      dsimp only at sc_0 sc_1 sc_2 sc_3
      have bc1 := Keeps.of_below hw1 _ _ Hbc.out
      cases b with
      | false =>
        obtain ⟨f1, f2, f3⟩ := Hoff.out k hlt (by rw [Hb.out]; rfl)
        have F1 := hidp f1
        have F2 := hidp f2
        have F3 := hidp f3
        clear f1 f2 f3
        go_wp2_with fail
        go_ret3
        exact RowT.eq ⟨none, 0, rfl, nil_ints _, hw1⟩ F2.out.symm F1.out.symm F3.out.symm
      | true =>
        by_cases hd : t.dl < v
        · obtain ⟨f1, f2, f3⟩ := Hoff.out k hlt (by rw [Hb.out, Hv.out, HT.out]; simp; omega)
          have F1 := hidp f1
          have F2 := hidp f2
          have F3 := hidp f3
          clear f1 f2 f3
          go_wp2_with fail
          go_ret3
          exact RowT.eq ⟨none, 0, rfl, nil_ints _, hw1⟩ F2.out.symm F1.out.symm F3.out.symm
        · have hd' : decide (t.dl < v) = false := by simpa using hd
          have Hk2 : Hid (∀ j, j < k + 1 → (K j && decide (N j ≤ (tasks.getD j default).dl)) = true) := hidp (fun j hj => by
            by_cases ej : j = k
            · subst ej; rw [Hb.out, Hv.out, HT.out]; simp; omega
            · exact Hk.out j (by omega))
          cases q with
          | true =>
            have N2 : Hid (k + 1 ≤ maxLen) := hidp (by unfold maxLen; omega)
            have T2 : Hid ((k + 1) * 8 ≤ 140737488355328) := hidp (by omega)
            have ho4 := ho1.turned ((Turned.refl [] w3).alloc (.cells #[.int .i64 v] 3)) (by simp)
            have S2 := hidp (Lies.newCells' w3 [.int .i64 v] 3)
            have Z2 : Hid (w.heap.size + 1 ≤ (w3.alloc (.cells #[.int .i64 v] 3)).heap.size) := hidp (Nat.le_trans hz1 (by simp))
            have hw4 := hw1.alloc hw1.size (.cells #[.int .i64 v] 3)
            have sc4 := sc1.keep (Keeps.alloc w3 (.cells #[.int .i64 v] 3))
            have O2 := hidp (ints_one v)
            have Hfp := hidp (own_fp ho4.own)
            clear ho1 hw1 hz1 sc1
            go_wp2_with (at_builtin; refine wpList_app2 _ rfl (.tmp 46) (.tmp 48) 22 rfl (w.heap.size + 1) 3 i0 _ 1 8 Tryz.underlying22 hi0 hy0 hy1 hy2 rfl (by decide) A k c _ rfl ho4.own _ _ 1 1 [.int .i64 v] rfl (by simp) rfl S2.out O2.out N2.out T2.out Z2.out ?_; intro A' c' w6 happ)
            go_roundg (gk - 1)
            case measure => omega
            case rel => exact ⟨k + 1, c', A', true, by omega, by go_num, rfl, rfl, hidp (by rw [HQs.out, Hq.out]; rfl), Hk2, by rw [range_snoc, Hv.out]; exact ho4.app (ps := [v]) happ rfl, sc4.turned happ.turned (fun hf => by have := (Hfp.out _ hf).1; omega), hw4.trans (happ.turned.below hw4.size (fun j hj => by have := (Hfp.out _ hj).1; omega)), Nat.le_trans Z2.out happ.turned.size⟩
          | false =>
            by_cases ex : v = x
            · have ex1 : (v != x) = false := by rw [ex]; simp
              have Hex := hidp ex
              clear ex
              have N2 : Hid (k + 1 ≤ maxLen) := hidp (by unfold maxLen; omega)
              have T2 : Hid ((k + 1) * 8 ≤ 140737488355328) := hidp (by omega)
              have ho4 := ho1.turned ((Turned.refl [] w3).alloc (.cells #[.int .i64 v] 3)) (by simp)
              have S2 := hidp (Lies.newCells' w3 [.int .i64 v] 3)
              have Z2 : Hid (w.heap.size + 1 ≤ (w3.alloc (.cells #[.int .i64 v] 3)).heap.size) := hidp (Nat.le_trans hz1 (by simp))
              have hw4 := hw1.alloc hw1.size (.cells #[.int .i64 v] 3)
              have sc4 := sc1.keep (Keeps.alloc w3 (.cells #[.int .i64 v] 3))
              have O2 := hidp (ints_one v)
              have Hfp := hidp (own_fp ho4.own)
              clear ho1 hw1 hz1 sc1
              go_wp2_with (at_builtin; refine wpList_app2 _ rfl (.tmp 46) (.tmp 48) 22 rfl (w.heap.size + 1) 3 i0 _ 1 8 Tryz.underlying22 hi0 hy0 hy1 hy2 rfl (by decide) A k c _ rfl ho4.own _ _ 1 1 [.int .i64 v] rfl (by simp) rfl S2.out O2.out N2.out T2.out Z2.out ?_; intro A' c' w6 happ)
              go_roundg (gk - 1)
              case measure => omega
              case rel => exact ⟨k + 1, c', A', false, by omega, by go_num, rfl, rfl, hidp (by rw [HQs.out, Hq.out, Hv.out, Hx.out, Hex.out]; simp), Hk2, by rw [range_snoc, Hv.out]; exact ho4.app (ps := [v]) happ rfl, sc4.turned happ.turned (fun hf => by have := (Hfp.out _ hf).1; omega), hw4.trans (happ.turned.below hw4.size (fun j hj => by have := (Hfp.out _ hj).1; omega)), Nat.le_trans Z2.out happ.turned.size⟩
            · have ex1 : (v != x) = true := by simpa using ex
              have Hex := hidp ex
              clear ex
              have N2 : Hid (k + 1 ≤ maxLen) := hidp (by unfold maxLen; omega)
              have T2 : Hid ((k + 1) * 8 ≤ 140737488355328) := hidp (by omega)
              have ho4 := ho1.turned ((Turned.refl [] w3).alloc (.cells #[.int .i64 v] 3)) (by simp)
              have S2 := hidp (Lies.newCells' w3 [.int .i64 v] 3)
              have Z2 : Hid (w.heap.size + 1 ≤ (w3.alloc (.cells #[.int .i64 v] 3)).heap.size) := hidp (Nat.le_trans hz1 (by simp))
              have hw4 := hw1.alloc hw1.size (.cells #[.int .i64 v] 3)
              have sc4 := sc1.keep (Keeps.alloc w3 (.cells #[.int .i64 v] 3))
              have O2 := hidp (ints_one v)
              have Hfp := hidp (own_fp ho4.own)
              clear ho1 hw1 hz1 sc1
              go_wp2_with (at_builtin; refine wpList_app2 _ rfl (.tmp 46) (.tmp 48) 22 rfl (w.heap.size + 1) 3 i0 _ 1 8 Tryz.underlying22 hi0 hy0 hy1 hy2 rfl (by decide) A k c _ rfl ho4.own _ _ 1 1 [.int .i64 v] rfl (by simp) rfl S2.out O2.out N2.out T2.out Z2.out ?_; intro A' c' w6 happ)
              go_roundg (gk - 1)
              case measure => omega
              case rel => exact ⟨k + 1, c', A', true, by omega, by go_num, rfl, rfl, hidp (by rw [HQs.out, Hq.out, Hv.out, Hx.out]; simpa using Hex.out), Hk2, by rw [range_snoc, Hv.out]; exact ho4.app (ps := [v]) happ rfl, sc4.turned happ.turned (fun hf => by have := (Hfp.out _ hf).1; omega), hw4.trans (happ.turned.below hw4.size (fun j hj => by have := (Hfp.out _ hj).1; omega)), Nat.le_trans Z2.out happ.turned.size⟩
    · have hkn : k = bs.length := by omega
      have hkt : k = tasks.length := by rw [hkn, HBL.out]
      subst hkt
      have hkI : (tasks.length : Int) = (bs.length : Int) := by omega
      obtain ⟨f1, f2, f3⟩ := Hyes.out Hk.out
      rw [Hq.out] at f1
      have F1 := hidp f1
      have F2 := hidp f2
      have F3 := hidp f3
      have hrow := ho.ok (fun x hx => by obtain ⟨j, _, rfl⟩ := List.mem_map.1 hx; have := HNb.out j; unfold I64; omega)
      have Hr := hidp hrow
      clear f1 f2 f3 hrow
      go_wp2
      go_ret3
      exact RowT.eq ⟨A, c, by simp, Hr.out, hw⟩ F2.out.symm F1.out.symm F3.out.symm

set_option maxHeartbeats 4000000 in
set_option maxRecDepth 100000 in
theorem rholds_any (s : SetR) (bs : List Int) (ba : Option Addr) (bc : Nat) (w : World) (hs : SetOk w s) (hB : IntsOk w ba bc bs) : Calls Tryz.prog 10 #[.agg #[.int .i64 s.proto, .slice s.ca s.cores.length s.cc, .slice s.ha s.homes.length s.hc, .slice s.ta s.tasks.length s.tc], .slice ba bs.length bc] w fun e w' => e = .returned (.bool (holdsV s bs)) ∧ Below w.heap.size w w' := by
  have hb := (Below.refl w.heap.size w).alloc (Nat.le_refl _) (.cells #[.int .i64 s.proto, .slice s.ca s.cores.length s.cc, .slice s.ha s.homes.length s.hc, .slice s.ta s.tasks.length s.tc] 25)
  have sc := SetCells.new w s 25
  have H := hs.keep (Keeps.of_below hb)
  have l3 : s.tasks.length ≤ maxLen := Nat.le_trans hs.tasks.sl.2.1 hs.tasks.sl.2.2
  have l4 : bs.length ≤ maxLen := Nat.le_trans hB.sl.2.1 hB.sl.2.2
  unfold maxLen at l3 l4
  by_cases e : okS s = true
  · have ho := e
    have Ho := hidp ho
    by_cases e2 : bs.length = s.tasks.length
    · have d1 : ((bs.length : Int) != (s.tasks.length : Int)) = false := by simp [e2]
      have n6 := (Good.of ho).ntasks.2
      have HL := hidp e2
      obtain ⟨N, HN⟩ : ∃ f : Nat → Int, Hid (∀ k : Nat, nextV s bs k = f k) := ⟨fun k => nextV s bs k, hidp (fun _ => rfl)⟩
      obtain ⟨K, HK⟩ : ∃ f : Nat → Bool, Hid (∀ k : Nat, nextK s bs k = f k) := ⟨fun k => nextK s bs k, hidp (fun _ => rfl)⟩
      obtain ⟨R, HRd⟩ : ∃ L, Hid (holdsV s bs = L) := ⟨_, hidp rfl⟩
      obtain ⟨q, Hq⟩ : ∃ q : Nat → Bool, Hid (∀ k, holdB s bs k = q k) := ⟨fun k => holdB s bs k, hidp (fun _ => rfl)⟩
      have Hqd : Hid (∀ k, q k = (K k && (decide (N k ≤ bs.getD k 0) && (decide (1 ≤ bs.getD k 0) && decide (bs.getD k 0 ≤ (s.tasks.getD k default).dl))))) := hidp (fun k => by rw [← Hq.out, ← HN.out, ← HK.out]; rfl)
      have Hoff : Hid (∀ k, k < s.tasks.length → q k = false → R = false) := hidp (fun k hk h => by
        rw [← HRd.out]; unfold holdsV
        rw [upTo_not hk (by rw [Hq.out]; exact h), Bool.and_false, Bool.and_false])
      have Hyes : Hid ((∀ k, k < s.tasks.length → q k = true) → R = true) := hidp (fun h => by
        rw [← HRd.out]; unfold holdsV
        rw [(upTo_iff _ _).2 (fun k hk => by rw [Hq.out]; exact h k hk), ho, decide_eq_true e2]; rfl)
      have HR := hidp hs.tasks.at_
      have HBR := hidp hB.at_
      have HS1 := hidp (fun u (h : Below w.heap.size w u) => hs.keep (Keeps.of_below h))
      have HB1 := hidp (fun u (h : Below w.heap.size w u) => hB.keep (Keeps.of_below h))
      rw [HRd.out]
      clear hs hB ho e e2 HRd
      obtain ⟨proto, ca, cc, cores, ha, hc, homes, ta, tc, tasks⟩ := s
      dsimp only at HR hb sc H d1 n6 l3 HL Hoff Hyes HS1 Hqd ⊢
      obtain ⟨sc_0, sc_1, sc_2, sc_3⟩ := id sc
      dsimp only at sc_0 sc_1 sc_2 sc_3
      go_enter Tryz.func10, Tryz.ntmps10
      go_wp2_with fail
      refine (rok_any _ _ H).mono ?_
      rintro e w2 ⟨rfl, hb2⟩
      replace hb := hb.trans (hb2.mono hb.size)
      replace sc := sc.keep (Keeps.of_below hb2)
      clear hb2
      try clear sc_0 sc_1 sc_2 sc_3
      have scx := sc
      obtain ⟨sc_0, sc_1, sc_2, sc_3⟩ := scx
      try dsimp only at sc_0 sc_1 sc_2 sc_3
      rw [Ho.out]
      go_wp2_with fail
      clear sc_0 sc_1 sc_2 sc_3 H d1
      go_loopg [5] bs.length (fun gg i wr => ∃ k : Nat, k + gg = bs.length ∧ i = .int .i64 k ∧ Hid (∀ j, j < k → 1 ≤ bs.getD j 0 ∧ bs.getD j 0 ≤ (tasks.getD j default).dl) ∧ SetCells wr w.heap.size ⟨proto, ca, cc, cores, ha, hc, homes, ta, tc, tasks⟩ ∧ Below w.heap.size w wr)
      case atStart => exact ⟨0, by omega, rfl, hidp (fun j hj => by omega), sc, hb⟩
      case round =>
        clear hb sc
        obtain ⟨k, hk, rfl, Hk, sc, hw⟩ := hrel
        obtain ⟨sc_0, sc_1, sc_2, sc_3⟩ := id sc
        dsimp only at sc_0 sc_1 sc_2 sc_3
        by_cases hkb : k < bs.length
        · have hlt : k < tasks.length := by rw [← HL.out]; exact hkb
          obtain ⟨g, off, hA, hcl⟩ := HR.out.resolve_left (by intro e; rw [e] at hlt; simp at hlt)
          subst hA
          obtain ⟨gb, ob, hBA, hbl⟩ := HBR.out.resolve_left (by intro e; rw [e] at hkb; simp at hkb)
          subst hBA
          obtain ⟨t, HT⟩ : ∃ t, Hid (tasks.getD k default = t) := ⟨_, rfl⟩
          obtain ⟨x, Hx⟩ : ∃ x, Hid (bs.getD k 0 = x) := ⟨_, rfl⟩
          obtain ⟨d0, d1', d2, d3, d4, d5⟩ := (HT.out ▸ hcl k hlt).keep (Keeps.of_below hw)
          have cb := Keeps.of_below hw _ _ (Hx.out ▸ hbl k hkb)
          have kI : (k : Int) < (bs.length : Int) := by omega
          have kT : (k : Int) < (tasks.length : Int) := by omega
          clear hcl hbl d0 d1' d3 d4 d5
          by_cases c2 : x < 1
          · have Hz := hidp (Hoff.out k hlt (by rw [Hqd.out, Hx.out]; simp; omega))
            have c2' : decide (x < 1) = true := by simpa using c2
            clear c2
            go_wp2_with fail
            go_quiet (fail)
            go_wp2_with fail
            go_ret
            exact ⟨ret_bool Hz.out.symm, below_drewN hw _⟩
          · have c2' : decide (x < 1) = false := by simpa using c2
            by_cases c3 : t.dl < x
            · have Hz := hidp (Hoff.out k hlt (by rw [Hqd.out, Hx.out, HT.out]; simp; omega))
              have c3' : decide (t.dl < x) = true := by simpa using c3
              clear c2 c3
              go_wp2_with fail
              go_quiet (fail)
              go_wp2_with fail
              go_ret
              exact ⟨ret_bool Hz.out.symm, below_drewN hw _⟩
            · have c3' : decide (t.dl < x) = false := by simpa using c3
              have Hk2 : Hid (∀ j, j < k + 1 → 1 ≤ bs.getD j 0 ∧ bs.getD j 0 ≤ (tasks.getD j default).dl) := hidp (fun j hj => by
                by_cases ej : j = k
                · subst ej; rw [Hx.out, HT.out]; omega
                · exact Hk.out j (by omega))
              clear c2 c3
              go_wp2_with fail
              go_quiet (fail)
              go_wp2_with fail
              go_roundg (gk - 1)
              case measure => omega
              case rel => exact ⟨k + 1, by omega, by go_num, Hk2, sc.keep (Keeps.drewN _ _), below_drewN hw _⟩
        · obtain rfl : k = bs.length := by omega
          have Hall := hidp Hk.out
          clear Hk
          go_wp2_with fail
          clear sc_0 sc_1 sc_2 sc_3
          go_loopg [6] bs.length (fun gg i w5 => ∃ k : Nat, k + gg = bs.length ∧ i = .int .i64 k ∧ Hid (∀ j, j < k → q j = true) ∧ SetCells w5 w.heap.size ⟨proto, ca, cc, cores, ha, hc, homes, ta, tc, tasks⟩ ∧ Below w.heap.size w w5)
          case atStart => exact ⟨0, by omega, rfl, hidp (fun j hj => by omega), sc, hw⟩
          case round =>
            clear hw sc
            obtain ⟨k, hk, rfl, Hk, sc, hw⟩ := hrel
            obtain ⟨sc_0, sc_1, sc_2, sc_3⟩ := id sc
            dsimp only at sc_0 sc_1 sc_2 sc_3
            by_cases hkb : k < bs.length
            · have hlt : k < tasks.length := by rw [← HL.out]; exact hkb
              obtain ⟨gb, ob, hBA, hbl⟩ := HBR.out.resolve_left (by intro e; rw [e] at hkb; simp at hkb)
              subst hBA
              obtain ⟨x, Hx⟩ : ∃ x, Hid (bs.getD k 0 = x) := ⟨_, rfl⟩
              have Hbc := hidp (Hx.out ▸ hbl k hkb)
              have kI : (k : Int) < (bs.length : Int) := by omega
              obtain ⟨v, Hv⟩ : ∃ v, Hid (N k = v) := ⟨_, hidp rfl⟩
              obtain ⟨b, Hb⟩ : ∃ v, Hid (K k = v) := ⟨_, hidp rfl⟩
              have Hqk : Hid (q k = (b && decide (v ≤ x))) := hidp (by
                have := Hall.out k hkb
                rw [Hqd.out, Hv.out, Hb.out, decide_eq_true this.1, decide_eq_true this.2, Hx.out]; simp)
              have HX := rnext_any ⟨proto, ca, cc, cores, ha, hc, homes, ta, tc, tasks⟩ bs _ bc k _ (HS1.out _ hw) (HB1.out _ hw)
              rw [HN.out, HK.out, Hv.out, Hb.out] at HX
              clear hbl
              go_wp2_with fail
              refine HX.mono ?_
              rintro e w3 ⟨rfl, hb3⟩
              replace hw := hw.trans (hb3.mono hw.size)
              replace sc := sc.keep (Keeps.of_below hb3)
              clear hb3 sc_0 sc_1 sc_2 sc_3 HX
              have cb := Keeps.of_below hw _ _ Hbc.out
              cases b with
              | false =>
                have Hz := hidp (Hoff.out k hlt (by rw [Hqk.out]; rfl))
                go_wp2_with fail
                go_ret
                exact ⟨ret_bool Hz.out.symm, hw⟩
              | true =>
                by_cases c1 : x < v
                · have Hz := hidp (Hoff.out k hlt (by rw [Hqk.out]; simp; omega))
                  go_wp2_with fail
                  go_ret
                  exact ⟨ret_bool Hz.out.symm, hw⟩
                · have c1' : decide (x < v) = false := by simpa using c1
                  have Hk2 : Hid (∀ j, j < k + 1 → q j = true) := hidp (fun j hj => by
                    by_cases ej : j = k
                    · subst ej; rw [Hqk.out]; simp; omega
                    · exact Hk.out j (by omega))
                  clear c1
                  go_wp2_with fail
                  go_roundg (bs.length - k - 1)
                  case measure => omega
                  case rel => exact ⟨k + 1, by omega, by go_num, Hk2, sc, hw⟩
            · obtain rfl : k = bs.length := by omega
              have Hz := hidp (Hyes.out (fun j hj => Hk.out j (by rw [HL.out]; exact hj)))
              go_wp2_with fail
              go_ret
              exact ⟨ret_bool Hz.out.symm, hw⟩
    · have d1 : ((bs.length : Int) != (s.tasks.length : Int)) = true := by simp; omega
      have Hz : Hid (holdsV s bs = false) := hidp (by unfold holdsV; rw [decide_eq_false e2, Bool.false_and, Bool.and_false])
      clear e2 e ho
      go_enter Tryz.func10, Tryz.ntmps10
      go_wp2_with fail
      refine (rok_any s _ H).mono ?_
      rintro e w2 ⟨rfl, hb2⟩
      replace hb := hb.trans (hb2.mono hb.size)
      replace sc := sc.keep (Keeps.of_below hb2)
      clear hb2
      try clear sc_0 sc_1 sc_2 sc_3
      have scx := sc
      obtain ⟨sc_0, sc_1, sc_2, sc_3⟩ := scx
      try dsimp only at sc_0 sc_1 sc_2 sc_3
      rw [Ho.out]
      go_wp2_with fail
      go_ret
      exact ⟨ret_bool Hz.out.symm, hb⟩
  · have Ho : Hid (okS s = false) := hidp (by simpa using e)
    have Hz : Hid (holdsV s bs = false) := hidp (by unfold holdsV; rw [Ho.out]; rfl)
    clear e
    go_enter Tryz.func10, Tryz.ntmps10
    go_wp2_with fail
    refine (rok_any s _ H).mono ?_
    rintro e w2 ⟨rfl, hb2⟩
    replace hb := hb.trans (hb2.mono hb.size)
    replace sc := sc.keep (Keeps.of_below hb2)
    clear hb2
    try clear sc_0 sc_1 sc_2 sc_3
    have scx := sc
    obtain ⟨sc_0, sc_1, sc_2, sc_3⟩ := scx
    try dsimp only at sc_0 sc_1 sc_2 sc_3
    rw [Ho.out]
    go_wp2_with fail
    go_ret
    exact ⟨ret_bool Hz.out.symm, hb⟩
end Go.Proofs.YtlbaohefappfoaaGreat

namespace Go.Proofs.YtlbaohefappfoaaGreat
open Go.ChangeShapes Go.WideShapes Go.ChangeAt Go.RowKit
set_option linter.unusedVariables false
set_option linter.unusedSimpArgs false
set_option maxHeartbeats 4000000 in
set_option maxRecDepth 100000 in
theorem rwaitsN_any (s : SetR) (bs : List Int) (ba : Option Addr) (bc : Nat) (of : Int) (w : World) (hs : SetOk w s) (hB : IntsOk w ba bc bs) : Calls Tryz.prog 19 #[.agg #[.int .i64 s.proto, .slice s.ca s.cores.length s.cc, .slice s.ha s.homes.length s.hc, .slice s.ta s.tasks.length s.tc], .slice ba bs.length bc, .int .i64 of] w (RowN w (waitsL s bs of) (waitsK s bs of)) := by
  have hb := (Below.refl w.heap.size w).alloc (Nat.le_refl _) (.cells #[.int .i64 s.proto, .slice s.ca s.cores.length s.cc, .slice s.ha s.homes.length s.hc, .slice s.ta s.tasks.length s.tc] 25)
  have sc := SetCells.new w s 25
  have H := hs.keep (Keeps.of_below hb)
  have l3 : s.tasks.length ≤ maxLen := Nat.le_trans hs.tasks.sl.2.1 hs.tasks.sl.2.2
  unfold maxLen at l3
  have l4 : bs.length ≤ maxLen := Nat.le_trans hB.sl.2.1 hB.sl.2.2
  unfold maxLen at l4
  by_cases e : thereB s of = true
  · have Hth := hidp e
    obtain ⟨ho, r1, r2⟩ := thereB_true.1 e
    obtain ⟨n, rfl⟩ : ∃ n : Nat, of = n := ⟨of.toNat, by omega⟩
    have hn : n < s.tasks.length := by omega
    have hg := Good.of ho
    obtain ⟨t, HT⟩ : ∃ t, Hid (s.tasks.getD n default = t) := ⟨_, rfl⟩
    have hm : t ∈ s.tasks := HT.out ▸ getD_mem hn
    have Tok := hs.tasks.ok t hm
    have Tg := hg.parts t hm
    obtain ⟨g, off, hA, hcl⟩ := hs.tasks.at_.resolve_left (by intro e; rw [e] at hn; simp at hn)
    have Ht5 := hidp ((HT.out ▸ hcl n hn).2.2.2.2.2)
    have hpl := Tg.len
    obtain ⟨gp, op, hP, hpc⟩ := Tok.at_.resolve_left (by intro e; rw [e] at hpl; simp at hpl)
    have Hpc := hidp hpc
    have HPA := hidp hP
    obtain ⟨parts, hparts⟩ : ∃ parts, t.parts = parts := ⟨_, rfl⟩
    have HPL := hidp hparts
    have Hpt : Hid (partsOf s n = parts) := hidp (by unfold partsOf; simp only [Int.toNat_natCast]; rw [HT.out, hparts])
    rw [hP, hparts] at Ht5
    rw [hparts] at Hpc hpl
    have TL : Hid (TaskLen w t) := hidp ⟨Tok.at_, Tg.lens, by have := Tg.len; omega⟩
    have Htc := hidp (HT.out ▸ hcl n hn)
    obtain ⟨mx, HM⟩ : ∃ m, Hid (maxL t.parts = m) := ⟨_, rfl⟩
    have HMp : Hid (0 < mx → ∃ k, k < t.parts.length ∧ (t.parts.getD k default).kind = 3) := hidp (fun h => by
      rw [← HM.out] at h; exact max_lock h)
    obtain ⟨V, HV⟩ : ∃ V : Nat → Int, Hid (∀ k : Nat, waitV s bs n k = V k) := ⟨fun k => waitV s bs n k, hidp (fun _ => rfl)⟩
    obtain ⟨K, HK⟩ : ∃ K : Nat → Bool, Hid (∀ k : Nat, waitK s bs n k = K k) := ⟨fun k => waitK s bs n k, hidp (fun _ => rfl)⟩
    have Hpa : Hid (∀ k : Nat, partAt s n k = parts.getD k default) := hidp (fun k => by unfold partAt; have := Hpt.out; unfold partsOf at this; rw [this]; simp)
    obtain ⟨PW, HPW⟩ : ∃ f : Nat → Int, Hid (pW s bs n = f) := ⟨_, hidp rfl⟩
    obtain ⟨PK, HPK⟩ : ∃ f : Nat → Bool, Hid (pK s bs n = f) := ⟨_, hidp rfl⟩
    have HPWl : Hid (∀ k, (parts.getD k default).kind = 3 → PW k = V k ∧ PK k = K k) := hidp (fun k h => by
      rw [← HPW.out, ← HPK.out]; unfold pW pK; rw [Hpa.out, if_pos h, if_pos h, HV.out, HK.out]; exact ⟨rfl, rfl⟩)
    have HPWn : Hid (∀ k, (parts.getD k default).kind ≠ 3 → PW k = 0 ∧ PK k = true) := hidp (fun k h => by
      rw [← HPW.out, ← HPK.out]; unfold pW pK; rw [Hpa.out, if_neg h, if_neg h]; exact ⟨rfl, rfl⟩)
    have HWb : Hid (∀ k, 0 ≤ PW k ∧ PW k ≤ 3000) := hidp (fun k => by rw [← HPW.out]; exact pW_bd s bs n k)
    have Hoff : Hid (∀ k, k < parts.length → PK k = false → waitsK s bs n = false ∧ waitsL s bs n = []) := hidp (fun k hk h => waits_off (by rw [Hpt.out]; exact hk) (by rw [HPK.out]; exact h))
    have Hyes : Hid ((∀ k, k < parts.length → PK k = true) → waitsK s bs n = true ∧ waitsL s bs n = (List.range parts.length).map PW) := hidp (fun h => by
      have := waits_yes (s := s) (bs := bs) (of := n) Hth.out (by rw [Hpt.out, HPK.out]; exact h)
      rw [Hpt.out, HPW.out] at this; exact this)
    obtain ⟨RL, HRL⟩ : ∃ L, Hid (waitsL s bs n = L) := ⟨_, hidp rfl⟩
    obtain ⟨RK, HRK⟩ : ∃ L, Hid (waitsK s bs n = L) := ⟨_, hidp rfl⟩
    rw [HRL.out, HRK.out] at Hoff Hyes ⊢
    have HS1 := hidp (fun u (h : Below w.heap.size w u) => hs.keep (Keeps.of_below h))
    have HB1 := hidp (fun u (h : Below w.heap.size w u) => hB.keep (Keeps.of_below h))
    obtain ⟨S, HSS⟩ : ∃ S : SetR, Hid (S = s) := ⟨s, rfl⟩
    obtain ⟨i0, hi0, hy0, hy1, hy2⟩ := info_parts infoZ
    have HMp2 : Hid (0 < mx → ∃ k, k < parts.length ∧ (parts.getD k default).kind = 3) := hidp (by rw [← Hpt.out]; unfold partsOf; simp only [Int.toNat_natCast]; rw [HT.out]; exact HMp.out)
    have Hkn : Hid (bs.length ≠ s.tasks.length → ∀ k : Nat, waitK s bs n k = false) := hidp (fun h k => by unfold waitK; rw [if_neg h])
    clear HMp
    clear hcl hm Tok Tg hpc hP hparts hg ho HT e hs hB r1
    have dn : decide (s.tasks.length ≤ n) = false := by simp; omega
    obtain ⟨proto, ca, cc, cores, ha, hc, homes, ta, tc, tasks⟩ := s
    dsimp only at hA hn l3 r2 hb sc H dn HS1 Hkn ⊢
    subst hA
    by_cases e2 : bs.length = tasks.length
    · have d1' : ((bs.length : Int) != (tasks.length : Int)) = false := by simp [e2]
      clear e2
      go_enter Tryz.func19, Tryz.ntmps19
      go_wp2_with fail
      refine (rthere_any _ _ _ H).mono ?_
      rintro e w2 ⟨rfl, hb2⟩
      replace hb := hb.trans (hb2.mono hb.size)
      replace sc := sc.keep (Keeps.of_below hb2)
      clear hb2
      try clear sc_0 sc_1 sc_2 sc_3
      have scx := sc
      obtain ⟨sc_0, sc_1, sc_2, sc_3⟩ := scx
      try dsimp only at sc_0 sc_1 sc_2 sc_3
      rw [Hth.out]
      have hz0 : w.heap.size + 1 ≤ w2.heap.size := cell_lt sc_0
      obtain ⟨d0, d1, d2, d3, d4, d5⟩ := Htc.out.keep (Keeps.of_below hb)
      go_wp2_with fail
      have tb := TaskBox.new w2 t 44
      replace hb := hb.alloc hb.size (.cells #[.string t.name, .int .i64 t.per, .int .i64 t.dl, .int .i64 t.prio, .int .i64 t.cl, .slice t.pa t.parts.length t.pc] 44)
      have hzs : w2.heap.size + 1 ≤ (w2.alloc (.cells #[.string t.name, .int .i64 t.per, .int .i64 t.dl, .int .i64 t.prio, .int .i64 t.cl, .slice t.pa t.parts.length t.pc] 44)).heap.size := by simp
      replace sc := sc.keep (Keeps.alloc w2 (.cells #[.string t.name, .int .i64 t.per, .int .i64 t.dl, .int .i64 t.prio, .int .i64 t.cl, .slice t.pa t.parts.length t.pc] 44))
      clear sc_0 sc_1 sc_2 sc_3 d0 d1 d2 d3 d4 d5
      go_loopg [8, 10] parts.length (fun gg a i wr => ∃ (k c : Nat) (A : Option Addr), k + gg = parts.length ∧ i = .int .i64 k ∧ a = .slice A k c ∧ Hid (∀ j, j < k → PK j = true) ∧ OwnN (w2.heap.size + 1) wr A k c ((List.range k).map PW) ∧ TaskBox wr w2.heap.size t ∧ SetCells wr w.heap.size ⟨proto, ca, cc, cores, ha, hc, homes, some ⟨g, off, none⟩, tc, tasks⟩ ∧ Below w.heap.size w wr ∧ w2.heap.size + 1 ≤ wr.heap.size)
      case atStart => exact ⟨0, 0, none, by omega, rfl, rfl, hidp (fun j hj => by omega), OwnN.none _ _, tb, sc, hb, hzs⟩
      case round =>
        clear tb sc hb
        obtain ⟨k, c, A, hk, rfl, rfl, Hk, ho, tb, sc, hw, hz⟩ := hrel
        obtain ⟨b0, b1, b2, b3, b4, b5⟩ := id tb
        rw [HPA.out, HPL.out] at b5
        by_cases hlt : k < parts.length
        · obtain ⟨p, HP⟩ : ∃ p, Hid (parts.getD k default = p) := ⟨_, rfl⟩
          have pcl := (HP.out ▸ Hpc.out k hlt).keep (Keeps.of_below hw)
          obtain ⟨x0, x1, x2⟩ := pcl
          have hw1 := hw
          have ho1 := ho
          have hz1 := hz
          have sc1 := sc
          obtain ⟨sc_0, sc_1, sc_2, sc_3⟩ := id sc1
          dsimp only at sc_0 sc_1 sc_2 sc_3
          have N2 : Hid (k + 1 ≤ maxLen) := hidp (by unfold maxLen; omega)
          have T2 : Hid ((k + 1) * 8 ≤ 140737488355328) := hidp (by omega)
          by_cases e : p.kind = 3
          · obtain ⟨v1, v2⟩ := HPWl.out k (by rw [HP.out]; exact e)
            have e' : (p.kind == 3) = true := by simpa using e
            obtain ⟨b, Hb⟩ : ∃ b, Hid (K k = b) := ⟨_, rfl⟩
            rw [Hb.out] at v2
            obtain ⟨v, Hv⟩ : ∃ v, Hid (PW k = v) := ⟨_, rfl⟩
            rw [Hv.out] at v1
            have Hvv := hidp v1.symm
            have Hpk := hidp v2
            clear v1 v2 e
            cases b with
            | false =>
              obtain ⟨f1, f2⟩ := Hoff.out k hlt Hpk.out
              have F1 := hidp f1
              have F2 := hidp f2
              clear f1 f2
              go_wp2_with fail
              refine (rwpart_any _ bs ba bc n k _ (HS1.out _ hw1) (HB1.out _ hw1)).mono ?_
              rintro e w3 ⟨rfl, hb3⟩
              rw [HV.out k, HK.out k, Hb.out]
              clear b0 b1 b2 b3 b4 b5
              go_wp2_with fail
              try rw [Exit.noGoto_ret]
              go_ret2
              exact RowN.eq ⟨none, 0, rfl, nil_ints _, hw1.trans (hb3.mono hw1.size), by simp [fp]⟩ F2.out.symm F1.out.symm
            | true =>
              go_wp2_with fail
              refine (rwpart_any _ bs ba bc n k _ (HS1.out _ hw1) (HB1.out _ hw1)).mono ?_
              rintro e w3 ⟨rfl, hb3⟩
              rw [HV.out k, HK.out k, Hb.out, Hvv.out]
              have hw3 := hw1.trans (hb3.mono hw1.size)
              have hown4 := ((ho1.turned (Turned.of_below hb3 []) (by simp)).turned ((Turned.refl [] w3).alloc (.cells #[.int .i64 v] 3)) (by simp))
              have S2 := hidp (Lies.newCells' w3 [.int .i64 v] 3)
              have Z2 : Hid (w2.heap.size + 1 ≤ (w3.alloc (.cells #[.int .i64 v] 3)).heap.size) := hidp (Nat.le_trans hz1 (Nat.le_trans hb3.size (by simp)))
              have sc4 := (sc1.keep (Keeps.of_below hb3)).keep (Keeps.alloc _ (.cells #[.int .i64 v] 3))
              have tb4 := (tb.keep (Keeps.of_below hb3)).keep (Keeps.alloc _ (.cells #[.int .i64 v] 3))
              have hw4 := hw3.alloc hw3.size (.cells #[.int .i64 v] 3)
              have O2 := hidp (ints_one v)
              have Hfp := hidp (own_fp hown4.own)
              clear b0 b1 b2 b3 b4 b5 x0 x1 x2 sc_0 sc_1 sc_2 sc_3
              go_wp2_with (at_builtin; refine wpList_app2 _ rfl (.tmp 65) (.tmp 67) 22 rfl (w2.heap.size + 1) 3 i0 _ 1 8 Tryz.underlying22 hi0 hy0 hy1 hy2 rfl (by decide) A k c _ rfl hown4.own _ _ 1 1 [.int .i64 v] rfl (by simp) rfl S2.out O2.out N2.out T2.out Z2.out ?_; intro A' c' w5 happ)
              go_roundg (gk - 1)
              case measure => omega
              case rel => exact ⟨k + 1, c', A', by omega, by go_num, rfl, hidp (fun j hj => by
                by_cases ej : j = k
                · subst ej; exact Hpk.out
                · exact Hk.out j (by omega)), by rw [range_snoc, Hv.out]; exact hown4.app (ps := [v]) happ rfl, tb4.turned happ.turned (fun hf => by have := (Hfp.out _ hf).1; omega), sc4.turned happ.turned (fun hf => by have := (Hfp.out _ hf).1; omega), hw4.trans (happ.turned.below hw4.size (fun j hj => by have := (Hfp.out _ hj).1; omega)), Nat.le_trans Z2.out happ.turned.size⟩
          · obtain ⟨v1, v2⟩ := HPWn.out k (by rw [HP.out]; exact e)
            have e' : (p.kind == 3) = false := by simpa using e
            have Hv := hidp v1
            have Hpk := hidp v2
            clear v1 v2 e
            have hw3 := hw1
            have hown4 := ho1.turned ((Turned.refl [] wr).alloc (.cells #[.int .i64 0] 3)) (by simp)
            have S2' := Lies.newCells' wr [.int .i64 0] 3
            have S2 := hidp S2'
            clear S2'
            have Z2 : Hid (w2.heap.size + 1 ≤ (wr.alloc (.cells #[.int .i64 0] 3)).heap.size) := hidp (Nat.le_trans hz1 (by simp))
            have sc4 := sc1.keep (Keeps.alloc _ (.cells #[.int .i64 0] 3))
            have tb4 := tb.keep (Keeps.alloc _ (.cells #[.int .i64 0] 3))
            have hw4 := hw3.alloc hw3.size (.cells #[.int .i64 0] 3)
            have O2 := hidp (ints_one 0)
            have Hfp := hidp (own_fp hown4.own)
            go_wp2_with (at_builtin; refine wpList_app2 _ rfl (.tmp 65) (.tmp 67) 22 rfl (w2.heap.size + 1) 3 i0 _ 1 8 Tryz.underlying22 hi0 hy0 hy1 hy2 rfl (by decide) A k c _ rfl hown4.own _ _ 1 1 [.int .i64 0] rfl (by simp) rfl S2.out O2.out N2.out T2.out Z2.out ?_; intro A' c' w5 happ)
            go_roundg (gk - 1)
            case measure => omega
            case rel => exact ⟨k + 1, c', A', by omega, by go_num, rfl, hidp (fun j hj => by
                by_cases ej : j = k
                · subst ej; exact Hpk.out
                · exact Hk.out j (by omega)), by rw [range_snoc, Hv.out]; exact hown4.app (ps := [0]) happ rfl, tb4.turned happ.turned (fun hf => by have := (Hfp.out _ hf).1; omega), sc4.turned happ.turned (fun hf => by have := (Hfp.out _ hf).1; omega), hw4.trans (happ.turned.below hw4.size (fun j hj => by have := (Hfp.out _ hj).1; omega)), Nat.le_trans Z2.out happ.turned.size⟩
        · obtain rfl : k = parts.length := by omega
          obtain ⟨f1, f2⟩ := Hyes.out Hk.out
          have F1 := hidp f1
          have F2 := hidp f2
          have Hfn := hidp (own_fp ho.own)
          have hrow := ho.ok (fun x hx => by obtain ⟨j, _, rfl⟩ := List.mem_map.1 hx; have := HWb.out j; unfold I64; omega)
          have Hr := hidp hrow
          clear f1 f2 hrow
          go_wp2
          try rw [Exit.noGoto_ret]
          go_ret2
          exact RowN.eq ⟨A, c, by simp, Hr.out, hw, fun k hk => by have := (Hfn.out k hk).1; omega⟩ F2.out.symm F1.out.symm
    · have d1' : ((bs.length : Int) != (tasks.length : Int)) = true := by simp; omega
      by_cases e3 : 0 < mx
      · obtain ⟨k, hk1, hk2⟩ := HMp2.out e3
        obtain ⟨v1, v2⟩ := HPWl.out k hk2
        rw [← HK.out, Hkn.out e2] at v2
        obtain ⟨f1, f2⟩ := Hoff.out k hk1 v2
        have F1 := hidp f1
        have F2 := hidp f2
        clear f1 f2 v1 v2 hk1 hk2 e2
        go_enter Tryz.func19, Tryz.ntmps19
        go_wp2_with fail
        refine (rthere_any _ _ _ H).mono ?_
        rintro e w2 ⟨rfl, hb2⟩
        replace hb := hb.trans (hb2.mono hb.size)
        replace sc := sc.keep (Keeps.of_below hb2)
        clear hb2
        try clear sc_0 sc_1 sc_2 sc_3
        have scx := sc
        obtain ⟨sc_0, sc_1, sc_2, sc_3⟩ := scx
        try dsimp only at sc_0 sc_1 sc_2 sc_3
        rw [Hth.out]
        obtain ⟨d0, d1, d2, d3, d4, d5⟩ := Htc.out.keep (Keeps.of_below hb)
        go_wp2_with fail
        refine (rlongest_any t _ (TL.out.keep (Keeps.of_below hb))).mono ?_
        rintro e w3 ⟨rfl, hb2⟩
        replace hb := hb.trans (hb2.mono hb.size)
        clear hb2
        rw [HM.out]
        go_wp2_with fail
        go_ret2
        exact RowN.eq ⟨none, 0, rfl, nil_ints _, hb, by simp [fp]⟩ F2.out.symm F1.out.symm
      · clear e2
        go_enter Tryz.func19, Tryz.ntmps19
        go_wp2_with fail
        refine (rthere_any _ _ _ H).mono ?_
        rintro e w2 ⟨rfl, hb2⟩
        replace hb := hb.trans (hb2.mono hb.size)
        replace sc := sc.keep (Keeps.of_below hb2)
        clear hb2
        try clear sc_0 sc_1 sc_2 sc_3
        have scx := sc
        obtain ⟨sc_0, sc_1, sc_2, sc_3⟩ := scx
        try dsimp only at sc_0 sc_1 sc_2 sc_3
        rw [Hth.out]
        have hz0 : w.heap.size + 1 ≤ w2.heap.size := cell_lt sc_0
        obtain ⟨d0, d1, d2, d3, d4, d5⟩ := Htc.out.keep (Keeps.of_below hb)
        go_wp2_with fail
        refine (rlongest_any t _ (TL.out.keep (Keeps.of_below hb))).mono ?_
        rintro e w9 ⟨rfl, hb2⟩
        replace hb := hb.trans (hb2.mono hb.size)
        replace sc := sc.keep (Keeps.of_below hb2)
        clear hb2
        try clear sc_0 sc_1 sc_2 sc_3
        have scx := sc
        obtain ⟨sc_0, sc_1, sc_2, sc_3⟩ := scx
        try dsimp only at sc_0 sc_1 sc_2 sc_3
        rw [HM.out]
        clear d0 d1 d2 d3 d4 d5
        obtain ⟨d0, d1, d2, d3, d4, d5⟩ := Htc.out.keep (Keeps.of_below hb)
        have hz0 : w.heap.size + 1 ≤ w9.heap.size := cell_lt sc_0
        go_wp2_with fail
        have tb := TaskBox.new w9 t 44
        replace hb := hb.alloc hb.size (.cells #[.string t.name, .int .i64 t.per, .int .i64 t.dl, .int .i64 t.prio, .int .i64 t.cl, .slice t.pa t.parts.length t.pc] 44)
        have hzs : w9.heap.size + 1 ≤ (w9.alloc (.cells #[.string t.name, .int .i64 t.per, .int .i64 t.dl, .int .i64 t.prio, .int .i64 t.cl, .slice t.pa t.parts.length t.pc] 44)).heap.size := by simp
        replace sc := sc.keep (Keeps.alloc w9 (.cells #[.string t.name, .int .i64 t.per, .int .i64 t.dl, .int .i64 t.prio, .int .i64 t.cl, .slice t.pa t.parts.length t.pc] 44))
        clear sc_0 sc_1 sc_2 sc_3 d0 d1 d2 d3 d4 d5
        go_loopg [8, 10] parts.length (fun gg a i wr => ∃ (k c : Nat) (A : Option Addr), k + gg = parts.length ∧ i = .int .i64 k ∧ a = .slice A k c ∧ Hid (∀ j, j < k → PK j = true) ∧ OwnN (w9.heap.size + 1) wr A k c ((List.range k).map PW) ∧ TaskBox wr w9.heap.size t ∧ SetCells wr w.heap.size ⟨proto, ca, cc, cores, ha, hc, homes, some ⟨g, off, none⟩, tc, tasks⟩ ∧ Below w.heap.size w wr ∧ w9.heap.size + 1 ≤ wr.heap.size)
        case atStart => exact ⟨0, 0, none, by omega, rfl, rfl, hidp (fun j hj => by omega), OwnN.none _ _, tb, sc, hb, hzs⟩
        case round =>
          clear tb sc hb
          obtain ⟨k, c, A, hk, rfl, rfl, Hk, ho, tb, sc, hw, hz⟩ := hrel
          obtain ⟨b0, b1, b2, b3, b4, b5⟩ := id tb
          rw [HPA.out, HPL.out] at b5
          by_cases hlt : k < parts.length
          · obtain ⟨p, HP⟩ : ∃ p, Hid (parts.getD k default = p) := ⟨_, rfl⟩
            have pcl := (HP.out ▸ Hpc.out k hlt).keep (Keeps.of_below hw)
            obtain ⟨x0, x1, x2⟩ := pcl
            have hw1 := hw
            have ho1 := ho
            have hz1 := hz
            have sc1 := sc
            obtain ⟨sc_0, sc_1, sc_2, sc_3⟩ := id sc1
            dsimp only at sc_0 sc_1 sc_2 sc_3
            have N2 : Hid (k + 1 ≤ maxLen) := hidp (by unfold maxLen; omega)
            have T2 : Hid ((k + 1) * 8 ≤ 140737488355328) := hidp (by omega)
            by_cases e : p.kind = 3
            · obtain ⟨v1, v2⟩ := HPWl.out k (by rw [HP.out]; exact e)
              have e' : (p.kind == 3) = true := by simpa using e
              obtain ⟨b, Hb⟩ : ∃ b, Hid (K k = b) := ⟨_, rfl⟩
              rw [Hb.out] at v2
              obtain ⟨v, Hv⟩ : ∃ v, Hid (PW k = v) := ⟨_, rfl⟩
              rw [Hv.out] at v1
              have Hvv := hidp v1.symm
              have Hpk := hidp v2
              clear v1 v2 e
              cases b with
              | false =>
                obtain ⟨f1, f2⟩ := Hoff.out k hlt Hpk.out
                have F1 := hidp f1
                have F2 := hidp f2
                clear f1 f2
                go_wp2_with fail
                refine (rwpart_any _ bs ba bc n k _ (HS1.out _ hw1) (HB1.out _ hw1)).mono ?_
                rintro e w3 ⟨rfl, hb3⟩
                rw [HV.out k, HK.out k, Hb.out]
                clear b0 b1 b2 b3 b4 b5
                go_wp2_with fail
                try rw [Exit.noGoto_ret]
                go_ret2
                exact RowN.eq ⟨none, 0, rfl, nil_ints _, hw1.trans (hb3.mono hw1.size), by simp [fp]⟩ F2.out.symm F1.out.symm
              | true =>
                go_wp2_with fail
                refine (rwpart_any _ bs ba bc n k _ (HS1.out _ hw1) (HB1.out _ hw1)).mono ?_
                rintro e w3 ⟨rfl, hb3⟩
                rw [HV.out k, HK.out k, Hb.out, Hvv.out]
                have hw3 := hw1.trans (hb3.mono hw1.size)
                have hown4 := ((ho1.turned (Turned.of_below hb3 []) (by simp)).turned ((Turned.refl [] w3).alloc (.cells #[.int .i64 v] 3)) (by simp))
                have S2 := hidp (Lies.newCells' w3 [.int .i64 v] 3)
                have Z2 : Hid (w9.heap.size + 1 ≤ (w3.alloc (.cells #[.int .i64 v] 3)).heap.size) := hidp (Nat.le_trans hz1 (Nat.le_trans hb3.size (by simp)))
                have sc4 := (sc1.keep (Keeps.of_below hb3)).keep (Keeps.alloc _ (.cells #[.int .i64 v] 3))
                have tb4 := (tb.keep (Keeps.of_below hb3)).keep (Keeps.alloc _ (.cells #[.int .i64 v] 3))
                have hw4 := hw3.alloc hw3.size (.cells #[.int .i64 v] 3)
                have O2 := hidp (ints_one v)
                have Hfp := hidp (own_fp hown4.own)
                clear b0 b1 b2 b3 b4 b5 x0 x1 x2 sc_0 sc_1 sc_2 sc_3
                go_wp2_with (at_builtin; refine wpList_app2 _ rfl (.tmp 65) (.tmp 67) 22 rfl (w9.heap.size + 1) 3 i0 _ 1 8 Tryz.underlying22 hi0 hy0 hy1 hy2 rfl (by decide) A k c _ rfl hown4.own _ _ 1 1 [.int .i64 v] rfl (by simp) rfl S2.out O2.out N2.out T2.out Z2.out ?_; intro A' c' w5 happ)
                go_roundg (gk - 1)
                case measure => omega
                case rel => exact ⟨k + 1, c', A', by omega, by go_num, rfl, hidp (fun j hj => by
                  by_cases ej : j = k
                  · subst ej; exact Hpk.out
                  · exact Hk.out j (by omega)), by rw [range_snoc, Hv.out]; exact hown4.app (ps := [v]) happ rfl, tb4.turned happ.turned (fun hf => by have := (Hfp.out _ hf).1; omega), sc4.turned happ.turned (fun hf => by have := (Hfp.out _ hf).1; omega), hw4.trans (happ.turned.below hw4.size (fun j hj => by have := (Hfp.out _ hj).1; omega)), Nat.le_trans Z2.out happ.turned.size⟩
            · obtain ⟨v1, v2⟩ := HPWn.out k (by rw [HP.out]; exact e)
              have e' : (p.kind == 3) = false := by simpa using e
              have Hv := hidp v1
              have Hpk := hidp v2
              clear v1 v2 e
              have hw3 := hw1
              have hown4 := ho1.turned ((Turned.refl [] wr).alloc (.cells #[.int .i64 0] 3)) (by simp)
              have S2' := Lies.newCells' wr [.int .i64 0] 3
              have S2 := hidp S2'
              clear S2'
              have Z2 : Hid (w9.heap.size + 1 ≤ (wr.alloc (.cells #[.int .i64 0] 3)).heap.size) := hidp (Nat.le_trans hz1 (by simp))
              have sc4 := sc1.keep (Keeps.alloc _ (.cells #[.int .i64 0] 3))
              have tb4 := tb.keep (Keeps.alloc _ (.cells #[.int .i64 0] 3))
              have hw4 := hw3.alloc hw3.size (.cells #[.int .i64 0] 3)
              have O2 := hidp (ints_one 0)
              have Hfp := hidp (own_fp hown4.own)
              go_wp2_with (at_builtin; refine wpList_app2 _ rfl (.tmp 65) (.tmp 67) 22 rfl (w9.heap.size + 1) 3 i0 _ 1 8 Tryz.underlying22 hi0 hy0 hy1 hy2 rfl (by decide) A k c _ rfl hown4.own _ _ 1 1 [.int .i64 0] rfl (by simp) rfl S2.out O2.out N2.out T2.out Z2.out ?_; intro A' c' w5 happ)
              go_roundg (gk - 1)
              case measure => omega
              case rel => exact ⟨k + 1, c', A', by omega, by go_num, rfl, hidp (fun j hj => by
                  by_cases ej : j = k
                  · subst ej; exact Hpk.out
                  · exact Hk.out j (by omega)), by rw [range_snoc, Hv.out]; exact hown4.app (ps := [0]) happ rfl, tb4.turned happ.turned (fun hf => by have := (Hfp.out _ hf).1; omega), sc4.turned happ.turned (fun hf => by have := (Hfp.out _ hf).1; omega), hw4.trans (happ.turned.below hw4.size (fun j hj => by have := (Hfp.out _ hj).1; omega)), Nat.le_trans Z2.out happ.turned.size⟩
          · obtain rfl : k = parts.length := by omega
            obtain ⟨f1, f2⟩ := Hyes.out Hk.out
            have F1 := hidp f1
            have F2 := hidp f2
            have Hfn := hidp (own_fp ho.own)
            have hrow := ho.ok (fun x hx => by obtain ⟨j, _, rfl⟩ := List.mem_map.1 hx; have := HWb.out j; unfold I64; omega)
            have Hr := hidp hrow
            clear f1 f2 hrow
            go_wp2
            try rw [Exit.noGoto_ret]
            go_ret2
            exact RowN.eq ⟨A, c, by simp, Hr.out, hw, fun k hk => by have := (Hfn.out k hk).1; omega⟩ F2.out.symm F1.out.symm
  · have e : thereB s of = false := by simpa using e
    obtain ⟨k1, k2⟩ := waits_no (bs := bs) e
    have Hth := hidp e
    have F1 := hidp k1
    have F2 := hidp k2
    clear e k1 k2 hs hB
    go_enter Tryz.func19, Tryz.ntmps19
    go_wp2_with fail
    refine (rthere_any _ _ _ H).mono ?_
    rintro e w2 ⟨rfl, hb2⟩
    replace hb := hb.trans (hb2.mono hb.size)
    replace sc := sc.keep (Keeps.of_below hb2)
    clear hb2
    rw [Hth.out]
    go_wp2
    go_ret2
    exact RowN.eq ⟨none, 0, rfl, nil_ints _, hb, by simp [fp]⟩ F2.out.symm F1.out.symm

end Go.Proofs.YtlbaohefappfoaaGreat

namespace Go.Proofs.YtlbaohefappfoaaGreat
open Go.ChangeShapes Go.WideShapes Go.ChangeAt Go.RowKit
set_option linter.unusedVariables false
set_option linter.unusedSimpArgs false

set_option maxHeartbeats 8000000 in
set_option maxRecDepth 100000 in
theorem ranalyze_any (s : SetR) (w : World) (hs : SetOk w s) : Calls Tryz.prog 7 #[.agg #[.int .i64 s.proto, .slice s.ca s.cores.length s.cc, .slice s.ha s.homes.length s.hc, .slice s.ta s.tasks.length s.tc]] w (AnPost w s) := by
  have hb := ((Below.refl w.heap.size w).alloc (Nat.le_refl _) (.cells #[.int .i64 s.proto, .slice s.ca s.cores.length s.cc, .slice s.ha s.homes.length s.hc, .slice s.ta s.tasks.length s.tc] 25)).alloc (by simp) (.cells #[.bool false, .slice none 0 0, .slice none 0 0] 30)
  have sc := (SetCells.new w s 25).keep (Keeps.alloc _ (.cells #[.bool false, .slice none 0 0, .slice none 0 0] 30))
  have bk := Bk.at_ (w := w.alloc (.cells #[.int .i64 s.proto, .slice s.ca s.cores.length s.cc, .slice s.ha s.homes.length s.hc, .slice s.ta s.tasks.length s.tc] 25)) (g := w.heap.size + 1) (t := 30) (cs := #[.bool false, .slice none 0 0, .slice none 0 0]) (by simp) rfl
  have hz0 : w.heap.size + 2 ≤ ((w.alloc (.cells #[.int .i64 s.proto, .slice s.ca s.cores.length s.cc, .slice s.ha s.homes.length s.hc, .slice s.ta s.tasks.length s.tc] 25)).alloc (.cells #[.bool false, .slice none 0 0, .slice none 0 0] 30)).heap.size := by simp
  have H := hs.keep (Keeps.of_below hb)
  have l3 : s.tasks.length ≤ maxLen := Nat.le_trans hs.tasks.sl.2.1 hs.tasks.sl.2.2
  unfold maxLen at l3
  obtain ⟨at0, Hat⟩ : ∃ x, Hid (chkAt s = x) := ⟨_, hidp rfl⟩
  obtain ⟨ce, Hce⟩ : ∃ x, Hid (chkE s = x) := ⟨_, hidp rfl⟩
  have HC := rcheck_any s _ H
  rw [Hat.out, Hce.out] at HC
  by_cases e : chkE s = 0
  · have ho := (okS_chk s).2 e
    have Ho := hidp ho
    have e1 : (ce != 0) = false := by rw [← Hce.out]; simpa using e
    have hg := Good.of ho
    have n6 := hg.ntasks.2
    obtain ⟨L, HL⟩ : ∃ l, Hid ((settle s).1 = l) := ⟨_, hidp rfl⟩
    obtain ⟨se, Hse⟩ : ∃ l, Hid ((settle s).2 = l) := ⟨_, hidp rfl⟩
    have HanE : Hid (anE s = se) := hidp (by unfold anE; rw [if_pos e, Hse.out])
    have HP : Hid (setL s 200 (soonL s) = (L, se)) := hidp (by rw [← HL.out, ← Hse.out]; rfl)
    have HS1 := hidp (fun u (h : Below w.heap.size w u) => hs.keep (Keeps.of_below h))
    have HR := hidp hs.tasks.at_
    have Hok := hidp hs.tasks.ok
    have HG := hidp hg.parts
    have HF := hidp (soonL_ok ho)
    obtain ⟨f, Hf⟩ : ∃ f : Nat → Int, Hid (∀ k, allK (s.tasks.getD k default).parts = f k) := ⟨fun k => allK (s.tasks.getD k default).parts, hidp (fun _ => rfl)⟩
    have Hso : Hid (soonL s = (List.range s.tasks.length).map f) := hidp (by
      unfold soonL
      apply List.ext_getElem
      · simp
      · intro i h1 h2
        have hi : i < s.tasks.length := by simpa using h1
        have := Hf.out i
        simp [List.getD, hi] at this
        simpa using this)
    have HrL : Hid (∀ bs, bs.length = s.tasks.length → (turnB s bs = (roundB s bs && decide (nextRow s bs ≠ bs)))) := hidp (fun bs hl => by
      unfold turnB
      by_cases h : nextRow s bs = bs
      · rw [(rest_iff hl).2 h, decide_eq_false (fun x => x h)]; rfl
      · have : upTo (eqB s bs) s.tasks.length = false := by rw [Bool.eq_false_iff]; exact fun x => h ((rest_iff hl).1 x)
        rw [this, decide_eq_true h]; rfl)
    obtain ⟨i0, hi0, hy0, hy1, hy2⟩ := info_parts infoZ
    obtain ⟨i1, hj0, hx0, hx1, hx2⟩ := info_parts infoI
    obtain ⟨S, HSS⟩ : ∃ S : SetR, Hid (S = s) := ⟨s, hidp rfl⟩
    rw [Hso.out] at HF
    have HRND := hidp (fun (bs : List Int) (ba : Option Addr) (bc : Nat) (u : World) (h : Below w.heap.size w u) (hB : IntsOk u ba bc bs) (hl : bs.length = s.tasks.length) => rround_any s bs ba bc u (HS1.out u h) hB n6 hl)
    have HWT := hidp (fun (bs : List Int) (ba : Option Addr) (bc : Nat) (of : Int) (u : World) (h : Below w.heap.size w u) (hB : IntsOk u ba bc bs) => rwaitsN_any s bs ba bc of u (HS1.out u h) hB)
    have HAB : Hid (se = 0 → anB s = L ∧ anW s = (List.range s.tasks.length).map (fun i : Nat => waitsL s L i)) := hidp (fun h0 => ⟨by unfold anB; rw [HanE.out, if_pos h0, HL.out], by unfold anW; rw [HanE.out, if_pos h0, HL.out]⟩)
    have HNO : Hid (se ≠ 0 → anB s = [] ∧ anW s = [] ∧ decide (anE s = 0) = false) := hidp (fun h0 => ⟨by unfold anB; rw [HanE.out, if_neg h0], by unfold anW; rw [HanE.out, if_neg h0], by rw [HanE.out]; simpa using h0⟩)
    clear hs ho e hg
    go_enter Tryz.func7, Tryz.ntmps7
    go_wp2_with fail
    refine HC.mono ?_
    rintro e w2 ⟨rfl, hb2⟩
    replace hb := hb.trans (hb2.mono hb.size)
    replace sc := sc.keep (Keeps.of_below hb2)
    replace bk := bk.below hb2
    replace hz0 := Nat.le_trans hz0 hb2.size
    clear hb2 HC H
    obtain ⟨sc_0, sc_1, sc_2, sc_3⟩ := id sc
    go_wp2_with fail
    clear sc_0 sc_1 sc_2 sc_3 e1
    go_loopg [6, 7] s.tasks.length (fun gg a i wr => ∃ (k c : Nat) (A : Option Addr), k + gg = s.tasks.length ∧ i = .int .i64 k ∧ a = .slice A k c ∧ OwnN (w.heap.size + 2) wr A k c ((List.range k).map f) ∧ SetCells wr w.heap.size s ∧ Bk wr (w.heap.size + 1) 30 #[.bool false, .slice none 0 0, .slice none 0 0] ∧ Below w.heap.size w wr ∧ w.heap.size + 2 ≤ wr.heap.size)
    case atStart => exact ⟨0, 0, none, by omega, rfl, rfl, OwnN.none _ _, sc, bk, hb, hz0⟩
    case round =>
      clear hb sc bk hz0
      obtain ⟨k, c, A, hk, rfl, rfl, ho, sc, bk, hw, hz⟩ := hrel
      obtain ⟨sc_0, sc_1, sc_2, sc_3⟩ := id sc
      by_cases hlt : k < s.tasks.length
      · obtain ⟨t, HT⟩ : ∃ t, Hid (s.tasks.getD k default = t) := ⟨_, rfl⟩
        have hm : t ∈ s.tasks := HT.out ▸ getD_mem hlt
        obtain ⟨g, off, hA, hcl⟩ := HR.out.resolve_left (by intro e; rw [e] at hlt; simp at hlt)
        rw [hA] at sc_3
        obtain ⟨d0, d1, d2, d3, d4, d5⟩ := (HT.out ▸ hcl k hlt).keep (Keeps.of_below hw)
        have HA := hidp hA
        have tb := TaskBox.new wr t 44
        have TL : Hid (∀ u, Below w.heap.size w u → TaskLen u t) := hidp (fun u h => ⟨((HS1.out u h).tasks.ok t hm).at_, (HG.out t hm).lens, by have := (HG.out t hm).len; omega⟩)
        have Hfk : Hid (sumK 1 t.parts + sumK 2 t.parts + sumK 3 t.parts = f k) := hidp (by rw [← Hf.out, HT.out, allK_is (HG.out t hm).good])
        obtain ⟨x1, Hx1⟩ : ∃ x, Hid (sumK 1 t.parts = x) := ⟨_, rfl⟩
        obtain ⟨x2, Hx2⟩ : ∃ x, Hid (sumK 2 t.parts = x) := ⟨_, rfl⟩
        obtain ⟨x3, Hx3⟩ : ∃ x, Hid (sumK 3 t.parts = x) := ⟨_, rfl⟩
        have b1 := sumK_bd 1 (HG.out t hm).lens
        have b2 := sumK_bd 2 (HG.out t hm).lens
        have b3 := sumK_bd 3 (HG.out t hm).lens
        have bl := (HG.out t hm).len
        rw [Hx1.out] at b1
        rw [Hx2.out] at b2
        rw [Hx3.out] at b3
        have q1 : IntKind.i64.wrap (x1 + x2) = x1 + x2 := IntWalk.i64_in _ (by omega)
        have q2 : IntKind.i64.wrap (x1 + x2 + x3) = x1 + x2 + x3 := IntWalk.i64_in _ (by omega)
        obtain ⟨y, hy⟩ : ∃ y, x1 + x2 + x3 = y := ⟨_, rfl⟩
        have Hfy : Hid (f k = y) := hidp (by rw [← Hfk.out, Hx1.out, Hx2.out, Hx3.out, hy])
        have hw2 := (hw.alloc hw.size (.cells #[.string t.name, .int .i64 t.per, .int .i64 t.dl, .int .i64 t.prio, .int .i64 t.cl, .slice t.pa t.parts.length t.pc] 44)).drew
        have ho2 := ho.turned (((Turned.refl [] wr).alloc (.cells #[.string t.name, .int .i64 t.per, .int .i64 t.dl, .int .i64 t.prio, .int .i64 t.cl, .slice t.pa t.parts.length t.pc] 44)).drew) (by simp)
        have hz2 : w.heap.size + 2 ≤ (wr.alloc (.cells #[.string t.name, .int .i64 t.per, .int .i64 t.dl, .int .i64 t.prio, .int .i64 t.cl, .slice t.pa t.parts.length t.pc] 44)).drew.heap.size := Nat.le_trans hz (by simp)
        have sc2 := (sc.keep (Keeps.alloc wr (.cells #[.string t.name, .int .i64 t.per, .int .i64 t.dl, .int .i64 t.prio, .int .i64 t.cl, .slice t.pa t.parts.length t.pc] 44))).keep (Keeps.drew _)
        have bk2 := (bk.alloc (.cells #[.string t.name, .int .i64 t.per, .int .i64 t.dl, .int .i64 t.prio, .int .i64 t.cl, .slice t.pa t.parts.length t.pc] 44)).turned (Turned.refl [] _).drew (by simp)
        have hS := tb.keep (Keeps.drew _)
        have Hy := hidp hy
        have kI : (k : Int) < (s.tasks.length : Int) := by omega
        have hBs : w.heap.size + 2 ≤ wr.heap.size := hz
        have hfp := own_fp ho.own
        clear hcl hm ho hw hz sc bk b1 b2 b3 bl hy tb hA
        go_wp2_with fail
        clear d0 d1 d2 d3 d4 d5 sc_0 sc_1 sc_2 sc_3
        obtain ⟨B, hB⟩ : ∃ B, wr.heap.size = B := ⟨_, rfl⟩
        rw [hB] at hS hBs hfp ⊢
        have Hfp0 := hidp hfp
        clear hfp
        refine wp_region_held_drew (S := fun w' => w'.cell? ⟨B, 0, none⟩ = some (.string t.name) ∧ w'.cell? ⟨B, 1, none⟩ = some (.int .i64 t.per) ∧ w'.cell? ⟨B, 2, none⟩ = some (.int .i64 t.dl) ∧ w'.cell? ⟨B, 3, none⟩ = some (.int .i64 t.prio) ∧ w'.cell? ⟨B, 4, none⟩ = some (.int .i64 t.cl) ∧ w'.cell? ⟨B, 5, none⟩ = some (.slice t.pa t.parts.length t.pc)) (by kernel_rfl) ?_ (fun hHeld => ?_)
        · exact hS
        generalize (wr.alloc (.cells #[.string t.name, .int .i64 t.per, .int .i64 t.dl, .int .i64 t.prio, .int .i64 t.cl, .slice t.pa t.parts.length t.pc] 44)).drew = u1 at *
        clear hB
        refine wpAnyH_take (i := 0) (v := ?_) rfl (by kernel_rfl) (by kernel_rfl) (by kernel_rfl) (fun _ _ _ h => h) (Or.inl ⟨by rfl, ?_⟩) (by assumption) ?_
        rotate_left 1
        · ((intro w hSw; (try dsimp only at hSw); go_simp); (try with_reducible rfl))
        simp only [Act.put, List.setIfInBounds_toArray, List.set_cons_zero, List.set_cons_succ, List.getElem_toArray, List.getElem_cons_zero, List.getElem_cons_succ]
        refine wpAnyH_take (i := 1) (v := ?_) rfl (by kernel_rfl) (by kernel_rfl) (by kernel_rfl) (fun _ _ _ h => h) (Or.inl ⟨by rfl, ?_⟩) (by assumption) ?_
        rotate_left 1
        · ((intro w hSw; (try dsimp only at hSw); go_simp); (try with_reducible rfl))
        simp only [Act.put, List.setIfInBounds_toArray, List.set_cons_zero, List.set_cons_succ, List.getElem_toArray, List.getElem_cons_zero, List.getElem_cons_succ]
        refine wpAnyH_take (i := 3) (v := ?_) rfl (by kernel_rfl) (by kernel_rfl) (by kernel_rfl) (fun _ _ _ h => h) (Or.inl ⟨by rfl, ?_⟩) (by assumption) ?_
        rotate_left 1
        · ((intro w hSw; (try dsimp only at hSw); go_simp); (try with_reducible rfl))
        simp only [Act.put, List.setIfInBounds_toArray, List.set_cons_zero, List.set_cons_succ, List.getElem_toArray, List.getElem_cons_zero, List.getElem_cons_succ]
        refine wpAnyH_take (i := 6) (v := ?_) rfl (by kernel_rfl) (by kernel_rfl) (by kernel_rfl) (fun _ _ _ h => h) (Or.inl ⟨by rfl, ?_⟩) (by assumption) ?_
        rotate_left 1
        · ((intro w hSw; (try dsimp only at hSw); go_simp); (try with_reducible rfl))
        simp only [Act.put, List.setIfInBounds_toArray, List.set_cons_zero, List.set_cons_succ, List.getElem_toArray, List.getElem_cons_zero, List.getElem_cons_succ]
        refine wpAnyH_ready (rs := [2]) (by kernel_rfl) (by simp) ?_
        refine AllReadyH.cons rfl (fun K hK => ?_) AllReadyH.nil
        go_simp
        refine (rall_any t 1 u1 (TL.out _ hw2)).mono ?_
        rintro e u2 ⟨rfl, hb3⟩
        rw [Hx1.out]
        have k3 := Keeps.of_below hb3
        replace hS := And.intro (k3 _ _ hS.1) (And.intro (k3 _ _ hS.2.1) (And.intro (k3 _ _ hS.2.2.1) (And.intro (k3 _ _ hS.2.2.2.1) (And.intro (k3 _ _ hS.2.2.2.2.1) (k3 _ _ hS.2.2.2.2.2)))))
        replace sc2 := sc2.keep k3
        replace bk2 := bk2.below hb3
        replace ho2 := ho2.turned (Turned.of_below hb3 []) (by simp)
        replace hw2 := hw2.trans (hb3.mono hw2.size)
        replace hz2 := Nat.le_trans hz2 hb3.size
        clear hHeld hb3 k3
        go_wp2_with fail
        refine hK.out _ _ ?_ (fun hHeld => ?_)
        · exact hS
        clear hK K
        try simp only [Act.put, List.setIfInBounds_toArray, List.set_cons_zero, List.set_cons_succ, List.getElem_toArray, List.getElem_cons_zero, List.getElem_cons_succ]
        refine wpAnyH_ready (rs := [4]) (by kernel_rfl) (by simp) ?_
        refine AllReadyH.cons rfl (fun K hK => ?_) AllReadyH.nil
        go_simp
        refine (rall_any t 2 u2 (TL.out _ hw2)).mono ?_
        rintro e u3 ⟨rfl, hb3⟩
        rw [Hx2.out]
        have k3 := Keeps.of_below hb3
        replace hS := And.intro (k3 _ _ hS.1) (And.intro (k3 _ _ hS.2.1) (And.intro (k3 _ _ hS.2.2.1) (And.intro (k3 _ _ hS.2.2.2.1) (And.intro (k3 _ _ hS.2.2.2.2.1) (k3 _ _ hS.2.2.2.2.2)))))
        replace sc2 := sc2.keep k3
        replace bk2 := bk2.below hb3
        replace ho2 := ho2.turned (Turned.of_below hb3 []) (by simp)
        replace hw2 := hw2.trans (hb3.mono hw2.size)
        replace hz2 := Nat.le_trans hz2 hb3.size
        clear hHeld hb3 k3
        go_wp2_with fail
        refine hK.out _ _ ?_ (fun hHeld => ?_)
        · exact hS
        clear hK K
        try simp only [Act.put, List.setIfInBounds_toArray, List.set_cons_zero, List.set_cons_succ, List.getElem_toArray, List.getElem_cons_zero, List.getElem_cons_succ]
        refine wpAnyH_take (i := 5) (v := ?_) rfl (by kernel_rfl) (by kernel_rfl) (by kernel_rfl) (fun _ _ _ h => h) (Or.inl ⟨by rfl, ?_⟩) (by assumption) ?_
        rotate_left 1
        · ((intro w hSw; (try dsimp only at hSw); go_simp); (try with_reducible rfl))
        simp only [Act.put, List.setIfInBounds_toArray, List.set_cons_zero, List.set_cons_succ, List.getElem_toArray, List.getElem_cons_zero, List.getElem_cons_succ]
        refine wpAnyH_ready (rs := [7]) (by kernel_rfl) (by simp) ?_
        refine AllReadyH.cons rfl (fun K hK => ?_) AllReadyH.nil
        go_simp
        refine (rall_any t 3 u3 (TL.out _ hw2)).mono ?_
        rintro e u4 ⟨rfl, hb3⟩
        rw [Hx3.out]
        have k3 := Keeps.of_below hb3
        replace hS := And.intro (k3 _ _ hS.1) (And.intro (k3 _ _ hS.2.1) (And.intro (k3 _ _ hS.2.2.1) (And.intro (k3 _ _ hS.2.2.2.1) (And.intro (k3 _ _ hS.2.2.2.2.1) (k3 _ _ hS.2.2.2.2.2)))))
        replace sc2 := sc2.keep k3
        replace bk2 := bk2.below hb3
        replace ho2 := ho2.turned (Turned.of_below hb3 []) (by simp)
        replace hw2 := hw2.trans (hb3.mono hw2.size)
        replace hz2 := Nat.le_trans hz2 hb3.size
        clear hHeld hb3 k3
        go_wp2_with fail
        refine hK.out _ _ ?_ (fun hHeld => ?_)
        · exact hS
        clear hK K
        try simp only [Act.put, List.setIfInBounds_toArray, List.set_cons_zero, List.set_cons_succ, List.getElem_toArray, List.getElem_cons_zero, List.getElem_cons_succ]
        refine wpAnyH_take (i := 8) (v := ?_) rfl (by kernel_rfl) (by kernel_rfl) (by kernel_rfl) (fun _ _ _ h => h) (Or.inl ⟨by rfl, ?_⟩) (by assumption) ?_
        rotate_left 1
        · ((intro w hSw; (try dsimp only at hSw); go_simp); (try with_reducible rfl))
        simp only [Act.put, List.setIfInBounds_toArray, List.set_cons_zero, List.set_cons_succ, List.getElem_toArray, List.getElem_cons_zero, List.getElem_cons_succ]
        refine wpAnyH_ready (rs := [9]) (by kernel_rfl) (by simp) ?_
        refine AllReadyH.cons rfl (fun K hK => ?_) AllReadyH.nil
        go_simp
        have k4 := Keeps.alloc u4 (.cells #[.int .i64 (x1 + x2 + x3)] 3)
        have hS4 := And.intro (k4 _ _ hS.1) (And.intro (k4 _ _ hS.2.1) (And.intro (k4 _ _ hS.2.2.1) (And.intro (k4 _ _ hS.2.2.2.1) (And.intro (k4 _ _ hS.2.2.2.2.1) (k4 _ _ hS.2.2.2.2.2)))))
        have S2 := hidp (Lies.newCells' u4 [.int .i64 (x1 + x2 + x3)] 3)
        have sc4 := sc2.keep k4
        have bk4 := bk2.alloc (.cells #[.int .i64 (x1 + x2 + x3)] 3)
        have ho4 := ho2.turned ((Turned.refl [] u4).alloc (.cells #[.int .i64 (x1 + x2 + x3)] 3)) (by simp)
        have hw4 := hw2.alloc hw2.size (.cells #[.int .i64 (x1 + x2 + x3)] 3)
        have Z2 : Hid (w.heap.size + 2 ≤ (u4.alloc (.cells #[.int .i64 (x1 + x2 + x3)] 3)).heap.size) := hidp (Nat.le_trans hz2 (by simp))
        clear hHeld k4 sc2 bk2 ho2 hw2 hz2
        go_wp2_with fail
        refine hK.out _ _ ?_ (fun hHeld => ?_)
        · exact hS4
        clear hK K
        try simp only [Act.put, List.setIfInBounds_toArray, List.set_cons_zero, List.set_cons_succ, List.getElem_toArray, List.getElem_cons_zero, List.getElem_cons_succ]
        have O2 := hidp (ints_one (x1 + x2 + x3))
        have N2 : Hid (k + 1 ≤ maxLen) := hidp (by unfold maxLen; omega)
        have T2 : Hid ((k + 1) * 8 ≤ 140737488355328) := hidp (by omega)
        have Q2 : Hid ((some (⟨u4.heap.size, 0, none⟩ : Addr)) = none → 1 = 0 ∧ 1 = 0) := hidp (fun e => by cases e)
        refine wpAnyH_ready (rs := [10]) (by kernel_rfl) (by simp) ?_
        refine AllReadyH.cons rfl (fun K hK => ?_) AllReadyH.nil
        refine step_app2 (u4.alloc (.cells #[.int .i64 (x1 + x2 + x3)] 3)) rfl (.tmp 38) (.tmp 47) 22 rfl (w.heap.size + 2) 3 i0 _ 1 8 Tryz.underlying22 hi0 hy0 hy1 hy2 rfl (by decide) A k c _ rfl ho4.own _ _ 1 1 [.int .i64 (x1 + x2 + x3)] rfl Q2.out rfl S2.out O2.out N2.out T2.out Z2.out ?_
        intro A' c' w5 happ
        have hFB : B ∉ fp A := fun hf => by have := (Hfp0.out _ hf).2; omega
        have hS5 := And.intro (happ.turned.cell hS4.1 hFB) (And.intro (happ.turned.cell hS4.2.1 hFB) (And.intro (happ.turned.cell hS4.2.2.1 hFB) (And.intro (happ.turned.cell hS4.2.2.2.1 hFB) (And.intro (happ.turned.cell hS4.2.2.2.2.1 hFB) (happ.turned.cell hS4.2.2.2.2.2 hFB)))))
        have sc5 := sc4.turned happ.turned (fun hf => by have := (Hfp0.out _ hf).1; omega)
        have bk5 := bk4.turned happ.turned (fun hf => by have := (Hfp0.out _ hf).1; omega)
        have hw5 := hw4.trans (happ.turned.below hw4.size (fun j hj => by have := (Hfp0.out _ hj).1; omega))
        have hz5 := Nat.le_trans Z2.out happ.turned.size
        have ho5 := ho4.app (ps := [x1 + x2 + x3]) happ rfl
        clear hHeld hFB hS4 hS sc4 bk4 ho4 hw4 happ
        refine hK.out _ _ ?_ (fun hHeld => ?_)
        · exact hS5
        clear hK K
        try simp only [Act.put, List.setIfInBounds_toArray, List.set_cons_zero, List.set_cons_succ, List.getElem_toArray, List.getElem_cons_zero, List.getElem_cons_succ]
        refine wpAnyH_take (i := 11) (v := ?_) rfl (by kernel_rfl) (by kernel_rfl) (by kernel_rfl) (fun _ _ _ h => h) (Or.inl ⟨by rfl, ?_⟩) (by assumption) ?_
        rotate_left 1
        · ((intro w hSw; (try dsimp only at hSw); go_simp); (try with_reducible rfl))
        simp only [Act.put, List.setIfInBounds_toArray, List.set_cons_zero, List.set_cons_succ, List.getElem_toArray, List.getElem_cons_zero, List.getElem_cons_succ]
        refine wpAnyH_done (by kernel_rfl) ?_ _
        clear hHeld hS5 q1 q2
        go_wp2_with fail
        go_roundg (gk - 1)
        case measure => omega
        case rel => exact ⟨k + 1, c', A', by omega, by go_num, rfl, by rw [range_snoc, Hfy.out, ← Hy.out]; exact ho5, sc5, bk5, hw5, hz5⟩
      · have hkn : k = s.tasks.length := by omega
        subst hkn
        have hrow := ho.ok (fun x hx => by have := HF.out x hx; unfold I64; omega)
        obtain ⟨cur0, Hc0⟩ : ∃ l, Hid (soonL s = l) := ⟨_, hidp rfl⟩
        have Hl0 : Hid (cur0.length = s.tasks.length) := hidp (by rw [← Hc0.out, soonL_len])
        have Hst : Hid (setL s 200 cur0 = (L, se)) := hidp (by rw [← Hc0.out]; exact HP.out)
        rw [← Hso.out, Hc0.out] at hrow
        have hcI : (s.tasks.length : Int) ≤ 6 := by omega
        clear ho hk
        go_wp2_with fail
        clear sc_0 sc_1 sc_2 sc_3
        go_loopg [6, 9] 200 (fun gg a i w5 => ∃ (k c : Nat) (A : Option Addr) (cur : List Int), k + gg = 200 ∧ i = .int .i64 k ∧ a = .slice A s.tasks.length c ∧ Hid (cur.length = s.tasks.length) ∧ Hid (setL s gg cur = (L, se)) ∧ IntsOk w5 A c cur ∧ SetCells w5 w.heap.size s ∧ Bk w5 (w.heap.size + 1) 30 #[.bool false, .slice none 0 0, .slice none 0 0] ∧ Below w.heap.size w w5 ∧ w.heap.size + 1 < w5.heap.size)
        case atStart => exact ⟨0, c, A, cur0, by omega, rfl, rfl, Hl0, Hst, hrow, sc, bk, hw, by omega⟩
        case round =>
          clear hw sc bk hz hrow hlt
          obtain ⟨k, c, A, cur, hk, rfl, rfl, Hlen, Hs, hr, sc, bk, hb, hz0⟩ := hrel
          obtain ⟨sc_0, sc_1, sc_2, sc_3⟩ := id sc
          by_cases hlt : k < 200
          · obtain ⟨g, hg⟩ : ∃ g, gk = g + 1 := ⟨gk - 1, by omega⟩
            subst hg
            have HR := HRND.out cur A c _ hb hr Hlen.out
            rw [HrL.out cur Hlen.out] at HR
            by_cases e : roundB s cur = true
            · have el : roundL s cur = nextRow s cur := by unfold roundL; rw [if_pos e]
              have ee : errR s cur = 0 := by unfold errR; rw [if_pos e]
              rw [el, ee, e, Bool.true_and, Hlen.out] at HR
              have Hs2 : Hid ((if nextRow s cur = cur then (cur, 0) else setL s g (nextRow s cur)) = (L, se)) := hidp (by rw [← Hs.out, setL_succ, if_pos e])
              have Hnl := hidp (nextRow_len s cur)
              obtain ⟨nx, Hnx⟩ : ∃ l, Hid (nextRow s cur = l) := ⟨_, hidp rfl⟩
              rw [Hnx.out] at HR Hs2 Hnl
              clear e el ee
              by_cases e2 : nx = cur
              · rw [decide_eq_false (fun x => x e2)] at HR
                have hz : (cur, (0 : Int)) = (L, se) := by have := Hs2.out; rw [if_pos e2] at this; exact this
                have hLc : cur = L := congrArg Prod.fst hz
                have hse : se = 0 := (congrArg Prod.snd hz).symm
                subst hLc
                have HLL := hidp Hlen.out
                have HB := hidp (HAB.out hse).1
                have HW := hidp (HAB.out hse).2
                have Hes := hidp hse
                obtain ⟨wl, Hwl⟩ : ∃ f : Nat → List Int, Hid (∀ k : Nat, waitsL s cur k = f k) := ⟨fun k => waitsL s cur k, hidp (fun _ => rfl)⟩
                obtain ⟨wk, Hwk⟩ : ∃ f : Nat → Bool, Hid (∀ k : Nat, waitsK s cur k = f k) := ⟨fun k => waitsK s cur k, hidp (fun _ => rfl)⟩
                clear e2 hz hse
                go_wp2_with fail
                refine HR.mono ?_
                rintro e w4 ⟨C, d, rfl, hC, hb2⟩
                replace hb := hb.trans (hb2.mono hb.size)
                replace sc := sc.keep (Keeps.of_below hb2)
                replace bk := bk.below hb2
                replace hz0 := Nat.lt_of_lt_of_le hz0 hb2.size
                have hA := hr.keep (Keeps.of_below hb2)
                clear hb2 HR hr hC sc_0 sc_1 sc_2 sc_3
                have hB0 := (Below.refl w4.heap.size w4).alloc (Nat.le_refl _) (.cells #[.bool true, .slice A s.tasks.length c, .slice none 0 0] 30)
                have bv := Bk.new w4 30 #[.bool true, .slice A s.tasks.length c, .slice none 0 0]
                have hz1 : w4.heap.size + 1 ≤ (w4.alloc (.cells #[.bool true, .slice A s.tasks.length c, .slice none 0 0] 30)).heap.size := by simp
                have HA := hidp hA
                have HSC := hidp sc
                have HBK := hidp bk
                have HB4 := hidp hb
                have sc1 := sc.keep (Keeps.alloc w4 (.cells #[.bool true, .slice A s.tasks.length c, .slice none 0 0] 30))
                obtain ⟨sc_0, sc_1, sc_2, sc_3⟩ := id sc1
                have hz2 := hz0
                clear hA sc bk hb sc1 hz0
                go_wp2_with fail
                clear sc_0 sc_1 sc_2 sc_3
                go_loopg [14] s.tasks.length (fun gg i wr => ∃ (k d : Nat) (W : Option Addr) (rs : List RowR), k + gg = s.tasks.length ∧ i = .int .i64 k ∧ Hid (rs.map RowR.zs = (List.range k).map wl) ∧ OwnS (w4.heap.size + 1) wr W k d rs ∧ (∀ r ∈ rs, IntsOk wr r.a r.c r.zs) ∧ (∀ r ∈ rs, r.zs = [] ∨ ∀ x ∈ fp r.a, w4.heap.size + 1 ≤ x ∧ x < wr.heap.size ∧ x ∉ fp W) ∧ Bk wr w4.heap.size 30 #[.bool true, .slice A s.tasks.length c, .slice W k d] ∧ Below w4.heap.size w4 wr ∧ w4.heap.size + 1 ≤ wr.heap.size)
                case atStart => exact ⟨0, 0, none, [], by omega, rfl, hidp rfl, OwnS.none _ _, by simp, by simp, bv, hB0, hz1⟩
                case round =>
                  clear bv hB0 hz1
                  obtain ⟨k, d, W, rs, hk, rfl, Hm, oW, hro, hap, bv, hB, hz⟩ := hrel
                  have hw : Below w.heap.size w wr := HB4.out.trans (hB.mono HB4.out.size)
                  by_cases hlt : k < s.tasks.length
                  · have sc := HSC.out.keep (Keeps.of_below hB)
                    obtain ⟨sc_0, sc_1, sc_2, sc_3⟩ := id sc
                    obtain ⟨y0, y1, y2⟩ := Y3 bv
                    have HX := HWT.out cur A c k _ hw (HA.out.keep (Keeps.of_below hB))
                    rw [HLL.out] at HX
                    rw [Hwl.out, Hwk.out] at HX
                    obtain ⟨zs, Hzs⟩ : ∃ l, Hid (wl k = l) := ⟨_, hidp rfl⟩
                    obtain ⟨zk, Hzk⟩ : ∃ l, Hid (wk k = l) := ⟨_, hidp rfl⟩
                    rw [Hzs.out, Hzk.out] at HX
                    have Hrs : Hid (rs.length = k) := hidp oW.len.symm
                    go_wp2_with fail
                    refine HX.mono ?_
                    rintro e w5 ⟨a', c', rfl, hR, hb3, hfr⟩
                    have hF : ∀ x ∈ fp a', x ∉ fp W := fun x hx hx2 => by have := hfr x hx; have := (own_fp oW.own x hx2).2; omega
                    have hlt5 : ∀ x ∈ fp a', zs ≠ [] → x < w5.heap.size := fun x hx hz => by
                      rcases hR.at_ with e | ⟨b, off, e, hc⟩
                      · exact absurd e hz
                      · subst e; simp [fp] at hx; subst hx; exact cell_lt (hc 0 (List.length_pos_iff.2 hz))
                    have HR5 := hidp hR
                    have HF5 := hidp hF
                    have HL5 := hidp hlt5
                    have Hfr := hidp hfr
                    have hs5 := hb3.size
                    have oW6 := (oW.turned (Turned.of_below hb3 []) (by simp)).turned ((Turned.refl [] w5).alloc (.cells #[.slice a' zs.length c'] 22)) (by simp)
                    have S2 := hidp (Lies.newCells' w5 [.slice a' zs.length c'] 22)
                    have Z2 : Hid (w4.heap.size + 1 ≤ (w5.alloc (.cells #[.slice a' zs.length c'] 22)).heap.size) := hidp (Nat.le_trans hz (Nat.le_trans hs5 (by simp)))
                    have O2 := hidp (rows_one ⟨a', c', zs⟩)
                    have N2 : Hid (k + 1 ≤ maxLen) := hidp (by unfold maxLen; omega)
                    have T2 : Hid ((k + 1) * 24 ≤ 140737488355328) := hidp (by omega)
                    have Hfp := hidp (own_fp oW.own)
                    have bv5 := bv.below hb3
                    have bv6 := bv5.alloc (.cells #[.slice a' zs.length c'] 22)
                    have hB6 := (hB.trans (hb3.mono hB.size)).alloc (hB.trans (hb3.mono hB.size)).size (.cells #[.slice a' zs.length c'] 22)
                    have Hb3 := hidp hb3
                    clear y0 y1 y2 sc_0 sc_1 sc_2 sc_3 sc HX hR hF hlt5 hfr hb3 oW bv hB
                    obtain ⟨y0, y1, y2⟩ := Y3 bv5
                    go_wp2_with (at_builtin; refine wpList_app2 _ rfl (.tmp 82) (.tmp 84) 28 rfl (w4.heap.size + 1) 22 i1 _ 1 24 Tryz.underlying28 hj0 hx0 hx1 hx2 rfl (by decide) W k d _ rfl oW6.own _ _ 1 1 [.slice a' zs.length c'] rfl (by simp) rfl S2.out O2.out N2.out T2.out Z2.out ?_; intro W' d' w7 happ; have D7 := bv6.turned happ.turned (fun hf => by have := (Hfp.out _ hf).1; omega); obtain ⟨x0, x1, x2⟩ := Y3 D7; obtain ⟨f0, f1, f2⟩ := YF3 D7)
                    go_roundg (gk - 1)
                    case measure => omega
                    case rel =>
                      have TS := (Turned.refl [w4.heap.size] w7).setCell (p := ⟨w4.heap.size, 2, none⟩) (.inl (by simp)) (.slice W' (k + 1) d')
                      have hs7 := happ.turned.size
                      have hs6 : w5.heap.size + 1 = (w5.alloc (.cells #[.slice a' zs.length c'] 22)).heap.size := by simp
                      refine ⟨k + 1, d', W', rs ++ [⟨a', c', zs⟩], by omega, by go_num, hidp (by rw [List.map_append, Hm.out, List.range_succ, List.map_append]; simp [Hzs.out]), (oW6.app (ps := [⟨a', c', zs⟩]) happ rfl).turned TS (fun j hj => by
                        rcases happ.fps j hj with h | h
                        · have := (Hfp.out j h).1; simp; omega
                        · simp; omega), fun r hr => ?_, fun r hr => ?_, D7.put 2 (.slice W' (k + 1) d'), (hB6.trans (happ.turned.below hB6.size (fun j hj => by have := (Hfp.out j hj).1; omega))).trans (TS.below (Nat.le_trans hB6.size hs7) (by simp)), Nat.le_trans (Nat.le_trans Z2.out hs7) TS.size⟩
                      · rcases List.mem_append.1 hr with hm | hm
                        · refine (IntsOk.turned2 (((hro r hm).keep (Keeps.of_below Hb3.out)).keep (Keeps.alloc _ _)) happ.turned ?_).turned2 TS ?_
                          · rcases hap r hm with e | e
                            · exact .inl e
                            · exact .inr (fun j hj => (e j hj).2.2)
                          · rcases hap r hm with e | e
                            · exact .inl e
                            · exact .inr (fun j hj => by have := (e j hj).1; simp; omega)
                        · simp only [List.mem_cons, List.not_mem_nil, or_false] at hm
                          subst hm
                          refine (IntsOk.turned2 (HR5.out.keep (Keeps.alloc _ _)) happ.turned (.inr HF5.out)).turned2 TS (.inr (fun j hj => by have := Hfr.out j hj; simp; omega))
                      · rcases List.mem_append.1 hr with hm | hm
                        · rcases hap r hm with e | e
                          · exact .inl e
                          · refine .inr (fun x hx => ⟨(e x hx).1, ?_, fun hf => ?_⟩)
                            · have := (e x hx).2.1; have := TS.size; omega
                            · rcases happ.fps x hf with h | h
                              · exact (e x hx).2.2 h
                              · have := (e x hx).2.1; omega
                        · simp only [List.mem_cons, List.not_mem_nil, or_false] at hm
                          subst hm
                          by_cases ez : zs = []
                          · exact .inl ez
                          · refine .inr (fun x hx => ⟨by have := Hfr.out x hx; omega, ?_, fun hf => ?_⟩)
                            · have := HL5.out x hx ez; have := TS.size; omega
                            · rcases happ.fps x hf with h | h
                              · exact HF5.out x hx h
                              · have := HL5.out x hx ez; omega
                  · have hkn : k = s.tasks.length := by omega
                    have bkr := HBK.out.below hB
                    obtain ⟨y0, y1, y2⟩ := Y3 bv
                    obtain ⟨z0, z1, z2⟩ := Y3 bkr
                    obtain ⟨f0, f1, f2⟩ := YF3 bkr
                    have hkI : (k : Int) = (s.tasks.length : Int) := by omega
                    have hAr := HA.out.keep (Keeps.of_below hB)
                    have Hrl := hidp (oW.len)
                    have Hkn := hidp hkn
                    clear hkn hkI
                    go_wp2_with fail
                    have PB := v3_bk bkr (v0 := .bool true) (v1 := .slice A s.tasks.length c) (v2 := .slice W k d)
                    have PT := v3_turned wr (w.heap.size + 1) (.bool true) (.slice A s.tasks.length c) (.slice W k d)
                    obtain ⟨x0, x1, x2⟩ := Y3 PB
                    have hbe := hw.trans (PT.below hw.size (by simp))
                    refine bodyPost_ret (v := .tuple #[.agg #[.bool true, .slice A s.tasks.length c, .slice W k d], .int .i64 0]) (by simp [results, Tryz.results7, go_sem, x0, x1, x2]) rfl ⟨⟨⟨true, A, c, cur, W, d, rs⟩, ?_, ⟨hAr.other bkr (fun z h => by cases h) (fun z h => by cases h) (fun z h => by cases h) PT, ?_, ?_, fun r hr => (hro r hr).other bkr (fun z h => by cases h) (fun z h => by cases h) (fun z h => by cases h) PT⟩, ?_, HB.out.symm, ?_⟩, hbe⟩
                    · rw [HanE.out, Hes.out, ← Hrl.out, HLL.out]
                    · show SlOk W rs.length d
                      rw [← Hrl.out]; exact ⟨oW.nil, oW.cap⟩
                    · exact (oW.turned PT (fun j hj => by have := (own_fp oW.own j hj).1; simp; omega)).at_
                    · rw [HanE.out, Hes.out]; rfl
                    · rw [HW.out, Hm.out, Hkn.out]
                      exact (List.map_congr_left (fun i _ => Hwl.out i)).symm
              · rw [decide_eq_true e2] at HR
                have Hz : Hid (setL s g nx = (L, se)) := hidp (by have := Hs2.out; rw [if_neg e2] at this; exact this)
                clear e2
                go_wp2_with fail
                refine HR.mono ?_
                rintro e w4 ⟨C, d, rfl, hC, hb2⟩
                replace hb := hb.trans (hb2.mono hb.size)
                replace sc := sc.keep (Keeps.of_below hb2)
                replace bk := bk.below hb2
                replace hz0 := Nat.lt_of_lt_of_le hz0 hb2.size
                clear hb2 HR hr sc_0 sc_1 sc_2 sc_3
                rw [Hnl.out]
                go_wp2_with fail
                go_roundg g
                case measure => omega
                case rel => exact ⟨k + 1, d, C, nx, by omega, by go_num, rfl, Hnl, Hz, hC, sc, bk, hb, hz0⟩
            · have e' : roundB s cur = false := by simpa using e
              have el : roundL s cur = [] := by unfold roundL; rw [e']; rfl
              have ee : errR s cur = 19 := by unfold errR; rw [e']; rfl
              rw [el, ee, e', Bool.false_and, Hlen.out] at HR
              have hz : (([] : List Int), (19 : Int)) = (L, se) := by rw [← Hs.out, setL_succ, if_neg e]
              have hse : se = 19 := (congrArg Prod.snd hz).symm
              have hno := HNO.out (by omega)
              have HB := hidp hno.1
              have HW := hidp hno.2.1
              have Hok2 := hidp hno.2.2
              have Hes := hidp hse
              clear e e' el ee hz hse hno
              go_wp2_with fail
              refine HR.mono ?_
              rintro e w4 ⟨C, d, rfl, hC, hb2⟩
              replace hb := hb.trans (hb2.mono hb.size)
              replace bk := bk.below hb2
              obtain ⟨z0, z1, z2⟩ := Y3 bk
              obtain ⟨f0, f1, f2⟩ := YF3 bk
              clear hb2 HR hr hC sc_0 sc_1 sc_2 sc_3
              go_wp2_with fail
              have PB := v3_bk bk (v0 := .bool false) (v1 := .slice none 0 0) (v2 := .slice none 0 0)
              have PT := v3_turned w4 (w.heap.size + 1) (.bool false) (.slice none 0 0) (.slice none 0 0)
              obtain ⟨x0, x1, x2⟩ := Y3 PB
              have hbe := hb.trans (PT.below hb.size (by simp))
              exact bodyPost_ret (v := .tuple #[.agg #[.bool false, .slice none 0 0, .slice none 0 0], .int .i64 19]) (by simp [results, Tryz.results7, go_sem, x0, x1, x2]) rfl ⟨⟨⟨false, none, 0, [], none, 0, []⟩, by rw [HanE.out, Hes.out]; rfl, VerdOk.none _, Hok2.out.symm, HB.out.symm, HW.out.symm⟩, hbe⟩
          · have hg0 : gk = 0 := by omega
            subst hg0
            have hz : (cur, (20 : Int)) = (L, se) := by rw [← Hs.out]; rfl
            have hse : se = 20 := (congrArg Prod.snd hz).symm
            have hno := HNO.out (by omega)
            have HB := hidp hno.1
            have HW := hidp hno.2.1
            have Hok2 := hidp hno.2.2
            have Hes := hidp hse
            obtain ⟨z0, z1, z2⟩ := Y3 bk
            obtain ⟨f0, f1, f2⟩ := YF3 bk
            clear hz hse hno
            go_wp2_with fail
            have PB := v3_bk bk (v0 := .bool false) (v1 := .slice none 0 0) (v2 := .slice none 0 0)
            have PT := v3_turned wr (w.heap.size + 1) (.bool false) (.slice none 0 0) (.slice none 0 0)
            obtain ⟨x0, x1, x2⟩ := Y3 PB
            have hbe := hb.trans (PT.below hb.size (by simp))
            exact bodyPost_ret (v := .tuple #[.agg #[.bool false, .slice none 0 0, .slice none 0 0], .int .i64 20]) (by simp [results, Tryz.results7, go_sem, x0, x1, x2]) rfl ⟨⟨⟨false, none, 0, [], none, 0, []⟩, by rw [HanE.out, Hes.out]; rfl, VerdOk.none _, Hok2.out.symm, HB.out.symm, HW.out.symm⟩, hbe⟩
  · have e1 : (ce != 0) = true := by rw [← Hce.out]; simpa using e
    have HanE : Hid (anE s = ce) := hidp (by unfold anE; rw [if_neg e, Hce.out])
    have hne : ¬ anE s = 0 := by rw [HanE.out, ← Hce.out]; exact e
    have HB : Hid (anB s = []) := hidp (by unfold anB; rw [if_neg hne])
    have HW : Hid (anW s = []) := hidp (by unfold anW; rw [if_neg hne])
    have Hok : Hid (decide (anE s = 0) = false) := hidp (by simpa using hne)
    clear e hne
    go_enter Tryz.func7, Tryz.ntmps7
    go_wp2_with fail
    refine HC.mono ?_
    rintro e w2 ⟨rfl, hb2⟩
    replace hb := hb.trans (hb2.mono hb.size)
    replace bk := bk.below hb2
    obtain ⟨z0, z1, z2⟩ := Y3 bk
    obtain ⟨f0, f1, f2⟩ := YF3 bk
    clear hb2 HC
    go_wp2_with fail
    have PB := v3_bk bk (v0 := .bool false) (v1 := .slice none 0 0) (v2 := .slice none 0 0)
    have PT := v3_turned w2 (w.heap.size + 1) (.bool false) (.slice none 0 0) (.slice none 0 0)
    obtain ⟨x0, x1, x2⟩ := Y3 PB
    have hbe := hb.trans (PT.below hb.size (by simp))
    exact bodyPost_ret (v := .tuple #[.agg #[.bool false, .slice none 0 0, .slice none 0 0], .int .i64 ce]) (by simp [results, Tryz.results7, go_sem, x0, x1, x2]) rfl ⟨⟨⟨false, none, 0, [], none, 0, []⟩, by rw [HanE.out]; rfl, VerdOk.none _, Hok.out.symm, HB.out.symm, HW.out.symm⟩, hbe⟩
end Go.Proofs.YtlbaohefappfoaaGreat

namespace Go.Proofs.YtlbaohefappfoaaGreat
theorem an_lens (s : SetR) : (anB s).length ≤ 1000 ∧ ∀ l ∈ anW s, l.length ≤ 1000 := by
  by_cases h : anE s = 0
  · obtain ⟨_, _, _, lb⟩ := anB_rest h
    have n6 := (Good.of (anE_zero h).1).ntasks
    refine ⟨by omega, fun l hl => ?_⟩
    unfold anW at hl
    rw [if_pos h] at hl
    obtain ⟨i, _, rfl⟩ := List.mem_map.1 hl
    have := (waitsL_len s (settle s).1 i).1
    omega
  · refine ⟨by unfold anB; rw [if_neg h]; simp, fun l hl => ?_⟩
    unfold anW at hl
    rw [if_neg h] at hl
    simp at hl
end Go.Proofs.YtlbaohefappfoaaGreat
set_option maxHeartbeats 8000000
set_option maxRecDepth 100000
namespace Go.Proofs.YtlbaohefappfoaaGreat.admitTells
open Go.ChangeShapes Go.WideShapes Go.ChangeAt Go.RowKit
open Go.ChangeMaps (open_string shut_string)
set_option linter.unusedVariables false

/-- THE WALK: the Go text returns true, and writes nothing that was there. -/
theorem walk (s0 : SetR) (a1 : Option Addr) (len1 cap1 : Nat) (z1 : List Int) (w : World) (w0 : SetOk w s0) (w1 : IsRow .i64 w a1 len1 cap1 z1) :
    Calls Tryz.prog 3 #[.agg #[.int .i64 s0.proto, .slice s0.ca s0.cores.length s0.cc, .slice s0.ha s0.homes.length s0.hc, .slice s0.ta s0.tasks.length s0.tc], .slice a1 len1 cap1] w fun e w' => e = .returned (.bool true) ∧ Below w.heap.size w w' := by
  have hb := (Below.refl w.heap.size w).alloc (Nat.le_refl _) (.cells #[.int .i64 s0.proto, .slice s0.ca s0.cores.length s0.cc, .slice s0.ha s0.homes.length s0.hc, .slice s0.ta s0.tasks.length s0.tc] 25)
  have sc := SetCells.new w s0 25
  have hs := w0.keep (Keeps.of_below hb)
  obtain ⟨hB0, hBl⟩ := w1.ints
  obtain ⟨bs, hbs⟩ : ∃ bs, z1.take len1 = bs := ⟨_, rfl⟩
  rw [hbs] at hB0 hBl
  subst hBl
  have hB := hB0.keep (Keeps.of_below hb)
  have l4 : bs.length ≤ maxLen := Nat.le_trans hB0.sl.2.1 hB0.sl.2.2
  unfold maxLen at l4
  clear w0 w1 hB0 hbs
  obtain ⟨E, HE⟩ : ∃ E, Hid (anE s0 = E) := ⟨_, hidp rfl⟩
  obtain ⟨HV, HHV⟩ : ∃ b, Hid (holdsV s0 bs = b) := ⟨_, hidp rfl⟩
  have HLN := hidp (an_lens s0)
  go_enter Tryz.func3, Tryz.ntmps3
  go_wp2_with fail
  refine (known18_any _).mono ?_
  rintro e u1 ⟨rfl, hb2⟩
  replace hb := hb.trans (hb2.mono hb.size)
  replace sc := sc.keep (Keeps.of_below hb2)
  replace hs := hs.keep (Keeps.of_below hb2)
  replace hB := hB.keep (Keeps.of_below hb2)
  clear hb2
  try clear sc_0 sc_1 sc_2 sc_3
  have scx := sc
  obtain ⟨sc_0, sc_1, sc_2, sc_3⟩ := scx
  try dsimp only at sc_0 sc_1 sc_2 sc_3
  go_wp2_with fail
  refine (few18_any s0 _ hs).mono ?_
  rintro e u2 ⟨⟨b, rfl⟩, hb2⟩
  replace hb := hb.trans (hb2.mono hb.size)
  replace sc := sc.keep (Keeps.of_below hb2)
  replace hs := hs.keep (Keeps.of_below hb2)
  replace hB := hB.keep (Keeps.of_below hb2)
  clear hb2
  try clear sc_0 sc_1 sc_2 sc_3
  have scx := sc
  obtain ⟨sc_0, sc_1, sc_2, sc_3⟩ := scx
  try dsimp only at sc_0 sc_1 sc_2 sc_3
  cases b
  · go_wp2_with fail
    go_ret
    exact ⟨rfl, hb⟩
  · by_cases h10 : (10 : Int) < (bs.length : Int)
    · go_wp2_with fail
      go_ret
      exact ⟨rfl, hb⟩
    · go_wp2_with fail
      refine (analyze_any s0 _ hs).mono ?_
      rintro e u3 ⟨⟨v, rfl, hv, h1, h2, h3⟩, hb2⟩
      replace hb := hb.trans (hb2.mono hb.size)
      replace sc := sc.keep (Keeps.of_below hb2)
      replace hs := hs.keep (Keeps.of_below hb2)
      replace hB := hB.keep (Keeps.of_below hb2)
      clear hb2
      rw [HE.out] at h1 ⊢
      obtain ⟨ok, ba, bc, vs, wa, wc, rs⟩ := v
      try dsimp only at h1 h2 h3 hv ⊢
      have kv := Keeps.alloc u3 (.cells #[.bool ok, .slice ba vs.length bc, .slice wa rs.length wc] 30)
      have bv := Y3 (Bk.new u3 30 #[.bool ok, .slice ba vs.length bc, .slice wa rs.length wc])
      replace hb := hb.alloc hb.size (.cells #[.bool ok, .slice ba vs.length bc, .slice wa rs.length wc] 30)
      replace hv := hv.keep kv
      replace hs := hs.keep kv
      replace sc := sc.keep kv
      replace hB := hB.keep kv
      clear kv sc_0 sc_1 sc_2 sc_3
      obtain ⟨sc_0, sc_1, sc_2, sc_3⟩ := id sc
      have H1 := hidp h1
      have H2 := hidp h2
      have H3 := hidp h3
      clear h1 h2 h3
      go_wp2_with fail
      refine (ranalyze_any s0 _ hs).mono ?_
      rintro e u4 ⟨⟨v2, rfl, hv2, h1, h2, h3⟩, hb2⟩
      replace hb := hb.trans (hb2.mono hb.size)
      replace sc := sc.keep (Keeps.of_below hb2)
      replace hs := hs.keep (Keeps.of_below hb2)
      replace hB := hB.keep (Keeps.of_below hb2)
      replace hv := hv.keep (Keeps.of_below hb2)
      replace bv := And.intro (Keeps.of_below hb2 _ _ bv.1) (And.intro (Keeps.of_below hb2 _ _ bv.2.1) (Keeps.of_below hb2 _ _ bv.2.2))
      clear hb2
      rw [HE.out] at h1 ⊢
      obtain ⟨ok2, ba2, bc2, vs2, wa2, wc2, rs2⟩ := v2
      try dsimp only at h1 h2 h3 hv2 ⊢
      have kv := Keeps.alloc u4 (.cells #[.bool ok2, .slice ba2 vs2.length bc2, .slice wa2 rs2.length wc2] 30)
      have bu := Y3 (Bk.new u4 30 #[.bool ok2, .slice ba2 vs2.length bc2, .slice wa2 rs2.length wc2])
      replace hb := hb.alloc hb.size (.cells #[.bool ok2, .slice ba2 vs2.length bc2, .slice wa2 rs2.length wc2] 30)
      have kd := Keeps.drew (u4.alloc (.cells #[.bool ok2, .slice ba2 vs2.length bc2, .slice wa2 rs2.length wc2] 30))
      have V' := (hv.keep kv).keep kd
      have U' := (hv2.keep kv).keep kd
      have H' := (hs.keep kv).keep kd
      have B' := (hB.keep kv).keep kd
      have sd := (sc.keep kv).keep kd
      replace bv := And.intro (kd _ _ (kv _ _ bv.1)) (And.intro (kd _ _ (kv _ _ bv.2.1)) (kd _ _ (kv _ _ bv.2.2)))
      replace bu := And.intro (kd _ _ bu.1) (And.intro (kd _ _ bu.2.1) (kd _ _ bu.2.2))
      have S' := And.intro sd.1 (And.intro sd.2.1 (And.intro sd.2.2.1 (And.intro sd.2.2.2 (And.intro bv.1 (And.intro bv.2.1 (And.intro bv.2.2 (And.intro bu.1 (And.intro bu.2.1 bu.2.2))))))))
      replace hb := hb.drew
      have hEE : (E == E) = true := by simp
      have HS : Hid (∀ u, VerdOk u ⟨ok, ba, bc, vs, wa, wc, rs⟩ → VerdOk u ⟨ok2, ba2, bc2, vs2, wa2, wc2, rs2⟩ → Calls Tryz.prog 8 #[.agg #[.bool ok, .slice ba vs.length bc, .slice wa rs.length wc], .agg #[.bool ok2, .slice ba2 vs2.length bc2, .slice wa2 rs2.length wc2]] u fun e w' => e = .returned (.bool true) ∧ Below u.heap.size u w') := hidp (fun u a b => vsame_yes ⟨ok, ba, bc, vs, wa, wc, rs⟩ ⟨ok2, ba2, bc2, vs2, wa2, wc2, rs2⟩ u a b (by rw [H1.out, h1]) (by rw [H2.out, h2]) (by rw [H3.out, h3]) (by rw [H2.out]; exact HLN.out.1) (fun r hr => HLN.out.2 _ (by rw [← H3.out]; exact List.mem_map_of_mem (f := RowR.zs) hr)))
      clear sc_0 sc_1 sc_2 sc_3 sc hs hB hv hv2 bv bu kv kd sd h10 l4 h1 h2 h3
      go_wp2_with fail
      go_region_held3 (fun w' => w'.cell? ⟨w.heap.size, 0, none⟩ = some (.int .i64 s0.proto) ∧ w'.cell? ⟨w.heap.size, 1, none⟩ = some (.slice s0.ca s0.cores.length s0.cc) ∧ w'.cell? ⟨w.heap.size, 2, none⟩ = some (.slice s0.ha s0.homes.length s0.hc) ∧ w'.cell? ⟨w.heap.size, 3, none⟩ = some (.slice s0.ta s0.tasks.length s0.tc) ∧ w'.cell? ⟨u3.heap.size, 0, none⟩ = some (.bool ok) ∧ w'.cell? ⟨u3.heap.size, 1, none⟩ = some (.slice ba vs.length bc) ∧ w'.cell? ⟨u3.heap.size, 2, none⟩ = some (.slice wa rs.length wc) ∧ w'.cell? ⟨u4.heap.size, 0, none⟩ = some (.bool ok2) ∧ w'.cell? ⟨u4.heap.size, 1, none⟩ = some (.slice ba2 vs2.length bc2) ∧ w'.cell? ⟨u4.heap.size, 2, none⟩ = some (.slice wa2 rs2.length wc2)) (exact S')
        (first
          | (go_at_call 8; refine (HS.out _ V' U').mono ?_; rintro e u ⟨rfl, hb3⟩; have S' := And.intro (Keeps.of_below hb3 _ _ S'.1) (And.intro (Keeps.of_below hb3 _ _ S'.2.1) (And.intro (Keeps.of_below hb3 _ _ S'.2.2.1) (And.intro (Keeps.of_below hb3 _ _ S'.2.2.2.1) (And.intro (Keeps.of_below hb3 _ _ S'.2.2.2.2.1) (And.intro (Keeps.of_below hb3 _ _ S'.2.2.2.2.2.1) (And.intro (Keeps.of_below hb3 _ _ S'.2.2.2.2.2.2.1) (And.intro (Keeps.of_below hb3 _ _ S'.2.2.2.2.2.2.2.1) (And.intro (Keeps.of_below hb3 _ _ S'.2.2.2.2.2.2.2.2.1) (Keeps.of_below hb3 _ _ S'.2.2.2.2.2.2.2.2.2))))))))); have H' := H'.keep (Keeps.of_below hb3); have B' := B'.keep (Keeps.of_below hb3); have hb := hb.trans (hb3.mono hb.size))
          | (go_at_call 9; refine (holds_any s0 bs a1 cap1 _ H' B').mono ?_; rintro e u ⟨rfl, hb3⟩; have S' := And.intro (Keeps.of_below hb3 _ _ S'.1) (And.intro (Keeps.of_below hb3 _ _ S'.2.1) (And.intro (Keeps.of_below hb3 _ _ S'.2.2.1) (And.intro (Keeps.of_below hb3 _ _ S'.2.2.2.1) (And.intro (Keeps.of_below hb3 _ _ S'.2.2.2.2.1) (And.intro (Keeps.of_below hb3 _ _ S'.2.2.2.2.2.1) (And.intro (Keeps.of_below hb3 _ _ S'.2.2.2.2.2.2.1) (And.intro (Keeps.of_below hb3 _ _ S'.2.2.2.2.2.2.2.1) (And.intro (Keeps.of_below hb3 _ _ S'.2.2.2.2.2.2.2.2.1) (Keeps.of_below hb3 _ _ S'.2.2.2.2.2.2.2.2.2))))))))); have H' := H'.keep (Keeps.of_below hb3); have B' := B'.keep (Keeps.of_below hb3); have hb := hb.trans (hb3.mono hb.size); rw [HHV.out])
          | (go_at_call 10; refine (rholds_any s0 bs a1 cap1 _ H' B').mono ?_; rintro e u ⟨rfl, hb3⟩; have S' := And.intro (Keeps.of_below hb3 _ _ S'.1) (And.intro (Keeps.of_below hb3 _ _ S'.2.1) (And.intro (Keeps.of_below hb3 _ _ S'.2.2.1) (And.intro (Keeps.of_below hb3 _ _ S'.2.2.2.1) (And.intro (Keeps.of_below hb3 _ _ S'.2.2.2.2.1) (And.intro (Keeps.of_below hb3 _ _ S'.2.2.2.2.2.1) (And.intro (Keeps.of_below hb3 _ _ S'.2.2.2.2.2.2.1) (And.intro (Keeps.of_below hb3 _ _ S'.2.2.2.2.2.2.2.1) (And.intro (Keeps.of_below hb3 _ _ S'.2.2.2.2.2.2.2.2.1) (Keeps.of_below hb3 _ _ S'.2.2.2.2.2.2.2.2.2))))))))); have H' := H'.keep (Keeps.of_below hb3); have B' := B'.keep (Keeps.of_below hb3); have hb := hb.trans (hb3.mono hb.size); rw [HHV.out]))
      go_wp2_with fail
      go_ret
      exact ⟨rfl, hb⟩

theorem own : ownKnob Tryz.prog.godebug = none := by kernel_rfl
theorem laidOut : laidOutB Tryz.prog = true := by kernel_rfl

/-! THE ROW's STEP -/
set_option maxRecDepth 100000 in
theorem lifted (os : Os) (started : os.Started) (H : Type) (enc : TypeId × Value → H) :
    ReturnsInHanded {} Tryz.checked os 3 .any (Rows.admitTellsSpec.pre6 enc Tryz.prog Tryz.f3 Rows.admitTellsRow.domain false) (Rows.admitTellsSpec.post enc Tryz.prog Tryz.f3 false true false false) := by
  refine returnsInHanded_of_change (C := Tryz.checked) own started (by kernel_rfl) Tryz.func3
    (ChangeSpec.witness6 (enc := enc) (C := Tryz.checked) false ⟨#[], #[.agg #[.int .i64 0, .slice none 0 0, .slice none 0 0, .slice none 0 0], .slice none 0 0], []⟩ 8 (by kernel_rfl) (by kernel_rfl) (by kernel_rfl) (by kernel_rfl)) ?_
  intro W base args ds gs before hval0 hW hcnd _
  have hval : ∀ (j : Nat) t v, Tryz.f3.params[j]? = some t → args[j]? = some v → Value.okWide Tryz.prog W .any base t v := hval0
  have hW' := hW
  obtain ⟨p, q, hA0, hV, rfl, hfz, hnd⟩ := hW
  have hA : DataW.TrodAll enc Tryz.prog W 0 (fun _ => true) true Tryz.f3.params.toList args.toList ds p := hA0
  rw [Tryz.params3] at hA hval
  obtain ⟨v0, vs0, d0, ds0, p0, q0, hargs, rfl, rfl, h0, r0⟩ := trodAll_cons hA
  obtain ⟨v1, vs1, d1, ds1, p1, q1, rfl, rfl, rfl, h1, r1⟩ := trodAll_cons r0
  obtain ⟨rfl, rfl, rfl⟩ := trodAll_nil r1
  obtain rfl : args = #[v0, v1] := by cases args; simp_all
  obtain ⟨rfl, rfl⟩ := trodVars_none hV
  have k0 := h0
  have lt0 : ∀ x ∈ p0, x.block < W.heap.size := by obtain ⟨m, hm⟩ := k0; exact DataW.trod_lt m _ _ _ hm
  obtain ⟨s0, w0, rfl⟩ := setTypes.arg_set (hval 0 25 v0 rfl rfl) h0
  obtain ⟨a1, len1, cap1, rfl⟩ := okWide_slice Tryz.underlying22 (hval 1 22 v1 rfl rfl)
  have k1 := h1
  have lt1 : ∀ x ∈ p1, x.block < W.heap.size := by obtain ⟨m, hm⟩ := k1; exact DataW.trod_lt m _ _ _ hm
  obtain ⟨z1, w1⟩ : ∃ zs, IsRow .i64 W a1 len1 cap1 zs := by
    obtain ⟨fuel, hf⟩ := h1
    rcases open_ints Tryz.underlying22 Tryz.underlying3 (by kernel_rfl) hf with ⟨hcs, _⟩ | ⟨x, l, c, zs, hcs, _, hl, hm, hz, _, hcell, hwz⟩
    · simp [Value.cells] at hcs
      obtain ⟨rfl, rfl, rfl⟩ := hcs
      exact ⟨[], .inl ⟨rfl, rfl, rfl, rfl⟩⟩
    · simp [Value.cells] at hcs
      obtain ⟨rfl, rfl, rfl⟩ := hcs
      exact ⟨zs, .inr ⟨_, rfl, hl, hm, by simpa using hz, hcell, hwz⟩⟩
  clear hA0 hval0
  refine (walk s0 a1 len1 cap1 z1 W w0 w1).mono fun e W' ⟨he, bel⟩ => ?_
  subst he
  exact ⟨_, rfl, _, _, _, [], _, [], hW', trodAll_mk1 (shut_bool Tryz.underlying4 _), (trodAll_cons_mk (Below.trod laidOut (by kernel_rfl) (of_decide_eq_true (by kernel_rfl)) k0 bel lt0) (trodAll_cons_mk (Below.trod laidOut (by kernel_rfl) (of_decide_eq_true (by kernel_rfl)) k1 bel lt1) trodAll_mk0)), rfl, bel.frame _, fun h => by cases h⟩

theorem over : Rows.admitTellsRow.holds Tryz.pinned (OpenSpec.ofChange Rows.admitTellsSpec) :=
  OpenClaim.holds_of_wide 3 Tryz.f3 rfl rfl rfl rfl rfl rfl rfl ⟨rfl, rfl, rfl, rfl, rfl⟩ rfl rfl rfl rfl rfl (by kernel_rfl) Tryz.func3 (by kernel_rfl)
    (of_decide_eq_true (by kernel_rfl)) (by unfold Func.isWrapper; first | (rw [if_pos (by decide +kernel)]; kernel_rfl) | (rw [if_neg (by decide +kernel)]; exact ⟨rfl, rfl⟩))
    (fun os started H enc _ => lifted os started H enc)

/-- THE STATEMENT -/
theorem proved : Rows.AdmitTellsSaid := over
#print axioms proved
end Go.Proofs.YtlbaohefappfoaaGreat.admitTells

