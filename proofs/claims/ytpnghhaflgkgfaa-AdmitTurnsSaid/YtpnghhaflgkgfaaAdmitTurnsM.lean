/- AdmitTurns: however its tasks stand the verdict on a set is the same, task by task. No condition. -/
import Derived.Test.YtpnghhaflgkgfaaWaitNums
import Derived.Test.YtpnghhaflgkgfaaOwnPut
import Derived.Test.YtpnghhaflgkgfaaLit
import Derived.Test.YtpnghhaflgkgfaaBoundNums
import Derived.Deep.DeepCutAuto
import Derived.Deep.CutRange
import Derived.BigRegion
import Derived.Deep.RegionHeld3
import Derived.Test.YtpnghhaflgkgfaaTask5
import Derived.Test.YtpnghhaflgkgfaaAdmitNums
import Derived.Test.YtpnghhaflgkgfaaSound
import Derived.Test.YtpnghhaflgkgfaaDemandNums
import Derived.Test.YtpnghhaflgkgfaaTwo18
import Derived.Test.YtpnghhaflgkgfaaRef7d
import Derived.Test.YtpnghhaflgkgfaaReg
import Derived.BigQuiet
namespace Go.Proofs.Ytpnghhaflgkgfaa
open Go.ChangeShapes Go.WideShapes Go.ChangeAt Go.RowKit
set_option linter.unusedVariables false
set_option linter.unusedSimpArgs false

theorem there16_any (s : SetR) (of : Int) (w : World) (hs : SetOk w s) : Calls Try.prog 24 #[.agg #[.int .i64 s.proto, .slice s.ca s.cores.length s.cc, .slice s.ha s.homes.length s.hc, .slice s.ta s.tasks.length s.tc], .int .i64 of] w fun e w' => e = .returned (.bool (thereB s of)) ∧ Below w.heap.size w w' := by
  have hb := (Below.refl w.heap.size w).alloc (Nat.le_refl _) (.cells #[.int .i64 s.proto, .slice s.ca s.cores.length s.cc, .slice s.ha s.homes.length s.hc, .slice s.ta s.tasks.length s.tc] 25)
  have sc := SetCells.new w s 25
  have H := hidp (hs.keep (Keeps.of_below hb))
  have l3 : s.tasks.length ≤ maxLen := Nat.le_trans hs.tasks.sl.2.1 hs.tasks.sl.2.2
  unfold maxLen at l3
  clear hs
  by_cases e : chkE s = 0
  · have e1 : (chkE s == 0) = true := by simpa using e
    have ho : okS s = true := e1
    clear e
    by_cases h0 : 0 ≤ of
    · have Hv : Hid (thereB s of = decide (of < s.tasks.length)) := hidp (by simp [thereB, ho, h0])
      clear ho
      go_enter Try.func24, Try.ntmps24
      go_wp2_with (first | (go_at_call 19; (with_reducible refine (check_any _ _ H.out).mono ?_); rintro e w2 ⟨rfl, hb2⟩; have sc2 := sc.keep (Keeps.of_below hb2); obtain ⟨c0, c1, c2, c3⟩ := sc2))
      go_ret
      exact ⟨ret_bool Hv.out.symm, hb.trans (hb2.mono hb.size)⟩
    · have Hv : Hid (thereB s of = false) := hidp (by simp [thereB, h0])
      have d0 : decide (0 ≤ of) = false := by simpa using h0
      clear ho h0
      go_enter Try.func24, Try.ntmps24
      go_wp2_with (first | (go_at_call 19; (with_reducible refine (check_any _ _ H.out).mono ?_); rintro e w2 ⟨rfl, hb2⟩; have sc2 := sc.keep (Keeps.of_below hb2); obtain ⟨c0, c1, c2, c3⟩ := sc2))
      go_ret
      exact ⟨ret_bool Hv.out.symm, hb.trans (hb2.mono hb.size)⟩
  · have e1 : (chkE s == 0) = false := by simpa using e
    have Hv : Hid (thereB s of = false) := hidp (by unfold thereB okS; rw [e1]; rfl)
    clear e
    go_enter Try.func24, Try.ntmps24
    go_wp2_with (first | (go_at_call 19; (with_reducible refine (check_any _ _ H.out).mono ?_); rintro e w2 ⟨rfl, hb2⟩; have sc2 := sc.keep (Keeps.of_below hb2); obtain ⟨c0, c1, c2, c3⟩ := sc2))
    go_ret
    exact ⟨ret_bool Hv.out.symm, hb.trans (hb2.mono hb.size)⟩


set_option maxHeartbeats 1000000 in
theorem wpart_any (s : SetR) (bs : List Int) (ba : Option Addr) (bc : Nat) (of part : Int) (w : World) (hs : SetOk w s) (hB : IntsOk w ba bc bs) : Calls Try.prog 25 #[.agg #[.int .i64 s.proto, .slice s.ca s.cores.length s.cc, .slice s.ha s.homes.length s.hc, .slice s.ta s.tasks.length s.tc], .slice ba bs.length bc, .int .i64 of, .int .i64 part] w fun e w' => e = .returned (.tuple #[.int .i64 (waitV s bs of part), .bool (waitK s bs of part)]) ∧ Below w.heap.size w w' := by
  have hb := (Below.refl w.heap.size w).alloc (Nat.le_refl _) (.cells #[.int .i64 s.proto, .slice s.ca s.cores.length s.cc, .slice s.ha s.homes.length s.hc, .slice s.ta s.tasks.length s.tc] 25)
  have sc := SetCells.new w s 25
  have H := hs.keep (Keeps.of_below hb)
  have HB := hB.keep (Keeps.of_below hb)
  have l3 : s.tasks.length ≤ maxLen := Nat.le_trans hs.tasks.sl.2.1 hs.tasks.sl.2.2
  have l4 : bs.length ≤ maxLen := Nat.le_trans hB.sl.2.1 hB.sl.2.2
  unfold maxLen at l3 l4
  by_cases e2 : bs.length = s.tasks.length
  · have d1 : ((bs.length : Int) != (s.tasks.length : Int)) = false := by simp [e2]
    by_cases p1 : s.proto = 1
    · have HV : Hid (waitV s bs of part = fairV s of part) := hidp (by unfold waitV; rw [if_pos e2, if_pos p1])
      have HK : Hid (waitK s bs of part = fairK s of part) := hidp (by unfold waitK; rw [if_pos e2, if_neg (by omega)])
      have q1 : (s.proto == 1) = true := by simpa using p1
      clear p1 e2
      go_enter Try.func25, Try.ntmps25
      go_wp2_with fail
      refine (part_any s of part _ H).mono ?_
      rintro e w2 ⟨rfl, hb2⟩
      replace hb := hb.trans (hb2.mono hb.size)
      clear hb2
      go_wp2
      go_ret2
      exact ⟨ret_ib HV.out.symm HK.out.symm, hb⟩
    · have q1 : (s.proto == 1) = false := by simpa using p1
      by_cases p2 : s.proto = 2
      · have HV : Hid (waitV s bs of part = agentV s bs of part) := hidp (by unfold waitV; rw [if_pos e2, if_neg p1, if_pos p2])
        have HK : Hid (waitK s bs of part = agentK s bs of part) := hidp (by unfold waitK; rw [if_pos e2, if_pos p2])
        have q2 : (s.proto == 2) = true := by simpa using p2
        clear p1 p2 e2
        go_enter Try.func25, Try.ntmps25
        go_wp2_with fail
        refine (apart_any s bs ba bc of part _ H HB).mono ?_
        rintro e w2 ⟨rfl, hb2⟩
        replace hb := hb.trans (hb2.mono hb.size)
        clear hb2
        go_wp2
        go_ret2
        exact ⟨ret_ib HV.out.symm HK.out.symm, hb⟩
      · have q2 : (s.proto == 2) = false := by simpa using p2
        have HV : Hid (waitV s bs of part = tokV s of part) := hidp (by unfold waitV; rw [if_pos e2, if_neg p1, if_neg p2])
        have HK : Hid (waitK s bs of part = fairK s of part) := hidp (by unfold waitK; rw [if_pos e2, if_neg p2])
        by_cases p3 : s.proto = 3
        · have q3 : (s.proto == 3) = true := by simpa using p3
          clear p1 p2 p3 e2
          go_enter Try.func25, Try.ntmps25
          go_wp2_with fail
          refine (tpart_any s of part _ H).mono ?_
          rintro e w2 ⟨rfl, hb2⟩
          replace hb := hb.trans (hb2.mono hb.size)
          clear hb2
          go_wp2
          go_ret2
          exact ⟨ret_ib HV.out.symm HK.out.symm, hb⟩
        · have q3 : (s.proto == 3) = false := by simpa using p3
          have hk : fairK s of part = false := by
            rw [Bool.eq_false_iff]; intro h
            have := (Good.of (lock_part h).1).proto
            omega
          have HV2 : Hid (waitV s bs of part = 0) := hidp (by rw [HV.out]; unfold tokV; rw [hk]; rfl)
          have HK2 : Hid (waitK s bs of part = false) := hidp (by rw [HK.out, hk])
          clear p1 p2 p3 e2 hk
          go_enter Try.func25, Try.ntmps25
          go_wp2
          go_ret2
          exact ⟨ret_ib HV2.out.symm HK2.out.symm, hb⟩
  · have d1 : ((bs.length : Int) != (s.tasks.length : Int)) = true := by simp; omega
    have HV : Hid (waitV s bs of part = 0) := hidp (by unfold waitV; rw [if_neg e2])
    have HK : Hid (waitK s bs of part = false) := hidp (by unfold waitK; rw [if_neg e2])
    clear e2
    go_enter Try.func25, Try.ntmps25
    go_wp2
    go_ret2
    exact ⟨ret_ib HV.out.symm HK.out.symm, hb⟩

theorem OwnN.none (B : Nat) (w : World) : OwnN B w none 0 0 [] := ⟨World.ownsRow_nil _ _ _ _, rfl, by decide, fun _ => ⟨rfl, rfl⟩⟩
theorem OwnN.app {B : Nat} {w w1 w2 : World} {A A' : Option Addr} {n c c' : Nat} {rs ps : List Int} {m : Nat} (h : OwnN B w A n c rs) (ha : App B 3 1 w1 A A' (n + m) c' (rs.map (Value.int .i64) ++ ps.map (Value.int .i64)) w2) (hm : m = ps.length) : OwnN B w2 A' (n + m) c' (rs ++ ps) :=
  ⟨by rw [List.map_append]; exact ha.own, by rw [List.length_append, h.len, hm], ha.cap, ha.nil⟩
theorem ints_one (x : Int) : ∀ u ∈ [x].map (Value.int .i64), u.oneCell' = true := fun u hu => by simp at hu; subst hu; rfl
/-- a row of numbers, and a word -/
def RowK (w : World) (zs : List Int) (k : Bool) (e : Ending) (w' : World) : Prop := ∃ A c, e = .returned (.tuple #[.slice A zs.length c, .bool k]) ∧ IntsOk w' A c zs ∧ Below w.heap.size w w'
theorem RowK.eq {w w' : World} {zs ys : List Int} {k j : Bool} {e : Ending} (h : RowK w zs k e w') (h1 : zs = ys) (h2 : k = j) : RowK w ys j e w' := h1 ▸ h2 ▸ h

set_option maxHeartbeats 4000000 in
set_option maxRecDepth 100000 in
theorem wall_any (s : SetR) (bs : List Int) (ba : Option Addr) (bc : Nat) (of : Int) (w : World) (hs : SetOk w s) (hB : IntsOk w ba bc bs) : Calls Try.prog 15 #[.agg #[.int .i64 s.proto, .slice s.ca s.cores.length s.cc, .slice s.ha s.homes.length s.hc, .slice s.ta s.tasks.length s.tc], .slice ba bs.length bc, .int .i64 of] w (RowK w (waitsL s bs of) (waitsK s bs of)) := by
  have hb := (Below.refl w.heap.size w).alloc (Nat.le_refl _) (.cells #[.int .i64 s.proto, .slice s.ca s.cores.length s.cc, .slice s.ha s.homes.length s.hc, .slice s.ta s.tasks.length s.tc] 25)
  have sc := SetCells.new w s 25
  have H := hs.keep (Keeps.of_below hb)
  have l3 : s.tasks.length ≤ maxLen := Nat.le_trans hs.tasks.sl.2.1 hs.tasks.sl.2.2
  unfold maxLen at l3
  by_cases e : thereB s of = true
  · have Hth := hidp e
    obtain ⟨ho, r1, r2⟩ := thereB_true.1 e
    obtain ⟨n, rfl⟩ : ∃ n : Nat, of = n := ⟨of.toNat, by omega⟩
    have hn : n < s.tasks.length := by omega
    have hg := Good.of ho
    obtain ⟨t, HT⟩ : ∃ t, Hid (s.tasks.getD n default = t) := ⟨_, rfl⟩
    have hm : t ∈ s.tasks := HT.out ▸ getD_mem hn
    have Tok := hs.tasks.ok t hm
    have Tg := hg.parts t hm
    obtain ⟨g, off, hA, hcl⟩ := hs.tasks.at_.resolve_left (by intro e; rw [e] at hn; simp at hn)
    have Ht5 := hidp ((HT.out ▸ hcl n hn).2.2.2.2.2)
    have hpl := Tg.len
    obtain ⟨gp, op, hP, hpc⟩ := Tok.at_.resolve_left (by intro e; rw [e] at hpl; simp at hpl)
    have Hpc := hidp hpc
    obtain ⟨parts, hparts⟩ : ∃ parts, t.parts = parts := ⟨_, rfl⟩
    have Hpt : Hid (partsOf s n = parts) := hidp (by unfold partsOf; simp only [Int.toNat_natCast]; rw [HT.out, hparts])
    rw [hP, hparts] at Ht5
    rw [hparts] at Hpc hpl
    obtain ⟨V, HV⟩ : ∃ V : Nat → Int, Hid (∀ k : Nat, waitV s bs n k = V k) := ⟨fun k => waitV s bs n k, hidp (fun _ => rfl)⟩
    obtain ⟨K, HK⟩ : ∃ K : Nat → Bool, Hid (∀ k : Nat, waitK s bs n k = K k) := ⟨fun k => waitK s bs n k, hidp (fun _ => rfl)⟩
    have Hpa : Hid (∀ k : Nat, partAt s n k = parts.getD k default) := hidp (fun k => by unfold partAt; have := Hpt.out; unfold partsOf at this; rw [this]; simp)
    obtain ⟨PW, HPW⟩ : ∃ f : Nat → Int, Hid (pW s bs n = f) := ⟨_, hidp rfl⟩
    obtain ⟨PK, HPK⟩ : ∃ f : Nat → Bool, Hid (pK s bs n = f) := ⟨_, hidp rfl⟩
    have HPWl : Hid (∀ k, (parts.getD k default).kind = 3 → PW k = V k ∧ PK k = K k) := hidp (fun k h => by
      rw [← HPW.out, ← HPK.out]; unfold pW pK; rw [Hpa.out, if_pos h, if_pos h, HV.out, HK.out]; exact ⟨rfl, rfl⟩)
    have HPWn : Hid (∀ k, (parts.getD k default).kind ≠ 3 → PW k = 0 ∧ PK k = true) := hidp (fun k h => by
      rw [← HPW.out, ← HPK.out]; unfold pW pK; rw [Hpa.out, if_neg h, if_neg h]; exact ⟨rfl, rfl⟩)
    have HWb : Hid (∀ k, 0 ≤ PW k ∧ PW k ≤ 3000) := hidp (fun k => by rw [← HPW.out]; exact pW_bd s bs n k)
    have Hoff : Hid (∀ k, k < parts.length → PK k = false → waitsK s bs n = false ∧ waitsL s bs n = []) := hidp (fun k hk h => waits_off (by rw [Hpt.out]; exact hk) (by rw [HPK.out]; exact h))
    have Hyes : Hid ((∀ k, k < parts.length → PK k = true) → waitsK s bs n = true ∧ waitsL s bs n = (List.range parts.length).map PW) := hidp (fun h => by
      have := waits_yes (s := s) (bs := bs) (of := n) Hth.out (by rw [Hpt.out, HPK.out]; exact h)
      rw [Hpt.out, HPW.out] at this; exact this)
    obtain ⟨RL, HRL⟩ : ∃ L, Hid (waitsL s bs n = L) := ⟨_, hidp rfl⟩
    obtain ⟨RK, HRK⟩ : ∃ L, Hid (waitsK s bs n = L) := ⟨_, hidp rfl⟩
    rw [HRL.out, HRK.out] at Hoff Hyes ⊢
    have HS1 := hidp (fun u (h : Below w.heap.size w u) => hs.keep (Keeps.of_below h))
    have HB1 := hidp (fun u (h : Below w.heap.size w u) => hB.keep (Keeps.of_below h))
    obtain ⟨S, HSS⟩ : ∃ S : SetR, Hid (S = s) := ⟨s, rfl⟩
    obtain ⟨i0, hi0, hy0, hy1, hy2⟩ := info_parts infoZ
    clear hcl hm Tok Tg hpc hP hparts hg ho HT e hs hB r1
    have dn : decide (s.tasks.length ≤ n) = false := by simp; omega
    obtain ⟨proto, ca, cc, cores, ha, hc, homes, ta, tc, tasks⟩ := s
    dsimp only at hA hn l3 r2 hb sc H dn HS1 ⊢
    subst hA
    go_enter Try.func15, Try.ntmps15
    go_wp2
    go_step3
    go_wp2_with fail
    refine (there16_any _ _ _ H).mono ?_
    rintro e w2 ⟨rfl, hb2⟩
    replace hb := hb.trans (hb2.mono hb.size)
    replace sc := sc.keep (Keeps.of_below hb2)
    clear hb2
    try clear sc_0 sc_1 sc_2 sc_3
    have scx := sc
    obtain ⟨sc_0, sc_1, sc_2, sc_3⟩ := scx
    try dsimp only at sc_0 sc_1 sc_2 sc_3
    rw [Hth.out]
    have hz0 : w.heap.size + 1 ≤ w2.heap.size := cell_lt sc_0
    have d5 := Keeps.of_below hb _ _ Ht5.out
    go_wp2
    go_step3
    go_wp2
    clear sc_0 sc_1 sc_2 sc_3 d5
    go_loopg [8, 9, 24] parts.length (fun gg a ok i wr => ∃ (k c : Nat) (A : Option Addr), k + gg = parts.length ∧ i = .int .i64 k ∧ ok = .bool true ∧ a = .slice A k c ∧ Hid (∀ j, j < k → PK j = true) ∧ OwnN (w.heap.size + 1) wr A k c ((List.range k).map PW) ∧ SetCells wr w.heap.size ⟨proto, ca, cc, cores, ha, hc, homes, some ⟨g, off, none⟩, tc, tasks⟩ ∧ Below w.heap.size w wr ∧ w.heap.size + 1 ≤ wr.heap.size)
    case atStart => exact ⟨0, 0, none, by omega, rfl, rfl, rfl, hidp (fun j hj => by omega), OwnN.none _ _, sc, hb, hz0⟩
    case round =>
      clear sc hb
      obtain ⟨k, c, A, hk, rfl, rfl, rfl, Hk, ho, sc, hw, hz⟩ := hrel
      by_cases hlt : k < parts.length
      · obtain ⟨p, HP⟩ : ∃ p, Hid (parts.getD k default = p) := ⟨_, rfl⟩
        have pcl := (HP.out ▸ Hpc.out k hlt).keep (Keeps.of_below hw)
        obtain ⟨x0, x1, x2⟩ := pcl
        have hw1 := hw.alloc hw.size (.cells #[.int .i64 p.kind, .int .i64 p.len, .int .i64 p.res] 49)
        have ho1 := ho.turned ((Turned.refl [] wr).alloc (.cells #[.int .i64 p.kind, .int .i64 p.len, .int .i64 p.res] 49)) (by simp)
        have hz1 : w.heap.size + 1 ≤ (wr.alloc (.cells #[.int .i64 p.kind, .int .i64 p.len, .int .i64 p.res] 49)).heap.size := Nat.le_trans hz (by simp)
        have sc1 := sc.keep (Keeps.alloc wr (.cells #[.int .i64 p.kind, .int .i64 p.len, .int .i64 p.res] 49))
        obtain ⟨sc_0, sc_1, sc_2, sc_3⟩ := id sc1
        dsimp only at sc_0 sc_1 sc_2 sc_3
        have N2 : Hid (k + 1 ≤ maxLen) := hidp (by unfold maxLen; omega)
        have T2 : Hid ((k + 1) * 8 ≤ 140737488355328) := hidp (by omega)
        by_cases e : p.kind = 3
        · obtain ⟨v1, v2⟩ := HPWl.out k (by rw [HP.out]; exact e)
          have e' : (p.kind == 3) = true := by simpa using e
          obtain ⟨b, Hb⟩ : ∃ b, Hid (K k = b) := ⟨_, rfl⟩
          rw [Hb.out] at v2
          obtain ⟨v, Hv⟩ : ∃ v, Hid (PW k = v) := ⟨_, rfl⟩
          rw [Hv.out] at v1
          have Hvv := hidp v1.symm
          have Hpk := hidp v2
          clear v1 v2 e
          cases b with
          | false =>
            obtain ⟨f1, f2⟩ := Hoff.out k hlt Hpk.out
            have F1 := hidp f1
            have F2 := hidp f2
            clear f1 f2
            go_wp2_with fail
            refine (wpart_any _ bs ba bc n k _ (HS1.out _ hw1) (HB1.out _ hw1)).mono ?_
            rintro e w3 ⟨rfl, hb3⟩
            rw [HV.out k, HK.out k, Hb.out]
            go_wp2_with fail
            try rw [Exit.noGoto_ret]
            go_ret2
            exact RowK.eq ⟨none, 0, rfl, nil_ints _, hw1.trans (hb3.mono hw1.size)⟩ F2.out.symm F1.out.symm
          | true =>
            go_wp2_with fail
            refine (wpart_any _ bs ba bc n k _ (HS1.out _ hw1) (HB1.out _ hw1)).mono ?_
            rintro e w3 ⟨rfl, hb3⟩
            rw [HV.out k, HK.out k, Hb.out, Hvv.out]
            have hw3 := hw1.trans (hb3.mono hw1.size)
            have hown4 := ((ho1.turned (Turned.of_below hb3 []) (by simp)).turned ((Turned.refl [] w3).alloc (.cells #[.int .i64 v] 3)) (by simp))
            have S2 := hidp (Lies.newCells' w3 [.int .i64 v] 3)
            have Z2 : Hid (w.heap.size + 1 ≤ (w3.alloc (.cells #[.int .i64 v] 3)).heap.size) := hidp (Nat.le_trans hz1 (Nat.le_trans hb3.size (by simp)))
            have sc4 := (sc1.keep (Keeps.of_below hb3)).keep (Keeps.alloc _ (.cells #[.int .i64 v] 3))
            have hw4 := hw3.alloc hw3.size (.cells #[.int .i64 v] 3)
            have O2 := hidp (ints_one v)
            have Hfp := hidp (own_fp hown4.own)
            clear x0 x1 x2 sc_0 sc_1 sc_2 sc_3
            go_wp2_with (at_builtin; refine wpList_app2 _ rfl (.tmp 42) (.tmp 44) 22 rfl (w.heap.size + 1) 3 i0 _ 1 8 Try.underlying22 hi0 hy0 hy1 hy2 rfl (by decide) A k c _ rfl hown4.own _ _ 1 1 [.int .i64 v] rfl (by simp) rfl S2.out O2.out N2.out T2.out Z2.out ?_; intro A' c' w5 happ)
            go_roundg (gk - 1)
            case measure => omega
            case rel => exact ⟨k + 1, c', A', by omega, by go_num, rfl, rfl, hidp (fun j hj => by
              by_cases ej : j = k
              · subst ej; exact Hpk.out
              · exact Hk.out j (by omega)), by rw [range_snoc, Hv.out]; exact hown4.app (ps := [v]) happ rfl, sc4.turned happ.turned (fun hf => by have := (Hfp.out _ hf).1; omega), hw4.trans (happ.turned.below hw4.size (fun j hj => by have := (Hfp.out _ hj).1; omega)), Nat.le_trans Z2.out happ.turned.size⟩
        · obtain ⟨v1, v2⟩ := HPWn.out k (by rw [HP.out]; exact e)
          have e' : (p.kind == 3) = false := by simpa using e
          have Hv := hidp v1
          have Hpk := hidp v2
          clear v1 v2 e
          have hw3 := hw1
          have hown4 := ho1.turned ((Turned.refl [] (wr.alloc (.cells #[.int .i64 p.kind, .int .i64 p.len, .int .i64 p.res] 49))).alloc (.cells #[.int .i64 0] 3)) (by simp)
          have S2' := Lies.newCells' (wr.alloc (.cells #[.int .i64 p.kind, .int .i64 p.len, .int .i64 p.res] 49)) [.int .i64 0] 3
          rw [show (wr.alloc (.cells #[.int .i64 p.kind, .int .i64 p.len, .int .i64 p.res] 49)).heap.size = wr.heap.size + 1 by simp] at S2'
          have S2 := hidp S2'
          clear S2'
          have Z2 : Hid (w.heap.size + 1 ≤ ((wr.alloc (.cells #[.int .i64 p.kind, .int .i64 p.len, .int .i64 p.res] 49)).alloc (.cells #[.int .i64 0] 3)).heap.size) := hidp (Nat.le_trans hz1 (by simp))
          have sc4 := sc1.keep (Keeps.alloc _ (.cells #[.int .i64 0] 3))
          have hw4 := hw3.alloc hw3.size (.cells #[.int .i64 0] 3)
          have O2 := hidp (ints_one 0)
          have Hfp := hidp (own_fp hown4.own)
          go_wp2_with (at_builtin; refine wpList_app2 _ rfl (.tmp 42) (.tmp 44) 22 rfl (w.heap.size + 1) 3 i0 _ 1 8 Try.underlying22 hi0 hy0 hy1 hy2 rfl (by decide) A k c _ rfl hown4.own _ _ 1 1 [.int .i64 0] rfl (by simp) rfl S2.out O2.out N2.out T2.out Z2.out ?_; intro A' c' w5 happ)
          go_roundg (gk - 1)
          case measure => omega
          case rel => exact ⟨k + 1, c', A', by omega, by go_num, rfl, rfl, hidp (fun j hj => by
              by_cases ej : j = k
              · subst ej; exact Hpk.out
              · exact Hk.out j (by omega)), by rw [range_snoc, Hv.out]; exact hown4.app (ps := [0]) happ rfl, sc4.turned happ.turned (fun hf => by have := (Hfp.out _ hf).1; omega), hw4.trans (happ.turned.below hw4.size (fun j hj => by have := (Hfp.out _ hj).1; omega)), Nat.le_trans Z2.out happ.turned.size⟩
      · obtain rfl : k = parts.length := by omega
        obtain ⟨f1, f2⟩ := Hyes.out Hk.out
        have F1 := hidp f1
        have F2 := hidp f2
        have hrow := ho.ok (fun x hx => by obtain ⟨j, _, rfl⟩ := List.mem_map.1 hx; have := HWb.out j; unfold I64; omega)
        have Hr := hidp hrow
        clear f1 f2 hrow
        go_wp2
        try rw [Exit.noGoto_ret]
        go_ret2
        exact RowK.eq ⟨A, c, by simp, Hr.out, hw⟩ F2.out.symm F1.out.symm
  · have e : thereB s of = false := by simpa using e
    obtain ⟨k1, k2⟩ := waits_no (bs := bs) e
    have Hth := hidp e
    have F1 := hidp k1
    have F2 := hidp k2
    clear e k1 k2 hs hB
    go_enter Try.func15, Try.ntmps15
    go_wp2
    go_step3
    go_wp2_with fail
    refine (there16_any _ _ _ H).mono ?_
    rintro e w2 ⟨rfl, hb2⟩
    replace hb := hb.trans (hb2.mono hb.size)
    replace sc := sc.keep (Keeps.of_below hb2)
    clear hb2
    rw [Hth.out]
    go_wp2
    go_ret2
    exact RowK.eq ⟨none, 0, rfl, nil_ints _, hb⟩ F2.out.symm F1.out.symm

set_option maxHeartbeats 1000000 in
set_option maxRecDepth 100000 in
theorem wsum_any (s : SetR) (bs : List Int) (ba : Option Addr) (bc : Nat) (of : Int) (w : World) (hs : SetOk w s) (hB : IntsOk w ba bc bs) : Calls Try.prog 37 #[.agg #[.int .i64 s.proto, .slice s.ca s.cores.length s.cc, .slice s.ha s.homes.length s.hc, .slice s.ta s.tasks.length s.tc], .slice ba bs.length bc, .int .i64 of] w fun e w' => e = .returned (.tuple #[.int .i64 (tot (waitsL s bs of)), .bool (waitsK s bs of)]) ∧ Below w.heap.size w w' := by
  have hb := (Below.refl w.heap.size w).alloc (Nat.le_refl _) (.cells #[.int .i64 s.proto, .slice s.ca s.cores.length s.cc, .slice s.ha s.homes.length s.hc, .slice s.ta s.tasks.length s.tc] 25)
  have sc := SetCells.new w s 25
  have H := hs.keep (Keeps.of_below hb)
  have HB := hB.keep (Keeps.of_below hb)
  have h6 := waitsL_len s bs of
  obtain ⟨L, HL⟩ : ∃ L, Hid (waitsL s bs of = L) := ⟨_, hidp rfl⟩
  obtain ⟨K, HK⟩ : ∃ K, Hid (waitsK s bs of = K) := ⟨_, hidp rfl⟩
  rw [HL.out] at h6
  obtain ⟨l6, hb6⟩ := h6
  have HP := hidp hb6
  have HW := wall_any s bs ba bc of _ H HB
  rw [HL.out, HK.out] at HW ⊢
  clear hs hB H HB hb6
  go_enter Try.func37, Try.ntmps37
  go_wp2_with fail
  refine HW.mono ?_
  rintro e w2 ⟨A, c, rfl, hr, hb2⟩
  replace hb := hb.trans (hb2.mono hb.size)
  have HR := hidp hr.at_
  clear hr hb2 HW sc
  go_wp2
  go_loopg [10, 22] L.length (fun gg a i wr => ∃ (k : Nat) (x : Int), k + gg = L.length ∧ i = .int .i64 k ∧ a = .int .i64 x ∧ Hid (tot (L.take k) = x) ∧ w2 = wr)
  case atStart => exact ⟨0, 0, by omega, rfl, rfl, hidp rfl, rfl⟩
  case round =>
    obtain ⟨k, x, hk, rfl, rfl, Hx, rfl⟩ := hrel
    have hx := tot_cap (fun n (hn : n ∈ L.take k) => HP.out n (List.mem_of_mem_take hn))
    rw [Hx.out, List.length_take] at hx
    obtain ⟨x0, x1⟩ := hx
    have x2 : x ≤ 18000 := by omega
    clear x1
    by_cases hlt : k < L.length
    · obtain ⟨g, off, hA, hcl⟩ := HR.out.resolve_left (by intro e; rw [e] at hlt; simp at hlt)
      subst hA
      obtain ⟨v, Hv⟩ : ∃ v, Hid (L.getD k 0 = v) := ⟨_, rfl⟩
      have c1 := Hv.out ▸ hcl k hlt
      have hv := HP.out v (by rw [← Hv.out]; simp [List.getD, hlt])
      obtain ⟨v0, v1⟩ := hv
      have Hs : Hid (tot (L.take (k + 1)) = x + v) := hidp (by rw [tot_snoc _ _ hlt, Hx.out, Hv.out])
      clear hcl
      go_wp2
      go_roundg (gk - 1)
      case measure => omega
      case rel => exact ⟨k + 1, x + v, by omega, by go_num, rfl, Hs, rfl⟩
    · obtain rfl : k = L.length := by omega
      have Hz : Hid (tot L = x) := hidp (by have := Hx.out; rw [List.take_length] at this; exact this)
      go_wp2
      go_ret2
      exact ⟨ret_ib Hz.out.symm rfl, hb⟩
end Go.Proofs.Ytpnghhaflgkgfaa

namespace Go.Proofs.Ytpnghhaflgkgfaa
open Go.ChangeShapes Go.WideShapes Go.ChangeAt Go.RowKit
set_option linter.unusedVariables false
set_option linter.unusedSimpArgs false

theorem there17_any (s : SetR) (of : Int) (w : World) (hs : SetOk w s) : Calls Try.prog 40 #[.agg #[.int .i64 s.proto, .slice s.ca s.cores.length s.cc, .slice s.ha s.homes.length s.hc, .slice s.ta s.tasks.length s.tc], .int .i64 of] w fun e w' => e = .returned (.bool (thereB s of)) ∧ Below w.heap.size w w' := by
  have hb := (Below.refl w.heap.size w).alloc (Nat.le_refl _) (.cells #[.int .i64 s.proto, .slice s.ca s.cores.length s.cc, .slice s.ha s.homes.length s.hc, .slice s.ta s.tasks.length s.tc] 25)
  have sc := SetCells.new w s 25
  have H := hidp (hs.keep (Keeps.of_below hb))
  have l3 : s.tasks.length ≤ maxLen := Nat.le_trans hs.tasks.sl.2.1 hs.tasks.sl.2.2
  unfold maxLen at l3
  clear hs
  by_cases e : chkE s = 0
  · have e1 : (chkE s == 0) = true := by simpa using e
    have ho : okS s = true := e1
    clear e
    by_cases h0 : 0 ≤ of
    · have Hv : Hid (thereB s of = decide (of < s.tasks.length)) := hidp (by simp [thereB, ho, h0])
      clear ho
      go_enter Try.func40, Try.ntmps40
      go_wp2_with (first | (go_at_call 19; (with_reducible refine (check_any _ _ H.out).mono ?_); rintro e w2 ⟨rfl, hb2⟩; have sc2 := sc.keep (Keeps.of_below hb2); obtain ⟨c0, c1, c2, c3⟩ := sc2))
      go_ret
      exact ⟨ret_bool Hv.out.symm, hb.trans (hb2.mono hb.size)⟩
    · have Hv : Hid (thereB s of = false) := hidp (by simp [thereB, h0])
      have d0 : decide (0 ≤ of) = false := by simpa using h0
      clear ho h0
      go_enter Try.func40, Try.ntmps40
      go_wp2_with (first | (go_at_call 19; (with_reducible refine (check_any _ _ H.out).mono ?_); rintro e w2 ⟨rfl, hb2⟩; have sc2 := sc.keep (Keeps.of_below hb2); obtain ⟨c0, c1, c2, c3⟩ := sc2))
      go_ret
      exact ⟨ret_bool Hv.out.symm, hb.trans (hb2.mono hb.size)⟩
  · have e1 : (chkE s == 0) = false := by simpa using e
    have Hv : Hid (thereB s of = false) := hidp (by unfold thereB okS; rw [e1]; rfl)
    clear e
    go_enter Try.func40, Try.ntmps40
    go_wp2_with (first | (go_at_call 19; (with_reducible refine (check_any _ _ H.out).mono ?_); rintro e w2 ⟨rfl, hb2⟩; have sc2 := sc.keep (Keeps.of_below hb2); obtain ⟨c0, c1, c2, c3⟩ := sc2))
    go_ret
    exact ⟨ret_bool Hv.out.symm, hb.trans (hb2.mono hb.size)⟩


set_option maxHeartbeats 4000000 in
set_option maxRecDepth 100000 in
theorem each_any (s : SetR) (a b : Nat) (w : World) (hs : SetOk w s) (ho : okS s = true) (ha : a < s.tasks.length) (hbl : b < s.tasks.length) : Calls Try.prog 42 #[.agg #[.int .i64 s.proto, .slice s.ca s.cores.length s.cc, .slice s.ha s.homes.length s.hc, .slice s.ta s.tasks.length s.tc], .int .i64 a, .int .i64 b] w fun e w' => e = .returned (.int .i64 (eachV s a b)) ∧ Below w.heap.size w w' := by
  have hb := (Below.refl w.heap.size w).alloc (Nat.le_refl _) (.cells #[.int .i64 s.proto, .slice s.ca s.cores.length s.cc, .slice s.ha s.homes.length s.hc, .slice s.ta s.tasks.length s.tc] 25)
  have sc := SetCells.new w s 25
  have H := hs.keep (Keeps.of_below hb)
  have l3 : s.tasks.length ≤ maxLen := Nat.le_trans hs.tasks.sl.2.1 hs.tasks.sl.2.2
  unfold maxLen at l3
  have hg := Good.of ho
  obtain ⟨t, HT⟩ : ∃ t, Hid (s.tasks.getD a default = t) := ⟨_, rfl⟩
  obtain ⟨o, HO⟩ : ∃ t, Hid (s.tasks.getD b default = t) := ⟨_, rfl⟩
  have hm : t ∈ s.tasks := HT.out ▸ getD_mem ha
  have TL : Hid (TaskLen w t) := hidp ⟨(hs.tasks.ok t hm).at_, (hg.parts t hm).lens, by have := (hg.parts t hm).len; omega⟩
  obtain ⟨g, off, hA, hcl⟩ := hs.tasks.at_.resolve_left (by intro e; rw [e] at ha; simp at ha)
  have Hta := hidp (HT.out ▸ hcl a ha)
  have Htb := hidp (HO.out ▸ hcl b hbl)
  obtain ⟨V, HV⟩ : ∃ V, Hid (atV s a o.cl = V) := ⟨_, hidp rfl⟩
  obtain ⟨L, HL⟩ : ∃ V, Hid (sumK 3 t.parts = V) := ⟨_, hidp rfl⟩
  obtain ⟨R, HR⟩ : ∃ V, Hid (sumK 1 t.parts = V) := ⟨_, hidp rfl⟩
  have HE : Hid (eachV s a b = (if s.proto = 2 then V else if t.cl = o.cl then L else 0) + (if t.cl = o.cl ∧ t.prio < o.prio then R else 0)) := hidp (by
    unfold eachV taskAt; simp only [Int.toNat_natCast]; rw [HT.out, HO.out, HV.out, HL.out, HR.out])
  have hV := atV_bd s a o.cl
  have hL := sumK_bd 3 (hg.parts t hm).lens
  have hR := sumK_bd 1 (hg.parts t hm).lens
  have h6 := (hg.parts t hm).len
  rw [HV.out] at hV
  rw [HL.out] at hL
  rw [HR.out] at hR
  obtain ⟨V0, V1⟩ := hV
  obtain ⟨L0, L1⟩ := hL
  obtain ⟨R0, R1⟩ := hR
  have L2 : L ≤ 360 := by omega
  have R2 : R ≤ 360 := by omega
  have HS1 : Hid (∀ u, Below w.heap.size w u → SetOk u s) := hidp (fun u h => hs.keep (Keeps.of_below h))
  clear L1 R1 h6 hcl hm hg ho hs
  obtain ⟨proto, ca, cc, cores, hha, hc, homes, ta, tc, tasks⟩ := s
  dsimp only at hA ha hbl l3 hb sc H HE HV HS1 ⊢
  subst hA
  have dn : decide (tasks.length ≤ a) = false := by simp; omega
  have dm : decide (tasks.length ≤ b) = false := by simp; omega
  obtain ⟨x0, x1, x2, x3, x4, x5⟩ := Hta.out.keep (Keeps.of_below hb)
  obtain ⟨y0, y1, y2, y3, y4, y5⟩ := Htb.out.keep (Keeps.of_below hb)
  go_enter Try.func42, Try.ntmps42
  go_upto_region 1 with fail
  go_cut [7, 8] from 11 to 20 (fun x y wx => ∃ g1 g2 : Nat, x = .pointer (some ⟨g1, 0, none⟩) ∧ y = .pointer (some ⟨g2, 0, none⟩) ∧ TaskBox wx g1 t ∧ TaskBox wx g2 o ∧ SetCells wx w.heap.size ⟨proto, ca, cc, cores, hha, hc, homes, some ⟨g, off, none⟩, tc, tasks⟩ ∧ Below w.heap.size w wx)
  case first =>
    have hs : (w.alloc (.cells #[.int .i64 proto, .slice ca cores.length cc, .slice hha homes.length hc, .slice (some ⟨g, off, none⟩) tasks.length tc] 25)).drew.cell? ⟨g, off + a * 6, none⟩ = some (.string t.name) ∧ (w.alloc (.cells #[.int .i64 proto, .slice ca cores.length cc, .slice hha homes.length hc, .slice (some ⟨g, off, none⟩) tasks.length tc] 25)).drew.cell? ⟨g, off + a * 6 + 1, none⟩ = some (.int .i64 t.per) ∧ (w.alloc (.cells #[.int .i64 proto, .slice ca cores.length cc, .slice hha homes.length hc, .slice (some ⟨g, off, none⟩) tasks.length tc] 25)).drew.cell? ⟨g, off + a * 6 + 2, none⟩ = some (.int .i64 t.dl) ∧ (w.alloc (.cells #[.int .i64 proto, .slice ca cores.length cc, .slice hha homes.length hc, .slice (some ⟨g, off, none⟩) tasks.length tc] 25)).drew.cell? ⟨g, off + a * 6 + 3, none⟩ = some (.int .i64 t.prio) ∧ (w.alloc (.cells #[.int .i64 proto, .slice ca cores.length cc, .slice hha homes.length hc, .slice (some ⟨g, off, none⟩) tasks.length tc] 25)).drew.cell? ⟨g, off + a * 6 + 4, none⟩ = some (.int .i64 t.cl) ∧ (w.alloc (.cells #[.int .i64 proto, .slice ca cores.length cc, .slice hha homes.length hc, .slice (some ⟨g, off, none⟩) tasks.length tc] 25)).drew.cell? ⟨g, off + a * 6 + 5, none⟩ = some (.slice t.pa t.parts.length t.pc) ∧ (w.alloc (.cells #[.int .i64 proto, .slice ca cores.length cc, .slice hha homes.length hc, .slice (some ⟨g, off, none⟩) tasks.length tc] 25)).drew.cell? ⟨g, off + b * 6, none⟩ = some (.string o.name) ∧ (w.alloc (.cells #[.int .i64 proto, .slice ca cores.length cc, .slice hha homes.length hc, .slice (some ⟨g, off, none⟩) tasks.length tc] 25)).drew.cell? ⟨g, off + b * 6 + 1, none⟩ = some (.int .i64 o.per) ∧ (w.alloc (.cells #[.int .i64 proto, .slice ca cores.length cc, .slice hha homes.length hc, .slice (some ⟨g, off, none⟩) tasks.length tc] 25)).drew.cell? ⟨g, off + b * 6 + 2, none⟩ = some (.int .i64 o.dl) ∧ (w.alloc (.cells #[.int .i64 proto, .slice ca cores.length cc, .slice hha homes.length hc, .slice (some ⟨g, off, none⟩) tasks.length tc] 25)).drew.cell? ⟨g, off + b * 6 + 3, none⟩ = some (.int .i64 o.prio) ∧ (w.alloc (.cells #[.int .i64 proto, .slice ca cores.length cc, .slice hha homes.length hc, .slice (some ⟨g, off, none⟩) tasks.length tc] 25)).drew.cell? ⟨g, off + b * 6 + 4, none⟩ = some (.int .i64 o.cl) ∧ (w.alloc (.cells #[.int .i64 proto, .slice ca cores.length cc, .slice hha homes.length hc, .slice (some ⟨g, off, none⟩) tasks.length tc] 25)).drew.cell? ⟨g, off + b * 6 + 5, none⟩ = some (.slice o.pa o.parts.length o.pc) ∧ (w.alloc (.cells #[.int .i64 proto, .slice ca cores.length cc, .slice hha homes.length hc, .slice (some ⟨g, off, none⟩) tasks.length tc] 25)).drew.cell? ⟨w.heap.size, 0, none⟩ = some (.int .i64 proto) ∧ (w.alloc (.cells #[.int .i64 proto, .slice ca cores.length cc, .slice hha homes.length hc, .slice (some ⟨g, off, none⟩) tasks.length tc] 25)).drew.cell? ⟨w.heap.size, 1, none⟩ = some (.slice ca cores.length cc) ∧ (w.alloc (.cells #[.int .i64 proto, .slice ca cores.length cc, .slice hha homes.length hc, .slice (some ⟨g, off, none⟩) tasks.length tc] 25)).drew.cell? ⟨w.heap.size, 2, none⟩ = some (.slice hha homes.length hc) ∧ (w.alloc (.cells #[.int .i64 proto, .slice ca cores.length cc, .slice hha homes.length hc, .slice (some ⟨g, off, none⟩) tasks.length tc] 25)).drew.cell? ⟨w.heap.size, 3, none⟩ = some (.slice (some ⟨g, off, none⟩) tasks.length tc) := And.intro x0 (And.intro x1 (And.intro x2 (And.intro x3 (And.intro x4 (And.intro x5 (And.intro y0 (And.intro y1 (And.intro y2 (And.intro y3 (And.intro y4 (And.intro y5 sc)))))))))))
    have hK16 : ∀ u v : World, Keeps u v → (u.cell? ⟨g, off + a * 6, none⟩ = some (.string t.name) ∧ u.cell? ⟨g, off + a * 6 + 1, none⟩ = some (.int .i64 t.per) ∧ u.cell? ⟨g, off + a * 6 + 2, none⟩ = some (.int .i64 t.dl) ∧ u.cell? ⟨g, off + a * 6 + 3, none⟩ = some (.int .i64 t.prio) ∧ u.cell? ⟨g, off + a * 6 + 4, none⟩ = some (.int .i64 t.cl) ∧ u.cell? ⟨g, off + a * 6 + 5, none⟩ = some (.slice t.pa t.parts.length t.pc) ∧ u.cell? ⟨g, off + b * 6, none⟩ = some (.string o.name) ∧ u.cell? ⟨g, off + b * 6 + 1, none⟩ = some (.int .i64 o.per) ∧ u.cell? ⟨g, off + b * 6 + 2, none⟩ = some (.int .i64 o.dl) ∧ u.cell? ⟨g, off + b * 6 + 3, none⟩ = some (.int .i64 o.prio) ∧ u.cell? ⟨g, off + b * 6 + 4, none⟩ = some (.int .i64 o.cl) ∧ u.cell? ⟨g, off + b * 6 + 5, none⟩ = some (.slice o.pa o.parts.length o.pc) ∧ u.cell? ⟨w.heap.size, 0, none⟩ = some (.int .i64 proto) ∧ u.cell? ⟨w.heap.size, 1, none⟩ = some (.slice ca cores.length cc) ∧ u.cell? ⟨w.heap.size, 2, none⟩ = some (.slice hha homes.length hc) ∧ u.cell? ⟨w.heap.size, 3, none⟩ = some (.slice (some ⟨g, off, none⟩) tasks.length tc)) → (v.cell? ⟨g, off + a * 6, none⟩ = some (.string t.name) ∧ v.cell? ⟨g, off + a * 6 + 1, none⟩ = some (.int .i64 t.per) ∧ v.cell? ⟨g, off + a * 6 + 2, none⟩ = some (.int .i64 t.dl) ∧ v.cell? ⟨g, off + a * 6 + 3, none⟩ = some (.int .i64 t.prio) ∧ v.cell? ⟨g, off + a * 6 + 4, none⟩ = some (.int .i64 t.cl) ∧ v.cell? ⟨g, off + a * 6 + 5, none⟩ = some (.slice t.pa t.parts.length t.pc) ∧ v.cell? ⟨g, off + b * 6, none⟩ = some (.string o.name) ∧ v.cell? ⟨g, off + b * 6 + 1, none⟩ = some (.int .i64 o.per) ∧ v.cell? ⟨g, off + b * 6 + 2, none⟩ = some (.int .i64 o.dl) ∧ v.cell? ⟨g, off + b * 6 + 3, none⟩ = some (.int .i64 o.prio) ∧ v.cell? ⟨g, off + b * 6 + 4, none⟩ = some (.int .i64 o.cl) ∧ v.cell? ⟨g, off + b * 6 + 5, none⟩ = some (.slice o.pa o.parts.length o.pc) ∧ v.cell? ⟨w.heap.size, 0, none⟩ = some (.int .i64 proto) ∧ v.cell? ⟨w.heap.size, 1, none⟩ = some (.slice ca cores.length cc) ∧ v.cell? ⟨w.heap.size, 2, none⟩ = some (.slice hha homes.length hc) ∧ v.cell? ⟨w.heap.size, 3, none⟩ = some (.slice (some ⟨g, off, none⟩) tasks.length tc)) := fun u v k h => And.intro (k _ _ h.1) (And.intro (k _ _ h.2.1) (And.intro (k _ _ h.2.2.1) (And.intro (k _ _ h.2.2.2.1) (And.intro (k _ _ h.2.2.2.2.1) (And.intro (k _ _ h.2.2.2.2.2.1) (And.intro (k _ _ h.2.2.2.2.2.2.1) (And.intro (k _ _ h.2.2.2.2.2.2.2.1) (And.intro (k _ _ h.2.2.2.2.2.2.2.2.1) (And.intro (k _ _ h.2.2.2.2.2.2.2.2.2.1) (And.intro (k _ _ h.2.2.2.2.2.2.2.2.2.2.1) (And.intro (k _ _ h.2.2.2.2.2.2.2.2.2.2.2.1) (And.intro (k _ _ h.2.2.2.2.2.2.2.2.2.2.2.2.1) (And.intro (k _ _ h.2.2.2.2.2.2.2.2.2.2.2.2.2.1) (And.intro (k _ _ h.2.2.2.2.2.2.2.2.2.2.2.2.2.2.1) (k _ _ h.2.2.2.2.2.2.2.2.2.2.2.2.2.2.2)))))))))))))))
    have HK := hidp hK16
    replace hb := hb.drew
    replace sc := sc.keep (Keeps.drew _)
    clear x0 x1 x2 x3 x4 x5 y0 y1 y2 y3 y4 y5 hK16 H
    refine wp_region_held_drew (S := fun w' => w'.cell? ⟨g, off + a * 6, none⟩ = some (.string t.name) ∧ w'.cell? ⟨g, off + a * 6 + 1, none⟩ = some (.int .i64 t.per) ∧ w'.cell? ⟨g, off + a * 6 + 2, none⟩ = some (.int .i64 t.dl) ∧ w'.cell? ⟨g, off + a * 6 + 3, none⟩ = some (.int .i64 t.prio) ∧ w'.cell? ⟨g, off + a * 6 + 4, none⟩ = some (.int .i64 t.cl) ∧ w'.cell? ⟨g, off + a * 6 + 5, none⟩ = some (.slice t.pa t.parts.length t.pc) ∧ w'.cell? ⟨g, off + b * 6, none⟩ = some (.string o.name) ∧ w'.cell? ⟨g, off + b * 6 + 1, none⟩ = some (.int .i64 o.per) ∧ w'.cell? ⟨g, off + b * 6 + 2, none⟩ = some (.int .i64 o.dl) ∧ w'.cell? ⟨g, off + b * 6 + 3, none⟩ = some (.int .i64 o.prio) ∧ w'.cell? ⟨g, off + b * 6 + 4, none⟩ = some (.int .i64 o.cl) ∧ w'.cell? ⟨g, off + b * 6 + 5, none⟩ = some (.slice o.pa o.parts.length o.pc) ∧ w'.cell? ⟨w.heap.size, 0, none⟩ = some (.int .i64 proto) ∧ w'.cell? ⟨w.heap.size, 1, none⟩ = some (.slice ca cores.length cc) ∧ w'.cell? ⟨w.heap.size, 2, none⟩ = some (.slice hha homes.length hc) ∧ w'.cell? ⟨w.heap.size, 3, none⟩ = some (.slice (some ⟨g, off, none⟩) tasks.length tc)) (by kernel_rfl) ?_ (fun hHeld => ?_)
    · exact hs
    generalize (w.alloc (.cells #[.int .i64 proto, .slice ca cores.length cc, .slice hha homes.length hc, .slice (some ⟨g, off, none⟩) tasks.length tc] 25)).drew = u1 at *
    refine wpAnyH_take (i := 0) (v := ?_) rfl (by kernel_rfl) (by kernel_rfl) (by kernel_rfl) (fun _ _ _ h => h) (Or.inl ⟨by rfl, ?_⟩) (by assumption) ?_
    rotate_left 1
    · ((intro w hSw; (try dsimp only at hSw); go_simp); (try with_reducible rfl))
    simp only [Act.put, List.setIfInBounds_toArray, List.set_cons_zero, List.set_cons_succ, List.getElem_toArray, List.getElem_cons_zero, List.getElem_cons_succ]
    refine wpAnyH_take (i := 1) (v := ?_) rfl (by kernel_rfl) (by kernel_rfl) (by kernel_rfl) (fun _ _ _ h => h) (Or.inl ⟨by rfl, ?_⟩) (by assumption) ?_
    rotate_left 1
    · ((intro w hSw; (try dsimp only at hSw); go_simp); (try with_reducible rfl))
    simp only [Act.put, List.setIfInBounds_toArray, List.set_cons_zero, List.set_cons_succ, List.getElem_toArray, List.getElem_cons_zero, List.getElem_cons_succ]
    refine wpAnyH_take (i := 2) (v := ?_) rfl (by kernel_rfl) (by kernel_rfl) (by kernel_rfl) (fun _ _ _ h => h) (Or.inl ⟨by rfl, ?_⟩) (by assumption) ?_
    rotate_left 1
    · ((intro w hSw; (try dsimp only at hSw); go_simp); (try with_reducible rfl))
    simp only [Act.put, List.setIfInBounds_toArray, List.set_cons_zero, List.set_cons_succ, List.getElem_toArray, List.getElem_cons_zero, List.getElem_cons_succ]
    refine wpAnyH_take (i := 3) (v := ?_) rfl (by kernel_rfl) (by kernel_rfl) (by kernel_rfl) (fun _ _ _ h => h) (Or.inl ⟨by rfl, ?_⟩) (by assumption) ?_
    rotate_left 1
    · ((intro w hSw; (try dsimp only at hSw); go_simp); (try with_reducible rfl))
    simp only [Act.put, List.setIfInBounds_toArray, List.set_cons_zero, List.set_cons_succ, List.getElem_toArray, List.getElem_cons_zero, List.getElem_cons_succ]
    refine wpAnyH_take (i := 4) (v := ?_) rfl (by kernel_rfl) (by kernel_rfl) (by kernel_rfl) (fun _ _ _ h => h) (Or.inl ⟨by rfl, ?_⟩) (by assumption) ?_
    rotate_left 1
    · ((intro w hSw; (try dsimp only at hSw); go_simp); (try with_reducible rfl))
    simp only [Act.put, List.setIfInBounds_toArray, List.set_cons_zero, List.set_cons_succ, List.getElem_toArray, List.getElem_cons_zero, List.getElem_cons_succ]
    refine wpAnyH_take (i := 5) (v := ?_) rfl (by kernel_rfl) (by kernel_rfl) (by kernel_rfl) (fun _ _ _ h => h) (Or.inl ⟨by rfl, ?_⟩) (by assumption) ?_
    rotate_left 1
    · ((intro w hSw; (try dsimp only at hSw); go_simp); (try with_reducible rfl))
    simp only [Act.put, List.setIfInBounds_toArray, List.set_cons_zero, List.set_cons_succ, List.getElem_toArray, List.getElem_cons_zero, List.getElem_cons_succ]
    refine wpAnyH_take (i := 6) (v := ?_) rfl (by kernel_rfl) (by kernel_rfl) (by kernel_rfl) (fun _ _ _ h => h) (Or.inl ⟨by rfl, ?_⟩) (by assumption) ?_
    rotate_left 1
    · ((intro w hSw; (try dsimp only at hSw); go_simp); (try with_reducible rfl))
    simp only [Act.put, List.setIfInBounds_toArray, List.set_cons_zero, List.set_cons_succ, List.getElem_toArray, List.getElem_cons_zero, List.getElem_cons_succ]
    refine wpAnyH_take (i := 7) (v := ?_) rfl (by kernel_rfl) (by kernel_rfl) (by kernel_rfl) (fun _ _ _ h => h) (Or.inl ⟨by rfl, ?_⟩) (by assumption) ?_
    rotate_left 1
    · ((intro w hSw; (try dsimp only at hSw); go_simp); (try with_reducible rfl))
    simp only [Act.put, List.setIfInBounds_toArray, List.set_cons_zero, List.set_cons_succ, List.getElem_toArray, List.getElem_cons_zero, List.getElem_cons_succ]
    refine wpAnyH_take (i := 8) (v := ?_) rfl (by kernel_rfl) (by kernel_rfl) (by kernel_rfl) (fun _ _ _ h => h) (Or.inl ⟨by rfl, ?_⟩) (by assumption) ?_
    rotate_left 1
    · ((intro w hSw; (try dsimp only at hSw); go_simp); (try with_reducible rfl))
    simp only [Act.put, List.setIfInBounds_toArray, List.set_cons_zero, List.set_cons_succ, List.getElem_toArray, List.getElem_cons_zero, List.getElem_cons_succ]
    refine wpAnyH_take (i := 9) (v := ?_) rfl (by kernel_rfl) (by kernel_rfl) (by kernel_rfl) (fun _ _ _ h => h) (Or.inl ⟨by rfl, ?_⟩) (by assumption) ?_
    rotate_left 1
    · ((intro w hSw; (try dsimp only at hSw); go_simp); (try with_reducible rfl))
    simp only [Act.put, List.setIfInBounds_toArray, List.set_cons_zero, List.set_cons_succ, List.getElem_toArray, List.getElem_cons_zero, List.getElem_cons_succ]
    refine wpAnyH_ready (rs := [10, 11]) (by kernel_rfl) (by simp) ?_
    refine AllReadyH.cons rfl (fun K hK => ?_) (AllReadyH.cons rfl (fun K hK => ?_) AllReadyH.nil)
    · go_simp
      refine hK.out _ _ ?_ (fun hHeld => ?_)
      · exact HK.out _ _ (Keeps.alloc u1 (.cells #[.string ⟨#[]⟩, .int .i64 0, .int .i64 0, .int .i64 0, .int .i64 0, .slice none 0 0] 42)) hs
      clear hK K
      try simp only [Act.put, List.setIfInBounds_toArray, List.set_cons_zero, List.set_cons_succ, List.getElem_toArray, List.getElem_cons_zero, List.getElem_cons_succ]
      refine wpAnyH_ready (rs := [11]) (by kernel_rfl) (by simp) ?_
      refine AllReadyH.cons rfl (fun K hK => ?_) AllReadyH.nil
      go_simp
      refine hK.out _ _ ?_ (fun hHeld => ?_)
      · exact HK.out _ _ ((Keeps.alloc u1 (.cells #[.string ⟨#[]⟩, .int .i64 0, .int .i64 0, .int .i64 0, .int .i64 0, .slice none 0 0] 42)).trans (Keeps.alloc _ (.cells #[.string ⟨#[]⟩, .int .i64 0, .int .i64 0, .int .i64 0, .int .i64 0, .slice none 0 0] 42))) hs
      clear hK K
      try simp only [Act.put, List.setIfInBounds_toArray, List.set_cons_zero, List.set_cons_succ, List.getElem_toArray, List.getElem_cons_zero, List.getElem_cons_succ]
      refine wpAnyH_ready (rs := [12]) (by kernel_rfl) (by simp) ?_
      refine AllReadyH.cons rfl (fun K hK => ?_) AllReadyH.nil
      go_simp
      refine hK.out _ _ ?_ (fun hHeld => ?_)
      · exact HK.out _ _ ((Keeps.alloc u1 (.cells #[.string t.name, .int .i64 t.per, .int .i64 t.dl, .int .i64 t.prio, .int .i64 t.cl, .slice t.pa t.parts.length t.pc] 42)).trans (Keeps.alloc _ (.cells #[.string ⟨#[]⟩, .int .i64 0, .int .i64 0, .int .i64 0, .int .i64 0, .slice none 0 0] 42))) hs
      clear hK K
      try simp only [Act.put, List.setIfInBounds_toArray, List.set_cons_zero, List.set_cons_succ, List.getElem_toArray, List.getElem_cons_zero, List.getElem_cons_succ]
      refine wpAnyH_ready (rs := [13]) (by kernel_rfl) (by simp) ?_
      refine AllReadyH.cons rfl (fun K hK => ?_) AllReadyH.nil
      go_simp
      refine hK.out _ _ ?_ (fun hHeld => ?_)
      · exact HK.out _ _ ((Keeps.alloc u1 (.cells #[.string t.name, .int .i64 t.per, .int .i64 t.dl, .int .i64 t.prio, .int .i64 t.cl, .slice t.pa t.parts.length t.pc] 42)).trans (Keeps.alloc _ (.cells #[.string o.name, .int .i64 o.per, .int .i64 o.dl, .int .i64 o.prio, .int .i64 o.cl, .slice o.pa o.parts.length o.pc] 42))) hs
      clear hK K
      try simp only [Act.put, List.setIfInBounds_toArray, List.set_cons_zero, List.set_cons_succ, List.getElem_toArray, List.getElem_cons_zero, List.getElem_cons_succ]
      refine wpAnyH_done (by kernel_rfl) ?_ _
      clear hHeld
      go_wp2_with fail
      go_meet
      have tb0 := TaskBox.new u1 t 42
      have tb1 := TaskBox.new (u1.alloc (.cells #[.string t.name, .int .i64 t.per, .int .i64 t.dl, .int .i64 t.prio, .int .i64 t.cl, .slice t.pa t.parts.length t.pc] 42)) o 42
      rw [show (u1.alloc (.cells #[.string t.name, .int .i64 t.per, .int .i64 t.dl, .int .i64 t.prio, .int .i64 t.cl, .slice t.pa t.parts.length t.pc] 42)).heap.size = u1.heap.size + 1 by simp] at tb1
      have tb2 := tb0.keep (Keeps.alloc _ (.cells #[.string o.name, .int .i64 o.per, .int .i64 o.dl, .int .i64 o.prio, .int .i64 o.cl, .slice o.pa o.parts.length o.pc] 42))
      exact ⟨_, _, rfl, rfl, tb2, tb1, (sc.keep (Keeps.alloc u1 (.cells #[.string t.name, .int .i64 t.per, .int .i64 t.dl, .int .i64 t.prio, .int .i64 t.cl, .slice t.pa t.parts.length t.pc] 42))).keep (Keeps.alloc _ (.cells #[.string o.name, .int .i64 o.per, .int .i64 o.dl, .int .i64 o.prio, .int .i64 o.cl, .slice o.pa o.parts.length o.pc] 42)), (hb.alloc hb.size (.cells #[.string t.name, .int .i64 t.per, .int .i64 t.dl, .int .i64 t.prio, .int .i64 t.cl, .slice t.pa t.parts.length t.pc] 42)).alloc (hb.alloc hb.size (.cells #[.string t.name, .int .i64 t.per, .int .i64 t.dl, .int .i64 t.prio, .int .i64 t.cl, .slice t.pa t.parts.length t.pc] 42)).size (.cells #[.string o.name, .int .i64 o.per, .int .i64 o.dl, .int .i64 o.prio, .int .i64 o.cl, .slice o.pa o.parts.length o.pc] 42)⟩
    · go_simp
      refine hK.out _ _ ?_ (fun hHeld => ?_)
      · exact HK.out _ _ (Keeps.alloc u1 (.cells #[.string ⟨#[]⟩, .int .i64 0, .int .i64 0, .int .i64 0, .int .i64 0, .slice none 0 0] 42)) hs
      clear hK K
      try simp only [Act.put, List.setIfInBounds_toArray, List.set_cons_zero, List.set_cons_succ, List.getElem_toArray, List.getElem_cons_zero, List.getElem_cons_succ]
      refine wpAnyH_ready (rs := [10]) (by kernel_rfl) (by simp) ?_
      refine AllReadyH.cons rfl (fun K hK => ?_) AllReadyH.nil
      go_simp
      refine hK.out _ _ ?_ (fun hHeld => ?_)
      · exact HK.out _ _ ((Keeps.alloc u1 (.cells #[.string ⟨#[]⟩, .int .i64 0, .int .i64 0, .int .i64 0, .int .i64 0, .slice none 0 0] 42)).trans (Keeps.alloc _ (.cells #[.string ⟨#[]⟩, .int .i64 0, .int .i64 0, .int .i64 0, .int .i64 0, .slice none 0 0] 42))) hs
      clear hK K
      try simp only [Act.put, List.setIfInBounds_toArray, List.set_cons_zero, List.set_cons_succ, List.getElem_toArray, List.getElem_cons_zero, List.getElem_cons_succ]
      refine wpAnyH_ready (rs := [12]) (by kernel_rfl) (by simp) ?_
      refine AllReadyH.cons rfl (fun K hK => ?_) AllReadyH.nil
      go_simp
      refine hK.out _ _ ?_ (fun hHeld => ?_)
      · exact HK.out _ _ ((Keeps.alloc u1 (.cells #[.string ⟨#[]⟩, .int .i64 0, .int .i64 0, .int .i64 0, .int .i64 0, .slice none 0 0] 42)).trans (Keeps.alloc _ (.cells #[.string t.name, .int .i64 t.per, .int .i64 t.dl, .int .i64 t.prio, .int .i64 t.cl, .slice t.pa t.parts.length t.pc] 42))) hs
      clear hK K
      try simp only [Act.put, List.setIfInBounds_toArray, List.set_cons_zero, List.set_cons_succ, List.getElem_toArray, List.getElem_cons_zero, List.getElem_cons_succ]
      refine wpAnyH_ready (rs := [13]) (by kernel_rfl) (by simp) ?_
      refine AllReadyH.cons rfl (fun K hK => ?_) AllReadyH.nil
      go_simp
      refine hK.out _ _ ?_ (fun hHeld => ?_)
      · exact HK.out _ _ ((Keeps.alloc u1 (.cells #[.string o.name, .int .i64 o.per, .int .i64 o.dl, .int .i64 o.prio, .int .i64 o.cl, .slice o.pa o.parts.length o.pc] 42)).trans (Keeps.alloc _ (.cells #[.string t.name, .int .i64 t.per, .int .i64 t.dl, .int .i64 t.prio, .int .i64 t.cl, .slice t.pa t.parts.length t.pc] 42))) hs
      clear hK K
      try simp only [Act.put, List.setIfInBounds_toArray, List.set_cons_zero, List.set_cons_succ, List.getElem_toArray, List.getElem_cons_zero, List.getElem_cons_succ]
      refine wpAnyH_done (by kernel_rfl) ?_ _
      clear hHeld
      go_wp2_with fail
      go_meet
      have tb0 := TaskBox.new u1 o 42
      have tb1 := TaskBox.new (u1.alloc (.cells #[.string o.name, .int .i64 o.per, .int .i64 o.dl, .int .i64 o.prio, .int .i64 o.cl, .slice o.pa o.parts.length o.pc] 42)) t 42
      rw [show (u1.alloc (.cells #[.string o.name, .int .i64 o.per, .int .i64 o.dl, .int .i64 o.prio, .int .i64 o.cl, .slice o.pa o.parts.length o.pc] 42)).heap.size = u1.heap.size + 1 by simp] at tb1
      have tb2 := tb0.keep (Keeps.alloc _ (.cells #[.string t.name, .int .i64 t.per, .int .i64 t.dl, .int .i64 t.prio, .int .i64 t.cl, .slice t.pa t.parts.length t.pc] 42))
      exact ⟨_, _, rfl, rfl, tb1, tb2, (sc.keep (Keeps.alloc u1 (.cells #[.string o.name, .int .i64 o.per, .int .i64 o.dl, .int .i64 o.prio, .int .i64 o.cl, .slice o.pa o.parts.length o.pc] 42))).keep (Keeps.alloc _ (.cells #[.string t.name, .int .i64 t.per, .int .i64 t.dl, .int .i64 t.prio, .int .i64 t.cl, .slice t.pa t.parts.length t.pc] 42)), (hb.alloc hb.size (.cells #[.string o.name, .int .i64 o.per, .int .i64 o.dl, .int .i64 o.prio, .int .i64 o.cl, .slice o.pa o.parts.length o.pc] 42)).alloc (hb.alloc hb.size (.cells #[.string o.name, .int .i64 o.per, .int .i64 o.dl, .int .i64 o.prio, .int .i64 o.cl, .slice o.pa o.parts.length o.pc] 42)).size (.cells #[.string t.name, .int .i64 t.per, .int .i64 t.dl, .int .i64 t.prio, .int .i64 t.cl, .slice t.pa t.parts.length t.pc] 42)⟩
  case rest =>
    obtain ⟨g1, g2, rfl, rfl, tb, ob, sc, hb⟩ := hcut
    clear x0 x1 x2 x3 x4 x5 y0 y1 y2 y3 y4 y5
    obtain ⟨sc_0, sc_1, sc_2, sc_3⟩ := id sc
    dsimp only at sc_0 sc_1 sc_2 sc_3
    obtain ⟨d0, d1, d2, d3, d4, d5⟩ := id tb
    obtain ⟨f0, f1, f2, f3, f4, f5⟩ := id ob
    have HEV := HE.out
    by_cases p2 : proto = 2
    · have q2 : (proto == 2) = true := by simpa using p2
      rw [if_pos p2] at HEV
      have HAt := at_any ⟨proto, ca, cc, cores, hha, hc, homes, some ⟨g, off, none⟩, tc, tasks⟩ a o.cl wc (HS1.out _ hb)
      rw [HV.out] at HAt
      by_cases c1 : t.cl = o.cl
      · by_cases c2 : t.prio < o.prio
        · rw [if_pos ⟨c1, c2⟩] at HEV
          have Hv := hidp HEV
          have e1 : (t.cl == o.cl) = true := by simpa using c1
          clear p2 c1 HEV
          go_wp2_with fail
          refine HAt.mono ?_
          rintro e w2 ⟨rfl, hb2⟩
          replace hb := hb.trans (hb2.mono hb.size)
          replace tb := tb.keep (Keeps.of_below hb2)
          replace ob := ob.keep (Keeps.of_below hb2)
          clear hb2 d0 d1 d2 d3 d4 d5 f0 f1 f2 f3 f4 f5 sc_0 sc_1 sc_2 sc_3
          obtain ⟨d0, d1, d2, d3, d4, d5⟩ := id tb
          obtain ⟨f0, f1, f2, f3, f4, f5⟩ := id ob
          go_wp2_with fail
          refine (runs_any t _ (TL.out.keep (Keeps.of_below hb))).mono ?_
          rintro e w3 ⟨rfl, hb2⟩
          rw [HR.out]
          replace hb := hb.trans (hb2.mono hb.size)
          go_wp2
          go_ret
          exact ⟨ret_int Hv.out.symm, hb⟩
        · rw [if_neg (fun h => c2 h.2), Int.add_zero] at HEV
          have Hv := hidp HEV
          have e1 : (t.cl == o.cl) = true := by simpa using c1
          clear p2 c1 HEV
          go_wp2_with fail
          refine HAt.mono ?_
          rintro e w2 ⟨rfl, hb2⟩
          replace hb := hb.trans (hb2.mono hb.size)
          replace tb := tb.keep (Keeps.of_below hb2)
          replace ob := ob.keep (Keeps.of_below hb2)
          clear hb2 d0 d1 d2 d3 d4 d5 f0 f1 f2 f3 f4 f5 sc_0 sc_1 sc_2 sc_3
          obtain ⟨d0, d1, d2, d3, d4, d5⟩ := id tb
          obtain ⟨f0, f1, f2, f3, f4, f5⟩ := id ob
          go_wp2
          go_ret
          exact ⟨ret_int Hv.out.symm, hb⟩
      · rw [if_neg (fun h => c1 h.1), Int.add_zero] at HEV
        have Hv := hidp HEV
        have e1 : (t.cl == o.cl) = false := by simpa using c1
        clear p2 c1 HEV
        go_wp2_with fail
        refine HAt.mono ?_
        rintro e w2 ⟨rfl, hb2⟩
        replace hb := hb.trans (hb2.mono hb.size)
        replace tb := tb.keep (Keeps.of_below hb2)
        replace ob := ob.keep (Keeps.of_below hb2)
        clear hb2 d0 d1 d2 d3 d4 d5 f0 f1 f2 f3 f4 f5 sc_0 sc_1 sc_2 sc_3
        obtain ⟨d0, d1, d2, d3, d4, d5⟩ := id tb
        obtain ⟨f0, f1, f2, f3, f4, f5⟩ := id ob
        go_wp2
        go_ret
        exact ⟨ret_int Hv.out.symm, hb⟩
    · have q2 : (proto == 2) = false := by simpa using p2
      rw [if_neg p2] at HEV
      by_cases c1 : t.cl = o.cl
      · rw [if_pos c1] at HEV
        by_cases c2 : t.prio < o.prio
        · rw [if_pos ⟨c1, c2⟩] at HEV
          have Hv := hidp HEV
          have e1 : (t.cl == o.cl) = true := by simpa using c1
          clear p2 c1 HEV
          go_wp2_with fail
          refine (locks_any t _ (TL.out.keep (Keeps.of_below hb))).mono ?_
          rintro e w2 ⟨rfl, hb2⟩
          rw [HL.out]
          replace hb := hb.trans (hb2.mono hb.size)
          replace tb := tb.keep (Keeps.of_below hb2)
          replace ob := ob.keep (Keeps.of_below hb2)
          clear hb2 d0 d1 d2 d3 d4 d5 f0 f1 f2 f3 f4 f5 sc_0 sc_1 sc_2 sc_3
          obtain ⟨d0, d1, d2, d3, d4, d5⟩ := id tb
          obtain ⟨f0, f1, f2, f3, f4, f5⟩ := id ob
          go_wp2_with fail
          refine (runs_any t _ (TL.out.keep (Keeps.of_below hb))).mono ?_
          rintro e w3 ⟨rfl, hb2⟩
          rw [HR.out]
          replace hb := hb.trans (hb2.mono hb.size)
          go_wp2
          go_ret
          exact ⟨ret_int Hv.out.symm, hb⟩
        · rw [if_neg (fun h => c2 h.2), Int.add_zero] at HEV
          have Hv := hidp HEV
          have e1 : (t.cl == o.cl) = true := by simpa using c1
          clear p2 c1 HEV
          go_wp2_with fail
          refine (locks_any t _ (TL.out.keep (Keeps.of_below hb))).mono ?_
          rintro e w2 ⟨rfl, hb2⟩
          rw [HL.out]
          replace hb := hb.trans (hb2.mono hb.size)
          replace tb := tb.keep (Keeps.of_below hb2)
          replace ob := ob.keep (Keeps.of_below hb2)
          clear hb2 d0 d1 d2 d3 d4 d5 f0 f1 f2 f3 f4 f5 sc_0 sc_1 sc_2 sc_3
          obtain ⟨d0, d1, d2, d3, d4, d5⟩ := id tb
          obtain ⟨f0, f1, f2, f3, f4, f5⟩ := id ob
          go_wp2
          go_ret
          exact ⟨ret_int Hv.out.symm, hb⟩
      · rw [if_neg c1, if_neg (fun h => c1 h.1), Int.add_zero] at HEV
        have Hv := hidp HEV
        have e1 : (t.cl == o.cl) = false := by simpa using c1
        clear p2 c1 HEV
        go_wp2
        go_ret
        exact ⟨ret_int Hv.out.symm, hb⟩
end Go.Proofs.Ytpnghhaflgkgfaa

namespace Go.Proofs.Ytpnghhaflgkgfaa
open Go.ChangeShapes Go.WideShapes Go.ChangeAt Go.RowKit
set_option linter.unusedVariables false
set_option linter.unusedSimpArgs false

set_option maxHeartbeats 2000000 in
set_option maxRecDepth 100000 in
theorem own_any (s : SetR) (bs : List Int) (ba : Option Addr) (bc : Nat) (of : Int) (w : World) (hs : SetOk w s) (hB : IntsOk w ba bc bs) : Calls Try.prog 22 #[.agg #[.int .i64 s.proto, .slice s.ca s.cores.length s.cc, .slice s.ha s.homes.length s.hc, .slice s.ta s.tasks.length s.tc], .slice ba bs.length bc, .int .i64 of] w fun e w' => e = .returned (.tuple #[.int .i64 (ownV s bs of), .bool (waitsK s bs of)]) ∧ Below w.heap.size w w' := by
  have hb := (Below.refl w.heap.size w).alloc (Nat.le_refl _) (.cells #[.int .i64 s.proto, .slice s.ca s.cores.length s.cc, .slice s.ha s.homes.length s.hc, .slice s.ta s.tasks.length s.tc] 25)
  have sc := SetCells.new w s 25
  have H := hs.keep (Keeps.of_below hb)
  have HB := hB.keep (Keeps.of_below hb)
  have l3 : s.tasks.length ≤ maxLen := Nat.le_trans hs.tasks.sl.2.1 hs.tasks.sl.2.2
  unfold maxLen at l3
  obtain ⟨T, HT0⟩ : ∃ T, Hid (tot (waitsL s bs of) = T) := ⟨_, hidp rfl⟩
  have hT := waitsT_bd s bs of
  rw [HT0.out] at hT
  obtain ⟨T0, T1⟩ := hT
  by_cases k : waitsK s bs of = true
  · have Hk := hidp k
    have hth := waitsK_there k
    obtain ⟨ho, r1, r2⟩ := thereB_true.1 hth
    obtain ⟨A, HA⟩ : ∃ A, Hid (sumK 1 (taskAt s of).parts = A) := ⟨_, hidp rfl⟩
    obtain ⟨B, HBb⟩ : ∃ B, Hid (sumK 2 (taskAt s of).parts = B) := ⟨_, hidp rfl⟩
    have hA := sum12_bd hth 1
    have hBb := sum12_bd hth 2
    rw [HA.out] at hA
    rw [HBb.out] at hBb
    obtain ⟨A0, A1⟩ := hA
    obtain ⟨B0, B1⟩ := hBb
    have Hv : Hid (ownV s bs of = A + B + T) := hidp (by unfold ownV; rw [if_pos k, HA.out, HBb.out, HT0.out])
    obtain ⟨n, rfl⟩ : ∃ n : Nat, of = n := ⟨of.toNat, by omega⟩
    have hn : n < s.tasks.length := by omega
    have hg := Good.of ho
    obtain ⟨t, HT⟩ : ∃ t, Hid (s.tasks.getD n default = t) := ⟨_, rfl⟩
    have hm : t ∈ s.tasks := HT.out ▸ getD_mem hn
    have TL : Hid (TaskLen w t) := hidp ⟨(hs.tasks.ok t hm).at_, (hg.parts t hm).lens, by have := (hg.parts t hm).len; omega⟩
    have e0 : taskAt s n = t := by unfold taskAt; simp only [Int.toNat_natCast]; exact HT.out
    rw [e0] at HA HBb
    obtain ⟨g, off, hA, hcl⟩ := hs.tasks.at_.resolve_left (by intro e; rw [e] at hn; simp at hn)
    have Htc := hidp (HT.out ▸ hcl n hn)
    have w1 : IntKind.i64.wrap (A + B) = A + B := IntWalk.i64_in _ (by omega)
    have w2 : IntKind.i64.wrap (A + B + T) = A + B + T := IntWalk.i64_in _ (by omega)
    clear hcl hm hg ho hs hB k hth e0 r1
    have dn : decide (s.tasks.length ≤ n) = false := by simp; omega
    obtain ⟨proto, ca, cc, cores, ha, hc, homes, ta, tc, tasks⟩ := s
    dsimp only at hA hn l3 r2 hb sc H dn ⊢
    subst hA
    go_enter Try.func22, Try.ntmps22
    go_wp2_with fail
    refine (wsum_any _ bs ba bc n _ H HB).mono ?_
    rintro e w3 ⟨rfl, hb2⟩
    replace hb := hb.trans (hb2.mono hb.size)
    replace sc := sc.keep (Keeps.of_below hb2)
    clear hb2
    try clear sc_0 sc_1 sc_2 sc_3
    have scx := sc
    obtain ⟨sc_0, sc_1, sc_2, sc_3⟩ := scx
    try dsimp only at sc_0 sc_1 sc_2 sc_3
    rw [HT0.out, Hk.out]
    obtain ⟨d0, d1, d2, d3, d4, d5⟩ := Htc.out.keep (Keeps.of_below hb)
    go_wp2_with fail
    have tb := (TaskBox.new w3 t 42).keep (Keeps.drew _)
    replace hb := (hb.alloc hb.size (.cells #[.string t.name, .int .i64 t.per, .int .i64 t.dl, .int .i64 t.prio, .int .i64 t.cl, .slice t.pa t.parts.length t.pc] 42)).drew
    clear d0 d1 d2 d3 d4 d5 sc_0 sc_1 sc_2 sc_3 sc H
    go_region_held3 (fun w' => w'.cell? ⟨w3.heap.size, 0, none⟩ = some (.string t.name) ∧ w'.cell? ⟨w3.heap.size, 1, none⟩ = some (.int .i64 t.per) ∧ w'.cell? ⟨w3.heap.size, 2, none⟩ = some (.int .i64 t.dl) ∧ w'.cell? ⟨w3.heap.size, 3, none⟩ = some (.int .i64 t.prio) ∧ w'.cell? ⟨w3.heap.size, 4, none⟩ = some (.int .i64 t.cl) ∧ w'.cell? ⟨w3.heap.size, 5, none⟩ = some (.slice t.pa t.parts.length t.pc)) (exact tb)
      (first
        | (go_at_call 38; refine (runs_any t _ (TL.out.keep (Keeps.of_below hb))).mono ?_; rintro e u ⟨rfl, hb3⟩; have tb := tb.keep (Keeps.of_below hb3); have hb := hb.trans (hb3.mono hb.size); rw [HA.out])
        | (go_at_call 39; refine (sleeps_any t _ (TL.out.keep (Keeps.of_below hb))).mono ?_; rintro e u ⟨rfl, hb3⟩; have tb := tb.keep (Keeps.of_below hb3); have hb := hb.trans (hb3.mono hb.size); rw [HBb.out]))
    clear w1 w2
    go_wp2_with fail
    go_ret2
    exact ⟨ret_ib Hv.out.symm Hk.out.symm, hb⟩
  · have k : waitsK s bs of = false := by simpa using k
    have Hk := hidp k
    have Hv : Hid (ownV s bs of = 0) := hidp (by unfold ownV; rw [k]; rfl)
    clear k hs hB
    go_enter Try.func22, Try.ntmps22
    go_wp2_with fail
    refine (wsum_any _ bs ba bc of _ H HB).mono ?_
    rintro e w3 ⟨rfl, hb2⟩
    replace hb := hb.trans (hb2.mono hb.size)
    replace sc := sc.keep (Keeps.of_below hb2)
    clear hb2
    rw [HT0.out, Hk.out]
    go_wp2
    go_ret2
    exact ⟨ret_ib Hv.out.symm Hk.out.symm, hb⟩

theorem workB_any (w0 b p e : Int) (w : World) (i0 : I64 w0) (i1 : I64 b) (i2 : I64 p) (i3 : I64 e) :
    Calls Try.prog 41 #[.int .i64 w0, .int .i64 b, .int .i64 p, .int .i64 e] w fun r w' => r = .returned (.int .i64 (workV w0 b p e)) ∧ Below w.heap.size w w' :=
  (work_any w0 b p e w i0 i1 i2 i3).mono fun r w' h => ⟨h.1, h.2.b⟩

set_option maxHeartbeats 4000000 in
set_option maxRecDepth 100000 in
theorem others17_any (s : SetR) (bs : List Int) (ba : Option Addr) (bc : Nat) (of wd : Int) (w : World) (hs : SetOk w s) (hB : IntsOk w ba bc bs) (hwd : I64 wd) : Calls Try.prog 23 #[.agg #[.int .i64 s.proto, .slice s.ca s.cores.length s.cc, .slice s.ha s.homes.length s.hc, .slice s.ta s.tasks.length s.tc], .slice ba bs.length bc, .int .i64 of, .int .i64 wd] w fun e w' => e = .returned (.int .i64 (othersV s bs of wd)) ∧ Below w.heap.size w w' := by
  have hb := (Below.refl w.heap.size w).alloc (Nat.le_refl _) (.cells #[.int .i64 s.proto, .slice s.ca s.cores.length s.cc, .slice s.ha s.homes.length s.hc, .slice s.ta s.tasks.length s.tc] 25)
  have sc := SetCells.new w s 25
  have H := hs.keep (Keeps.of_below hb)
  have l3 : s.tasks.length ≤ maxLen := Nat.le_trans hs.tasks.sl.2.1 hs.tasks.sl.2.2
  have l4 : bs.length ≤ maxLen := Nat.le_trans hB.sl.2.1 hB.sl.2.2
  unfold maxLen at l3 l4
  have Hwd := hidp hwd
  clear hwd
  by_cases e : thereB s of = true
  · have Hth := hidp e
    by_cases e2 : bs.length = s.tasks.length
    · have HL := hidp e2
      have d1 : ((bs.length : Int) != (s.tasks.length : Int)) = false := by simp [e2]
      obtain ⟨ho, r1, r2⟩ := thereB_true.1 e
      obtain ⟨c0, c1, c2, c3⟩ := cores_at e
      obtain ⟨n, rfl⟩ : ∃ n : Nat, of = n := ⟨of.toNat, by omega⟩
      have hn : n < s.tasks.length := by omega
      have hg := Good.of ho
      have n6 := hg.ntasks.2
      have Ho := hidp ho
      obtain ⟨cn, hcn⟩ : ∃ cn : Nat, (taskAt s n).cl = cn := ⟨(taskAt s n).cl.toNat, by omega⟩
      have hcl2 : cn < s.cores.length := by omega
      obtain ⟨nc, HNC⟩ : ∃ nc, Hid (s.cores.getD cn 0 = nc) := ⟨_, rfl⟩
      have e5 : s.cores.getD (taskAt s n).cl.toNat 0 = nc := by rw [hcn]; simpa using HNC.out
      rw [e5] at c2 c3
      obtain ⟨W, HW⟩ : ∃ W : Nat → Int, Hid (∀ k, othW s bs n wd 0 (s.tasks.take k) = W k) := ⟨fun k => othW s bs n wd 0 (s.tasks.take k), hidp (fun _ => rfl)⟩
      obtain ⟨E, HE⟩ : ∃ E : Nat → Int, Hid (∀ k : Nat, eachV s k n = E k) := ⟨fun k => eachV s k n, hidp (fun _ => rfl)⟩
      have HEb : Hid (∀ k, 0 ≤ E k ∧ E k ≤ 720) := hidp (fun k => by rw [← HE.out]; exact eachV_bd ho k n)
      have HW0 : Hid (W 0 = 0) := hidp (by rw [← HW.out]; simp [othW])
      have HWb : Hid (∀ k, 0 ≤ W k ∧ W k ≤ 6000000) := hidp (fun k => by
        rw [← HW.out]
        have h1 := othW_bd s bs n wd 0 (s.tasks.take k)
        have h2 : (s.tasks.take k).length ≤ 6 := by rw [List.length_take]; omega
        omega)
      have HWs : Hid (∀ k, k < s.tasks.length → W (k + 1) = W k + (if (k : Int) = n then 0 else workV wd (bs.getD k 0) (s.tasks.getD k default).per (E k))) := hidp (fun k hk => by rw [← HW.out, ← HW.out, ← HE.out]; exact othW_snoc s bs n wd s.tasks k hk)
      have HVy : Hid (nnB bs = true → othersV s bs n wd = W s.tasks.length / nc) := hidp (fun h => by
        unfold othersV; rw [if_pos ⟨othersB_true.2 ⟨e, e2⟩, h⟩, e5, ← HW.out, List.take_length])
      have HVn : Hid (nnB bs = false → othersV s bs n wd = 0) := hidp (fun h => by unfold othersV; rw [h, if_neg (fun g => by cases g.2)])
      have HR := hidp hs.tasks.at_
      have HRc := hidp hs.cores.at_
      have HBR := hidp hB.at_
      have HBw := hidp hB.wf
      have Hper := hidp (fun t ht => (hs.tasks.ok t ht).per)
      have HS1 : Hid (∀ u, Below w.heap.size w u → SetOk u s) := hidp (fun u h => hs.keep (Keeps.of_below h))
      have Hcn := hidp hcn
      have Hat : Hid ((s.tasks.getD n default).cl = cn) := hidp (by have := hcn; unfold taskAt at this; simpa using this)
      clear hg ho hs hB e e2 r1 HW c0 c1 e5 hcn
      obtain ⟨proto, ca, cc, cores, ha, hc, homes, ta, tc, tasks⟩ := s
      dsimp only at hn l3 r2 hb sc H d1 n6 hcl2 HR HRc HWs HL Hper HNC Hat HS1 Ho ⊢
      obtain ⟨g, off, hA, hcl⟩ := HR.out.resolve_left (by intro e; rw [e] at hn; simp at hn)
      subst hA
      have Hcl := hidp hcl
      obtain ⟨gc, oc, hCA, hcc⟩ := HRc.out.resolve_left (by intro e; rw [e] at hcl2; simp at hcl2)
      subst hCA
      have Hcc := hidp (HNC.out ▸ hcc cn hcl2)
      obtain ⟨gb, ob, hBA, hbl⟩ := HBR.out.resolve_left (by intro e; have := HL.out; rw [e] at this; simp at this; omega)
      subst hBA
      have Hbl := hidp hbl
      clear hcl hcc hbl
      have dn : decide (tasks.length ≤ n) = false := by simp; omega
      have dc : decide (cores.length ≤ cn) = false := by simp; omega
      have z0 : (nc == 0) = false := by simp; omega
      have z1 : (nc == -1) = false := by simp; omega
      go_enter Try.func23, Try.ntmps23
      go_wp2
      go_step3
      go_wp2_with fail
      refine (there17_any _ _ _ H).mono ?_
      rintro e w2 ⟨rfl, hb2⟩
      replace hb := hb.trans (hb2.mono hb.size)
      replace sc := sc.keep (Keeps.of_below hb2)
      clear hb2
      try clear sc_0 sc_1 sc_2 sc_3
      have scx := sc
      obtain ⟨sc_0, sc_1, sc_2, sc_3⟩ := scx
      try dsimp only at sc_0 sc_1 sc_2 sc_3
      rw [Hth.out]
      go_wp2
      go_step3
      go_wp2
      clear sc_0 sc_1 sc_2 sc_3
      go_loopg [9, 27] tasks.length (fun gg a i wr => ∃ (k : Nat) (x : Int), k + gg = tasks.length ∧ i = .int .i64 k ∧ a = .int .i64 x ∧ Hid (W k = x) ∧ Hid (∀ j, j < k → 0 ≤ bs.getD j 0) ∧ SetCells wr w.heap.size ⟨proto, some ⟨gc, oc, none⟩, cc, cores, ha, hc, homes, some ⟨g, off, none⟩, tc, tasks⟩ ∧ Below w.heap.size w wr)
      case atStart => exact ⟨0, 0, by omega, rfl, rfl, HW0, hidp (fun j hj => by omega), sc, hb⟩
      case round =>
        clear sc hb
        obtain ⟨k, x, hk, rfl, rfl, Hx, Hnn, sc, hw⟩ := hrel
        have hx := HWb.out k
        rw [Hx.out] at hx
        obtain ⟨x0, x1⟩ := hx
        by_cases hlt : k < tasks.length
        · obtain ⟨t, HT⟩ : ∃ t, Hid (tasks.getD k default = t) := ⟨_, rfl⟩
          have hkb : k < bs.length := by rw [HL.out]; exact hlt
          obtain ⟨b, Hb⟩ : ∃ b, Hid (bs.getD k 0 = b) := ⟨_, rfl⟩
          have hb64 := HBw.out b (by rw [← Hb.out]; exact getD_mem (α := Int) hkb)
          have hp64 := Hper.out t (HT.out ▸ getD_mem hlt)
          obtain ⟨d0, d1', d2, d3, d4, d5⟩ := (HT.out ▸ Hcl.out k hlt).keep (Keeps.of_below hw)
          have hw1 := hw.alloc hw.size (.cells #[.string t.name, .int .i64 t.per, .int .i64 t.dl, .int .i64 t.prio, .int .i64 t.cl, .slice t.pa t.parts.length t.pc] 42)
          have hbc := Keeps.of_below hw1 _ _ (Hb.out ▸ Hbl.out k hkb)
          have sc1 := sc.keep (Keeps.alloc wr (.cells #[.string t.name, .int .i64 t.per, .int .i64 t.dl, .int .i64 t.prio, .int .i64 t.cl, .slice t.pa t.parts.length t.pc] 42))
          have hkI : (k : Int) < (bs.length : Int) := by omega
          have Hb64 := hidp hb64
          have Hp64 := hidp hp64
          clear hb64 hp64
          by_cases e : b < 0
          · have Hz := hidp (HVn.out (nn_not hkb (by rw [Hb.out]; exact e)))
            go_wp2_with fail
            try rw [Exit.noGoto_ret]
            go_ret
            exact ⟨ret_int Hz.out.symm, hw1⟩
          · have hb0 : 0 ≤ b := by omega
            have Hnn' : Hid (∀ j, j < k + 1 → 0 ≤ bs.getD j 0) := hidp (fun j hj => by
              by_cases ej : j = k
              · subst ej; rw [Hb.out]; exact hb0
              · exact Hnn.out j (by omega))
            by_cases e3 : (k : Int) = n
            · have e4 : ((k : Int) == (n : Int)) = true := by simpa using e3
              have Hz : Hid (W (k + 1) = x) := hidp (by rw [HWs.out k hlt, if_pos e3, Hx.out]; omega)
              clear e3
              go_wp2_with fail
              go_roundg (gk - 1)
              case measure => omega
              case rel => exact ⟨k + 1, x, by omega, by go_num, rfl, Hz, Hnn', sc1, hw1⟩
            · have e4 : ((k : Int) == (n : Int)) = false := by simpa using e3
              obtain ⟨v, Hv⟩ : ∃ v, Hid (workV wd b t.per (E k) = v) := ⟨_, hidp rfl⟩
              have Hz : Hid (W (k + 1) = x + v) := hidp (by rw [HWs.out k hlt, if_neg e3, Hx.out, Hb.out, HT.out, Hv.out])
              have hv := workV_bd wd b t.per (E k)
              rw [Hv.out] at hv
              obtain ⟨v0, v1⟩ := hv
              have hEk := HEb.out k
              have HE64 : Hid (I64 (E k)) := hidp (by unfold I64; omega)
              have hwr : IntKind.i64.wrap (x + v) = x + v := IntWalk.i64_in _ (by omega)
              have hsv := Keeps.drew _ _ _ hbc
              have pb : (wr.alloc (.cells #[.string t.name, .int .i64 t.per, .int .i64 t.dl, .int .i64 t.prio, .int .i64 t.cl, .slice t.pa t.parts.length t.pc] 42)).drew.cell? ⟨wr.heap.size, 1, none⟩ = some (.int .i64 t.per) := by simp
              obtain ⟨s0, s1, s2, s3⟩ := sc1.keep (Keeps.drew _)
              have hb := hw1.drew
              clear e3 hEk
              go_wp2_with fail
              clear d0 d1' d2 d3 d4 d5 sc sc1 hw1 hbc
              go_region_held3 (fun w' => w'.cell? ⟨gb, ob + k, none⟩ = some (.int .i64 b) ∧ w'.cell? ⟨wr.heap.size, 1, none⟩ = some (.int .i64 t.per) ∧ w'.cell? ⟨w.heap.size, 0, none⟩ = some (.int .i64 proto) ∧ w'.cell? ⟨w.heap.size, 1, none⟩ = some (.slice (some ⟨gc, oc, none⟩) cores.length cc) ∧ w'.cell? ⟨w.heap.size, 2, none⟩ = some (.slice ha homes.length hc) ∧ w'.cell? ⟨w.heap.size, 3, none⟩ = some (.slice (some ⟨g, off, none⟩) tasks.length tc)) (exact ⟨hsv, pb, s0, s1, s2, s3⟩)
                (first
                  | (go_at_call 42; refine (each_any _ k n _ (HS1.out _ hb) Ho.out hlt hn).mono ?_; rintro e u ⟨rfl, hb3⟩; have hsv := Keeps.of_below hb3 _ _ hsv; have pb := Keeps.of_below hb3 _ _ pb; have s0 := Keeps.of_below hb3 _ _ s0; have s1 := Keeps.of_below hb3 _ _ s1; have s2 := Keeps.of_below hb3 _ _ s2; have s3 := Keeps.of_below hb3 _ _ s3; have hb := hb.trans (hb3.mono hb.size); rw [HE.out])
                  | (go_at_call 41; refine (workB_any wd b t.per (E k) _ Hwd.out Hb64.out Hp64.out HE64.out).mono ?_; rintro e u ⟨rfl, hb3⟩; have hsv := Keeps.of_below hb3 _ _ hsv; have pb := Keeps.of_below hb3 _ _ pb; have s0 := Keeps.of_below hb3 _ _ s0; have s1 := Keeps.of_below hb3 _ _ s1; have s2 := Keeps.of_below hb3 _ _ s2; have s3 := Keeps.of_below hb3 _ _ s3; have hb := hb.trans (hb3.mono hb.size); rw [Hv.out]))
              clear hwr
              go_wp2_with fail
              go_roundg (gk - 1)
              case measure => omega
              case rel => exact ⟨k + 1, x + v, by omega, by go_num, rfl, Hz, Hnn', ⟨s0, s1, s2, s3⟩, hb⟩
        · obtain rfl : k = tasks.length := by omega
          have hnn : nnB bs = true := nn_yes (fun j hj => Hnn.out j (by rw [← HL.out]; exact hj))
          have Hz := hidp (HVy.out hnn)
          obtain ⟨q, hq⟩ : ∃ q, x.tdiv nc = q := ⟨_, rfl⟩
          have Hq : Hid (q = x / nc) := hidp (by rw [← hq, Int.tdiv_eq_ediv_of_nonneg x0])
          have q0 : 0 ≤ q := by rw [Hq.out]; exact Int.ediv_nonneg x0 (by omega)
          have q1 : q ≤ 6000000 := by rw [Hq.out]; exact Int.le_trans (Int.ediv_le_self _ x0) x1
          obtain ⟨s0, s1, s2, s3⟩ := id sc
          dsimp only at s0 s1 s2 s3
          have k4 := Keeps.of_below hw _ _ Hcc.out
          have k5 := Keeps.of_below hw _ _ (Hcl.out n hn).2.2.2.2.1
          rw [Hat.out] at k5
          have cI : (cn : Int) < (cores.length : Int) := by omega
          have nI : (n : Int) < (tasks.length : Int) := by omega
          clear hnn
          go_wp2_with fail
          go_quiet (fail)
          go_wp2
          try rw [Exit.noGoto_ret]
          go_ret
          exact ⟨ret_int (by rw [Hz.out, Hq.out, Hx.out]), below_drewN hw _⟩
    · have Hv : Hid (othersV s bs of wd = 0) := hidp (by unfold othersV; rw [if_neg (fun h => e2 (othersB_true.1 h.1).2)])
      have d1 : ((bs.length : Int) != (s.tasks.length : Int)) = true := by simp; omega
      clear e e2
      go_enter Try.func23, Try.ntmps23
      go_wp2
      go_step3
      go_wp2_with fail
      refine (there17_any _ _ _ H).mono ?_
      rintro e w2 ⟨rfl, hb2⟩
      replace hb := hb.trans (hb2.mono hb.size)
      replace sc := sc.keep (Keeps.of_below hb2)
      clear hb2
      try clear sc_0 sc_1 sc_2 sc_3
      have scx := sc
      obtain ⟨sc_0, sc_1, sc_2, sc_3⟩ := scx
      try dsimp only at sc_0 sc_1 sc_2 sc_3
      rw [Hth.out]
      go_wp2
      try rw [Exit.noGoto_ret]
      go_ret
      exact ⟨ret_int Hv.out.symm, hb⟩
  · have Hv : Hid (othersV s bs of wd = 0) := hidp (by unfold othersV; rw [if_neg (fun h => e (othersB_true.1 h.1).1)])
    have Hth : Hid (thereB s of = false) := hidp (by simpa using e)
    clear e
    go_enter Try.func23, Try.ntmps23
    go_wp2
    go_step3
    go_wp2_with fail
    refine (there17_any _ _ _ H).mono ?_
    rintro e w2 ⟨rfl, hb2⟩
    replace hb := hb.trans (hb2.mono hb.size)
    replace sc := sc.keep (Keeps.of_below hb2)
    clear hb2
    try clear sc_0 sc_1 sc_2 sc_3
    have scx := sc
    obtain ⟨sc_0, sc_1, sc_2, sc_3⟩ := scx
    try dsimp only at sc_0 sc_1 sc_2 sc_3
    rw [Hth.out]
    go_wp2
    try rw [Exit.noGoto_ret]
    go_ret
    exact ⟨ret_int Hv.out.symm, hb⟩

set_option maxHeartbeats 2000000 in
set_option maxRecDepth 100000 in
theorem next_any (s : SetR) (bs : List Int) (ba : Option Addr) (bc : Nat) (of : Int) (w : World) (hs : SetOk w s) (hB : IntsOk w ba bc bs) : Calls Try.prog 14 #[.agg #[.int .i64 s.proto, .slice s.ca s.cores.length s.cc, .slice s.ha s.homes.length s.hc, .slice s.ta s.tasks.length s.tc], .slice ba bs.length bc, .int .i64 of] w fun e w' => e = .returned (.tuple #[.int .i64 (nextV s bs of), .bool (nextK s bs of)]) ∧ Below w.heap.size w w' := by
  have hb := (Below.refl w.heap.size w).alloc (Nat.le_refl _) (.cells #[.int .i64 s.proto, .slice s.ca s.cores.length s.cc, .slice s.ha s.homes.length s.hc, .slice s.ta s.tasks.length s.tc] 25)
  have sc := SetCells.new w s 25
  have H := hs.keep (Keeps.of_below hb)
  have HB := hB.keep (Keeps.of_below hb)
  have l3 : s.tasks.length ≤ maxLen := Nat.le_trans hs.tasks.sl.2.1 hs.tasks.sl.2.2
  have l4 : bs.length ≤ maxLen := Nat.le_trans hB.sl.2.1 hB.sl.2.2
  unfold maxLen at l3 l4
  obtain ⟨O, HO⟩ : ∃ V, Hid (ownV s bs of = V) := ⟨_, hidp rfl⟩
  have hO := ownV_bd s bs of
  rw [HO.out] at hO
  obtain ⟨O0, O1⟩ := hO
  by_cases k : waitsK s bs of = true
  · have Hk := hidp k
    by_cases e2 : bs.length = s.tasks.length
    · have d1 : ((bs.length : Int) != (s.tasks.length : Int)) = false := by simp [e2]
      obtain ⟨ho, r1, r2⟩ := thereB_true.1 (waitsK_there k)
      obtain ⟨n, rfl⟩ : ∃ n : Nat, of = n := ⟨of.toNat, by omega⟩
      have hnb : n < bs.length := by omega
      obtain ⟨b, Hb⟩ : ∃ b, Hid (bs.getD n 0 = b) := ⟨_, rfl⟩
      have hb64 := hB.wf b (by rw [← Hb.out]; exact getD_mem (α := Int) hnb)
      obtain ⟨P, HP⟩ : ∃ V, Hid (othersV s bs n b = V) := ⟨_, hidp rfl⟩
      have hP := othersV_bd s bs n b
      rw [HP.out] at hP
      obtain ⟨P0, P1⟩ := hP
      have HK : Hid (nextK s bs n = true) := hidp (nextK_true.2 ⟨k, e2⟩)
      have HV : Hid (nextV s bs n = O + P) := hidp (by unfold nextV; rw [if_pos HK.out, HO.out]; simp only [Int.toNat_natCast]; rw [Hb.out, HP.out])
      have hwr : IntKind.i64.wrap (O + P) = O + P := IntWalk.i64_in _ (by omega)
      obtain ⟨gb, ob, hBA, hbl⟩ := hB.at_.resolve_left (by intro e; rw [e] at hnb; simp at hnb)
      have Hbc := hidp (Hb.out ▸ hbl n hnb)
      have nI : (n : Int) < (bs.length : Int) := by omega
      clear hbl hs hB k e2 ho r1 r2
      subst hBA
      go_enter Try.func14, Try.ntmps14
      go_wp2_with fail
      refine (own_any s bs _ bc n _ H HB).mono ?_
      rintro e w2 ⟨rfl, hb2⟩
      replace hb := hb.trans (hb2.mono hb.size)
      replace sc := sc.keep (Keeps.of_below hb2)
      replace H := H.keep (Keeps.of_below hb2)
      replace HB := HB.keep (Keeps.of_below hb2)
      clear hb2
      try clear sc_0 sc_1 sc_2 sc_3
      have scx := sc
      obtain ⟨sc_0, sc_1, sc_2, sc_3⟩ := scx
      try dsimp only at sc_0 sc_1 sc_2 sc_3
      rw [HO.out, Hk.out]
      go_wp2_with fail
      have pb := Keeps.of_below hb _ _ Hbc.out
      have H' := H.keep (Keeps.drew _)
      have HB' := HB.keep (Keeps.drew _)
      have hsv := Keeps.drew _ _ _ pb
      obtain ⟨s0, s1, s2, s3⟩ := sc.keep (Keeps.drew _)
      replace hb := hb.drew
      clear sc_0 sc_1 sc_2 sc_3 sc H HB pb
      go_region_held3 (fun w' => w'.cell? ⟨gb, ob + n, none⟩ = some (.int .i64 b) ∧ w'.cell? ⟨w.heap.size, 0, none⟩ = some (.int .i64 s.proto) ∧ w'.cell? ⟨w.heap.size, 1, none⟩ = some (.slice s.ca s.cores.length s.cc) ∧ w'.cell? ⟨w.heap.size, 2, none⟩ = some (.slice s.ha s.homes.length s.hc) ∧ w'.cell? ⟨w.heap.size, 3, none⟩ = some (.slice s.ta s.tasks.length s.tc)) (exact ⟨hsv, s0, s1, s2, s3⟩)
        (first
          | (go_at_call 23; refine (others17_any s bs _ bc n b _ H' HB' hb64).mono ?_; rintro e u ⟨rfl, hb3⟩; have hsv := Keeps.of_below hb3 _ _ hsv; have s0 := Keeps.of_below hb3 _ _ s0; have s1 := Keeps.of_below hb3 _ _ s1; have s2 := Keeps.of_below hb3 _ _ s2; have s3 := Keeps.of_below hb3 _ _ s3; have H' := H'.keep (Keeps.of_below hb3); have HB' := HB'.keep (Keeps.of_below hb3); have hb := hb.trans (hb3.mono hb.size); rw [HP.out]))
      clear hwr
      go_wp2_with fail
      go_ret2
      exact ⟨ret_ib HV.out.symm HK.out.symm, hb⟩
    · have d1 : ((bs.length : Int) != (s.tasks.length : Int)) = true := by simp; omega
      have hk : nextK s bs of = false := by rw [Bool.eq_false_iff]; intro h; exact e2 (nextK_true.1 h).2
      have HK := hidp hk
      have HV : Hid (nextV s bs of = 0) := hidp (by unfold nextV; rw [hk]; rfl)
      clear k e2 hk
      go_enter Try.func14, Try.ntmps14
      go_wp2_with fail
      refine (own_any s bs ba bc of _ H HB).mono ?_
      rintro e w2 ⟨rfl, hb2⟩
      replace hb := hb.trans (hb2.mono hb.size)
      replace sc := sc.keep (Keeps.of_below hb2)
      clear hb2
      try clear sc_0 sc_1 sc_2 sc_3
      have scx := sc
      obtain ⟨sc_0, sc_1, sc_2, sc_3⟩ := scx
      try dsimp only at sc_0 sc_1 sc_2 sc_3
      rw [HO.out, Hk.out]
      go_wp2
      go_ret2
      exact ⟨ret_ib HV.out.symm HK.out.symm, hb⟩
  · have k : waitsK s bs of = false := by simpa using k
    have Hk := hidp k
    have hk : nextK s bs of = false := by unfold nextK; rw [k]; rfl
    have HK := hidp hk
    have HV : Hid (nextV s bs of = 0) := hidp (by unfold nextV; rw [hk]; rfl)
    clear k hk
    go_enter Try.func14, Try.ntmps14
    go_wp2_with fail
    refine (own_any s bs ba bc of _ H HB).mono ?_
    rintro e w2 ⟨rfl, hb2⟩
    replace hb := hb.trans (hb2.mono hb.size)
    replace sc := sc.keep (Keeps.of_below hb2)
    clear hb2
    try clear sc_0 sc_1 sc_2 sc_3
    have scx := sc
    obtain ⟨sc_0, sc_1, sc_2, sc_3⟩ := scx
    try dsimp only at sc_0 sc_1 sc_2 sc_3
    rw [HO.out, Hk.out]
    go_wp2
    go_ret2
    exact ⟨ret_ib HV.out.symm HK.out.symm, hb⟩
end Go.Proofs.Ytpnghhaflgkgfaa

namespace Go.Proofs.Ytpnghhaflgkgfaa
open Go.ChangeShapes Go.WideShapes Go.ChangeAt Go.RowKit
set_option linter.unusedVariables false
theorem ext_getD {xs ys : List Int} {n : Nat} (h1 : xs.length = n) (h2 : ys.length = n) (h : ∀ j, j < n → xs.getD j 0 = ys.getD j 0) : xs = ys := by
  apply List.ext_getElem (by omega)
  intro i a b
  have := h i (by omega)
  simpa [List.getD, a, b] using this
theorem ne_getD {xs ys : List Int} {k : Nat} (h : xs.getD k 0 ≠ ys.getD k 0) : xs ≠ ys := fun e => h (by rw [e])

set_option maxHeartbeats 1000000 in
theorem eqI_any (xs ys : List Int) (A A' : Option Addr) (c c' : Nat) (w : World) (hx : IntsOk w A c xs) (hy : IntsOk w A' c' ys) : Calls Try.prog 34 #[.slice A xs.length c, .slice A' ys.length c'] w fun e w' => e = .returned (.bool (decide (xs = ys))) ∧ Qt w w' := by
  have l1 : xs.length ≤ maxLen := Nat.le_trans hx.sl.2.1 hx.sl.2.2
  have l2 : ys.length ≤ maxLen := Nat.le_trans hy.sl.2.1 hy.sl.2.2
  unfold maxLen at l1 l2
  have H1 := hidp hx.at_
  have H2 := hidp hy.at_
  clear hx hy
  obtain ⟨n, hn⟩ : ∃ n, xs.length = n := ⟨_, rfl⟩
  obtain ⟨m, hm⟩ : ∃ m, ys.length = m := ⟨_, rfl⟩
  rw [hn] at l1
  rw [hm] at l2
  rw [hn, hm]
  obtain ⟨b, hb⟩ : ∃ b, decide (xs = ys) = b := ⟨_, rfl⟩
  rw [hb]
  have Hb := hidp hb
  have Hn := hidp hn
  have Hm := hidp hm
  clear hb hn hm
  by_cases e : n = m
  · subst e
    go_enter Try.func34, Try.ntmps34
    go_wp2
    go_loopg [13] n (fun g i wr => ∃ k : Nat, k + g = n ∧ i = .int .i64 k ∧ Hid (∀ j, j < k → xs.getD j 0 = ys.getD j 0) ∧ Qt w wr)
    case atStart => exact ⟨0, by omega, rfl, hidp (by omega), Qt.refl w⟩
    case round =>
      obtain ⟨k, hk, rfl, Ho, hq⟩ := hrel
      by_cases hlt : k < n
      · obtain ⟨g, off, hA, hc⟩ := H1.out.resolve_left (by intro e; have := Hn.out; rw [e] at this; simp at this; omega)
        obtain ⟨g', off', hA', hc'⟩ := H2.out.resolve_left (by intro e; have := Hm.out; rw [e] at this; simp at this; omega)
        subst hA
        subst hA'
        obtain ⟨x, HX⟩ : ∃ x, Hid (xs.getD k 0 = x) := ⟨_, rfl⟩
        obtain ⟨y, HY⟩ : ∃ y, Hid (ys.getD k 0 = y) := ⟨_, rfl⟩
        have c1 := hq.cell (HX.out ▸ hc k (by rw [Hn.out]; exact hlt))
        have c2 := hq.cell (HY.out ▸ hc' k (by rw [Hm.out]; exact hlt))
        clear hc hc'
        by_cases hxy : x = y
        · have Hs : Hid (∀ j, j < k + 1 → xs.getD j 0 = ys.getD j 0) := hidp (fun j hj => by
            by_cases e : j = k
            · subst e; rw [HX.out, HY.out]; exact hxy
            · exact Ho.out j (by omega))
          have t1 : (x != y) = false := by simp [hxy]
          clear hxy
          go_wp2
          go_quiet (fail)
          go_wp2
          go_roundg (gk - 1)
          case measure => omega
          case rel => exact ⟨k + 1, by omega, by go_num, Hs, hq.add _⟩
        · have Hs : Hid (b = false) := hidp (by rw [← Hb.out]; exact decide_eq_false (ne_getD (k := k) (by rw [HX.out, HY.out]; exact hxy)))
          have t1 : (x != y) = true := by simp [hxy]
          clear hxy
          go_wp2
          go_quiet (fail)
          go_wp2
          go_ret
          exact ⟨ret_bool Hs.out.symm, hq.add _⟩
      · have Hs : Hid (b = true) := hidp (by rw [← Hb.out]; exact decide_eq_true (ext_getD Hn.out Hm.out (fun j hj => Ho.out j (by omega))))
        go_wp2
        go_ret
        exact ⟨ret_bool Hs.out.symm, hq⟩
  · have Hs : Hid (b = false) := hidp (by rw [← Hb.out]; exact decide_eq_false (fun h => e (by rw [← Hn.out, ← Hm.out, h])))
    have t1 : ((n : Int) != (m : Int)) = true := by simp; omega
    clear e
    go_enter Try.func34, Try.ntmps34
    go_wp2
    go_ret
    exact ⟨ret_bool Hs.out.symm, Qt.refl w⟩
end Go.Proofs.Ytpnghhaflgkgfaa

namespace Go.Proofs.Ytpnghhaflgkgfaa
open Go.ChangeShapes Go.WideShapes Go.ChangeAt Go.RowKit
set_option linter.unusedVariables false
set_option linter.unusedSimpArgs false

set_option maxHeartbeats 4000000 in
set_option maxRecDepth 100000 in
theorem soonest_any (s : SetR) (w : World) (hs : SetOk w s) (ho : okS s = true) : Calls Try.prog 32 #[.agg #[.int .i64 s.proto, .slice s.ca s.cores.length s.cc, .slice s.ha s.homes.length s.hc, .slice s.ta s.tasks.length s.tc]] w fun e w' => ∃ A c, e = .returned (.slice A (soonL s).length c) ∧ IntsOk w' A c (soonL s) ∧ Below w.heap.size w w' := by
  have hb := (Below.refl w.heap.size w).alloc (Nat.le_refl _) (.cells #[.int .i64 s.proto, .slice s.ca s.cores.length s.cc, .slice s.ha s.homes.length s.hc, .slice s.ta s.tasks.length s.tc] 25)
  have sc := SetCells.new w s 25
  have hg := Good.of ho
  have n6 := hg.ntasks.2
  have HR := hidp hs.tasks.at_
  have Hok := hidp hs.tasks.ok
  have HG := hidp hg.parts
  have HF := hidp (soonL_ok ho)
  obtain ⟨f, Hf⟩ : ∃ f : Nat → Int, Hid (∀ k, allK (s.tasks.getD k default).parts = f k) := ⟨fun k => allK (s.tasks.getD k default).parts, hidp (fun _ => rfl)⟩
  have Hso : Hid (soonL s = (List.range s.tasks.length).map f) := hidp (by
    unfold soonL
    apply List.ext_getElem
    · simp
    · intro i h1 h2
      have hi : i < s.tasks.length := by simpa using h1
      have := Hf.out i
      simp [List.getD, hi] at this
      simpa using this)
  obtain ⟨i0, hi0, hy0, hy1, hy2⟩ := info_parts infoZ
  rw [Hso.out] at HF
  rw [Hso.out]
  clear hs ho hg
  obtain ⟨proto, ca, cc, cores, ha, hc, homes, ta, tc, tasks⟩ := s
  dsimp only at HR Hok HG n6 hb sc HF Hf ⊢
  obtain ⟨sc_0, sc_1, sc_2, sc_3⟩ := id sc
  dsimp only at sc_0 sc_1 sc_2 sc_3
  have hz0 : w.heap.size + 1 ≤ (w.alloc (.cells #[.int .i64 proto, .slice ca cores.length cc, .slice ha homes.length hc, .slice ta tasks.length tc] 25)).heap.size := by simp
  go_enter Try.func32, Try.ntmps32
  go_wp2
  clear sc_0 sc_1 sc_2 sc_3 sc
  go_loopg [3, 12] tasks.length (fun gg a i wr => ∃ (k c : Nat) (A : Option Addr), k + gg = tasks.length ∧ i = .int .i64 k ∧ a = .slice A k c ∧ OwnN (w.heap.size + 1) wr A k c ((List.range k).map f) ∧ Below w.heap.size w wr ∧ w.heap.size + 1 ≤ wr.heap.size)
  case atStart => exact ⟨0, 0, none, by omega, rfl, rfl, OwnN.none _ _, hb, hz0⟩
  case round =>
    clear hb hz0
    obtain ⟨k, c, A, hk, rfl, rfl, ho, hw, hz⟩ := hrel
    by_cases hlt : k < tasks.length
    · obtain ⟨g, off, hA, hcl⟩ := HR.out.resolve_left (by intro e; rw [e] at hlt; simp at hlt)
      subst hA
      obtain ⟨t, HT⟩ : ∃ t, Hid (tasks.getD k default = t) := ⟨_, rfl⟩
      have hm : t ∈ tasks := HT.out ▸ getD_mem hlt
      obtain ⟨d0, d1, d2, d3, d4, d5⟩ := (HT.out ▸ hcl k hlt).keep (Keeps.of_below hw)
      have hw1 := hw.alloc hw.size (.cells #[.string t.name, .int .i64 t.per, .int .i64 t.dl, .int .i64 t.prio, .int .i64 t.cl, .slice t.pa t.parts.length t.pc] 42)
      have ho1 := ho.turned ((Turned.refl [] wr).alloc (.cells #[.string t.name, .int .i64 t.per, .int .i64 t.dl, .int .i64 t.prio, .int .i64 t.cl, .slice t.pa t.parts.length t.pc] 42)) (by simp)
      have hz1 : w.heap.size + 1 ≤ (wr.alloc (.cells #[.string t.name, .int .i64 t.per, .int .i64 t.dl, .int .i64 t.prio, .int .i64 t.cl, .slice t.pa t.parts.length t.pc] 42)).heap.size := Nat.le_trans hz (by simp)
      have HP := hidp (Hok.out t hm).at_
      have HL := hidp (HG.out t hm).lens
      have hl6 := (HG.out t hm).len
      have Hfk : Hid (allK t.parts = f k) := hidp (by rw [← Hf.out, HT.out])
      obtain ⟨hl0, hl1⟩ := hl6
      clear hcl hm ho hw hz
      go_wp2
      clear d0 d1 d2 d3 d4 d5
      go_loopg [6, 19] t.parts.length (fun g2 a i w5 => ∃ (j : Nat) (x : Int), j + g2 = t.parts.length ∧ i = .int .i64 j ∧ a = .int .i64 x ∧ Hid (allK (t.parts.take j) = x) ∧ OwnN (w.heap.size + 1) w5 A k c ((List.range k).map f) ∧ Below w.heap.size w w5 ∧ w.heap.size + 1 ≤ w5.heap.size)
      case atStart => exact ⟨0, 0, by omega, rfl, rfl, hidp (by simp [allK]), ho1, hw1, hz1⟩
      case round =>
        clear ho1 hw1 hz1
        obtain ⟨j, x, hj, rfl, rfl, Hx, ho2, hw2, hz2⟩ := hrel
        have hx := allK_bd (HL.out.take j)
        rw [Hx.out, List.length_take] at hx
        obtain ⟨x0, x1⟩ := hx
        have x2 : x ≤ 360 := by omega
        clear x1
        by_cases hlt2 : j < t.parts.length
        · obtain ⟨gp, op, hPA, hpc⟩ := HP.out.resolve_left (by intro e; rw [e] at hlt2; simp at hlt2)
          obtain ⟨p, Hp⟩ : ∃ p, Hid (t.parts.getD j default = p) := ⟨_, rfl⟩
          have pcl := (Hp.out ▸ hpc j hlt2).keep (Keeps.of_below hw2)
          obtain ⟨c0, c1, c2⟩ := pcl
          have hp := HL.out p (Hp.out ▸ getD_mem hlt2)
          obtain ⟨p0, p1⟩ := hp
          have Hs : Hid (allK (t.parts.take (j + 1)) = x + p.len) := hidp (by rw [allK_snoc _ _ hlt2, Hx.out, Hp.out])
          have hw3 := hw2.alloc hw2.size (.cells #[.int .i64 p.kind, .int .i64 p.len, .int .i64 p.res] 49)
          have ho3 := ho2.turned ((Turned.refl [] wr).alloc (.cells #[.int .i64 p.kind, .int .i64 p.len, .int .i64 p.res] 49)) (by simp)
          have hz3 : w.heap.size + 1 ≤ (wr.alloc (.cells #[.int .i64 p.kind, .int .i64 p.len, .int .i64 p.res] 49)).heap.size := Nat.le_trans hz2 (by simp)
          clear hpc ho2 hw2 hz2
          go_wp2
          go_roundg (gk - 1)
          case measure => omega
          case rel => exact ⟨j + 1, x + p.len, by omega, by go_num, rfl, Hs, ho3, hw3, hz3⟩
        · have hjn : j = t.parts.length := by omega
          have Hz : Hid (f k = x) := hidp (by rw [← Hfk.out, ← Hx.out, hjn, List.take_length])
          have N2 : Hid (k + 1 ≤ maxLen) := hidp (by unfold maxLen; omega)
          have T2 : Hid ((k + 1) * 8 ≤ 140737488355328) := hidp (by omega)
          have ho4 := ho2.turned ((Turned.refl [] wr).alloc (.cells #[.int .i64 x] 3)) (by simp)
          have S2 := hidp (Lies.newCells' wr [.int .i64 x] 3)
          have Z2 : Hid (w.heap.size + 1 ≤ (wr.alloc (.cells #[.int .i64 x] 3)).heap.size) := hidp (Nat.le_trans hz2 (by simp))
          have hw4 := hw2.alloc hw2.size (.cells #[.int .i64 x] 3)
          have O2 := hidp (ints_one x)
          have Hfp := hidp (own_fp ho4.own)
          clear ho2 hw2 hz2 hjn
          go_wp2_with (at_builtin; refine wpList_app2 _ rfl (.tmp 28) (.tmp 30) 22 rfl (w.heap.size + 1) 3 i0 _ 1 8 Try.underlying22 hi0 hy0 hy1 hy2 rfl (by decide) A k c _ rfl ho4.own _ _ 1 1 [.int .i64 x] rfl (by simp) rfl S2.out O2.out N2.out T2.out Z2.out ?_; intro A' c' w6 happ)
          go_roundg (tasks.length - k - 1)
          case measure => omega
          case rel => exact ⟨k + 1, c', A', by omega, by go_num, rfl, by rw [range_snoc, Hz.out]; exact ho4.app (ps := [x]) happ rfl, hw4.trans (happ.turned.below hw4.size (fun j hj => by have := (Hfp.out _ hj).1; omega)), Nat.le_trans Z2.out happ.turned.size⟩
    · obtain rfl : k = tasks.length := by omega
      have hrow := ho.ok (fun x hx => by have := HF.out x hx; unfold I64; omega)
      have Hr := hidp hrow
      clear hrow
      go_wp2
      go_ret
      exact ⟨A, c, by simp, Hr.out, hw⟩

set_option maxHeartbeats 4000000 in
set_option maxRecDepth 100000 in
theorem round_any (s : SetR) (bs : List Int) (ba : Option Addr) (bc : Nat) (w : World) (hs : SetOk w s) (hB : IntsOk w ba bc bs) (hn : s.tasks.length ≤ 6) : Calls Try.prog 33 #[.agg #[.int .i64 s.proto, .slice s.ca s.cores.length s.cc, .slice s.ha s.homes.length s.hc, .slice s.ta s.tasks.length s.tc], .slice ba bs.length bc] w (RowK w (roundL s bs) (roundB s bs)) := by
  have hb := (Below.refl w.heap.size w).alloc (Nat.le_refl _) (.cells #[.int .i64 s.proto, .slice s.ca s.cores.length s.cc, .slice s.ha s.homes.length s.hc, .slice s.ta s.tasks.length s.tc] 25)
  have sc := SetCells.new w s 25
  have HR := hidp hs.tasks.at_
  obtain ⟨N, HN⟩ : ∃ f : Nat → Int, Hid (∀ k : Nat, nextV s bs k = f k) := ⟨fun k => nextV s bs k, hidp (fun _ => rfl)⟩
  obtain ⟨K, HK⟩ : ∃ f : Nat → Bool, Hid (∀ k : Nat, nextK s bs k = f k) := ⟨fun k => nextK s bs k, hidp (fun _ => rfl)⟩
  have HNb : Hid (∀ k, 0 ≤ N k ∧ N k ≤ 6100000) := hidp (fun k => by rw [← HN.out]; exact nextV_bd s bs k)
  obtain ⟨L, HL⟩ : ∃ L, Hid (roundL s bs = L) := ⟨_, hidp rfl⟩
  obtain ⟨R, HRd⟩ : ∃ L, Hid (roundB s bs = L) := ⟨_, hidp rfl⟩
  have Hoff : Hid (∀ k, k < s.tasks.length → (K k && decide (N k ≤ (s.tasks.getD k default).dl)) = false → R = false ∧ L = []) := hidp (fun k hk h => by
    have e : roundB s bs = false := upTo_not hk (by unfold stepB; rw [HN.out, HK.out]; exact h)
    rw [← HRd.out, ← HL.out]
    exact ⟨e, by unfold roundL; rw [e]; rfl⟩)
  have Hyes : Hid ((∀ k, k < s.tasks.length → (K k && decide (N k ≤ (s.tasks.getD k default).dl)) = true) → R = true ∧ L = (List.range s.tasks.length).map N) := hidp (fun h => by
    have e : roundB s bs = true := (upTo_iff _ _).2 (fun k hk => by unfold stepB; rw [HN.out, HK.out]; exact h k hk)
    rw [← HRd.out, ← HL.out]
    refine ⟨e, ?_⟩
    unfold roundL nextRow
    rw [if_pos e]
    exact List.map_congr_left (fun i _ => HN.out i))
  have HS1 := hidp (fun u (h : Below w.heap.size w u) => hs.keep (Keeps.of_below h))
  have HB1 := hidp (fun u (h : Below w.heap.size w u) => hB.keep (Keeps.of_below h))
  obtain ⟨i0, hi0, hy0, hy1, hy2⟩ := info_parts infoZ
  rw [HL.out, HRd.out]
  clear hs hB HL HRd
  obtain ⟨proto, ca, cc, cores, ha, hc, homes, ta, tc, tasks⟩ := s
  dsimp only at HR hn hb sc HS1 Hoff Hyes ⊢
  obtain ⟨sc_0, sc_1, sc_2, sc_3⟩ := id sc
  dsimp only at sc_0 sc_1 sc_2 sc_3
  have hz0 : w.heap.size + 1 ≤ (w.alloc (.cells #[.int .i64 proto, .slice ca cores.length cc, .slice ha homes.length hc, .slice ta tasks.length tc] 25)).heap.size := by simp
  go_enter Try.func33, Try.ntmps33
  go_wp2
  clear sc_0 sc_1 sc_2 sc_3
  go_loopg [6, 14] tasks.length (fun gg a i wr => ∃ (k c : Nat) (A : Option Addr), k + gg = tasks.length ∧ i = .int .i64 k ∧ a = .slice A k c ∧ Hid (∀ j, j < k → (K j && decide (N j ≤ (tasks.getD j default).dl)) = true) ∧ OwnN (w.heap.size + 1) wr A k c ((List.range k).map N) ∧ SetCells wr w.heap.size ⟨proto, ca, cc, cores, ha, hc, homes, ta, tc, tasks⟩ ∧ Below w.heap.size w wr ∧ w.heap.size + 1 ≤ wr.heap.size)
  case atStart => exact ⟨0, 0, none, by omega, rfl, rfl, hidp (fun j hj => by omega), OwnN.none _ _, sc, hb, hz0⟩
  case round =>
    clear hb hz0 sc
    obtain ⟨k, c, A, hk, rfl, rfl, Hk, ho, sc, hw, hz⟩ := hrel
    by_cases hlt : k < tasks.length
    · obtain ⟨g, off, hA, hcl⟩ := HR.out.resolve_left (by intro e; rw [e] at hlt; simp at hlt)
      subst hA
      obtain ⟨t, HT⟩ : ∃ t, Hid (tasks.getD k default = t) := ⟨_, rfl⟩
      obtain ⟨d0, d1, d2, d3, d4, d5⟩ := (HT.out ▸ hcl k hlt).keep (Keeps.of_below hw)
      have hw1 := hw.alloc hw.size (.cells #[.string t.name, .int .i64 t.per, .int .i64 t.dl, .int .i64 t.prio, .int .i64 t.cl, .slice t.pa t.parts.length t.pc] 42)
      have ho1 := ho.turned ((Turned.refl [] wr).alloc (.cells #[.string t.name, .int .i64 t.per, .int .i64 t.dl, .int .i64 t.prio, .int .i64 t.cl, .slice t.pa t.parts.length t.pc] 42)) (by simp)
      have hz1 : w.heap.size + 1 ≤ (wr.alloc (.cells #[.string t.name, .int .i64 t.per, .int .i64 t.dl, .int .i64 t.prio, .int .i64 t.cl, .slice t.pa t.parts.length t.pc] 42)).heap.size := Nat.le_trans hz (by simp)
      have sc1 := sc.keep (Keeps.alloc wr (.cells #[.string t.name, .int .i64 t.per, .int .i64 t.dl, .int .i64 t.prio, .int .i64 t.cl, .slice t.pa t.parts.length t.pc] 42))
      have tb := TaskBox.new wr t 42
      obtain ⟨sc_0, sc_1, sc_2, sc_3⟩ := id sc1
      dsimp only at sc_0 sc_1 sc_2 sc_3
      obtain ⟨v, Hv⟩ : ∃ v, Hid (N k = v) := ⟨_, hidp rfl⟩
      obtain ⟨b, Hb⟩ : ∃ v, Hid (K k = v) := ⟨_, hidp rfl⟩
      have hvb := HNb.out k
      rw [Hv.out] at hvb
      obtain ⟨v0, v1⟩ := hvb
      clear hcl ho hw hz sc
      go_wp2_with fail
      refine (next_any _ bs ba bc k _ (HS1.out _ hw1) (HB1.out _ hw1)).mono ?_
      rintro e w3 ⟨rfl, hb3⟩
      rw [HN.out, HK.out, Hv.out, Hb.out]
      replace hw1 := hw1.trans (hb3.mono hw1.size)
      replace ho1 := ho1.turned (Turned.of_below hb3 []) (by simp)
      replace hz1 := Nat.le_trans hz1 hb3.size
      replace sc1 := sc1.keep (Keeps.of_below hb3)
      replace tb := tb.keep (Keeps.of_below hb3)
      clear hb3 d0 d1 d2 d3 d4 d5 sc_0 sc_1 sc_2 sc_3
      obtain ⟨d0, d1, d2, d3, d4, d5⟩ := id tb
      cases b with
      | false =>
        obtain ⟨f1, f2⟩ := Hoff.out k hlt (by rw [Hb.out]; rfl)
        have F1 := hidp f1
        have F2 := hidp f2
        clear f1 f2
        go_wp2_with fail
        go_ret2
        exact RowK.eq ⟨none, 0, rfl, nil_ints _, hw1⟩ F2.out.symm F1.out.symm
      | true =>
        by_cases hd : t.dl < v
        · obtain ⟨f1, f2⟩ := Hoff.out k hlt (by rw [Hb.out, Hv.out, HT.out]; simp; omega)
          have F1 := hidp f1
          have F2 := hidp f2
          clear f1 f2
          go_wp2_with fail
          go_ret2
          exact RowK.eq ⟨none, 0, rfl, nil_ints _, hw1⟩ F2.out.symm F1.out.symm
        · have hd' : decide (t.dl < v) = false := by simpa using hd
          have Hk2 : Hid (∀ j, j < k + 1 → (K j && decide (N j ≤ (tasks.getD j default).dl)) = true) := hidp (fun j hj => by
            by_cases ej : j = k
            · subst ej; rw [Hb.out, Hv.out, HT.out]; simp; omega
            · exact Hk.out j (by omega))
          have N2 : Hid (k + 1 ≤ maxLen) := hidp (by unfold maxLen; omega)
          have T2 : Hid ((k + 1) * 8 ≤ 140737488355328) := hidp (by omega)
          have ho4 := ho1.turned ((Turned.refl [] w3).alloc (.cells #[.int .i64 v] 3)) (by simp)
          have S2 := hidp (Lies.newCells' w3 [.int .i64 v] 3)
          have Z2 : Hid (w.heap.size + 1 ≤ (w3.alloc (.cells #[.int .i64 v] 3)).heap.size) := hidp (Nat.le_trans hz1 (by simp))
          have hw4 := hw1.alloc hw1.size (.cells #[.int .i64 v] 3)
          have sc4 := sc1.keep (Keeps.alloc w3 (.cells #[.int .i64 v] 3))
          have O2 := hidp (ints_one v)
          have Hfp := hidp (own_fp ho4.own)
          clear ho1 hw1 hz1 sc1 hd
          go_wp2_with (at_builtin; refine wpList_app2 _ rfl (.tmp 34) (.tmp 36) 22 rfl (w.heap.size + 1) 3 i0 _ 1 8 Try.underlying22 hi0 hy0 hy1 hy2 rfl (by decide) A k c _ rfl ho4.own _ _ 1 1 [.int .i64 v] rfl (by simp) rfl S2.out O2.out N2.out T2.out Z2.out ?_; intro A' c' w6 happ)
          go_roundg (gk - 1)
          case measure => omega
          case rel => exact ⟨k + 1, c', A', by omega, by go_num, rfl, Hk2, by rw [range_snoc, Hv.out]; exact ho4.app (ps := [v]) happ rfl, sc4.turned happ.turned (fun hf => by have := (Hfp.out _ hf).1; omega), hw4.trans (happ.turned.below hw4.size (fun j hj => by have := (Hfp.out _ hj).1; omega)), Nat.le_trans Z2.out happ.turned.size⟩
    · obtain rfl : k = tasks.length := by omega
      obtain ⟨f1, f2⟩ := Hyes.out Hk.out
      have F1 := hidp f1
      have F2 := hidp f2
      have hrow := ho.ok (fun x hx => by obtain ⟨j, _, rfl⟩ := List.mem_map.1 hx; have := HNb.out j; unfold I64; omega)
      have Hr := hidp hrow
      clear f1 f2 hrow
      go_wp2
      go_ret2
      exact RowK.eq ⟨A, c, by simp, Hr.out, hw⟩ F2.out.symm F1.out.symm

/-- a row of numbers, and an error -/
def RowE (w : World) (zs : List Int) (k : Int) (e : Ending) (w' : World) : Prop := ∃ A c, e = .returned (.tuple #[.slice A zs.length c, .int .i64 k]) ∧ IntsOk w' A c zs ∧ Below w.heap.size w w'
theorem RowE.eq {w w' : World} {zs ys : List Int} {k j : Int} {e : Ending} (h : RowE w zs k e w') (h1 : zs = ys) (h2 : k = j) : RowE w ys j e w' := h1 ▸ h2 ▸ h

set_option maxHeartbeats 4000000 in
set_option maxRecDepth 100000 in
theorem settled18_any (s : SetR) (w : World) (hs : SetOk w s) (ho : okS s = true) : Calls Try.prog 20 #[.agg #[.int .i64 s.proto, .slice s.ca s.cores.length s.cc, .slice s.ha s.homes.length s.hc, .slice s.ta s.tasks.length s.tc]] w (RowE w (settle s).1 (settle s).2) := by
  have hb := (Below.refl w.heap.size w).alloc (Nat.le_refl _) (.cells #[.int .i64 s.proto, .slice s.ca s.cores.length s.cc, .slice s.ha s.homes.length s.hc, .slice s.ta s.tasks.length s.tc] 25)
  have sc := SetCells.new w s 25
  have H := hs.keep (Keeps.of_below hb)
  have n6 := (Good.of ho).ntasks.2
  have Ho := hidp ho
  have HS1 := hidp (fun u (h : Below w.heap.size w u) => hs.keep (Keeps.of_below h))
  obtain ⟨P, HP⟩ : ∃ P, Hid (settle s = P) := ⟨_, hidp rfl⟩
  rw [HP.out]
  clear hs ho
  go_enter Try.func20, Try.ntmps20
  go_wp2
  go_step3
  go_wp2_with fail
  refine (soonest_any s _ H Ho.out).mono ?_
  rintro e w2 ⟨A0, c0, rfl, hr, hb2⟩
  replace hb := hb.trans (hb2.mono hb.size)
  replace sc := sc.keep (Keeps.of_below hb2)
  clear hb2 H
  obtain ⟨cur0, Hc0⟩ : ∃ l, Hid (soonL s = l) := ⟨_, hidp rfl⟩
  have Hst : Hid (setL s 200 cur0 = P) := hidp (by rw [← Hc0.out, ← HP.out]; rfl)
  rw [Hc0.out] at hr ⊢
  go_wp2
  go_step3
  go_wp2
  go_loopg [4, 5, 10] 200 (fun gg a e i wr => ∃ (k c : Nat) (A : Option Addr) (cur : List Int), k + gg = 200 ∧ i = .int .i64 k ∧ e = .int .i64 20 ∧ a = .slice A cur.length c ∧ Hid (setL s gg cur = P) ∧ IntsOk wr A c cur ∧ SetCells wr w.heap.size s ∧ Below w.heap.size w wr)
  case atStart => exact ⟨0, c0, A0, cur0, by omega, rfl, rfl, rfl, Hst, hr, sc, hb⟩
  case round =>
    clear hb sc hr
    obtain ⟨k, c, A, cur, hk, rfl, rfl, rfl, Hs, hr, sc, hw⟩ := hrel
    obtain ⟨sc_0, sc_1, sc_2, sc_3⟩ := id sc
    by_cases hlt : k < 200
    · obtain ⟨g, hg⟩ : ∃ g, gk = g + 1 := ⟨gk - 1, by omega⟩
      subst hg
      have HR := round_any s cur A c _ (HS1.out _ hw) hr n6
      by_cases e : roundB s cur = true
      · have el : roundL s cur = nextRow s cur := by unfold roundL; rw [if_pos e]
        rw [el, e] at HR
        have Hs2 : Hid ((if nextRow s cur = cur then (cur, 0) else setL s g (nextRow s cur)) = P) := hidp (by rw [← Hs.out, setL_succ, if_pos e])
        obtain ⟨nx, Hnx⟩ : ∃ l, Hid (nextRow s cur = l) := ⟨_, hidp rfl⟩
        rw [Hnx.out] at HR Hs2
        clear e el
        go_wp2_with fail
        refine HR.mono ?_
        rintro e w4 ⟨C, d, rfl, hC, hb2⟩
        replace hw := hw.trans (hb2.mono hw.size)
        replace sc := sc.keep (Keeps.of_below hb2)
        replace hr := hr.keep (Keeps.of_below hb2)
        clear hb2 sc_0 sc_1 sc_2 sc_3 HR
        by_cases e2 : nx = cur
        · have HE := eqI_any nx cur C A d c w4 hC hr
          rw [decide_eq_true e2] at HE
          have Hz : Hid ((cur, (0 : Int)) = P) := hidp (by have := Hs2.out; rw [if_pos e2] at this; exact this)
          clear e2
          go_wp2_with fail
          refine HE.mono ?_
          rintro e w5 ⟨rfl, hq⟩
          replace hw := hq.below hw
          replace hr := hr.keep (Keeps.of_qt hq)
          go_wp2_with fail
          try rw [Exit.noGoto_ret]
          go_ret2
          exact RowE.eq ⟨A, c, rfl, hr, hw⟩ (by rw [← Hz.out]) (by rw [← Hz.out])
        · have HE := eqI_any nx cur C A d c w4 hC hr
          rw [decide_eq_false e2] at HE
          have Hz : Hid (setL s g nx = P) := hidp (by have := Hs2.out; rw [if_neg e2] at this; exact this)
          clear e2
          go_wp2_with fail
          refine HE.mono ?_
          rintro e w5 ⟨rfl, hq⟩
          replace hw := hq.below hw
          replace hC := hC.keep (Keeps.of_qt hq)
          replace sc := sc.keep (Keeps.of_qt hq)
          go_wp2_with fail
          go_roundg g
          case measure => omega
          case rel => exact ⟨k + 1, d, C, nx, by omega, by go_num, rfl, rfl, Hz, hC, sc, hw⟩
      · have e' : roundB s cur = false := by simpa using e
        have el : roundL s cur = [] := by unfold roundL; rw [e']; rfl
        rw [el, e'] at HR
        have Hz : Hid ((([] : List Int), (19 : Int)) = P) := hidp (by rw [← Hs.out, setL_succ, if_neg e])
        clear e e' el
        go_wp2_with fail
        refine HR.mono ?_
        rintro e w4 ⟨C, d, rfl, hC, hb2⟩
        replace hw := hw.trans (hb2.mono hw.size)
        go_wp2_with fail
        try rw [Exit.noGoto_ret]
        go_ret2
        exact RowE.eq ⟨none, 0, rfl, nil_ints _, hw⟩ (by rw [← Hz.out]) (by rw [← Hz.out])
    · have hg0 : gk = 0 := by omega
      subst hg0
      have Hz : Hid ((cur, (20 : Int)) = P) := hidp (by rw [← Hs.out]; rfl)
      go_wp2
      try rw [Exit.noGoto_ret]
      go_ret2
      exact RowE.eq ⟨A, c, rfl, hr, hw⟩ (by rw [← Hz.out]) (by rw [← Hz.out])
end Go.Proofs.Ytpnghhaflgkgfaa

namespace Go.Proofs.Ytpnghhaflgkgfaa
open Go.ChangeShapes Go.WideShapes Go.ChangeAt Go.RowKit
set_option linter.unusedVariables false
set_option linter.unusedSimpArgs false
def RowN (w : World) (zs : List Int) (k : Bool) (e : Ending) (w' : World) : Prop := ∃ A c, e = .returned (.tuple #[.slice A zs.length c, .bool k]) ∧ IntsOk w' A c zs ∧ Below w.heap.size w w' ∧ ∀ k ∈ fp A, w.heap.size ≤ k
theorem RowN.eq {w w' : World} {zs ys : List Int} {k j : Bool} {e : Ending} (h : RowN w zs k e w') (h1 : zs = ys) (h2 : k = j) : RowN w ys j e w' := h1 ▸ h2 ▸ h

set_option maxHeartbeats 4000000 in
set_option maxRecDepth 100000 in
theorem wallN_any (s : SetR) (bs : List Int) (ba : Option Addr) (bc : Nat) (of : Int) (w : World) (hs : SetOk w s) (hB : IntsOk w ba bc bs) : Calls Try.prog 15 #[.agg #[.int .i64 s.proto, .slice s.ca s.cores.length s.cc, .slice s.ha s.homes.length s.hc, .slice s.ta s.tasks.length s.tc], .slice ba bs.length bc, .int .i64 of] w (RowN w (waitsL s bs of) (waitsK s bs of)) := by
  have hb := (Below.refl w.heap.size w).alloc (Nat.le_refl _) (.cells #[.int .i64 s.proto, .slice s.ca s.cores.length s.cc, .slice s.ha s.homes.length s.hc, .slice s.ta s.tasks.length s.tc] 25)
  have sc := SetCells.new w s 25
  have H := hs.keep (Keeps.of_below hb)
  have l3 : s.tasks.length ≤ maxLen := Nat.le_trans hs.tasks.sl.2.1 hs.tasks.sl.2.2
  unfold maxLen at l3
  by_cases e : thereB s of = true
  · have Hth := hidp e
    obtain ⟨ho, r1, r2⟩ := thereB_true.1 e
    obtain ⟨n, rfl⟩ : ∃ n : Nat, of = n := ⟨of.toNat, by omega⟩
    have hn : n < s.tasks.length := by omega
    have hg := Good.of ho
    obtain ⟨t, HT⟩ : ∃ t, Hid (s.tasks.getD n default = t) := ⟨_, rfl⟩
    have hm : t ∈ s.tasks := HT.out ▸ getD_mem hn
    have Tok := hs.tasks.ok t hm
    have Tg := hg.parts t hm
    obtain ⟨g, off, hA, hcl⟩ := hs.tasks.at_.resolve_left (by intro e; rw [e] at hn; simp at hn)
    have Ht5 := hidp ((HT.out ▸ hcl n hn).2.2.2.2.2)
    have hpl := Tg.len
    obtain ⟨gp, op, hP, hpc⟩ := Tok.at_.resolve_left (by intro e; rw [e] at hpl; simp at hpl)
    have Hpc := hidp hpc
    obtain ⟨parts, hparts⟩ : ∃ parts, t.parts = parts := ⟨_, rfl⟩
    have Hpt : Hid (partsOf s n = parts) := hidp (by unfold partsOf; simp only [Int.toNat_natCast]; rw [HT.out, hparts])
    rw [hP, hparts] at Ht5
    rw [hparts] at Hpc hpl
    obtain ⟨V, HV⟩ : ∃ V : Nat → Int, Hid (∀ k : Nat, waitV s bs n k = V k) := ⟨fun k => waitV s bs n k, hidp (fun _ => rfl)⟩
    obtain ⟨K, HK⟩ : ∃ K : Nat → Bool, Hid (∀ k : Nat, waitK s bs n k = K k) := ⟨fun k => waitK s bs n k, hidp (fun _ => rfl)⟩
    have Hpa : Hid (∀ k : Nat, partAt s n k = parts.getD k default) := hidp (fun k => by unfold partAt; have := Hpt.out; unfold partsOf at this; rw [this]; simp)
    obtain ⟨PW, HPW⟩ : ∃ f : Nat → Int, Hid (pW s bs n = f) := ⟨_, hidp rfl⟩
    obtain ⟨PK, HPK⟩ : ∃ f : Nat → Bool, Hid (pK s bs n = f) := ⟨_, hidp rfl⟩
    have HPWl : Hid (∀ k, (parts.getD k default).kind = 3 → PW k = V k ∧ PK k = K k) := hidp (fun k h => by
      rw [← HPW.out, ← HPK.out]; unfold pW pK; rw [Hpa.out, if_pos h, if_pos h, HV.out, HK.out]; exact ⟨rfl, rfl⟩)
    have HPWn : Hid (∀ k, (parts.getD k default).kind ≠ 3 → PW k = 0 ∧ PK k = true) := hidp (fun k h => by
      rw [← HPW.out, ← HPK.out]; unfold pW pK; rw [Hpa.out, if_neg h, if_neg h]; exact ⟨rfl, rfl⟩)
    have HWb : Hid (∀ k, 0 ≤ PW k ∧ PW k ≤ 3000) := hidp (fun k => by rw [← HPW.out]; exact pW_bd s bs n k)
    have Hoff : Hid (∀ k, k < parts.length → PK k = false → waitsK s bs n = false ∧ waitsL s bs n = []) := hidp (fun k hk h => waits_off (by rw [Hpt.out]; exact hk) (by rw [HPK.out]; exact h))
    have Hyes : Hid ((∀ k, k < parts.length → PK k = true) → waitsK s bs n = true ∧ waitsL s bs n = (List.range parts.length).map PW) := hidp (fun h => by
      have := waits_yes (s := s) (bs := bs) (of := n) Hth.out (by rw [Hpt.out, HPK.out]; exact h)
      rw [Hpt.out, HPW.out] at this; exact this)
    obtain ⟨RL, HRL⟩ : ∃ L, Hid (waitsL s bs n = L) := ⟨_, hidp rfl⟩
    obtain ⟨RK, HRK⟩ : ∃ L, Hid (waitsK s bs n = L) := ⟨_, hidp rfl⟩
    rw [HRL.out, HRK.out] at Hoff Hyes ⊢
    have HS1 := hidp (fun u (h : Below w.heap.size w u) => hs.keep (Keeps.of_below h))
    have HB1 := hidp (fun u (h : Below w.heap.size w u) => hB.keep (Keeps.of_below h))
    obtain ⟨S, HSS⟩ : ∃ S : SetR, Hid (S = s) := ⟨s, rfl⟩
    obtain ⟨i0, hi0, hy0, hy1, hy2⟩ := info_parts infoZ
    clear hcl hm Tok Tg hpc hP hparts hg ho HT e hs hB r1
    have dn : decide (s.tasks.length ≤ n) = false := by simp; omega
    obtain ⟨proto, ca, cc, cores, ha, hc, homes, ta, tc, tasks⟩ := s
    dsimp only at hA hn l3 r2 hb sc H dn HS1 ⊢
    subst hA
    go_enter Try.func15, Try.ntmps15
    go_wp2
    go_step3
    go_wp2_with fail
    refine (there16_any _ _ _ H).mono ?_
    rintro e w2 ⟨rfl, hb2⟩
    replace hb := hb.trans (hb2.mono hb.size)
    replace sc := sc.keep (Keeps.of_below hb2)
    clear hb2
    try clear sc_0 sc_1 sc_2 sc_3
    have scx := sc
    obtain ⟨sc_0, sc_1, sc_2, sc_3⟩ := scx
    try dsimp only at sc_0 sc_1 sc_2 sc_3
    rw [Hth.out]
    have hz0 : w.heap.size + 1 ≤ w2.heap.size := cell_lt sc_0
    have d5 := Keeps.of_below hb _ _ Ht5.out
    go_wp2
    go_step3
    go_wp2
    clear sc_0 sc_1 sc_2 sc_3 d5
    go_loopg [8, 9, 24] parts.length (fun gg a ok i wr => ∃ (k c : Nat) (A : Option Addr), k + gg = parts.length ∧ i = .int .i64 k ∧ ok = .bool true ∧ a = .slice A k c ∧ Hid (∀ j, j < k → PK j = true) ∧ OwnN (w.heap.size + 1) wr A k c ((List.range k).map PW) ∧ SetCells wr w.heap.size ⟨proto, ca, cc, cores, ha, hc, homes, some ⟨g, off, none⟩, tc, tasks⟩ ∧ Below w.heap.size w wr ∧ w.heap.size + 1 ≤ wr.heap.size)
    case atStart => exact ⟨0, 0, none, by omega, rfl, rfl, rfl, hidp (fun j hj => by omega), OwnN.none _ _, sc, hb, hz0⟩
    case round =>
      clear sc hb
      obtain ⟨k, c, A, hk, rfl, rfl, rfl, Hk, ho, sc, hw, hz⟩ := hrel
      by_cases hlt : k < parts.length
      · obtain ⟨p, HP⟩ : ∃ p, Hid (parts.getD k default = p) := ⟨_, rfl⟩
        have pcl := (HP.out ▸ Hpc.out k hlt).keep (Keeps.of_below hw)
        obtain ⟨x0, x1, x2⟩ := pcl
        have hw1 := hw.alloc hw.size (.cells #[.int .i64 p.kind, .int .i64 p.len, .int .i64 p.res] 49)
        have ho1 := ho.turned ((Turned.refl [] wr).alloc (.cells #[.int .i64 p.kind, .int .i64 p.len, .int .i64 p.res] 49)) (by simp)
        have hz1 : w.heap.size + 1 ≤ (wr.alloc (.cells #[.int .i64 p.kind, .int .i64 p.len, .int .i64 p.res] 49)).heap.size := Nat.le_trans hz (by simp)
        have sc1 := sc.keep (Keeps.alloc wr (.cells #[.int .i64 p.kind, .int .i64 p.len, .int .i64 p.res] 49))
        obtain ⟨sc_0, sc_1, sc_2, sc_3⟩ := id sc1
        dsimp only at sc_0 sc_1 sc_2 sc_3
        have N2 : Hid (k + 1 ≤ maxLen) := hidp (by unfold maxLen; omega)
        have T2 : Hid ((k + 1) * 8 ≤ 140737488355328) := hidp (by omega)
        by_cases e : p.kind = 3
        · obtain ⟨v1, v2⟩ := HPWl.out k (by rw [HP.out]; exact e)
          have e' : (p.kind == 3) = true := by simpa using e
          obtain ⟨b, Hb⟩ : ∃ b, Hid (K k = b) := ⟨_, rfl⟩
          rw [Hb.out] at v2
          obtain ⟨v, Hv⟩ : ∃ v, Hid (PW k = v) := ⟨_, rfl⟩
          rw [Hv.out] at v1
          have Hvv := hidp v1.symm
          have Hpk := hidp v2
          clear v1 v2 e
          cases b with
          | false =>
            obtain ⟨f1, f2⟩ := Hoff.out k hlt Hpk.out
            have F1 := hidp f1
            have F2 := hidp f2
            clear f1 f2
            go_wp2_with fail
            refine (wpart_any _ bs ba bc n k _ (HS1.out _ hw1) (HB1.out _ hw1)).mono ?_
            rintro e w3 ⟨rfl, hb3⟩
            rw [HV.out k, HK.out k, Hb.out]
            go_wp2_with fail
            try rw [Exit.noGoto_ret]
            go_ret2
            exact RowN.eq ⟨none, 0, rfl, nil_ints _, hw1.trans (hb3.mono hw1.size), by simp [fp]⟩ F2.out.symm F1.out.symm
          | true =>
            go_wp2_with fail
            refine (wpart_any _ bs ba bc n k _ (HS1.out _ hw1) (HB1.out _ hw1)).mono ?_
            rintro e w3 ⟨rfl, hb3⟩
            rw [HV.out k, HK.out k, Hb.out, Hvv.out]
            have hw3 := hw1.trans (hb3.mono hw1.size)
            have hown4 := ((ho1.turned (Turned.of_below hb3 []) (by simp)).turned ((Turned.refl [] w3).alloc (.cells #[.int .i64 v] 3)) (by simp))
            have S2 := hidp (Lies.newCells' w3 [.int .i64 v] 3)
            have Z2 : Hid (w.heap.size + 1 ≤ (w3.alloc (.cells #[.int .i64 v] 3)).heap.size) := hidp (Nat.le_trans hz1 (Nat.le_trans hb3.size (by simp)))
            have sc4 := (sc1.keep (Keeps.of_below hb3)).keep (Keeps.alloc _ (.cells #[.int .i64 v] 3))
            have hw4 := hw3.alloc hw3.size (.cells #[.int .i64 v] 3)
            have O2 := hidp (ints_one v)
            have Hfp := hidp (own_fp hown4.own)
            clear x0 x1 x2 sc_0 sc_1 sc_2 sc_3
            go_wp2_with (at_builtin; refine wpList_app2 _ rfl (.tmp 42) (.tmp 44) 22 rfl (w.heap.size + 1) 3 i0 _ 1 8 Try.underlying22 hi0 hy0 hy1 hy2 rfl (by decide) A k c _ rfl hown4.own _ _ 1 1 [.int .i64 v] rfl (by simp) rfl S2.out O2.out N2.out T2.out Z2.out ?_; intro A' c' w5 happ)
            go_roundg (gk - 1)
            case measure => omega
            case rel => exact ⟨k + 1, c', A', by omega, by go_num, rfl, rfl, hidp (fun j hj => by
              by_cases ej : j = k
              · subst ej; exact Hpk.out
              · exact Hk.out j (by omega)), by rw [range_snoc, Hv.out]; exact hown4.app (ps := [v]) happ rfl, sc4.turned happ.turned (fun hf => by have := (Hfp.out _ hf).1; omega), hw4.trans (happ.turned.below hw4.size (fun j hj => by have := (Hfp.out _ hj).1; omega)), Nat.le_trans Z2.out happ.turned.size⟩
        · obtain ⟨v1, v2⟩ := HPWn.out k (by rw [HP.out]; exact e)
          have e' : (p.kind == 3) = false := by simpa using e
          have Hv := hidp v1
          have Hpk := hidp v2
          clear v1 v2 e
          have hw3 := hw1
          have hown4 := ho1.turned ((Turned.refl [] (wr.alloc (.cells #[.int .i64 p.kind, .int .i64 p.len, .int .i64 p.res] 49))).alloc (.cells #[.int .i64 0] 3)) (by simp)
          have S2' := Lies.newCells' (wr.alloc (.cells #[.int .i64 p.kind, .int .i64 p.len, .int .i64 p.res] 49)) [.int .i64 0] 3
          rw [show (wr.alloc (.cells #[.int .i64 p.kind, .int .i64 p.len, .int .i64 p.res] 49)).heap.size = wr.heap.size + 1 by simp] at S2'
          have S2 := hidp S2'
          clear S2'
          have Z2 : Hid (w.heap.size + 1 ≤ ((wr.alloc (.cells #[.int .i64 p.kind, .int .i64 p.len, .int .i64 p.res] 49)).alloc (.cells #[.int .i64 0] 3)).heap.size) := hidp (Nat.le_trans hz1 (by simp))
          have sc4 := sc1.keep (Keeps.alloc _ (.cells #[.int .i64 0] 3))
          have hw4 := hw3.alloc hw3.size (.cells #[.int .i64 0] 3)
          have O2 := hidp (ints_one 0)
          have Hfp := hidp (own_fp hown4.own)
          go_wp2_with (at_builtin; refine wpList_app2 _ rfl (.tmp 42) (.tmp 44) 22 rfl (w.heap.size + 1) 3 i0 _ 1 8 Try.underlying22 hi0 hy0 hy1 hy2 rfl (by decide) A k c _ rfl hown4.own _ _ 1 1 [.int .i64 0] rfl (by simp) rfl S2.out O2.out N2.out T2.out Z2.out ?_; intro A' c' w5 happ)
          go_roundg (gk - 1)
          case measure => omega
          case rel => exact ⟨k + 1, c', A', by omega, by go_num, rfl, rfl, hidp (fun j hj => by
              by_cases ej : j = k
              · subst ej; exact Hpk.out
              · exact Hk.out j (by omega)), by rw [range_snoc, Hv.out]; exact hown4.app (ps := [0]) happ rfl, sc4.turned happ.turned (fun hf => by have := (Hfp.out _ hf).1; omega), hw4.trans (happ.turned.below hw4.size (fun j hj => by have := (Hfp.out _ hj).1; omega)), Nat.le_trans Z2.out happ.turned.size⟩
      · obtain rfl : k = parts.length := by omega
        obtain ⟨f1, f2⟩ := Hyes.out Hk.out
        have F1 := hidp f1
        have F2 := hidp f2
        have hrow := ho.ok (fun x hx => by obtain ⟨j, _, rfl⟩ := List.mem_map.1 hx; have := HWb.out j; unfold I64; omega)
        have Hr := hidp hrow
        have Hfn := hidp (own_fp ho.own)
        clear f1 f2 hrow
        go_wp2
        try rw [Exit.noGoto_ret]
        go_ret2
        exact RowN.eq ⟨A, c, by simp, Hr.out, hw, fun k hk => by have := (Hfn.out k hk).1; omega⟩ F2.out.symm F1.out.symm
  · have e : thereB s of = false := by simpa using e
    obtain ⟨k1, k2⟩ := waits_no (bs := bs) e
    have Hth := hidp e
    have F1 := hidp k1
    have F2 := hidp k2
    clear e k1 k2 hs hB
    go_enter Try.func15, Try.ntmps15
    go_wp2
    go_step3
    go_wp2_with fail
    refine (there16_any _ _ _ H).mono ?_
    rintro e w2 ⟨rfl, hb2⟩
    replace hb := hb.trans (hb2.mono hb.size)
    replace sc := sc.keep (Keeps.of_below hb2)
    clear hb2
    rw [Hth.out]
    go_wp2
    go_ret2
    exact RowN.eq ⟨none, 0, rfl, nil_ints _, hb, by simp [fp]⟩ F2.out.symm F1.out.symm

end Go.Proofs.Ytpnghhaflgkgfaa

namespace Go.Proofs.Ytpnghhaflgkgfaa
open Go.ChangeShapes Go.WideShapes Go.ChangeAt Go.RowKit
set_option linter.unusedVariables false
set_option linter.unusedSimpArgs false

set_option maxHeartbeats 4000000 in
set_option maxRecDepth 100000 in
theorem holds_any (s : SetR) (bs : List Int) (ba : Option Addr) (bc : Nat) (w : World) (hs : SetOk w s) (hB : IntsOk w ba bc bs) : Calls Try.prog 13 #[.agg #[.int .i64 s.proto, .slice s.ca s.cores.length s.cc, .slice s.ha s.homes.length s.hc, .slice s.ta s.tasks.length s.tc], .slice ba bs.length bc] w fun e w' => e = .returned (.bool (holdsV s bs)) ∧ Below w.heap.size w w' := by
  have hb := (Below.refl w.heap.size w).alloc (Nat.le_refl _) (.cells #[.int .i64 s.proto, .slice s.ca s.cores.length s.cc, .slice s.ha s.homes.length s.hc, .slice s.ta s.tasks.length s.tc] 25)
  have sc := SetCells.new w s 25
  have H := hs.keep (Keeps.of_below hb)
  have l3 : s.tasks.length ≤ maxLen := Nat.le_trans hs.tasks.sl.2.1 hs.tasks.sl.2.2
  have l4 : bs.length ≤ maxLen := Nat.le_trans hB.sl.2.1 hB.sl.2.2
  unfold maxLen at l3 l4
  obtain ⟨at0, Hat⟩ : ∃ x, Hid (chkAt s = x) := ⟨_, hidp rfl⟩
  by_cases e : chkE s = 0
  · have ho := (okS_chk s).2 e
    have e1 : (chkE s != 0) = false := by simpa using e
    by_cases e2 : bs.length = s.tasks.length
    · have d1 : ((bs.length : Int) != (s.tasks.length : Int)) = false := by simp [e2]
      have n6 := (Good.of ho).ntasks.2
      have HL := hidp e2
      obtain ⟨N, HN⟩ : ∃ f : Nat → Int, Hid (∀ k : Nat, nextV s bs k = f k) := ⟨fun k => nextV s bs k, hidp (fun _ => rfl)⟩
      obtain ⟨K, HK⟩ : ∃ f : Nat → Bool, Hid (∀ k : Nat, nextK s bs k = f k) := ⟨fun k => nextK s bs k, hidp (fun _ => rfl)⟩
      obtain ⟨R, HRd⟩ : ∃ L, Hid (holdsV s bs = L) := ⟨_, hidp rfl⟩
      obtain ⟨q, Hq⟩ : ∃ q : Nat → Bool, Hid (∀ k, holdB s bs k = q k) := ⟨fun k => holdB s bs k, hidp (fun _ => rfl)⟩
      have Hqd : Hid (∀ k, q k = (K k && (decide (N k ≤ bs.getD k 0) && (decide (1 ≤ bs.getD k 0) && decide (bs.getD k 0 ≤ (s.tasks.getD k default).dl))))) := hidp (fun k => by rw [← Hq.out, ← HN.out, ← HK.out]; rfl)
      have Hoff : Hid (∀ k, k < s.tasks.length → q k = false → R = false) := hidp (fun k hk h => by
        rw [← HRd.out]; unfold holdsV
        rw [upTo_not hk (by rw [Hq.out]; exact h), Bool.and_false, Bool.and_false])
      have Hyes : Hid ((∀ k, k < s.tasks.length → q k = true) → R = true) := hidp (fun h => by
        rw [← HRd.out]; unfold holdsV
        rw [(upTo_iff _ _).2 (fun k hk => by rw [Hq.out]; exact h k hk), ho, decide_eq_true e2]; rfl)
      have HR := hidp hs.tasks.at_
      have HBR := hidp hB.at_
      have HS1 := hidp (fun u (h : Below w.heap.size w u) => hs.keep (Keeps.of_below h))
      have HB1 := hidp (fun u (h : Below w.heap.size w u) => hB.keep (Keeps.of_below h))
      rw [HRd.out]
      obtain ⟨ce, Hce⟩ : ∃ x, Hid (chkE s = x) := ⟨_, hidp rfl⟩
      have e1' : (ce != 0) = false := by rw [← Hce.out]; exact e1
      have HC := check_any s _ H
      rw [Hat.out, Hce.out] at HC
      clear hs hB ho e e1 e2 HRd
      obtain ⟨proto, ca, cc, cores, ha, hc, homes, ta, tc, tasks⟩ := s
      dsimp only at HR hb sc H d1 n6 l3 HL Hoff Hyes HS1 Hqd HC ⊢
      go_enter Try.func13, Try.ntmps13
      go_wp2_with fail
      refine HC.mono ?_
      rintro e w2 ⟨rfl, hb2⟩
      replace hb := hb.trans (hb2.mono hb.size)
      replace sc := sc.keep (Keeps.of_below hb2)
      clear hb2 HC H
      obtain ⟨sc_0, sc_1, sc_2, sc_3⟩ := id sc
      dsimp only at sc_0 sc_1 sc_2 sc_3
      go_wp2_with fail
      clear sc_0 sc_1 sc_2 sc_3
      go_loopg [29] tasks.length (fun gg i wr => ∃ k : Nat, k + gg = tasks.length ∧ i = .int .i64 k ∧ Hid (∀ j, j < k → q j = true) ∧ SetCells wr w.heap.size ⟨proto, ca, cc, cores, ha, hc, homes, ta, tc, tasks⟩ ∧ Below w.heap.size w wr)
      case atStart => exact ⟨0, by omega, rfl, hidp (fun j hj => by omega), sc, hb⟩
      case round =>
        clear hb sc
        obtain ⟨k, hk, rfl, Hk, sc, hw⟩ := hrel
        by_cases hlt : k < tasks.length
        · obtain ⟨g, off, hA, hcl⟩ := HR.out.resolve_left (by intro e; rw [e] at hlt; simp at hlt)
          subst hA
          have hkb : k < bs.length := by rw [HL.out]; exact hlt
          obtain ⟨gb, ob, hBA, hbl⟩ := HBR.out.resolve_left (by intro e; rw [e] at hkb; simp at hkb)
          subst hBA
          obtain ⟨t, HT⟩ : ∃ t, Hid (tasks.getD k default = t) := ⟨_, rfl⟩
          obtain ⟨x, Hx⟩ : ∃ x, Hid (bs.getD k 0 = x) := ⟨_, rfl⟩
          obtain ⟨d0, d1', d2, d3, d4, d5⟩ := (HT.out ▸ hcl k hlt).keep (Keeps.of_below hw)
          have Hbc := hidp (Hx.out ▸ hbl k hkb)
          have hw1 := hw.alloc hw.size (.cells #[.string t.name, .int .i64 t.per, .int .i64 t.dl, .int .i64 t.prio, .int .i64 t.cl, .slice t.pa t.parts.length t.pc] 42)
          have sc1 := sc.keep (Keeps.alloc wr (.cells #[.string t.name, .int .i64 t.per, .int .i64 t.dl, .int .i64 t.prio, .int .i64 t.cl, .slice t.pa t.parts.length t.pc] 42))
          have tb := TaskBox.new wr t 42
          obtain ⟨sc_0, sc_1, sc_2, sc_3⟩ := id sc1
          dsimp only at sc_0 sc_1 sc_2 sc_3
          obtain ⟨v, Hv⟩ : ∃ v, Hid (N k = v) := ⟨_, hidp rfl⟩
          obtain ⟨b, Hb⟩ : ∃ v, Hid (K k = v) := ⟨_, hidp rfl⟩
          have Hqk : Hid (q k = (b && (decide (v ≤ x) && (decide (1 ≤ x) && decide (x ≤ t.dl))))) := hidp (by rw [Hqd.out, Hv.out, Hb.out, Hx.out, HT.out])
          have HX := next_any ⟨proto, ca, cc, cores, ha, hc, homes, some ⟨g, off, none⟩, tc, tasks⟩ bs _ bc k _ (HS1.out _ hw1) (HB1.out _ hw1)
          rw [HN.out, HK.out, Hv.out, Hb.out] at HX
          have kI : (k : Int) < (bs.length : Int) := by omega
          clear hcl hbl hw sc
          go_wp2_with fail
          refine HX.mono ?_
          rintro e w3 ⟨rfl, hb3⟩
          replace hw1 := hw1.trans (hb3.mono hw1.size)
          replace sc1 := sc1.keep (Keeps.of_below hb3)
          replace tb := tb.keep (Keeps.of_below hb3)
          clear hb3 d0 d1' d2 d3 d4 d5 sc_0 sc_1 sc_2 sc_3 HX
          obtain ⟨d0, d1', d2, d3, d4, d5⟩ := id tb
          have cb := Keeps.of_below hw1 _ _ Hbc.out
          cases b with
          | false =>
            have Hz := hidp (Hoff.out k hlt (by rw [Hqk.out]; rfl))
            go_wp2_with fail
            go_quiet (fail)
            go_wp2_with fail
            go_ret
            exact ⟨ret_bool Hz.out.symm, below_drewN hw1 _⟩
          | true =>
            by_cases c1 : x < v
            · have Hz := hidp (Hoff.out k hlt (by rw [Hqk.out]; simp; omega))
              go_wp2_with fail
              go_quiet (fail)
              go_wp2_with fail
              go_ret
              exact ⟨ret_bool Hz.out.symm, below_drewN hw1 _⟩
            · have c1' : decide (x < v) = false := by simpa using c1
              by_cases c2 : x < 1
              · have Hz := hidp (Hoff.out k hlt (by rw [Hqk.out]; simp; omega))
                go_wp2_with fail
                go_quiet (fail)
                go_wp2_with fail
                go_ret
                exact ⟨ret_bool Hz.out.symm, below_drewN hw1 _⟩
              · have c2' : decide (x < 1) = false := by simpa using c2
                by_cases c3 : t.dl < x
                · have Hz := hidp (Hoff.out k hlt (by rw [Hqk.out]; simp; omega))
                  go_wp2_with fail
                  go_quiet (fail)
                  go_wp2_with fail
                  go_ret
                  exact ⟨ret_bool Hz.out.symm, below_drewN hw1 _⟩
                · have c3' : decide (t.dl < x) = false := by simpa using c3
                  have Hk2 : Hid (∀ j, j < k + 1 → q j = true) := hidp (fun j hj => by
                    by_cases ej : j = k
                    · subst ej; rw [Hqk.out]; simp; omega
                    · exact Hk.out j (by omega))
                  clear c1 c2 c3
                  go_wp2_with fail
                  go_quiet (fail)
                  go_wp2_with fail
                  go_roundg (gk - 1)
                  case measure => omega
                  case rel => exact ⟨k + 1, by omega, by go_num, Hk2, sc1.keep (Keeps.drewN _ _), below_drewN hw1 _⟩
        · obtain rfl : k = tasks.length := by omega
          have Hz := hidp (Hyes.out Hk.out)
          go_wp2
          go_ret
          exact ⟨ret_bool Hz.out.symm, hw⟩
    · have d1 : ((bs.length : Int) != (s.tasks.length : Int)) = true := by simp; omega
      have Hz : Hid (holdsV s bs = false) := hidp (by unfold holdsV; rw [decide_eq_false e2, Bool.false_and, Bool.and_false])
      clear e2
      go_enter Try.func13, Try.ntmps13
      go_wp2_with fail
      refine (check_any s _ H).mono ?_
      rintro e w2 ⟨rfl, hb2⟩
      replace hb := hb.trans (hb2.mono hb.size)
      replace sc := sc.keep (Keeps.of_below hb2)
      clear hb2
      try clear sc_0 sc_1 sc_2 sc_3
      have scx := sc
      obtain ⟨sc_0, sc_1, sc_2, sc_3⟩ := scx
      try dsimp only at sc_0 sc_1 sc_2 sc_3
      go_wp2_with fail
      go_ret
      exact ⟨ret_bool Hz.out.symm, hb⟩
  · have Hz : Hid (holdsV s bs = false) := hidp (by
      have : okS s = false := by rw [Bool.eq_false_iff]; intro h; exact e ((okS_chk s).1 h)
      unfold holdsV; rw [this]; rfl)
    have e1 : (chkE s != 0) = true := by simpa using e
    clear e
    go_enter Try.func13, Try.ntmps13
    go_wp2_with fail
    refine (check_any s _ H).mono ?_
    rintro e w2 ⟨rfl, hb2⟩
    replace hb := hb.trans (hb2.mono hb.size)
    replace sc := sc.keep (Keeps.of_below hb2)
    clear hb2
    try clear sc_0 sc_1 sc_2 sc_3
    have scx := sc
    obtain ⟨sc_0, sc_1, sc_2, sc_3⟩ := scx
    try dsimp only at sc_0 sc_1 sc_2 sc_3
    go_wp2_with fail
    go_ret
    exact ⟨ret_bool Hz.out.symm, hb⟩
end Go.Proofs.Ytpnghhaflgkgfaa

namespace Go.Proofs.Ytpnghhaflgkgfaa
open Go.ChangeShapes Go.WideShapes Go.ChangeAt Go.RowKit
set_option linter.unusedVariables false
set_option linter.unusedSimpArgs false

structure RowR where
  a : Option Addr
  c : Nat
  zs : List Int
instance : Inhabited RowR := ⟨⟨none, 0, []⟩⟩
def RowR.val (r : RowR) : Value := .slice r.a r.zs.length r.c
def rowsC (rs : List RowR) : List Value := rs.map RowR.val
def RowsAt (w : World) (a : Option Addr) (rs : List RowR) : Prop :=
  rs = [] ∨ ∃ b off, a = some ⟨b, off, none⟩ ∧ ∀ i, i < rs.length → w.cell? ⟨b, off + i, none⟩ = some (rs.getD i default).val
theorem RowsAt.keep {w w' : World} {a : Option Addr} {rs : List RowR} (h : RowsAt w a rs) (k : Keeps w w') : RowsAt w' a rs := by
  rcases h with h | ⟨b, off, e, h⟩
  · exact .inl h
  · exact .inr ⟨b, off, e, fun i hi => k _ _ (h i hi)⟩
theorem rows_lie {B : Nat} {w : World} {a : Option Addr} {rs : List RowR} (h : Lies B w a (rowsC rs)) : RowsAt w a rs := by
  rcases h with h | ⟨b, off, e, _, hc⟩
  · exact .inl (by simpa [rowsC] using h)
  · exact .inr ⟨b, off, e, fun i hi => hc i _ (by simp [rowsC, List.getD, hi])⟩
theorem infoI : (Try.prog.info? 22).map (fun i => (i.zero, i.size, i.bytes)) = some (some (.slice none 0 0), 1, 24) := by kernel_rfl
structure OwnS (B : Nat) (w : World) (A : Option Addr) (n c : Nat) (rs : List RowR) : Prop where
  own : w.ownsRow B 22 1 (.slice A n c) n (rowsC rs)
  len : n = rs.length
  cap : n ≤ c ∧ c ≤ maxLen
  nil : A = none → n = 0 ∧ c = 0
theorem OwnS.none (B : Nat) (w : World) : OwnS B w none 0 0 [] := ⟨World.ownsRow_nil _ _ _ _, rfl, by decide, fun _ => ⟨rfl, rfl⟩⟩
theorem OwnS.app {B : Nat} {w w1 w2 : World} {A A' : Option Addr} {n c c' : Nat} {rs ps : List RowR} {m : Nat} (h : OwnS B w A n c rs) (ha : App B 22 1 w1 A A' (n + m) c' (rowsC rs ++ rowsC ps) w2) (hm : m = ps.length) : OwnS B w2 A' (n + m) c' (rs ++ ps) :=
  ⟨by unfold rowsC; rw [List.map_append]; exact ha.own, by rw [List.length_append, h.len, hm], ha.cap, ha.nil⟩
theorem OwnS.turned {B : Nat} {F : List Nat} {w w' : World} {A : Option Addr} {n c : Nat} {rs : List RowR} (h : OwnS B w A n c rs) (ht : Turned F w w') (hF : ∀ k ∈ fp A, k ∉ F) : OwnS B w' A n c rs := ⟨own_turned h.own ht hF, h.len, h.cap, h.nil⟩
theorem OwnS.at_ {B : Nat} {w : World} {A : Option Addr} {n c : Nat} {rs : List RowR} (h : OwnS B w A n c rs) : RowsAt w A rs := rows_lie (Lies.of_own h.own)
theorem rows_one (r : RowR) : ∀ u ∈ rowsC [r], u.oneCell' = true := fun u hu => by simp [rowsC] at hu; subst hu; rfl
/-- a verdict -/
structure VerdR where
  ok : Bool
  ba : Option Addr
  bc : Nat
  bounds : List Int
  wa : Option Addr
  wc : Nat
  rows : List RowR
structure VerdOk (w : World) (v : VerdR) : Prop where
  bounds : IntsOk w v.ba v.bc v.bounds
  sl : SlOk v.wa v.rows.length v.wc
  at_ : RowsAt w v.wa v.rows
  rows : ∀ r ∈ v.rows, IntsOk w r.a r.c r.zs
theorem VerdOk.keep {w w' : World} {v : VerdR} (h : VerdOk w v) (k : Keeps w w') : VerdOk w' v := ⟨h.bounds.keep k, h.sl, h.at_.keep k, fun r hr => (h.rows r hr).keep k⟩
theorem VerdOk.none (w : World) : VerdOk w ⟨false, none, 0, [], none, 0, []⟩ := ⟨nil_ints w, ⟨fun _ => ⟨rfl, rfl⟩, by decide, by decide⟩, .inl rfl, by simp⟩
def AnPost (w : World) (s : SetR) (e : Ending) (w' : World) : Prop :=
  (∃ v : VerdR, e = .returned (.tuple #[.agg #[.bool v.ok, .slice v.ba v.bounds.length v.bc, .slice v.wa v.rows.length v.wc], .int .i64 (anE s)]) ∧ VerdOk w' v ∧ v.ok = decide (anE s = 0) ∧ v.bounds = anB s ∧ v.rows.map RowR.zs = anW s) ∧ Below w.heap.size w w'
theorem v3_turned (w : World) (g : Nat) (v0 v1 v2 : Value) : Turned [g] w (((w.setCell ⟨g, 0, none⟩ v0).setCell ⟨g, 1, none⟩ v1).setCell ⟨g, 2, none⟩ v2) :=
  (((Turned.refl [g] w).setCell (.inl (by simp)) _).setCell (.inl (by simp)) _).setCell (.inl (by simp)) _
theorem v3_bk {w : World} {g : Nat} {t : TypeId} {c0 c1 c2 v0 v1 v2 : Value} (h : Bk w g t #[c0, c1, c2]) : Bk (((w.setCell ⟨g, 0, none⟩ v0).setCell ⟨g, 1, none⟩ v1).setCell ⟨g, 2, none⟩ v2) g t #[v0, v1, v2] := by
  have := ((h.put 0 v0).put 1 v1).put 2 v2
  simpa using this
theorem Y3 {w : World} {g : Nat} {t : TypeId} {c0 c1 c2 : Value} (h : Bk w g t #[c0, c1, c2]) : w.cell? ⟨g, 0, none⟩ = some c0 ∧ w.cell? ⟨g, 1, none⟩ = some c1 ∧ w.cell? ⟨g, 2, none⟩ = some c2 := ⟨h.cell 0, h.cell 1, h.cell 2⟩
theorem YF3 {w : World} {g : Nat} {t : TypeId} {cs : Array Value} (h : Bk w g t cs) : w.frozen? ⟨g, 0, none⟩ = false ∧ w.frozen? ⟨g, 1, none⟩ = false ∧ w.frozen? ⟨g, 2, none⟩ = false := ⟨h.frozen 0, h.frozen 1, h.frozen 2⟩
/-- a row of numbers doesn't lie in a block without numbers -/
theorem IntsOk.other {w w' : World} {a : Option Addr} {c g : Nat} {t : TypeId} {zs : List Int} {c0 c1 c2 : Value} (h : IntsOk w a c zs) (hb : Bk w g t #[c0, c1, c2]) (h0 : ∀ z, c0 ≠ .int .i64 z) (h1 : ∀ z, c1 ≠ .int .i64 z) (h2 : ∀ z, c2 ≠ .int .i64 z) (ht : Turned [g] w w') : IntsOk w' a c zs := by
  refine ⟨h.sl, ?_, h.wf⟩
  rcases h.at_ with e | ⟨b, off, e, hc⟩
  · exact .inl e
  · by_cases hz : zs = []
    · exact .inl hz
    · have hp : 0 < zs.length := List.length_pos_iff.2 hz
      have hbg : b ≠ g := fun e2 => by
        subst e2
        have := hc 0 hp
        rw [Nat.add_zero, hb.cell off] at this
        match off, this with
        | 0, this => simp at this; exact h0 _ this
        | 1, this => simp at this; exact h1 _ this
        | 2, this => simp at this; exact h2 _ this
        | off + 3, this => simp at this
      exact .inr ⟨b, off, e, fun j hj => ht.cell (hc j hj) (by simpa using hbg)⟩
theorem IntsOk.turned2 {F : List Nat} {w w' : World} {a : Option Addr} {c : Nat} {zs : List Int} (h : IntsOk w a c zs) (ht : Turned F w w') (hF : zs = [] ∨ ∀ k ∈ fp a, k ∉ F) : IntsOk w' a c zs := by
  rcases hF with e | hF
  · exact ⟨h.sl, .inl e, h.wf⟩
  · exact h.turned ht hF

set_option maxHeartbeats 4000000 in
set_option maxRecDepth 100000 in
theorem analyze_any (s : SetR) (w : World) (hs : SetOk w s) : Calls Try.prog 11 #[.agg #[.int .i64 s.proto, .slice s.ca s.cores.length s.cc, .slice s.ha s.homes.length s.hc, .slice s.ta s.tasks.length s.tc]] w (AnPost w s) := by
  have hb := ((Below.refl w.heap.size w).alloc (Nat.le_refl _) (.cells #[.int .i64 s.proto, .slice s.ca s.cores.length s.cc, .slice s.ha s.homes.length s.hc, .slice s.ta s.tasks.length s.tc] 25)).alloc (by simp) (.cells #[.bool false, .slice none 0 0, .slice none 0 0] 31)
  have sc := (SetCells.new w s 25).keep (Keeps.alloc _ (.cells #[.bool false, .slice none 0 0, .slice none 0 0] 31))
  have bk := Bk.at_ (w := w.alloc (.cells #[.int .i64 s.proto, .slice s.ca s.cores.length s.cc, .slice s.ha s.homes.length s.hc, .slice s.ta s.tasks.length s.tc] 25)) (g := w.heap.size + 1) (t := 31) (cs := #[.bool false, .slice none 0 0, .slice none 0 0]) (by simp) rfl
  have hz0 : w.heap.size + 1 < ((w.alloc (.cells #[.int .i64 s.proto, .slice s.ca s.cores.length s.cc, .slice s.ha s.homes.length s.hc, .slice s.ta s.tasks.length s.tc] 25)).alloc (.cells #[.bool false, .slice none 0 0, .slice none 0 0] 31)).heap.size := by simp
  have H := hs.keep (Keeps.of_below hb)
  have l3 : s.tasks.length ≤ maxLen := Nat.le_trans hs.tasks.sl.2.1 hs.tasks.sl.2.2
  unfold maxLen at l3
  obtain ⟨at0, Hat⟩ : ∃ x, Hid (chkAt s = x) := ⟨_, hidp rfl⟩
  obtain ⟨ce, Hce⟩ : ∃ x, Hid (chkE s = x) := ⟨_, hidp rfl⟩
  have HC := check_any s _ H
  rw [Hat.out, Hce.out] at HC
  by_cases e : chkE s = 0
  · have ho := (okS_chk s).2 e
    have Ho := hidp ho
    have e1 : (ce != 0) = false := by rw [← Hce.out]; simpa using e
    have n6 := (Good.of ho).ntasks.2
    obtain ⟨L, HL⟩ : ∃ l, Hid ((settle s).1 = l) := ⟨_, hidp rfl⟩
    obtain ⟨se, Hse⟩ : ∃ l, Hid ((settle s).2 = l) := ⟨_, hidp rfl⟩
    have HanE : Hid (anE s = se) := hidp (by unfold anE; rw [if_pos e, Hse.out])
    have HS := fun u h => settled18_any s u h ho
    rw [HL.out, Hse.out] at HS
    have HS1 := hidp (fun u (h : Below w.heap.size w u) => hs.keep (Keeps.of_below h))
    clear hs ho e
    by_cases es : se = 0
    · have HB : Hid (anB s = L) := hidp (by unfold anB; rw [HanE.out, if_pos es, HL.out])
      have HW : Hid (anW s = (List.range s.tasks.length).map (fun i : Nat => waitsL s L i)) := hidp (by unfold anW; rw [HanE.out, if_pos es, HL.out])
      have es1 : (se != 0) = false := by simpa using es
      have Hes := hidp es
      obtain ⟨wl, Hwl⟩ : ∃ f : Nat → List Int, Hid (∀ k : Nat, waitsL s L k = f k) := ⟨fun k => waitsL s L k, hidp (fun _ => rfl)⟩
      obtain ⟨wk, Hwk⟩ : ∃ f : Nat → Bool, Hid (∀ k : Nat, waitsK s L k = f k) := ⟨fun k => waitsK s L k, hidp (fun _ => rfl)⟩
      obtain ⟨i1, hi0, hy0, hy1, hy2⟩ := info_parts infoI
      obtain ⟨S, HSS⟩ : ∃ S : SetR, Hid (S = s) := ⟨s, hidp rfl⟩
      clear es
      go_enter Try.func11, Try.ntmps11
      go_wp2_with fail
      refine HC.mono ?_
      rintro e w2 ⟨rfl, hb2⟩
      replace hb := hb.trans (hb2.mono hb.size)
      replace sc := sc.keep (Keeps.of_below hb2)
      replace bk := bk.below hb2
      replace hz0 := Nat.lt_of_lt_of_le hz0 hb2.size
      replace H := H.keep (Keeps.of_below hb2)
      clear hb2 HC
      obtain ⟨sc_0, sc_1, sc_2, sc_3⟩ := id sc
      go_wp2_with fail
      refine (HS _ H).mono ?_
      rintro e w4 ⟨A, c, rfl, hA, hb2⟩
      replace hb := hb.trans (hb2.mono hb.size)
      replace sc := sc.keep (Keeps.of_below hb2)
      replace bk := bk.below hb2
      replace hz0 := Nat.lt_of_lt_of_le hz0 hb2.size
      clear hb2 H HS sc_0 sc_1 sc_2 sc_3
      have hB0 := (Below.refl w4.heap.size w4).alloc (Nat.le_refl _) (.cells #[.bool true, .slice A L.length c, .slice none 0 0] 31)
      have bv := Bk.new w4 31 #[.bool true, .slice A L.length c, .slice none 0 0]
      have hz1 : w4.heap.size + 1 ≤ (w4.alloc (.cells #[.bool true, .slice A L.length c, .slice none 0 0] 31)).heap.size := by simp
      have HA := hidp hA
      have HSC := hidp sc
      have HBK := hidp bk
      have HB4 := hidp hb
      have sc1 := sc.keep (Keeps.alloc w4 (.cells #[.bool true, .slice A L.length c, .slice none 0 0] 31))
      obtain ⟨sc_0, sc_1, sc_2, sc_3⟩ := id sc1
      have hz2 := hz0
      clear hA sc bk hb sc1 hz0
      go_wp2_with fail
      clear sc_0 sc_1 sc_2 sc_3
      go_loopg [35] s.tasks.length (fun gg i wr => ∃ (k d : Nat) (W : Option Addr) (rs : List RowR), k + gg = s.tasks.length ∧ i = .int .i64 k ∧ Hid (rs.map RowR.zs = (List.range k).map wl) ∧ OwnS (w4.heap.size + 1) wr W k d rs ∧ (∀ r ∈ rs, IntsOk wr r.a r.c r.zs) ∧ (∀ r ∈ rs, r.zs = [] ∨ ∀ x ∈ fp r.a, w4.heap.size + 1 ≤ x ∧ x < wr.heap.size ∧ x ∉ fp W) ∧ Bk wr w4.heap.size 31 #[.bool true, .slice A L.length c, .slice W k d] ∧ Below w4.heap.size w4 wr ∧ w4.heap.size + 1 ≤ wr.heap.size)
      case atStart => exact ⟨0, 0, none, [], by omega, rfl, hidp rfl, OwnS.none _ _, by simp, by simp, bv, hB0, hz1⟩
      case round =>
        clear bv hB0 hz1
        obtain ⟨k, d, W, rs, hk, rfl, Hm, oW, hro, hap, bv, hB, hz⟩ := hrel
        have hw : Below w.heap.size w wr := HB4.out.trans (hB.mono HB4.out.size)
        by_cases hlt : k < s.tasks.length
        · have sc := HSC.out.keep (Keeps.of_below hB)
          obtain ⟨sc_0, sc_1, sc_2, sc_3⟩ := id sc
          obtain ⟨y0, y1, y2⟩ := Y3 bv
          have HX := wallN_any s L A c k _ (HS1.out _ hw) (HA.out.keep (Keeps.of_below hB))
          rw [Hwl.out, Hwk.out] at HX
          obtain ⟨zs, Hzs⟩ : ∃ l, Hid (wl k = l) := ⟨_, hidp rfl⟩
          obtain ⟨zk, Hzk⟩ : ∃ l, Hid (wk k = l) := ⟨_, hidp rfl⟩
          rw [Hzs.out, Hzk.out] at HX
          have Hrs : Hid (rs.length = k) := hidp oW.len.symm
          go_wp2_with fail
          refine HX.mono ?_
          rintro e w5 ⟨a', c', rfl, hR, hb3, hfr⟩
          have hF : ∀ x ∈ fp a', x ∉ fp W := fun x hx hx2 => by have := hfr x hx; have := (own_fp oW.own x hx2).2; omega
          have hlt5 : ∀ x ∈ fp a', zs ≠ [] → x < w5.heap.size := fun x hx hz => by
            rcases hR.at_ with e | ⟨b, off, e, hc⟩
            · exact absurd e hz
            · subst e; simp [fp] at hx; subst hx; exact cell_lt (hc 0 (List.length_pos_iff.2 hz))
          have HR5 := hidp hR
          have HF5 := hidp hF
          have HL5 := hidp hlt5
          have Hfr := hidp hfr
          have hs5 := hb3.size
          have oW6 := (oW.turned (Turned.of_below hb3 []) (by simp)).turned ((Turned.refl [] w5).alloc (.cells #[.slice a' zs.length c'] 22)) (by simp)
          have S2 := hidp (Lies.newCells' w5 [.slice a' zs.length c'] 22)
          have Z2 : Hid (w4.heap.size + 1 ≤ (w5.alloc (.cells #[.slice a' zs.length c'] 22)).heap.size) := hidp (Nat.le_trans hz (Nat.le_trans hs5 (by simp)))
          have O2 := hidp (rows_one ⟨a', c', zs⟩)
          have N2 : Hid (k + 1 ≤ maxLen) := hidp (by unfold maxLen; omega)
          have T2 : Hid ((k + 1) * 24 ≤ 140737488355328) := hidp (by omega)
          have Hfp := hidp (own_fp oW.own)
          have bv5 := bv.below hb3
          have bv6 := bv5.alloc (.cells #[.slice a' zs.length c'] 22)
          have hB6 := (hB.trans (hb3.mono hB.size)).alloc (hB.trans (hb3.mono hB.size)).size (.cells #[.slice a' zs.length c'] 22)
          have Hb3 := hidp hb3
          clear y0 y1 y2 sc_0 sc_1 sc_2 sc_3 sc HX hR hF hlt5 hfr hb3 oW bv hB
          obtain ⟨y0, y1, y2⟩ := Y3 bv5
          go_wp2_with (at_builtin; refine wpList_app2 _ rfl (.tmp 46) (.tmp 48) 29 rfl (w4.heap.size + 1) 22 i1 _ 1 24 Try.underlying29 hi0 hy0 hy1 hy2 rfl (by decide) W k d _ rfl oW6.own _ _ 1 1 [.slice a' zs.length c'] rfl (by simp) rfl S2.out O2.out N2.out T2.out Z2.out ?_; intro W' d' w7 happ; have D7 := bv6.turned happ.turned (fun hf => by have := (Hfp.out _ hf).1; omega); obtain ⟨x0, x1, x2⟩ := Y3 D7; obtain ⟨f0, f1, f2⟩ := YF3 D7)
          go_roundg (gk - 1)
          case measure => omega
          case rel =>
            have TS := (Turned.refl [w4.heap.size] w7).setCell (p := ⟨w4.heap.size, 2, none⟩) (.inl (by simp)) (.slice W' (k + 1) d')
            have hs7 := happ.turned.size
            have hs6 : w5.heap.size + 1 = (w5.alloc (.cells #[.slice a' zs.length c'] 22)).heap.size := by simp
            refine ⟨k + 1, d', W', rs ++ [⟨a', c', zs⟩], by omega, by go_num, hidp (by rw [List.map_append, Hm.out, List.range_succ, List.map_append]; simp [Hzs.out]), (oW6.app (ps := [⟨a', c', zs⟩]) happ rfl).turned TS (fun j hj => by
              rcases happ.fps j hj with h | h
              · have := (Hfp.out j h).1; simp; omega
              · simp; omega), fun r hr => ?_, fun r hr => ?_, D7.put 2 (.slice W' (k + 1) d'), (hB6.trans (happ.turned.below hB6.size (fun j hj => by have := (Hfp.out j hj).1; omega))).trans (TS.below (Nat.le_trans hB6.size hs7) (by simp)), Nat.le_trans (Nat.le_trans Z2.out hs7) TS.size⟩
            · rcases List.mem_append.1 hr with hm | hm
              · refine (IntsOk.turned2 (((hro r hm).keep (Keeps.of_below Hb3.out)).keep (Keeps.alloc _ _)) happ.turned ?_).turned2 TS ?_
                · rcases hap r hm with e | e
                  · exact .inl e
                  · exact .inr (fun j hj => (e j hj).2.2)
                · rcases hap r hm with e | e
                  · exact .inl e
                  · exact .inr (fun j hj => by have := (e j hj).1; simp; omega)
              · simp only [List.mem_cons, List.not_mem_nil, or_false] at hm
                subst hm
                refine (IntsOk.turned2 (HR5.out.keep (Keeps.alloc _ _)) happ.turned (.inr HF5.out)).turned2 TS (.inr (fun j hj => by have := Hfr.out j hj; simp; omega))
            · rcases List.mem_append.1 hr with hm | hm
              · rcases hap r hm with e | e
                · exact .inl e
                · refine .inr (fun x hx => ⟨(e x hx).1, ?_, fun hf => ?_⟩)
                  · have := (e x hx).2.1; have := TS.size; omega
                  · rcases happ.fps x hf with h | h
                    · exact (e x hx).2.2 h
                    · have := (e x hx).2.1; omega
              · simp only [List.mem_cons, List.not_mem_nil, or_false] at hm
                subst hm
                by_cases ez : zs = []
                · exact .inl ez
                · refine .inr (fun x hx => ⟨by have := Hfr.out x hx; omega, ?_, fun hf => ?_⟩)
                  · have := HL5.out x hx ez; have := TS.size; omega
                  · rcases happ.fps x hf with h | h
                    · exact HF5.out x hx h
                    · have := HL5.out x hx ez; omega
        · have hkn : k = s.tasks.length := by omega
          have bkr := HBK.out.below hB
          obtain ⟨y0, y1, y2⟩ := Y3 bv
          obtain ⟨z0, z1, z2⟩ := Y3 bkr
          obtain ⟨f0, f1, f2⟩ := YF3 bkr
          have hkI : (k : Int) = (s.tasks.length : Int) := by omega
          have hAr := HA.out.keep (Keeps.of_below hB)
          have Hrl := hidp (oW.len)
          have Hkn := hidp hkn
          clear hkn hkI
          go_wp2_with fail
          have PB := v3_bk bkr (v0 := .bool true) (v1 := .slice A L.length c) (v2 := .slice W k d)
          have PT := v3_turned wr (w.heap.size + 1) (.bool true) (.slice A L.length c) (.slice W k d)
          obtain ⟨x0, x1, x2⟩ := Y3 PB
          have hbe := hw.trans (PT.below hw.size (by simp))
          refine bodyPost_ret (v := .tuple #[.agg #[.bool true, .slice A L.length c, .slice W k d], .int .i64 0]) (by simp [results, Try.results11, go_sem, x0, x1, x2]) rfl ⟨⟨⟨true, A, c, L, W, d, rs⟩, ?_, ⟨hAr.other bkr (fun z h => by cases h) (fun z h => by cases h) (fun z h => by cases h) PT, ?_, ?_, fun r hr => (hro r hr).other bkr (fun z h => by cases h) (fun z h => by cases h) (fun z h => by cases h) PT⟩, ?_, HB.out.symm, ?_⟩, hbe⟩
          · rw [HanE.out, Hes.out, ← Hrl.out]
          · show SlOk W rs.length d
            rw [← Hrl.out]; exact ⟨oW.nil, oW.cap⟩
          · exact (oW.turned PT (fun j hj => by have := (own_fp oW.own j hj).1; simp; omega)).at_
          · rw [HanE.out, Hes.out]; rfl
          · rw [HW.out, Hm.out, Hkn.out]
            exact (List.map_congr_left (fun i _ => Hwl.out i)).symm
    · have es1 : (se != 0) = true := by simpa using es
      have HB : Hid (anB s = []) := hidp (by unfold anB; rw [HanE.out, if_neg es])
      have HW : Hid (anW s = []) := hidp (by unfold anW; rw [HanE.out, if_neg es])
      have Hok : Hid (decide (anE s = 0) = false) := hidp (by rw [HanE.out]; simpa using es)
      clear es
      go_enter Try.func11, Try.ntmps11
      go_wp2_with fail
      refine HC.mono ?_
      rintro e w2 ⟨rfl, hb2⟩
      replace hb := hb.trans (hb2.mono hb.size)
      replace sc := sc.keep (Keeps.of_below hb2)
      replace bk := bk.below hb2
      replace H := H.keep (Keeps.of_below hb2)
      clear hb2 HC
      obtain ⟨sc_0, sc_1, sc_2, sc_3⟩ := id sc
      go_wp2_with fail
      refine (HS _ H).mono ?_
      rintro e w4 ⟨A, c, rfl, hA, hb2⟩
      replace hb := hb.trans (hb2.mono hb.size)
      replace bk := bk.below hb2
      obtain ⟨z0, z1, z2⟩ := Y3 bk
      obtain ⟨f0, f1, f2⟩ := YF3 bk
      clear hb2 hA sc_0 sc_1 sc_2 sc_3
      go_wp2_with fail
      have PB := v3_bk bk (v0 := .bool false) (v1 := .slice none 0 0) (v2 := .slice none 0 0)
      have PT := v3_turned w4 (w.heap.size + 1) (.bool false) (.slice none 0 0) (.slice none 0 0)
      obtain ⟨x0, x1, x2⟩ := Y3 PB
      have hbe := hb.trans (PT.below hb.size (by simp))
      exact bodyPost_ret (v := .tuple #[.agg #[.bool false, .slice none 0 0, .slice none 0 0], .int .i64 se]) (by simp [results, Try.results11, go_sem, x0, x1, x2]) rfl ⟨⟨⟨false, none, 0, [], none, 0, []⟩, by rw [HanE.out]; rfl, VerdOk.none _, Hok.out.symm, HB.out.symm, HW.out.symm⟩, hbe⟩
  · have e1 : (ce != 0) = true := by rw [← Hce.out]; simpa using e
    have HanE : Hid (anE s = ce) := hidp (by unfold anE; rw [if_neg e, Hce.out])
    have hne : ¬ anE s = 0 := by rw [HanE.out, ← Hce.out]; exact e
    have HB : Hid (anB s = []) := hidp (by unfold anB; rw [if_neg hne])
    have HW : Hid (anW s = []) := hidp (by unfold anW; rw [if_neg hne])
    have Hok : Hid (decide (anE s = 0) = false) := hidp (by simpa using hne)
    clear e hne
    go_enter Try.func11, Try.ntmps11
    go_wp2_with fail
    refine HC.mono ?_
    rintro e w2 ⟨rfl, hb2⟩
    replace hb := hb.trans (hb2.mono hb.size)
    replace bk := bk.below hb2
    obtain ⟨z0, z1, z2⟩ := Y3 bk
    obtain ⟨f0, f1, f2⟩ := YF3 bk
    clear hb2 HC
    go_wp2_with fail
    have PB := v3_bk bk (v0 := .bool false) (v1 := .slice none 0 0) (v2 := .slice none 0 0)
    have PT := v3_turned w2 (w.heap.size + 1) (.bool false) (.slice none 0 0) (.slice none 0 0)
    obtain ⟨x0, x1, x2⟩ := Y3 PB
    have hbe := hb.trans (PT.below hb.size (by simp))
    exact bodyPost_ret (v := .tuple #[.agg #[.bool false, .slice none 0 0, .slice none 0 0], .int .i64 ce]) (by simp [results, Try.results11, go_sem, x0, x1, x2]) rfl ⟨⟨⟨false, none, 0, [], none, 0, []⟩, by rw [HanE.out]; rfl, VerdOk.none _, Hok.out.symm, HB.out.symm, HW.out.symm⟩, hbe⟩
end Go.Proofs.Ytpnghhaflgkgfaa

namespace Go.Proofs.Ytpnghhaflgkgfaa
open Go.ChangeShapes Go.WideShapes Go.ChangeAt Go.RowKit
set_option linter.unusedVariables false
theorem okS_mk {s : SetR} (h1 : inB s.proto 1 3 = true) (h2 : inB s.cores.length 1 3 = true) (h3 : allB s.cores 1 3 = true) (h4 : s.homes.length ≤ 4) (h5 : allB s.homes 0 ((s.cores.length : Int) - 1) = true) (h6 : 1 ≤ s.tasks.length) (h7 : s.tasks.length ≤ 6)
    (ht : ∀ k, k < s.tasks.length → formB (s.tasks.getD k default) = true ∧ inB (s.tasks.getD k default).cl 0 ((s.cores.length : Int) - 1) = true ∧ takenB (s.tasks.take k) (s.tasks.getD k default) = false ∧ partsB (s.tasks.getD k default).parts s.homes.length = true) : okS s = true := by
  refine (okS_iff s).2 ⟨?_, fun k hk => ?_⟩
  · unfold frameV
    rw [if_neg (by simp [h1]), if_neg (by simp [h2]), if_neg (by simp [h3]), if_neg (by omega), if_neg (by simp [h5]), if_neg (by omega), if_neg (by omega)]
  · obtain ⟨a, b, c, d⟩ := ht k hk
    unfold taskE
    rw [if_neg (by rw [a]; decide), if_neg (by rw [b]; decide), if_neg (by rw [c]; decide), if_neg (by rw [d]; decide)]
theorem nameA : nameB ⟨#[97]⟩ = true := by decide +kernel
theorem nameBb : nameB ⟨#[98]⟩ = true := by decide +kernel
theorem namesAB : ((⟨#[97]⟩ : ByteArray).toList == (⟨#[98]⟩ : ByteArray).toList) = false := by decide +kernel
theorem okTwo {S : SetR} {run lock run2 lock2 : Int} {proto : Int} (hp : S.proto = proto) (hc : S.cores = [1]) (hh : S.homes = [0]) {a1 a2 : Option Addr} {c1 c2 : Nat} (ht : S.tasks = [⟨⟨#[97]⟩, 100, 100, 1, 0, a1, c1, [⟨1, run, 0⟩, ⟨3, lock, 0⟩]⟩, ⟨⟨#[98]⟩, 200, 200, 2, 0, a2, c2, [⟨1, run2, 0⟩, ⟨3, lock2, 0⟩]⟩])
    (k0 : 1 ≤ proto ∧ proto ≤ 3) (k1 : 1 ≤ run ∧ run ≤ 60) (k2 : 1 ≤ lock ∧ lock ≤ 60) (k3 : 1 ≤ run2 ∧ run2 ≤ 60) (k4 : 1 ≤ lock2 ∧ lock2 ≤ 60) : okS S = true := by
  refine okS_mk (by rw [hp]; exact inB_true.2 k0) (by rw [hc]; decide) (by rw [hc]; decide) (by rw [hh]; decide) (by rw [hh, hc]; decide) (by rw [ht]; simp) (by rw [ht]; simp) (fun k hk => ?_)
  rw [ht] at hk
  have hp : ∀ x y : Int, 1 ≤ x ∧ x ≤ 60 → 1 ≤ y ∧ y ≤ 60 → partsB [⟨1, x, 0⟩, ⟨3, y, 0⟩] 1 = true := fun x y hx hy => by
    have e1 : inB x 1 60 = true := inB_true.2 hx
    have e2 : inB y 1 60 = true := inB_true.2 hy
    have e3 : inB 0 0 0 = true := by decide
    have e4 : inB 2 1 6 = true := by decide
    simp [partsB, partB, e1, e2, e3, e4]
  match k, hk with
  | 0, _ =>
    rw [ht, hc, hh]
    refine ⟨?_, (by show inB 0 0 0 = true; decide), (by simp [takenB]), hp _ _ k1 k2⟩
    show formB _ = true
    simp only [List.getD_cons_zero, formB, nameA]
    decide
  | 1, _ =>
    rw [ht, hc, hh]
    refine ⟨?_, (by show inB 0 0 0 = true; decide), ?_, hp _ _ k3 k4⟩
    · show formB _ = true
      simp only [List.getD_cons_succ, List.getD_cons_zero, formB, nameBb]
      decide
    · simp [takenB, likeB]
end Go.Proofs.Ytpnghhaflgkgfaa

namespace Go.Proofs.Ytpnghhaflgkgfaa
open Go.ChangeShapes Go.WideShapes Go.ChangeAt Go.RowKit
set_option linter.unusedVariables false
/-- what two tasks at one cluster do to one another: the same by each protocol -/
theorem pair_each {S : SetR} {proto run lock run2 lock2 : Int} {a1 a2 : Option Addr} {c1 c2 : Nat} {n1 n2 : ByteArray} {e1 d1 q1 e2 d2 q2 : Int} (hok : okS S = true) (hp : S.proto = proto) (p3 : S.homes = [0]) (p4 : S.tasks = [⟨n1, e1, d1, q1, 0, a1, c1, [⟨1, run, 0⟩, ⟨3, lock, 0⟩]⟩, ⟨n2, e2, d2, q2, 0, a2, c2, [⟨1, run2, 0⟩, ⟨3, lock2, 0⟩]⟩]) :
    eachV S 1 0 = lock2 + (if q2 < q1 then run2 else 0) ∧ eachV S 0 1 = lock + (if q1 < q2 then run else 0) := by
  have s0 : atV S 0 0 = lock := by unfold atV; rw [show ((0 : Int)) = ((0 : Nat) : Int) from rfl, srv_in hok (by rw [p4]; simp), p4, p3]; simp [srvB, sumK]
  have s1 : atV S 1 0 = lock2 := by unfold atV; rw [show ((1 : Int)) = ((1 : Nat) : Int) from rfl, srv_in hok (by rw [p4]; simp), p4, p3]; simp [srvB, sumK]
  have t0 : taskAt S 0 = ⟨n1, e1, d1, q1, 0, a1, c1, [⟨1, run, 0⟩, ⟨3, lock, 0⟩]⟩ := by unfold taskAt; rw [p4]; rfl
  have t1 : taskAt S 1 = ⟨n2, e2, d2, q2, 0, a2, c2, [⟨1, run2, 0⟩, ⟨3, lock2, 0⟩]⟩ := by unfold taskAt; rw [p4]; rfl
  unfold eachV
  rw [t0, t1]
  simp only [s0, s1]
  simp [sumK]
theorem pair_others {S : SetR} {proto run lock run2 lock2 c : Int} {a1 a2 : Option Addr} {c1 c2 : Nat} {n1 n2 : ByteArray} {e1 d1 q1 e2 d2 q2 : Int} (hok : okS S = true) (hp : S.proto = proto) (p2 : S.cores = [c]) (p3 : S.homes = [0]) (p4 : S.tasks = [⟨n1, e1, d1, q1, 0, a1, c1, [⟨1, run, 0⟩, ⟨3, lock, 0⟩]⟩, ⟨n2, e2, d2, q2, 0, a2, c2, [⟨1, run2, 0⟩, ⟨3, lock2, 0⟩]⟩]) {b0 b1 : Int} (h0 : 0 ≤ b0) (h1 : 0 ≤ b1) (wd : Int) :
    othersV S [b0, b1] 0 wd = workV wd b1 e2 (lock2 + (if q2 < q1 then run2 else 0)) / c ∧ othersV S [b0, b1] 1 wd = workV wd b0 e1 (lock + (if q1 < q2 then run else 0)) / c := by
  obtain ⟨x0, x1⟩ := pair_each hok hp p3 p4
  have ht0 : thereB S 0 = true := thereB_true.2 ⟨hok, by decide, by rw [p4]; simp⟩
  have ht1 : thereB S 1 = true := thereB_true.2 ⟨hok, by decide, by rw [p4]; simp⟩
  have hl : ([b0, b1] : List Int).length = S.tasks.length := by rw [p4]; rfl
  have hn : nnB [b0, b1] = true := by simp [nnB, h0, h1]
  have t0 : (taskAt S 0).cl = 0 := by unfold taskAt; rw [p4]; rfl
  have t1 : (taskAt S 1).cl = 0 := by unfold taskAt; rw [p4]; rfl
  have w0 : othW S [b0, b1] 0 wd 0 S.tasks = workV wd b1 e2 (lock2 + (if q2 < q1 then run2 else 0)) := by
    rw [p4]; simp [othW, x0]
  have w1 : othW S [b0, b1] 1 wd 0 S.tasks = workV wd b0 e1 (lock + (if q1 < q2 then run else 0)) := by
    rw [p4]; simp [othW, x1]
  unfold othersV
  rw [if_pos (show othersB S [b0, b1] 0 = true ∧ nnB [b0, b1] = true from ⟨othersB_true.2 ⟨ht0, hl⟩, hn⟩), if_pos (show othersB S [b0, b1] 1 = true ∧ nnB [b0, b1] = true from ⟨othersB_true.2 ⟨ht1, hl⟩, hn⟩), w0, w1, t0, t1, p2]
  exact ⟨rfl, rfl⟩
theorem pair_fair {S : SetR} {run lock run2 lock2 : Int} {a1 a2 : Option Addr} {c1 c2 : Nat} {n1 n2 : ByteArray} {e1 d1 q1 e2 d2 q2 : Int} (hok : okS S = true) (p1 : S.proto = 1) (p4 : S.tasks = [⟨n1, e1, d1, q1, 0, a1, c1, [⟨1, run, 0⟩, ⟨3, lock, 0⟩]⟩, ⟨n2, e2, d2, q2, 0, a2, c2, [⟨1, run2, 0⟩, ⟨3, lock2, 0⟩]⟩]) (hl1 : 1 ≤ lock) (hl2 : 1 ≤ lock2) (b0 b1 : Int) :
    (waitsK S [b0, b1] 0 = true ∧ waitsL S [b0, b1] 0 = [0, lock + lock2] ∧ ownV S [b0, b1] 0 = run + (lock + lock2)) ∧ (waitsK S [b0, b1] 1 = true ∧ waitsL S [b0, b1] 1 = [0, lock2 + lock] ∧ ownV S [b0, b1] 1 = run2 + (lock2 + lock)) := by
  have ht0 : thereB S 0 = true := thereB_true.2 ⟨hok, by decide, by rw [p4]; simp⟩
  have ht1 : thereB S 1 = true := thereB_true.2 ⟨hok, by decide, by rw [p4]; simp⟩
  have hl : ([b0, b1] : List Int).length = S.tasks.length := by rw [p4]; rfl
  have k0 : fairK S 0 1 = true := fairK_iff.2 ⟨ht0, by decide, by rw [p4]; show (1 : Int) < 2; decide, by unfold partAt; rw [p4]; rfl⟩
  have k1 : fairK S 1 1 = true := fairK_iff.2 ⟨ht1, by decide, by rw [p4]; show (1 : Int) < 2; decide, by unfold partAt; rw [p4]; rfl⟩
  have m0 : maxL [⟨1, run, 0⟩, ⟨3, lock, 0⟩] = lock := by simp [maxL]; omega
  have m1 : maxL [⟨1, run2, 0⟩, ⟨3, lock2, 0⟩] = lock2 := by simp [maxL]; omega
  have z0 : ¬ lock = 0 := by omega
  have z1 : ¬ lock2 = 0 := by omega
  have q0 : partAt S 0 1 = ⟨3, lock, 0⟩ := by unfold partAt; rw [p4]; rfl
  have q1 : partAt S 1 1 = ⟨3, lock2, 0⟩ := by unfold partAt; rw [p4]; rfl
  have f0 : fairV S 0 1 = lock + lock2 := by unfold fairV; rw [if_pos k0, q0, p4]; simp [othL, m0, m1, z0, z1, tot]
  have f1 : fairV S 1 1 = lock2 + lock := by unfold fairV; rw [if_pos k1, q1, p4]; simp [othL, m0, m1, z0, z1, tot]
  have v0 : waitV S [b0, b1] 0 1 = lock + lock2 := by unfold waitV; rw [if_pos hl, if_pos p1, f0]
  have v1 : waitV S [b0, b1] 1 1 = lock2 + lock := by unfold waitV; rw [if_pos hl, if_pos p1, f1]
  have j0 : waitK S [b0, b1] 0 1 = true := by unfold waitK; rw [if_pos hl, if_neg (by omega), k0]
  have j1 : waitK S [b0, b1] 1 1 = true := by unfold waitK; rw [if_pos hl, if_neg (by omega), k1]
  have hp0 : partsOf S 0 = [⟨1, run, 0⟩, ⟨3, lock, 0⟩] := by unfold partsOf; rw [p4]; rfl
  have hp1 : partsOf S 1 = [⟨1, run2, 0⟩, ⟨3, lock2, 0⟩] := by unfold partsOf; rw [p4]; rfl
  have x0 : ∀ i : Int, i = 0 ∨ i = 1 → (partAt S i (0 : Nat)).kind = 1 ∧ (partAt S i (1 : Nat)).kind = 3 := fun i hi => by
    rcases hi with rfl | rfl <;> (unfold partAt; rw [p4]; exact ⟨rfl, rfl⟩)
  have y : ∀ (i v : Int), (i = 0 ∨ i = 1) → waitK S [b0, b1] i 1 = true → waitV S [b0, b1] i 1 = v → thereB S i = true → (partsOf S i).length = 2 → waitsK S [b0, b1] i = true ∧ waitsL S [b0, b1] i = [0, v] := fun i v hi hk hv ht hp => by
    obtain ⟨g0, g1⟩ := x0 i hi
    obtain ⟨y1, y2⟩ := waits_yes (s := S) (bs := [b0, b1]) (of := i) ht (by
      rw [hp]; intro k hk2
      match k, hk2 with
      | 0, _ => unfold pK; rw [if_neg (by rw [g0]; decide)]
      | 1, _ => unfold pK; rw [if_pos g1]; exact hk)
    refine ⟨y1, ?_⟩
    rw [y2, hp]
    show [pW S [b0, b1] i 0, pW S [b0, b1] i 1] = _
    have e0 : pW S [b0, b1] i 0 = 0 := by unfold pW; rw [if_neg (by rw [g0]; decide)]
    have e1 : pW S [b0, b1] i 1 = v := by unfold pW; rw [if_pos g1]; exact hv
    rw [e0, e1]
  obtain ⟨y1, y2⟩ := y 0 _ (.inl rfl) j0 v0 ht0 (by rw [hp0]; rfl)
  obtain ⟨w1, w2⟩ := y 1 _ (.inr rfl) j1 v1 ht1 (by rw [hp1]; rfl)
  have r0 : (taskAt S 0).parts = [⟨1, run, 0⟩, ⟨3, lock, 0⟩] := hp0
  have r1 : (taskAt S 1).parts = [⟨1, run2, 0⟩, ⟨3, lock2, 0⟩] := hp1
  refine ⟨⟨y1, y2, ?_⟩, ⟨w1, w2, ?_⟩⟩
  · unfold ownV; rw [if_pos y1, y2, r0]; simp [sumK, tot]
  · unfold ownV; rw [if_pos w1, w2, r1]; simp [sumK, tot]
end Go.Proofs.Ytpnghhaflgkgfaa

namespace Go.Proofs.Ytpnghhaflgkgfaa
open Go.ChangeShapes Go.WideShapes Go.ChangeAt Go.RowKit
set_option linter.unusedVariables false
theorem partB_lock {len r R : Int} (h1 : 1 ≤ len ∧ len ≤ 60) (h2 : 0 ≤ r ∧ r < R) : partB ⟨3, len, r⟩ R = true := by
  have e1 : inB len 1 60 = true := inB_true.2 h1
  have e2 : inB r 0 (R - 1) = true := inB_true.2 (by omega)
  simp [partB, e1, e2]
theorem partB_run {k len R : Int} (hk : k = 1 ∨ k = 2) (h1 : 1 ≤ len ∧ len ≤ 60) : partB ⟨k, len, 0⟩ R = true := by
  have e1 : inB len 1 60 = true := inB_true.2 h1
  have e2 : inB 0 0 0 = true := by decide
  have hn : ¬ k = 3 := by omega
  simp [partB, e1, e2, hn, hk]
theorem partsB_mk {ps : List PartM} {R : Int} (hl : 1 ≤ ps.length ∧ ps.length ≤ 6) (h : ∀ p ∈ ps, partB p R = true) : partsB ps R = true := by
  have e1 : inB ps.length 1 6 = true := inB_true.2 (by omega)
  unfold partsB
  rw [e1, Bool.true_and]
  exact List.all_eq_true.2 h
theorem formB_mk {t : TaskR} (h0 : nameB t.name = true) (h1 : 1 ≤ t.per ∧ t.per ≤ 3000) (h2 : 1 ≤ t.dl ∧ t.dl ≤ t.per) (h3 : 1 ≤ t.prio ∧ t.prio ≤ 1000) : formB t = true := by
  have e1 : inB t.per 1 3000 = true := inB_true.2 h1
  have e2 : inB t.dl 1 t.per = true := inB_true.2 h2
  have e3 : inB t.prio 1 1000 = true := inB_true.2 h3
  simp [formB, h0, e1, e2, e3]
theorem taken_no {ts : List TaskR} {k : Nat} {t : TaskR} (hk : k ≤ ts.length) (h : ∀ i, i < k → ((ts.getD i default).name.toList == t.name.toList) = false ∧ ((ts.getD i default).prio == t.prio) = false) : takenB (ts.take k) t = false := by
  unfold takenB
  rw [List.any_eq_false]
  intro o ho
  obtain ⟨i, hi, e⟩ := mem_getD ho
  rw [List.length_take] at hi
  have e2 : (ts.take k).getD i default = ts.getD i default := by simp [List.getD, show i < k by omega]
  rw [e2] at e
  obtain ⟨a, b⟩ := h i (by omega)
  rw [e] at a b
  simp [likeB, a, b]
theorem okS_all {s : SetR} (h1 : 1 ≤ s.proto ∧ s.proto ≤ 3) (h2 : 1 ≤ s.cores.length ∧ s.cores.length ≤ 3) (h3 : ∀ n ∈ s.cores, 1 ≤ n ∧ n ≤ 3) (h4 : s.homes.length ≤ 4) (h5 : ∀ n ∈ s.homes, 0 ≤ n ∧ n < s.cores.length) (h6 : 1 ≤ s.tasks.length ∧ s.tasks.length ≤ 6)
    (ht : ∀ k, k < s.tasks.length → formB (s.tasks.getD k default) = true ∧ (0 ≤ (s.tasks.getD k default).cl ∧ (s.tasks.getD k default).cl < s.cores.length) ∧ partsB (s.tasks.getD k default).parts s.homes.length = true)
    (hd : ∀ i k, i < k → k < s.tasks.length → ((s.tasks.getD i default).name.toList == (s.tasks.getD k default).name.toList) = false ∧ ((s.tasks.getD i default).prio == (s.tasks.getD k default).prio) = false) : okS s = true := by
  have all : ∀ (l : List Int) (lo hi : Int), (∀ n ∈ l, lo ≤ n ∧ n ≤ hi) → allB l lo hi = true := fun l lo hi h => List.all_eq_true.2 (fun n hn => inB_true.2 (h n hn))
  refine okS_mk (inB_true.2 h1) (inB_true.2 (by omega)) (all _ _ _ h3) h4 (all _ _ _ (fun n hn => by have := h5 n hn; omega)) h6.1 h6.2 (fun k hk => ?_)
  obtain ⟨a, b, c⟩ := ht k hk
  exact ⟨a, inB_true.2 (by omega), taken_no (by omega) (fun i hi => hd i k hi hk), c⟩
theorem nameC : nameB ⟨#[99]⟩ = true := by decide +kernel
theorem namesAC : ((⟨#[97]⟩ : ByteArray).toList == (⟨#[99]⟩ : ByteArray).toList) = false := by decide +kernel
theorem namesBC : ((⟨#[98]⟩ : ByteArray).toList == (⟨#[99]⟩ : ByteArray).toList) = false := by decide +kernel
/-- bytes: what is left of one -/
theorem mod_u8 {a : Int} (k : Int) (h : (Lit.int .u8 a).wf = true) (hk : 0 < k) : ∃ x, 0 ≤ x ∧ x < k ∧ a.tmod k = x := by
  have h0 : 0 ≤ a := by simp [Lit.wf, IntKind.min, IntKind.max, IntKind.signed, IntKind.bits] at h; omega
  exact ⟨a.tmod k, Int.tmod_nonneg k h0, Int.tmod_lt_of_pos a hk, rfl⟩
theorem nat_u8 {a : Int} (h : (Lit.int .u8 a).wf = true) : ∃ n : Nat, a = n := by
  have h0 : 0 ≤ a := by simp [Lit.wf, IntKind.min, IntKind.max, IntKind.signed, IntKind.bits] at h; omega
  exact ⟨a.toNat, by omega⟩
theorem u8_le {a : Int} {n : Nat} (h : (Lit.int .u8 a).wf = true) (e : a = n) : n ≤ 255 := by
  simp [Lit.wf, IntKind.min, IntKind.max, IntKind.signed, IntKind.bits] at h; omega
end Go.Proofs.Ytpnghhaflgkgfaa

namespace Go.Proofs.Ytpnghhaflgkgfaa
open Go.ChangeShapes Go.WideShapes Go.ChangeAt Go.RowKit
set_option linter.unusedVariables false

theorem two18_vals {S : SetR} (hS : twoS18 S 1 1 3 5 4) : anE S = 0 ∧ anB S = [12, 16] ∧ anW S = [[0, 7], [0, 7]] ∧ holdsV S [12, 16] = true ∧ holdsV S [] = false := by
  obtain ⟨p1, p2, p3, a1, a2, c1, c2, p4⟩ := hS
  have hok := okTwo p1 p2 p3 p4 (by decide) (by decide) (by decide) (by decide) (by decide)
  have hn : S.tasks.length = 2 := by rw [p4]; rfl
  have PF := fun b0 b1 => pair_fair hok p1 p4 (by decide) (by decide) b0 b1
  have hso : soonL S = [4, 9] := by unfold soonL; rw [p4]; rfl
  have nk : ∀ b0 b1, nextK S [b0, b1] 0 = true ∧ nextK S [b0, b1] 1 = true := fun b0 b1 => ⟨nextK_true.2 ⟨(PF b0 b1).1.1, by rw [hn]; rfl⟩, nextK_true.2 ⟨(PF b0 b1).2.1, by rw [hn]; rfl⟩⟩
  have nv : ∀ b0 b1, 0 ≤ b0 → 0 ≤ b1 → nextV S [b0, b1] 0 = 8 + workV b0 b1 200 4 / 1 ∧ nextV S [b0, b1] 1 = 12 + workV b1 b0 100 4 / 1 := fun b0 b1 h0 h1 => by
    have o0 := (pair_others hok p1 p2 p3 p4 h0 h1 b0).1
    have o1 := (pair_others hok p1 p2 p3 p4 h0 h1 b1).2
    refine ⟨?_, ?_⟩
    · unfold nextV
      rw [if_pos (nk b0 b1).1, (PF b0 b1).1.2.2]
      show 1 + (3 + 4) + othersV S [b0, b1] 0 b0 = _
      rw [o0]; simp
    · unfold nextV
      rw [if_pos (nk b0 b1).2, (PF b0 b1).2.2.2]
      show 5 + (4 + 3) + othersV S [b0, b1] 1 b1 = _
      rw [o1]; simp
  have nr : ∀ b0 b1, nextRow S [b0, b1] = [nextV S [b0, b1] 0, nextV S [b0, b1] 1] := fun b0 b1 => by unfold nextRow; rw [hn]; rfl
  have dl : (S.tasks.getD 0 default).dl = 100 ∧ (S.tasks.getD 1 default).dl = 200 := by rw [p4]; exact ⟨rfl, rfl⟩
  have rb : ∀ b0 b1, nextV S [b0, b1] 0 ≤ 100 → nextV S [b0, b1] 1 ≤ 200 → roundB S [b0, b1] = true := fun b0 b1 h0 h1 => by
    unfold roundB
    rw [hn, upTo_iff]
    intro k hk
    have e0 : stepB S [b0, b1] 0 = true := by unfold stepB; rw [dl.1]; show (nextK S [b0, b1] 0 && decide (nextV S [b0, b1] 0 ≤ 100)) = true; rw [(nk b0 b1).1, decide_eq_true h0]; rfl
    have e1 : stepB S [b0, b1] 1 = true := by unfold stepB; rw [dl.2]; show (nextK S [b0, b1] 1 && decide (nextV S [b0, b1] 1 ≤ 200)) = true; rw [(nk b0 b1).2, decide_eq_true h1]; rfl
    match k, hk with
    | 0, _ => exact e0
    | 1, _ => exact e1
  obtain ⟨u0, u1⟩ := nv 4 9 (by decide) (by decide)
  obtain ⟨w0, w1⟩ := nv 12 16 (by decide) (by decide)
  rw [show 8 + workV 4 9 200 4 / 1 = 12 by decide +kernel] at u0
  rw [show 12 + workV 9 4 100 4 / 1 = 16 by decide +kernel] at u1
  rw [show 8 + workV 12 16 200 4 / 1 = 12 by decide +kernel] at w0
  rw [show 12 + workV 16 12 100 4 / 1 = 16 by decide +kernel] at w1
  have r1 : nextRow S [4, 9] = [12, 16] := by rw [nr, u0, u1]
  have r2 : nextRow S [12, 16] = [12, 16] := by rw [nr, w0, w1]
  have hset : settle S = ([12, 16], 0) := by
    unfold settle
    rw [hso, show (200 : Nat) = 198 + 1 + 1 from rfl, setL_succ, if_pos (rb 4 9 (by omega) (by omega)), r1, if_neg (by decide), setL_succ, if_pos (rb 12 16 (by omega) (by omega)), r2, if_pos rfl]
  have hE : anE S = 0 := by unfold anE; rw [if_pos ((okS_chk S).1 hok), hset]
  have hB : anB S = [12, 16] := by unfold anB; rw [if_pos hE, hset]
  refine ⟨hE, hB, ?_, ?_, ?_⟩
  · unfold anW
    rw [if_pos hE, hset, hn]
    show [waitsL S [12, 16] 0, waitsL S [12, 16] 1] = _
    rw [(PF 12 16).1.2.1, (PF 12 16).2.2.1]; rfl
  · unfold holdsV
    have e0 : holdB S [12, 16] 0 = true := by unfold holdB; rw [dl.1]; show (nextK S [12, 16] 0 && (decide (nextV S [12, 16] 0 ≤ 12) && (decide ((1 : Int) ≤ 12) && decide ((12 : Int) ≤ 100)))) = true; rw [(nk 12 16).1, w0]; rfl
    have e1 : holdB S [12, 16] 1 = true := by unfold holdB; rw [dl.2]; show (nextK S [12, 16] 1 && (decide (nextV S [12, 16] 1 ≤ 16) && (decide ((1 : Int) ≤ 16) && decide ((16 : Int) ≤ 200)))) = true; rw [(nk 12 16).2, w1]; rfl
    rw [hok, hn, (upTo_iff _ _).2 (fun k hk => by
      match k, hk with
      | 0, _ => exact e0
      | 1, _ => exact e1)]
    rfl
  · unfold holdsV; rw [hn, hok]; rfl
/-- a task alone that can't be done in time -/
theorem late18 {S : SetR} {a1 : Option Addr} {c1 : Nat} (p1 : S.proto = 1) (p2 : S.cores = [1]) (p3 : S.homes = [0]) (p4 : S.tasks = [⟨⟨#[97]⟩, 100, 50, 1, 0, a1, c1, [⟨1, 60, 0⟩]⟩]) : anE S = 19 := by
  have hok : okS S = true := by
    refine okS_all (by rw [p1]; decide) (by rw [p2]; simp) (by rw [p2]; intro z hz; simp at hz; omega) (by rw [p3]; decide) (by rw [p3, p2]; intro z hz; simp at hz; subst hz; simp) (by rw [p4]; simp) (fun k hk => ?_) (fun i k hi hk => ?_)
    · rw [p4] at hk ⊢
      rw [p2, p3]
      match k, hk with
      | 0, _ => exact ⟨formB_mk nameA (by simp) (by simp) (by simp), by simp, partsB_mk (by simp) (fun p hp => by
        simp at hp; subst hp; exact partB_run (.inl rfl) (by decide))⟩
    · rw [p4] at hk; simp at hk; omega
  have hn : S.tasks.length = 1 := by rw [p4]; rfl
  have hso : soonL S = [60] := by unfold soonL; rw [p4]; rfl
  have ht : thereB S 0 = true := thereB_true.2 ⟨hok, by decide, by rw [hn]; decide⟩
  have hp : partsOf S 0 = [⟨1, 60, 0⟩] := by unfold partsOf; rw [p4]; rfl
  obtain ⟨y1, y2⟩ := waits_yes (s := S) (bs := [60]) (of := 0) ht (by
    rw [hp]; intro k hk
    match k, hk with
    | 0, _ => unfold pK partAt; rw [p4]; rfl)
  have hk : nextK S [60] 0 = true := nextK_true.2 ⟨y1, by rw [hn]; rfl⟩
  have hpp : (taskAt S 0).parts = [⟨1, 60, 0⟩] := hp
  have hv : 60 ≤ nextV S [60] 0 := by
    have h1 := (othersV_bd S [60] 0 (([60] : List Int).getD (0 : Int).toNat 0)).1
    have h2 := (waitsT_bd S [60] 0).1
    unfold nextV ownV
    rw [if_pos hk, if_pos y1, hpp]
    show 60 ≤ sumK 1 [⟨1, 60, 0⟩] + sumK 2 [⟨1, 60, 0⟩] + tot (waitsL S [60] 0) + _
    rw [show sumK 1 [⟨1, 60, 0⟩] = 60 by decide, show sumK 2 [⟨1, 60, 0⟩] = 0 by decide]
    omega
  have hr : roundB S [60] = false := by
    unfold roundB
    refine upTo_not (k := 0) (by rw [hn]; decide) ?_
    unfold stepB
    rw [p4]
    show (nextK S [60] 0 && decide (nextV S [60] 0 ≤ 50)) = false
    rw [hk, decide_eq_false (by omega)]; rfl
  unfold anE settle
  rw [if_pos ((okS_chk S).1 hok), hso, show (200 : Nat) = 199 + 1 from rfl, setL_succ, if_neg (by rw [hr]; decide)]
theorem rows_two {rs : List RowR} {x y : List Int} (h : rs.map RowR.zs = [x, y]) : ∃ r0 r1, rs = [r0, r1] ∧ r0.zs = x ∧ r1.zs = y := by
  match rs, h with
  | [r0, r1], h => simp at h; exact ⟨r0, r1, rfl, h.1, h.2⟩
theorem empty18 (w : World) : SetOk w ⟨0, none, 0, [], none, 0, [], none, 0, []⟩ := ⟨by decide, nil_ints w, nil_ints w, ⟨⟨fun _ => ⟨rfl, rfl⟩, by decide, by decide⟩, .inl rfl, by simp⟩⟩
theorem emptyE : anE ⟨0, none, 0, [], none, 0, [], none, 0, []⟩ = 10 := by decide +kernel
end Go.Proofs.Ytpnghhaflgkgfaa

namespace Go.Proofs.Ytpnghhaflgkgfaa
open Go.ChangeShapes Go.WideShapes Go.ChangeAt Go.RowKit
set_option linter.unusedVariables false
set_option linter.unusedSimpArgs false
set_option maxHeartbeats 4000000 in
set_option maxRecDepth 100000 in
theorem known18_any (w : World) : Calls Try.prog 9 #[] w fun e w' => e = .returned (.bool true) ∧ Below w.heap.size w w' := by
  go_enter Try.func9, Try.ntmps9
  go_wp2_with fail
  refine (two18_any 1 1 3 5 4 _ (by decide) (by decide) (by decide) (by decide) (by decide)).mono ?_
  rintro e w1 ⟨⟨S, rfl, hs, hS⟩, hb⟩
  obtain ⟨q1, q2, q3, q4, q5⟩ := two18_vals hS
  have Q1 := hidp q1
  have Q2 := hidp q2
  have Q3 := hidp q3
  have Q4 := hidp q4
  have Q5 := hidp q5
  clear hS q1 q2 q3 q4 q5
  have sc := SetCells.new w1 S 25
  replace hb := hb.alloc hb.size (.cells #[.int .i64 S.proto, .slice S.ca S.cores.length S.cc, .slice S.ha S.homes.length S.hc, .slice S.ta S.tasks.length S.tc] 25)
  replace hs := hs.keep (Keeps.alloc w1 (.cells #[.int .i64 S.proto, .slice S.ca S.cores.length S.cc, .slice S.ha S.homes.length S.hc, .slice S.ta S.tasks.length S.tc] 25))
  go_wp2_with fail
  refine (analyze_any S _ hs).mono ?_
  rintro e u1 ⟨⟨v, rfl, hv, h1, h2, h3⟩, hb2⟩
  replace hb := hb.trans (hb2.mono hb.size)
  replace sc := sc.keep (Keeps.of_below hb2)
  replace hs := hs.keep (Keeps.of_below hb2)
  clear hb2
  try clear sc_0 sc_1 sc_2 sc_3
  have scx := sc
  obtain ⟨sc_0, sc_1, sc_2, sc_3⟩ := scx
  try dsimp only at sc_0 sc_1 sc_2 sc_3
  rw [Q1.out] at *
  rw [Q2.out] at h2
  rw [Q3.out] at h3
  obtain ⟨ok, ba, bc, bounds, wa, wc, rows⟩ := v
  dsimp only at h1 h2 h3 hv ⊢
  subst h1
  subst h2
  obtain ⟨r0, r1, rfl, e0, e1⟩ := rows_two h3
  obtain ⟨a0, c0, z0⟩ := r0
  obtain ⟨a1, c1, z1⟩ := r1
  dsimp only at e0 e1
  subst e0
  subst e1
  clear h3
  have bv := Y3 (Bk.new u1 31 #[.bool true, .slice ba 2 bc, .slice wa 2 wc])
  have kv := Keeps.alloc u1 (.cells #[.bool true, .slice ba 2 bc, .slice wa 2 wc] 31)
  replace hv := hv.keep kv
  replace hs := hs.keep kv
  replace sc := sc.keep kv
  replace hb := hb.alloc hb.size (.cells #[.bool true, .slice ba 2 bc, .slice wa 2 wc] 31)
  clear kv sc_0 sc_1 sc_2 sc_3
  go_wp2_with fail
  refine (analyze_any ⟨0, none, 0, [], none, 0, [], none, 0, []⟩ _ (empty18 _)).mono ?_
  rintro e u2 ⟨⟨v2, rfl, g1, g2, g3, g4⟩, hb2⟩
  replace hb := hb.trans (hb2.mono hb.size)
  replace sc := sc.keep (Keeps.of_below hb2)
  replace hs := hs.keep (Keeps.of_below hb2)
  replace hv := hv.keep (Keeps.of_below hb2)
  replace bv := And.intro (Keeps.of_below hb2 _ _ bv.1) (And.intro (Keeps.of_below hb2 _ _ bv.2.1) (Keeps.of_below hb2 _ _ bv.2.2))
  clear hb2
  clear g1 g2 g3 g4
  obtain ⟨ok2, ba2, bc2, bs2, wa2, wc2, rs2⟩ := v2
  dsimp only
  rw [emptyE]
  have kz := (Keeps.alloc u2 (.cells #[.bool ok2, .slice ba2 bs2.length bc2, .slice wa2 rs2.length wc2] 31)).trans (Keeps.alloc _ (.cells (ptc [⟨1, 60, 0⟩]).toArray 49))
  have P0 := Bk.at_ (w := u2.alloc (.cells #[.bool ok2, .slice ba2 bs2.length bc2, .slice wa2 rs2.length wc2] 31)) (g := u2.heap.size + 1) (t := 49) (cs := (ptc [⟨1, 60, 0⟩]).toArray) (by simp) rfl
  have hzp : u2.heap.size + 1 < ((u2.alloc (.cells #[.bool ok2, .slice ba2 bs2.length bc2, .slice wa2 rs2.length wc2] 31)).alloc (.cells (ptc [⟨1, 60, 0⟩]).toArray 49)).heap.size := by simp
  replace hb := (hb.alloc hb.size (.cells #[.bool ok2, .slice ba2 bs2.length bc2, .slice wa2 rs2.length wc2] 31)).alloc (hb.alloc hb.size _).size (.cells (ptc [⟨1, 60, 0⟩]).toArray 49)
  replace hs := hs.keep kz
  replace sc := sc.keep kz
  replace hv := hv.keep kz
  replace bv := And.intro (kz _ _ bv.1) (And.intro (kz _ _ bv.2.1) (kz _ _ bv.2.2))
  clear kz
  go_wp2_with fail
  refine (one18_any 1 (some ⟨u2.heap.size + 1, 0, none⟩) 1 [⟨1, 60, 0⟩] _).mono ?_
  rintro e w3 ⟨⟨ca, ha, ta, cc, hc, tc, rfl, kc, kh, kt, n1, n2⟩, hb3⟩
  obtain ⟨g, hA, hg1, hg2⟩ := own_at kt.own (by simp)
  subst hA
  have X := (SetCells.new w3 ⟨1, ca, cc, [1], ha, hc, [0], some ⟨g, 0, none⟩, tc, [⟨⟨#[97]⟩, 100, 100, 1, 0, some ⟨u2.heap.size + 1, 0, none⟩, 1, [⟨1, 60, 0⟩]⟩]⟩ 25)
  have T1 := (Turned.refl [] w3).alloc (.cells #[.int .i64 1, .slice ca 1 cc, .slice ha 1 hc, .slice (some ⟨g, 0, none⟩) 1 tc] 25)
  have kt1 := kt.turned T1 (by simp)
  have TS := (Turned.refl [g] (w3.alloc (.cells #[.int .i64 1, .slice ca 1 cc, .slice ha 1 hc, .slice (some ⟨g, 0, none⟩) 1 tc] 25))).setCell (p := ⟨g, 2, none⟩) (.inl (by simp)) (.int .i64 50)
  have kt2 := ownT_put kt1 (i := 0) (by simp) (j := 2) (by decide) ⟨⟨#[97]⟩, 100, 50, 1, 0, some ⟨u2.heap.size + 1, 0, none⟩, 1, [⟨1, 60, 0⟩]⟩ (.int .i64 50) rfl
  have hbx := (hb3.alloc hb3.size (.cells #[.int .i64 1, .slice ca 1 cc, .slice ha 1 hc, .slice (some ⟨g, 0, none⟩) 1 tc] 25)).trans (TS.below (hb3.alloc hb3.size _).size (by simpa using hg1))
  have k3 := Keeps.of_below hbx
  have kc2 := (kc.turned T1 (by simp)).turned TS (fun k hk hm => by simp at hm; subst hm; exact (n1 _ hk).1 (by simp [fp]))
  have kh2 := (kh.turned T1 (by simp)).turned TS (fun k hk hm => by simp at hm; subst hm; exact (n2 _ hk).1 (by simp [fp]))
  have X2 := X.turned TS (by simp; omega)
  have fz := own_frozen kt1.own 2
  have cz : (w3.alloc (.cells #[.int .i64 1, .slice ca 1 cc, .slice ha 1 hc, .slice (some ⟨g, 0, none⟩) 1 tc] 25)).cell? ⟨g, 2, none⟩ = some (.int .i64 100) := by
    obtain ⟨b, off, e, h⟩ := (lies_tasks kt1.tasks).resolve_left (by simp [ttc])
    cases e
    have := h.2 2 (.int .i64 100) rfl
    rw [Nat.zero_add] at this
    exact this
  replace hb := hb.trans (hbx.mono hb.size)
  replace hs := hs.keep k3
  replace sc := sc.keep k3
  replace hv := hv.keep k3
  replace bv := And.intro (k3 _ _ bv.1) (And.intro (k3 _ _ bv.2.1) (k3 _ _ bv.2.2))
  have P2 := P0.below hbx
  have hx : SetOk _ ⟨1, ca, cc, [1], ha, hc, [0], some ⟨g, 0, none⟩, tc, [⟨⟨#[97]⟩, 100, 50, 1, 0, some ⟨u2.heap.size + 1, 0, none⟩, 1, [⟨1, 60, 0⟩]⟩]⟩ := ⟨by show I64 1; decide, kc2, kh2, ⟨kt2.sl, kt2.tasks, fun t ht => by
    simp at ht; subst ht
    exact task_bk (nm := ⟨#[97]⟩) P2 (by decide) (by decide) (by decide) (by decide) (by decide) (by decide) (fun p hp => by simp at hp; subst hp; exact ⟨by decide, by decide, by decide⟩)⟩⟩
  have hE := hidp (late18 (S := ⟨1, ca, cc, [1], ha, hc, [0], some ⟨g, 0, none⟩, tc, [⟨⟨#[97]⟩, 100, 50, 1, 0, some ⟨u2.heap.size + 1, 0, none⟩, 1, [⟨1, 60, 0⟩]⟩]⟩) rfl rfl rfl rfl)
  rw [World.setCell_alloc_past _ g 2 _ hg2] at hb hs sc hv bv hx X2
  obtain ⟨sx_0, sx_1, sx_2, sx_3⟩ := X
  obtain ⟨sy_0, sy_1, sy_2, sy_3⟩ := X2
  dsimp only at sx_0 sx_1 sx_2 sx_3 sy_0 sy_1 sy_2 sy_3
  clear kc kh kt n1 n2 kc2 kh2 kt1 kt2 T1 TS k3 P0 P2 hzp
  go_wp2_with fail
  refine (analyze_any _ _ hx).mono ?_
  rintro e w4 ⟨⟨v3, rfl, g1, g2, g3, g4⟩, hb4⟩
  rw [hE.out]
  clear g1 g2 g3 g4 sx_0 sx_1 sx_2 sx_3 sy_0 sy_1 sy_2 sy_3 fz cz hx hE hbx hb3
  obtain ⟨ok3, ba3, bc3, bs3, wa3, wc3, rs3⟩ := v3
  dsimp only
  have kz := (Keeps.of_below hb4).trans (Keeps.alloc w4 (.cells #[.bool ok3, .slice ba3 bs3.length bc3, .slice wa3 rs3.length wc3] 31))
  replace hb := hb.trans (hb4.mono hb.size)
  replace hb := hb.alloc hb.size (.cells #[.bool ok3, .slice ba3 bs3.length bc3, .slice wa3 rs3.length wc3] 31)
  replace hs := hs.keep kz
  replace sc := sc.keep kz
  replace hv := hv.keep kz
  obtain ⟨bv_0, bv_1, bv_2⟩ := And.intro (kz _ _ bv.1) (And.intro (kz _ _ bv.2.1) (kz _ _ bv.2.2))
  clear kz bv hb4
  obtain ⟨x1, x2, x3, x4⟩ := hv
  have HBS := hidp x1
  obtain ⟨b, off, e, hc⟩ := x1.at_.resolve_left (by simp)
  dsimp only at e
  subst e
  have c0 := hc 0 (by simp)
  have c1 := hc 1 (by simp)
  obtain ⟨b', off', e, hr⟩ := x3.resolve_left (by simp)
  dsimp only at e
  subst e
  have r0 := hr 0 (by simp)
  obtain ⟨b2, off2, e, hw⟩ := (x4 _ (List.mem_cons_self ..)).at_.resolve_left (by simp)
  dsimp only at e
  subst e
  have y1 := hw 1 (by simp)
  clear x1 x2 x3 x4 hc hr hw
  simp [RowR.val] at c0 c1 r0 y1
  obtain ⟨sc_0, sc_1, sc_2, sc_3⟩ := id sc
  go_wp2_with fail
  refine (holds_any S [12, 16] _ _ _ hs HBS.out).mono ?_
  rintro e w5 ⟨rfl, hb5⟩
  rw [Q4.out]
  replace hb := hb.trans (hb5.mono hb.size)
  replace hs := hs.keep (Keeps.of_below hb5)
  replace sc := sc.keep (Keeps.of_below hb5)
  clear hb5 sc_0 sc_1 sc_2 sc_3 bv_0 bv_1 bv_2 c0 c1 r0 y1
  obtain ⟨sc_0, sc_1, sc_2, sc_3⟩ := id sc
  go_wp2_with fail
  refine (holds_any S [] none 0 _ hs (nil_ints _)).mono ?_
  rintro e w6 ⟨rfl, hb5⟩
  rw [Q5.out]
  replace hb := hb.trans (hb5.mono hb.size)
  clear hb5
  go_wp2_with fail
  go_ret
  exact ⟨rfl, hb⟩
end Go.Proofs.Ytpnghhaflgkgfaa

namespace Go.Proofs.Ytpnghhaflgkgfaa
open Go.ChangeShapes Go.WideShapes Go.ChangeAt Go.RowKit
set_option linter.unusedVariables false
def FewN18 (w : World) (n : Nat) (e : Ending) (w' : World) : Prop := (∃ b : Bool, e = .returned (.bool b) ∧ (b = true → n ≤ 9)) ∧ Below w.heap.size w w'
set_option maxRecDepth 100000 in
theorem fewN18_any (s : SetR) (w : World) (hs : SetOk w s) : Calls Try.prog 10 #[.agg #[.int .i64 s.proto, .slice s.ca s.cores.length s.cc, .slice s.ha s.homes.length s.hc, .slice s.ta s.tasks.length s.tc]] w (FewN18 w s.tasks.length) := by
  have hb := (Below.refl w.heap.size w).alloc (Nat.le_refl _) (.cells #[.int .i64 s.proto, .slice s.ca s.cores.length s.cc, .slice s.ha s.homes.length s.hc, .slice s.ta s.tasks.length s.tc] 25)
  have CB := hidp (SetCells.new w s 25)
  have l1 : s.tasks.length ≤ maxLen := Nat.le_trans hs.tasks.sl.2.1 hs.tasks.sl.2.2
  have l2 : s.cores.length ≤ maxLen := Nat.le_trans hs.cores.sl.2.1 hs.cores.sl.2.2
  have l3 : s.homes.length ≤ maxLen := Nat.le_trans hs.homes.sl.2.1 hs.homes.sl.2.2
  unfold maxLen at l1 l2 l3
  have HR := hidp hs.tasks.at_
  have Hok := hidp hs.tasks.ok
  clear hs
  obtain ⟨proto, ca, cc, cores, ha, hc, homes, ta, tc, tasks⟩ := s
  dsimp only at HR Hok l1 l2 l3 hb ⊢
  have F : ∀ w', Below w.heap.size w w' → FewN18 w tasks.length (.returned (.bool false)) w' := fun w' h => ⟨⟨false, rfl, fun e => by cases e⟩, h⟩
  have HF := hidp F
  clear F
  have hc0 : (8 : Int) < (cores.length : Int) ∨ ¬ (8 : Int) < (cores.length : Int) ∧ (10 : Int) < (homes.length : Int) ∨ ¬ (8 : Int) < (cores.length : Int) ∧ ¬ (10 : Int) < (homes.length : Int) ∧ (9 : Int) < (tasks.length : Int) ∨ ¬ (8 : Int) < (cores.length : Int) ∧ ¬ (10 : Int) < (homes.length : Int) ∧ ¬ (9 : Int) < (tasks.length : Int) := by omega
  rcases hc0 with h | ⟨h, g⟩ | ⟨h, g, f⟩ | ⟨h, g, f⟩
  · go_enter Try.func10, Try.ntmps10
    go_wp2
    go_ret
    exact HF.out _ hb
  · go_enter Try.func10, Try.ntmps10
    go_wp2
    go_ret
    exact HF.out _ hb
  · go_enter Try.func10, Try.ntmps10
    go_wp2
    go_ret
    exact HF.out _ hb
  · have HN9 : Hid (tasks.length ≤ 9) := hidp (by omega)
    go_enter Try.func10, Try.ntmps10
    go_wp2
    go_loopg [3] tasks.length (fun gg i wr => ∃ k : Nat, k + gg = tasks.length ∧ i = .int .i64 k ∧ SetCells wr w.heap.size ⟨proto, ca, cc, cores, ha, hc, homes, ta, tc, tasks⟩ ∧ Below w.heap.size w wr)
    case atStart => exact ⟨0, by omega, rfl, CB.out, hb⟩
    case round =>
      obtain ⟨k, hk, rfl, sc, hw⟩ := hrel
      have sc2 := sc
      obtain ⟨c0, c1, c2, c3⟩ := sc2
      dsimp only at c0 c1 c2 c3
      by_cases hlt : k < tasks.length
      · obtain ⟨g0, off, hA, hcl⟩ := HR.out.resolve_left (by intro e; rw [e] at hlt; simp at hlt)
        subst hA
        obtain ⟨t, HT⟩ : ∃ t, Hid (tasks.getD k default = t) := ⟨_, rfl⟩
        have tcl := (HT.out ▸ hcl k hlt).keep (Keeps.of_below hw)
        obtain ⟨d0, _, _, _, _, d5⟩ := tcl
        have hok := Hok.out t (HT.out ▸ getD_mem hlt)
        have n1 := hok.name
        have n2 : t.parts.length ≤ maxLen := Nat.le_trans hok.sl.2.1 hok.sl.2.2
        unfold maxLen at n1 n2
        clear hcl hok
        by_cases z1 : (20 : Int) < (t.name.size : Int)
        · go_wp2
          go_ret
          exact HF.out _ hw
        · by_cases z2 : (10 : Int) < (t.parts.length : Int)
          · go_wp2
            go_ret
            exact HF.out _ hw
          · go_wp2
            go_roundg (gk - 1)
            case measure => omega
            case rel => exact ⟨k + 1, by omega, by go_num, sc, hw⟩
      · go_wp2
        go_ret
        exact ⟨⟨true, rfl, fun _ => HN9.out⟩, hw⟩

end Go.Proofs.Ytpnghhaflgkgfaa

namespace Go.Proofs.Ytpnghhaflgkgfaa
open Go.ChangeShapes Go.WideShapes Go.ChangeAt Go.RowKit
set_option linter.unusedVariables false

/-! ### What is told of all tasks, number by number -/
theorem upto_all {α : Type} [Inhabited α] {P : List α → Nat → Prop} (ts : List α) (h0 : P [] 0) (hs : ∀ n, n < ts.length → P (ts.take n) n → P (ts.take (n + 1)) (n + 1)) : P ts ts.length := by
  have : ∀ n, n ≤ ts.length → P (ts.take n) n := fun n => by
    induction n with
    | zero => intro _; rw [List.take_zero]; exact h0
    | succ n ih => intro hn; exact hs n (by omega) (ih (by omega))
  have := this ts.length (Nat.le_refl _)
  rwa [List.take_length] at this
theorem flat_snoc {α : Type} (f : Nat → List α) (n : Nat) : (List.range (n + 1)).flatMap f = (List.range n).flatMap f ++ f n := by rw [List.range_succ, List.flatMap_append]; simp
theorem flat_congr {α β : Type} {f g : α → List β} {l : List α} (h : ∀ x ∈ l, f x = g x) : l.flatMap f = l.flatMap g := by
  induction l with
  | nil => rfl
  | cons a l ih => rw [List.flatMap_cons, List.flatMap_cons, h a (by simp), ih (fun x hx => h x (by simp [hx]))]
def mx : List Int → Int
  | [] => 0
  | a :: l => max a (mx l)
theorem mx_perm {a b : List Int} (h : a.Perm b) : mx a = mx b := by
  induction h with
  | nil => rfl
  | cons x _ ih => simp [mx, ih]
  | swap x y l => simp [mx]; omega
  | trans _ _ i1 i2 => exact i1.trans i2
theorem mx_nn (l : List Int) : 0 ≤ mx l := by
  induction l with
  | nil => simp [mx]
  | cons a l ih => simp only [mx]; omega
theorem mx_append (a b : List Int) : mx (a ++ b) = max (mx a) (mx b) := by
  induction a with
  | nil => have := mx_nn b; simp [mx]; omega
  | cons x a ih => simp only [List.cons_append, mx, ih]; omega
theorem othL_flat (of : Int) (ts : List TaskR) : othL of 0 ts = (List.range ts.length).flatMap (fun i : Nat => if (i : Int) = of ∨ maxL (ts.getD i default).parts = 0 then [] else [maxL (ts.getD i default).parts]) :=
  upto_all (P := fun l n => othL of 0 l = (List.range n).flatMap (fun i : Nat => if (i : Int) = of ∨ maxL (ts.getD i default).parts = 0 then [] else [maxL (ts.getD i default).parts])) ts rfl (fun n hn ih => by rw [othL_snoc of ts n hn, ih, flat_snoc])
theorem rothL_flat (of : Int) (ts : List TaskR) : rothL of 0 ts = (List.range ts.length).flatMap (fun i : Nat => if (i : Int) = of then [] else [maxL (ts.getD i default).parts]) :=
  upto_all (P := fun l n => rothL of 0 l = (List.range n).flatMap (fun i : Nat => if (i : Int) = of then [] else [maxL (ts.getD i default).parts])) ts rfl (fun n hn ih => by rw [rothL_snoc of ts n hn, ih, flat_snoc])
theorem rivL_flat (s : SetR) (bs : List Int) (pr cl : Int) (ts : List TaskR) : rivL s bs pr cl 0 ts = (List.range ts.length).flatMap (fun i : Nat => if (ts.getD i default).prio < pr then [PartM.mk (bs.getD i 0) (ts.getD i default).per (atV s i cl)] else []) :=
  upto_all (P := fun l n => rivL s bs pr cl 0 l = (List.range n).flatMap (fun i : Nat => if (ts.getD i default).prio < pr then [PartM.mk (bs.getD i 0) (ts.getD i default).per (atV s i cl)] else [])) ts rfl (fun n hn ih => by rw [rivL_snoc s bs pr cl ts n hn, ih, flat_snoc])
theorem lowL_flat (s : SetR) (pr cl : Int) (ts : List TaskR) : lowL s pr cl 0 ts = mx ((List.range ts.length).map (fun i : Nat => if pr < (ts.getD i default).prio then mostV s i cl else 0)) :=
  upto_all (P := fun l n => lowL s pr cl 0 l = mx ((List.range n).map (fun i : Nat => if pr < (ts.getD i default).prio then mostV s i cl else 0))) ts rfl (fun n hn ih => by
    rw [lowL_snoc s pr cl ts n hn, ih, List.range_succ, List.map_append, mx_append]
    have := (mostV_bd s n cl).1
    simp only [List.map_cons, List.map_nil, mx]
    congr 1
    split <;> omega)
theorem slowL_flat {s : SetR} (ho : okS s = true) (cl : Int) {ts : List TaskR} (hts : ∀ t ∈ ts, LenOk t.parts) : slowL s cl 0 ts = mx ((List.range ts.length).map (fun i : Nat => if (ts.getD i default).cl = cl ∧ maxL (ts.getD i default).parts ≠ 0 then maxL (ts.getD i default).parts + besV s i else 0)) :=
  upto_all (P := fun l n => slowL s cl 0 l = mx ((List.range n).map (fun i : Nat => if (ts.getD i default).cl = cl ∧ maxL (ts.getD i default).parts ≠ 0 then maxL (ts.getD i default).parts + besV s i else 0))) ts rfl (fun n hn ih => by
    rw [slowL_snoc ho cl hts n hn, ih, List.range_succ, List.map_append, mx_append]
    have := (besV_bd ho n).1
    have := maxL_nn (ts.getD n default).parts
    simp only [List.map_cons, List.map_nil, mx]
    congr 1
    split <;> omega)
theorem askN_flat (cl : Int) (ts : List TaskR) : askN cl ts = tot ((List.range ts.length).map (fun i : Nat => if (ts.getD i default).cl = cl ∧ sumK 3 (ts.getD i default).parts ≠ 0 then 1 else 0)) :=
  upto_all (P := fun l n => askN cl l = tot ((List.range n).map (fun i : Nat => if (ts.getD i default).cl = cl ∧ sumK 3 (ts.getD i default).parts ≠ 0 then 1 else 0))) ts rfl (fun n hn ih => by
    rw [askN_snoc cl ts n hn, ih, range_snoc, tot_append]; simp [tot])
theorem othW_flat (s : SetR) (bs : List Int) (of wd : Int) (ts : List TaskR) : othW s bs of wd 0 ts = tot ((List.range ts.length).map (fun i : Nat => if (i : Int) = of then 0 else workV wd (bs.getD i 0) (ts.getD i default).per (eachV s i of))) :=
  upto_all (P := fun l n => othW s bs of wd 0 l = tot ((List.range n).map (fun i : Nat => if (i : Int) = of then 0 else workV wd (bs.getD i 0) (ts.getD i default).per (eachV s i of)))) ts rfl (fun n hn ih => by
    rw [othW_snoc s bs of wd ts n hn, ih, range_snoc, tot_append]; simp [tot])
theorem workS_perm (wd : Int) {a b : List PartM} (h : a.Perm b) : workS wd a = workS wd b := by
  induction h with
  | nil => rfl
  | cons x _ ih => simp [workS, ih]
  | swap x y l => simp [workS]; omega
  | trans _ _ i1 i2 => exact i1.trans i2
theorem perm_uniq : ∀ (a b : List Int), a.Perm b → a.Pairwise (fun x y => y ≤ x) → b.Pairwise (fun x y => y ≤ x) → a = b
  | [], b, h, _, _ => (List.Perm.nil_eq h)
  | x :: a, [], h, _, _ => absurd h.length_eq (by simp)
  | x :: a, y :: b, h, ha, hb => by
    have h1 := List.pairwise_cons.1 ha
    have h2 := List.pairwise_cons.1 hb
    have e : x = y := by
      have m1 : x ∈ y :: b := h.mem_iff.1 (by simp)
      have m2 : y ∈ x :: a := h.mem_iff.2 (by simp)
      rcases List.mem_cons.1 m1 with e | m1
      · exact e
      · rcases List.mem_cons.1 m2 with e | m2
        · exact e.symm
        · have := h2.1 x m1; have := h1.1 y m2; omega
    subst e
    rw [perm_uniq a b (List.Perm.cons_inv h) h1.2 h2.2]
theorem desc_same {a b : List Int} (h : a.Perm b) : desc a = desc b := perm_uniq _ _ ((desc_perm a).trans (h.trans (desc_perm b).symm)) (desc_srt a) (desc_srt b)
theorem tops_perm {a b : List Int} (h : a.Perm b) (k : Int) : tops a k = tops b k := by unfold tops; rw [desc_same h, h.length_eq]

/-- the tasks of t are those of s, each at another place -/
structure Moved (s t : SetR) (σ τ : Nat → Nat) : Prop where
  proto : t.proto = s.proto
  cores : t.cores = s.cores
  homes : t.homes = s.homes
  len : t.tasks.length = s.tasks.length
  task : ∀ i, i < s.tasks.length → t.tasks.getD i default = s.tasks.getD (σ i) default
  lt : ∀ i, i < s.tasks.length → σ i < s.tasks.length
  lt' : ∀ i, i < s.tasks.length → τ i < s.tasks.length
  back : ∀ i, i < s.tasks.length → τ (σ i) = i
  forth : ∀ i, i < s.tasks.length → σ (τ i) = i
section
variable {s t : SetR} {σ τ : Nat → Nat}
theorem Moved.symm (h : Moved s t σ τ) : Moved t s τ σ :=
  ⟨h.proto.symm, h.cores.symm, h.homes.symm, h.len.symm, fun i hi => by rw [h.len] at hi; rw [h.task _ (h.lt' i hi), h.forth i hi], fun i hi => by rw [h.len] at hi ⊢; exact h.lt' i hi, fun i hi => by rw [h.len] at hi ⊢; exact h.lt i hi, fun i hi => by rw [h.len] at hi; exact h.forth i hi, fun i hi => by rw [h.len] at hi; exact h.back i hi⟩
theorem Moved.inj (h : Moved s t σ τ) {i j : Nat} (hi : i < s.tasks.length) (hj : j < s.tasks.length) (e : σ i = σ j) : i = j := by
  rw [← h.back i hi, ← h.back j hj, e]
theorem Moved.perm (h : Moved s t σ τ) : ((List.range s.tasks.length).map σ).Perm (List.range s.tasks.length) := by
  have hn : ((List.range s.tasks.length).map σ).Nodup := by
    rw [List.nodup_iff_pairwise_ne, List.pairwise_map]
    have hp : (List.range s.tasks.length).Pairwise (fun a b => a < b) := List.pairwise_lt_range
    refine List.Pairwise.imp_of_mem (fun {a b} ha hb hlt e => ?_) hp
    have := h.inj (List.mem_range.1 ha) (List.mem_range.1 hb) e
    omega
  refine (List.perm_ext_iff_of_nodup hn List.nodup_range).2 (fun x => ?_)
  rw [List.mem_map, List.mem_range]
  constructor
  · rintro ⟨i, hi, rfl⟩; exact h.lt i (List.mem_range.1 hi)
  · intro hx; exact ⟨τ x, List.mem_range.2 (h.lt' x hx), h.forth x hx⟩
theorem Moved.flat {α : Type} (h : Moved s t σ τ) {f g : Nat → List α} (hf : ∀ i, i < s.tasks.length → f i = g (σ i)) : ((List.range t.tasks.length).flatMap f).Perm ((List.range s.tasks.length).flatMap g) := by
  rw [h.len]
  have e : (List.range s.tasks.length).flatMap f = ((List.range s.tasks.length).map σ).flatMap g := by
    rw [List.flatMap_map]
    refine flat_congr (fun i hi => ?_)
    exact hf i (List.mem_range.1 hi)
  rw [e]
  exact List.Perm.flatMap_right g h.perm
theorem Moved.maps {α : Type} (h : Moved s t σ τ) {f g : Nat → α} (hf : ∀ i, i < s.tasks.length → f i = g (σ i)) : ((List.range t.tasks.length).map f).Perm ((List.range s.tasks.length).map g) := by
  rw [h.len]
  have e : (List.range s.tasks.length).map f = ((List.range s.tasks.length).map σ).map g := by
    rw [List.map_map]
    refine List.map_congr_left (fun i hi => ?_)
    exact hf i (List.mem_range.1 hi)
  rw [e]
  exact h.perm.map g
theorem like_no {a b : TaskR} (h : likeB a b = false) : ((b.name.toList == a.name.toList) = false ∧ (b.prio == a.prio) = false) := by
  unfold likeB at h
  rw [Bool.or_eq_false_iff] at h
  exact h
theorem bytes_comm (a b : ByteArray) : (a.toList == b.toList) = (b.toList == a.toList) := by
  rw [Bool.eq_iff_iff, beq_iff_eq, beq_iff_eq]; exact eq_comm
theorem apart_of {s : SetR} (ho : okS s = true) {i k : Nat} (hi : i < s.tasks.length) (hk : k < s.tasks.length) (hne : i ≠ k) : ((s.tasks.getD i default).name.toList == (s.tasks.getD k default).name.toList) = false ∧ ((s.tasks.getD i default).prio == (s.tasks.getD k default).prio) = false := by
  have hg := Good.of ho
  have key : ∀ i k, i < k → k < s.tasks.length → ((s.tasks.getD i default).name.toList == (s.tasks.getD k default).name.toList) = false ∧ ((s.tasks.getD i default).prio == (s.tasks.getD k default).prio) = false := fun i k hik hk => by
    have h := hg.apart k hk
    unfold takenB at h
    rw [List.any_eq_false] at h
    have hm : s.tasks.getD i default ∈ s.tasks.take k := by
      have e2 : (s.tasks.take k).getD i default = s.tasks.getD i default := by simp [List.getD, show i < k by omega]
      rw [← e2]; exact getD_mem (by rw [List.length_take]; omega)
    exact like_no (by simpa using h _ hm)
  rcases Nat.lt_or_ge i k with h | h
  · exact key i k h hk
  · obtain ⟨a, b⟩ := key k i (by omega) hi
    refine ⟨by rw [bytes_comm]; exact a, ?_⟩
    rw [beq_eq_false_iff_ne] at b ⊢
    exact fun e => b e.symm
theorem Moved.ok1 (h : Moved s t σ τ) (ho : okS s = true) : okS t = true := by
  have hg := Good.of ho
  have ht := ((okS_iff s).1 ho).2
  refine okS_all (by rw [h.proto]; exact hg.proto) (by rw [h.cores]; exact hg.ncores) (by rw [h.cores]; exact hg.cores) (by rw [h.homes]; exact hg.nhomes) (by rw [h.homes, h.cores]; intro n hn; have := hg.homes n hn; omega) (by rw [h.len]; exact hg.ntasks) (fun k hk => ?_) (fun i k hik hk => ?_)
  · rw [h.len] at hk
    rw [h.task k hk, h.cores, h.homes]
    obtain ⟨a, b, c, d⟩ := taskE_ok (ht _ (h.lt k hk))
    have b2 := inB_true.1 b
    exact ⟨a, by omega, d⟩
  · rw [h.len] at hk
    rw [h.task k hk, h.task i (by omega)]
    exact apart_of ho (h.lt i (by omega)) (h.lt k hk) (fun e => by have := h.inj (by omega) hk e; omega)
theorem Moved.ok (h : Moved s t σ τ) : okS t = okS s := by
  rw [Bool.eq_iff_iff]
  exact ⟨h.symm.ok1, h.ok1⟩
theorem Moved.at (h : Moved s t σ τ) {i : Nat} (hi : i < s.tasks.length) : taskAt t i = taskAt s (σ i : Nat) := by
  unfold taskAt; simp only [Int.toNat_natCast]; exact h.task i hi
theorem Moved.there (h : Moved s t σ τ) {i : Nat} (hi : i < s.tasks.length) : thereB t i = thereB s (σ i : Nat) := by
  have := h.lt i hi
  unfold thereB
  rw [h.ok, h.len, decide_eq_true (show (0 : Int) ≤ (i : Int) by omega), decide_eq_true (show (0 : Int) ≤ ((σ i : Nat) : Int) by omega), decide_eq_true (show (i : Int) < (s.tasks.length : Int) by omega), decide_eq_true (show ((σ i : Nat) : Int) < (s.tasks.length : Int) by omega)]
theorem Moved.part (h : Moved s t σ τ) {i : Nat} (hi : i < s.tasks.length) (p : Int) : partAt t i p = partAt s (σ i : Nat) p := by
  unfold partAt; simp only [Int.toNat_natCast]; rw [h.task i hi]
theorem Moved.parts (h : Moved s t σ τ) {i : Nat} (hi : i < s.tasks.length) : partsOf t i = partsOf s (σ i : Nat) := by
  unfold partsOf; simp only [Int.toNat_natCast]; rw [h.task i hi]
theorem Moved.fairK (h : Moved s t σ τ) {i : Nat} (hi : i < s.tasks.length) (p : Int) : fairK t i p = fairK s (σ i : Nat) p := by
  rw [Bool.eq_iff_iff, fairK_iff, fairK_iff, h.there hi, h.part hi]
  simp only [Int.toNat_natCast]
  rw [h.task i hi]
theorem Moved.num (h : Moved s t σ τ) {i j : Nat} (hi : i < s.tasks.length) (hj : j < s.tasks.length) : ((i : Int) = (j : Int)) = (((σ i : Nat) : Int) = ((σ j : Nat) : Int)) := by
  apply propext
  constructor
  · intro e; have : i = j := by omega
    rw [this]
  · intro e; have := h.inj hi hj (by omega); rw [this]
theorem Moved.fair (h : Moved s t σ τ) {i : Nat} (hi : i < s.tasks.length) (p : Int) : fairV t i p = fairV s (σ i : Nat) p := by
  have e : tot (othL i 0 t.tasks) = tot (othL (σ i : Nat) 0 s.tasks) := by
    rw [othL_flat, othL_flat]
    refine tot_perm (h.flat (fun j hj => ?_))
    rw [h.task j hj]; simp only [h.num hj hi]
  unfold fairV
  rw [h.fairK hi, h.part hi, e]
theorem Moved.srv (h : Moved s t σ τ) {i : Nat} (hi : i < s.tasks.length) (cl : Int) : srv t i cl = srv s (σ i : Nat) cl := by
  have := h.lt i hi
  unfold Go.Proofs.Ytpnghhaflgkgfaa.srv
  simp only [Int.toNat_natCast]
  rw [h.ok, h.len, h.homes, h.task i hi]
  by_cases ho : okS s = true
  · rw [if_pos ⟨ho, by omega, by omega⟩, if_pos ⟨ho, by omega, by omega⟩]
  · rw [if_neg (fun x => ho x.1), if_neg (fun x => ho x.1)]
theorem Moved.low (h : Moved s t σ τ) {i : Nat} (hi : i < s.tasks.length) (cl : Int) : lowerV t i cl = lowerV s (σ i : Nat) cl := by
  unfold lowerV prioOf
  simp only [Int.toNat_natCast]
  rw [h.there hi, h.task i hi, lowL_flat, lowL_flat]
  rw [mx_perm (h.maps (fun j hj => ?_))]
  unfold mostV
  rw [h.task j hj, h.srv hj]
/-- bounds of the tasks, each at the other place -/
def Bounds (s : SetR) (σ : Nat → Nat) (bs cs : List Int) : Prop := bs.length = s.tasks.length ∧ cs.length = s.tasks.length ∧ ∀ i, i < s.tasks.length → cs.getD i 0 = bs.getD (σ i) 0
variable {bs cs : List Int}
theorem Moved.agent (h : Moved s t σ τ) (hb : Bounds s σ bs cs) {i : Nat} (hi : i < s.tasks.length) (p : Int) : agentO t cs i p = agentO s bs (σ i : Nat) p := by
  have e1 : agentB t cs i p = agentB s bs (σ i : Nat) p := by
    unfold agentB
    rw [h.fairK hi, h.len, hb.1, hb.2.1]
  have e2 : homeV t i p = homeV s (σ i : Nat) p := by unfold homeV; rw [h.homes, h.part hi]
  have e3 : leastV t i p = leastV s (σ i : Nat) p := by unfold leastV; rw [h.part hi, e2, h.low hi]
  have e4 : prioOf t i = prioOf s (σ i : Nat) := by unfold prioOf; simp only [Int.toNat_natCast]; rw [h.task i hi]
  have e5 : winF (leastV s (σ i : Nat) p) (rivL t cs (prioOf s (σ i : Nat)) (homeV s (σ i : Nat) p) 0 t.tasks) = winF (leastV s (σ i : Nat) p) (rivL s bs (prioOf s (σ i : Nat)) (homeV s (σ i : Nat) p) 0 s.tasks) := by
    funext x
    unfold winF
    rw [rivL_flat, rivL_flat, workS_perm x (h.flat (fun j hj => ?_))]
    unfold atV
    rw [h.task j hj, h.srv hj, hb.2.2 j hj]
  unfold agentO
  rw [e1, e2, e3, e4, e5]
theorem Moved.coresV (h : Moved s t σ τ) : coresV t = coresV s := by unfold Go.Proofs.Ytpnghhaflgkgfaa.coresV; rw [h.ok, h.cores]
theorem Moved.bes (h : Moved s t σ τ) {i : Nat} (hi : i < s.tasks.length) : besV t i = besV s (σ i : Nat) := by
  unfold besV
  rw [h.coresV, rothL_flat, rothL_flat, tops_perm (h.flat (fun j hj => ?_))]
  rw [h.task j hj]; simp only [h.num hj hi]
theorem Moved.slow (h : Moved s t σ τ) (ho : okS s = true) (cl : Int) : slowL t cl 0 t.tasks = slowL s cl 0 s.tasks := by
  have l1 : ∀ q ∈ s.tasks, LenOk q.parts := fun q hq => ((Good.of ho).parts q hq).lens
  have l2 : ∀ q ∈ t.tasks, LenOk q.parts := fun q hq => ((Good.of (h.ok1 ho)).parts q hq).lens
  rw [slowL_flat (h.ok1 ho) cl l2, slowL_flat ho cl l1]
  rw [mx_perm (h.maps (fun j hj => ?_))]
  rw [h.task j hj, h.bes hj]
theorem Moved.ask (h : Moved s t σ τ) (cl : Int) : askersV t cl = askersV s cl := by
  unfold askersV
  rw [h.ok, askN_flat, askN_flat, tot_perm (h.maps (fun j hj => ?_))]
  rw [h.task j hj]
theorem Moved.out (h : Moved s t σ τ) {i : Nat} (hi : i < s.tasks.length) : outV t i = outV s (σ i : Nat) := by
  unfold outV
  simp only [Int.toNat_natCast]
  rw [h.there hi, h.task i hi]
  by_cases e : thereB s (σ i : Nat) = true ∧ maxL (s.tasks.getD (σ i) default).parts ≠ 0
  · rw [if_pos e, if_pos e, h.slow (thereB_true.1 e.1).1]
    unfold rndV coreAt
    rw [h.ask, h.cores]
  · rw [if_neg e, if_neg e]
theorem Moved.tok (h : Moved s t σ τ) {i : Nat} (hi : i < s.tasks.length) (p : Int) : tokV t i p = tokV s (σ i : Nat) p := by
  unfold tokV insV
  rw [h.fairK hi, h.part hi, h.bes hi, h.out hi]
theorem Moved.wait (h : Moved s t σ τ) (hb : Bounds s σ bs cs) {i : Nat} (hi : i < s.tasks.length) (p : Int) : waitV t cs i p = waitV s bs (σ i : Nat) p ∧ waitK t cs i p = waitK s bs (σ i : Nat) p := by
  have e := h.agent hb hi p
  unfold waitV waitK agentV agentK
  rw [h.proto, h.len, hb.1, hb.2.1, e, h.fair hi, h.fairK hi, h.tok hi]
  exact ⟨rfl, rfl⟩
theorem Moved.waits (h : Moved s t σ τ) (hb : Bounds s σ bs cs) {i : Nat} (hi : i < s.tasks.length) : waitsK t cs i = waitsK s bs (σ i : Nat) ∧ waitsL t cs i = waitsL s bs (σ i : Nat) := by
  have ew : pW t cs i = pW s bs (σ i : Nat) := by funext k; unfold pW; rw [h.part hi, (h.wait hb hi k).1]
  have ek : pK t cs i = pK s bs (σ i : Nat) := by funext k; unfold pK; rw [h.part hi, (h.wait hb hi k).2]
  have e1 : waitsK t cs i = waitsK s bs (σ i : Nat) := by unfold waitsK; rw [h.there hi, h.parts hi, ek]
  refine ⟨e1, ?_⟩
  unfold waitsL
  rw [e1, h.parts hi, ew]
theorem Moved.nn (h : Moved s t σ τ) (hb : Bounds s σ bs cs) : nnB cs = nnB bs := by
  have key : ∀ {s t : SetR} {σ τ : Nat → Nat} {bs cs : List Int}, Moved s t σ τ → Bounds s σ bs cs → nnB bs = true → nnB cs = true := fun {s t σ τ bs cs} h hb e => by
    refine nn_yes (fun k hk => ?_)
    rw [hb.2.1] at hk
    rw [hb.2.2 k hk]
    have hl := h.lt k hk
    exact nnB_true.1 e _ (by rw [← hb.1] at hl; simp [List.getD, hl])
  rw [Bool.eq_iff_iff]
  refine ⟨key h.symm ⟨by rw [h.len]; exact hb.2.1, by rw [h.len]; exact hb.1, fun i hi => ?_⟩, key h hb⟩
  rw [h.len] at hi
  rw [hb.2.2 _ (h.lt' i hi), h.forth i hi]
theorem Moved.each (h : Moved s t σ τ) {i j : Nat} (hi : i < s.tasks.length) (hj : j < s.tasks.length) : eachV t j i = eachV s (σ j : Nat) (σ i : Nat) := by
  unfold eachV atV
  rw [h.at hi, h.at hj, h.proto, h.srv hj]
theorem Moved.others (h : Moved s t σ τ) (hb : Bounds s σ bs cs) {i : Nat} (hi : i < s.tasks.length) (wd : Int) : othersV t cs i wd = othersV s bs (σ i : Nat) wd := by
  have e1 : othersB t cs i = othersB s bs (σ i : Nat) := by unfold othersB; rw [h.there hi, h.len, hb.1, hb.2.1]
  have e2 : othW t cs i wd 0 t.tasks = othW s bs (σ i : Nat) wd 0 s.tasks := by
    rw [othW_flat, othW_flat, tot_perm (h.maps (fun j hj => ?_))]
    rw [h.task j hj, hb.2.2 j hj, h.each hi hj]; simp only [h.num hj hi]
  unfold othersV
  rw [e1, e2, h.nn hb, h.at hi, h.cores]
theorem Moved.next (h : Moved s t σ τ) (hb : Bounds s σ bs cs) {i : Nat} (hi : i < s.tasks.length) : nextK t cs i = nextK s bs (σ i : Nat) ∧ nextV t cs i = nextV s bs (σ i : Nat) := by
  have e1 : nextK t cs i = nextK s bs (σ i : Nat) := by unfold nextK; rw [(h.waits hb hi).1, h.len, hb.1, hb.2.1]
  refine ⟨e1, ?_⟩
  unfold nextV ownV
  simp only [Int.toNat_natCast]
  rw [e1, (h.waits hb hi).1, (h.waits hb hi).2, h.at hi, hb.2.2 i hi, h.others hb hi]
theorem Moved.upTo (h : Moved s t σ τ) {p q : Nat → Bool} (hp : ∀ i, i < s.tasks.length → p i = q (σ i)) : upTo p s.tasks.length = upTo q s.tasks.length := by
  rw [Bool.eq_iff_iff, upTo_iff, upTo_iff]
  constructor
  · intro H k hk
    have := H _ (h.lt' k hk)
    rwa [hp _ (h.lt' k hk), h.forth k hk] at this
  · intro H k hk
    rw [hp k hk]; exact H _ (h.lt k hk)
theorem Moved.round (h : Moved s t σ τ) (hb : Bounds s σ bs cs) : roundB t cs = roundB s bs := by
  unfold roundB
  rw [h.len]
  refine h.upTo (fun i hi => ?_)
  unfold stepB
  rw [(h.next hb hi).1, (h.next hb hi).2, h.task i hi]
theorem row_at (s : SetR) (bs : List Int) {i : Nat} (hi : i < s.tasks.length) : (nextRow s bs).getD i 0 = nextV s bs i := by
  unfold nextRow
  simp [List.getD, hi]
theorem Moved.row (h : Moved s t σ τ) (hb : Bounds s σ bs cs) : Bounds s σ (nextRow s bs) (nextRow t cs) :=
  ⟨nextRow_len _ _, by rw [nextRow_len, h.len], fun i hi => by rw [row_at t cs (by rw [h.len]; exact hi), row_at s bs (h.lt i hi), (h.next hb hi).2]⟩
theorem rows_eq {a b : List Int} {n : Nat} (ha : a.length = n) (hb : b.length = n) (h : ∀ i, i < n → a.getD i 0 = b.getD i 0) : a = b := by
  refine List.ext_getElem (by rw [ha, hb]) (fun i h1 h2 => ?_)
  have := h i (by omega)
  simpa [List.getD, h1, h2] using this
theorem Moved.rest (h : Moved s t σ τ) (hb : Bounds s σ bs cs) : (nextRow t cs = cs) ↔ (nextRow s bs = bs) := by
  have hr := h.row hb
  constructor
  · intro e
    refine rows_eq hr.1 hb.1 (fun i hi => ?_)
    have h1 := hr.2.2 _ (h.lt' i hi)
    have h2 := hb.2.2 _ (h.lt' i hi)
    rw [h.forth i hi] at h1 h2
    rw [← h1, ← h2, e]
  · intro e
    refine rows_eq hr.2.1 hb.2.1 (fun i hi => ?_)
    rw [hr.2.2 i hi, hb.2.2 i hi, e]
theorem Moved.set (h : Moved s t σ τ) (n : Nat) : ∀ bs cs : List Int, Bounds s σ bs cs → (setL t n cs).2 = (setL s n bs).2 ∧ ((setL s n bs).2 = 0 → Bounds s σ (setL s n bs).1 (setL t n cs).1) := by
  induction n with
  | zero => intro bs cs hb; exact ⟨rfl, fun e => by simp [setL] at e⟩
  | succ n ih =>
    intro bs cs hb
    rw [setL_succ, setL_succ, h.round hb]
    by_cases e : roundB s bs = true
    · rw [if_pos e, if_pos e]
      by_cases e2 : nextRow s bs = bs
      · rw [if_pos e2, if_pos ((h.rest hb).2 e2)]
        exact ⟨rfl, fun _ => hb⟩
      · rw [if_neg e2, if_neg (fun x => e2 ((h.rest hb).1 x))]
        exact ih _ _ (h.row hb)
    · rw [if_neg e, if_neg e]
      exact ⟨rfl, fun x => by simp at x⟩
theorem Moved.soon (h : Moved s t σ τ) : Bounds s σ (soonL s) (soonL t) :=
  ⟨soonL_len s, by rw [soonL_len, h.len], fun i hi => by
    have e : ∀ (u : SetR) (j : Nat), j < u.tasks.length → (soonL u).getD j 0 = allK (u.tasks.getD j default).parts := fun u j hj => by unfold soonL; simp [List.getD, hj]
    rw [e t i (by rw [h.len]; exact hi), e s _ (h.lt i hi), h.task i hi]⟩
/-- what is told of a set whose tasks stand otherwise -/
theorem Moved.told (h : Moved s t σ τ) : ((anE t = 0) = (anE s = 0)) ∧ (okS s = true → anE t = anE s) ∧ (anE s = 0 → Bounds s σ (anB s) (anB t)) := by
  obtain ⟨h1, h2⟩ := h.set 200 _ _ h.soon
  have hE : ∀ u : SetR, okS u = true → anE u = (settle u).2 := fun u hu => by unfold anE; rw [if_pos ((okS_chk u).1 hu)]
  have e : okS s = true → anE t = anE s := fun ho => by rw [hE t (h.ok1 ho), hE s ho]; exact h1
  refine ⟨?_, e, fun h0 => ?_⟩
  · by_cases ho : okS s = true
    · rw [e ho]
    · have n1 : ¬ anE s = 0 := fun x => ho (anE_zero x).1
      have n2 : ¬ anE t = 0 := fun x => ho (by rw [← h.ok]; exact (anE_zero x).1)
      simp [n1, n2]
  · have ho := (anE_zero h0).1
    have h0' : anE t = 0 := by rw [e ho]; exact h0
    rw [(anB_rest h0).1, (anB_rest h0').1]
    exact h2 (anE_zero h0).2
/-- turned round -/
theorem moved_turn {s t : SetR} {k : Nat} (h1 : t.proto = s.proto) (h2 : t.cores = s.cores) (h3 : t.homes = s.homes) (h4 : t.tasks = s.tasks.drop k ++ s.tasks.take k) (hk : k < s.tasks.length) : Moved s t (fun i => (i + k) % s.tasks.length) (fun i => (i + (s.tasks.length - k)) % s.tasks.length) := by
  have hn : 0 < s.tasks.length := by omega
  refine ⟨h1, h2, h3, by rw [h4]; simp; omega, fun i hi => ?_, fun i _ => Nat.mod_lt _ hn, fun i _ => Nat.mod_lt _ hn, fun i hi => ?_, fun i hi => ?_⟩
  · rw [h4]
    rcases Nat.lt_or_ge (i + k) s.tasks.length with h | h
    · rw [Nat.mod_eq_of_lt h]
      simp only [List.getD, List.getElem?_append, List.length_drop]
      rw [if_pos (by omega), List.getElem?_drop, Nat.add_comm k i]
    · have e : (i + k) % s.tasks.length = i + k - s.tasks.length := by
        rw [Nat.mod_eq_sub_mod h, Nat.mod_eq_of_lt (by omega)]
      rw [e]
      simp only [List.getD, List.getElem?_append, List.length_drop]
      rw [if_neg (by omega), List.getElem?_take, if_pos (by omega), show i - (s.tasks.length - k) = i + k - s.tasks.length by omega]
  · rcases Nat.lt_or_ge (i + k) s.tasks.length with h | h
    · rw [Nat.mod_eq_of_lt h, show i + k + (s.tasks.length - k) = i + s.tasks.length by omega, Nat.add_mod_right, Nat.mod_eq_of_lt hi]
    · have e : (i + k) % s.tasks.length = i + k - s.tasks.length := by
        rw [Nat.mod_eq_sub_mod h, Nat.mod_eq_of_lt (by omega)]
      rw [e, show i + k - s.tasks.length + (s.tasks.length - k) = i by omega, Nat.mod_eq_of_lt hi]
  · rcases Nat.lt_or_ge i k with h | h
    · rw [Nat.mod_eq_of_lt (show i + (s.tasks.length - k) < s.tasks.length by omega), show i + (s.tasks.length - k) + k = i + s.tasks.length by omega, Nat.add_mod_right, Nat.mod_eq_of_lt hi]
    · have e : (i + (s.tasks.length - k)) % s.tasks.length = i - k := by
        rw [Nat.mod_eq_sub_mod (by omega), show i + (s.tasks.length - k) - s.tasks.length = i - k by omega, Nat.mod_eq_of_lt (by omega)]
      rw [e, show i - k + k = i by omega, Nat.mod_eq_of_lt hi]
end
end Go.Proofs.Ytpnghhaflgkgfaa

set_option linter.unusedSimpArgs false
namespace Go.Proofs.Ytpnghhaflgkgfaa
open Go.ChangeShapes Go.WideShapes Go.ChangeAt Go.RowKit
theorem drop_lies {w : World} {g o : Nat} {ts : List TaskR} (h : TasksAt w (some ⟨g, o, none⟩) ts) (k : Nat) : TasksAt w (some ⟨g, o + k * 6, none⟩) (ts.drop k) := by
  by_cases hk : k < ts.length
  · obtain ⟨b, off, e, hc⟩ := h.resolve_left (by intro e; rw [e] at hk; simp at hk)
    cases e
    refine .inr ⟨g, o + k * 6, rfl, fun i hi => ?_⟩
    rw [List.length_drop] at hi
    have := hc (k + i) (by omega)
    rw [show o + (k + i) * 6 = o + k * 6 + i * 6 by omega] at this
    have e2 : (ts.drop k).getD i default = ts.getD (k + i) default := by simp [List.getD, List.getElem?_drop]
    rw [e2]; exact this
  · exact .inl (List.drop_eq_nil_of_le (by omega))
theorem take_lies {w : World} {a : Option Addr} {ts : List TaskR} (h : TasksAt w a ts) (k : Nat) : TasksAt w a (ts.take k) := by
  rcases h with h | ⟨b, off, e, hc⟩
  · exact .inl (by rw [h]; simp)
  · refine .inr ⟨b, off, e, fun i hi => ?_⟩
    rw [List.length_take] at hi
    have e2 : (ts.take k).getD i default = ts.getD i default := by simp [List.getD, List.getElem?_take, show i < k by omega]
    rw [e2]; exact hc i (by omega)
theorem keeps_of {B : Nat} {w w' : World} (h : Below B w w') (hB : w.heap.size = B) : Keeps w w' := by subst hB; exact Keeps.of_below h
end Go.Proofs.Ytpnghhaflgkgfaa
set_option maxHeartbeats 8000000
set_option maxRecDepth 100000
namespace Go.Proofs.Ytpnghhaflgkgfaa.admitTurns
open Go.ChangeShapes Go.WideShapes Go.ChangeAt Go.RowKit
open Go.ChangeMaps (open_string shut_string)
set_option linter.unusedVariables false

/-- THE WALK: the Go text returns true, and writes nothing that was there. -/
theorem walk (s0 : SetR) (a1 : Int) (w : World) (w0 : SetOk w s0) (w1 : (Lit.int .u8 a1).wf = true) :
    Calls Try.prog 4 #[.agg #[.int .i64 s0.proto, .slice s0.ca s0.cores.length s0.cc, .slice s0.ha s0.homes.length s0.hc, .slice s0.ta s0.tasks.length s0.tc], .int .u8 a1] w fun e w' => e = .returned (.bool true) ∧ Below w.heap.size w w' := by
  have hb := (Below.refl w.heap.size w).alloc (Nat.le_refl _) (.cells #[.int .i64 s0.proto, .slice s0.ca s0.cores.length s0.cc, .slice s0.ha s0.homes.length s0.hc, .slice s0.ta s0.tasks.length s0.tc] 25)
  have sc := SetCells.new w s0 25
  have hs := w0.keep (Keeps.of_below hb)
  obtain ⟨wh, hn⟩ : ∃ n : Nat, a1 = n := nat_u8 w1
  have wh255 : wh ≤ 255 := u8_le w1 hn
  subst hn
  clear w0 w1
  obtain ⟨j0, hj0, hk0, hk1, hk2⟩ := info_parts infoTask
  have htl : s0.tasks.length ≤ maxLen := Nat.le_trans hs.tasks.sl.2.1 hs.tasks.sl.2.2
  unfold maxLen at htl
  obtain ⟨proto, ca, cc, cores, ha, hc, homes, ta, tc, tasks⟩ := s0
  dsimp only at hb sc hs htl ⊢
  go_enter Try.func4, Try.ntmps4
  go_wp2_with fail
  refine (known18_any _).mono ?_
  rintro e u1 ⟨rfl, hb2⟩
  replace hb := hb.trans (hb2.mono hb.size)
  replace sc := sc.keep (Keeps.of_below hb2)
  replace hs := hs.keep (Keeps.of_below hb2)
  clear hb2
  try clear sc_0 sc_1 sc_2 sc_3
  have scx := sc
  obtain ⟨sc_0, sc_1, sc_2, sc_3⟩ := scx
  try dsimp only at sc_0 sc_1 sc_2 sc_3
  go_wp2_with fail
  refine (fewN18_any _ _ hs).mono ?_
  rintro e u2 ⟨⟨b, rfl, h9⟩, hb2⟩
  replace hb := hb.trans (hb2.mono hb.size)
  replace sc := sc.keep (Keeps.of_below hb2)
  replace hs := hs.keep (Keeps.of_below hb2)
  clear hb2
  try clear sc_0 sc_1 sc_2 sc_3
  have scx := sc
  obtain ⟨sc_0, sc_1, sc_2, sc_3⟩ := scx
  try dsimp only at sc_0 sc_1 sc_2 sc_3
  cases b
  · go_wp2_with fail
    go_ret
    exact ⟨rfl, hb⟩
  have n9 : tasks.length ≤ 9 := h9 rfl
  clear h9
  by_cases hz : tasks.length = 0
  · have hz1 : ((tasks.length : Int) == 0) = true := by simp [hz]
    go_wp2_with fail
    go_ret
    exact ⟨rfl, hb⟩
  have hz1 : ((tasks.length : Int) == 0) = false := by rw [beq_eq_false_iff_ne]; omega
  obtain ⟨kk, hkk⟩ : ∃ kk, wh % tasks.length = kk := ⟨_, rfl⟩
  have hkl : kk < tasks.length := by rw [← hkk]; exact Nat.mod_lt _ (by omega)
  have ht1 : (wh : Int).tmod (tasks.length : Int) = (kk : Int) := by rw [Int.tmod_eq_emod_of_nonneg (by omega), ← hkk]; simp
  have hzI : ¬ (tasks.length : Int) = 0 := by omega
  obtain ⟨gt, ot, hTA, _⟩ := hs.tasks.at_.resolve_left (by intro e; dsimp only at e; rw [e] at hz; simp at hz)
  dsimp only at hTA
  subst hTA
  have htc : tasks.length ≤ tc ∧ tc ≤ maxLen := hs.tasks.sl.2
  unfold maxLen at htc
  obtain ⟨tc0, tc1⟩ := htc
  have hwwh : IntKind.i64.wrap (wh : Int) = (wh : Int) := IntWalk.i64_in _ (by omega)
  clear hkk
  have kv := Keeps.alloc u2 (.cells #[.int .i64 proto, .slice ca cores.length cc, .slice ha homes.length hc, .slice (some ⟨gt, ot, none⟩) tasks.length tc] 25)
  have Bt := Bk.new u2 25 #[.int .i64 proto, .slice ca cores.length cc, .slice ha homes.length hc, .slice (some ⟨gt, ot, none⟩) tasks.length tc]
  have hbv := hb.alloc hb.size (.cells #[.int .i64 proto, .slice ca cores.length cc, .slice ha homes.length hc, .slice (some ⟨gt, ot, none⟩) tasks.length tc] 25)
  have hsz := cell_lt sc.1
  have hsv := hs.keep kv
  have scv := sc.keep kv
  have hwh : w.heap.size ≤ u2.heap.size := hb.size
  have hlt0 : u2.heap.size < (u2.alloc (.cells #[.int .i64 proto, .slice ca cores.length cc, .slice ha homes.length hc, .slice (some ⟨gt, ot, none⟩) tasks.length tc] 25)).heap.size := by simp
  have HS2 := hidp hs
  have SC2 := hidp sc
  have HBW := hidp hb
  have hbu0 := (Below.refl u2.heap.size u2).alloc (Nat.le_refl _) (.cells #[.int .i64 proto, .slice ca cores.length cc, .slice ha homes.length hc, .slice (some ⟨gt, ot, none⟩) tasks.length tc] 25)
  go_wp2_with fail
  obtain ⟨v, hv⟩ : ∃ v, u2.alloc (.cells #[.int .i64 proto, .slice ca cores.length cc, .slice ha homes.length hc, .slice (some ⟨gt, ot, none⟩) tasks.length tc] 25) = v := ⟨_, rfl⟩
  rw [hv] at kv Bt hbv hsv scv hlt0 hbu0 ⊢
  obtain ⟨B, hB⟩ : ∃ B, u2.heap.size = B := ⟨_, rfl⟩
  rw [hB] at Bt hsz hwh hlt0 hbu0 ⊢
  have HBe := hidp hB
  clear hv hB kv hs sc hb sc_0 sc_1 sc_2 sc_3
  have scd := scv.keep (Keeps.drew v)
  have s3 := scd.2.2.2
  dsimp only at s3
  have Btd : Bk v.drew B 25 #[.int .i64 proto, .slice ca cores.length cc, .slice ha homes.length hc, .slice (some ⟨gt, ot, none⟩) tasks.length tc] := Bt
  have hsd := hsv.keep (Keeps.drew v)
  have Q1 : Hid ((some ⟨gt, ot + kk * 6, none⟩ : Option Addr) = none → tasks.length - kk = 0 ∧ tc - kk = 0) := hidp (fun e => by cases e)
  have L1 : Hid ((ttc (tasks.drop kk)).length = (tasks.length - kk) * 6) := hidp (by rw [ttc_len, List.length_drop])
  have S1 : Hid (Lies v.drew.heap.size v.drew (some ⟨gt, ot + kk * 6, none⟩) (ttc (tasks.drop kk))) := hidp (lies_tasks (drop_lies hsd.tasks.at_ kk))
  have O1 := hidp (ttc_one (tasks.drop kk))
  have Q2 : Hid ((some ⟨gt, ot, none⟩ : Option Addr) = none → kk = 0 ∧ tc = 0) := hidp (fun e => by cases e)
  have L2 : Hid ((ttc (tasks.take kk)).length = kk * 6) := hidp (by rw [ttc_len, List.length_take, Nat.min_eq_left (Nat.le_of_lt hkl)])
  have S2' : Hid (∀ u : World, Keeps v.drew u → Lies u.heap.size u (some ⟨gt, ot, none⟩) (ttc (tasks.take kk))) := hidp (fun u hk => lies_tasks ((take_lies hsd.tasks.at_ kk).keep hk))
  have O2 := hidp (ttc_one (tasks.take kk))
  have N1 : Hid (0 + (tasks.length - kk) ≤ maxLen) := hidp (by unfold maxLen; omega)
  have T1 : Hid ((0 + (tasks.length - kk)) * 72 ≤ 140737488355328) := hidp (by omega)
  refine wp_region_held_drew (S := fun w' => w'.cell? ⟨w.heap.size, 3, none⟩ = some (.slice (some ⟨gt, ot, none⟩) tasks.length tc)) (by kernel_rfl) ?_ (fun hHeld => ?_)
  · exact s3
  have hkle : kk ≤ tasks.length := Nat.le_of_lt hkl
  have hkt : ¬ tc = kk := by omega
  have hkc : kk ≤ tc := by omega
  refine wpAnyH_take (i := 0) (v := ?_) rfl (by kernel_rfl) (by kernel_rfl) (by kernel_rfl) (fun _ _ _ h => h) (Or.inl ⟨by rfl, ?_⟩) (by assumption) ?_
  rotate_left 1
  · ((intro w hSw; (try dsimp only at hSw); go_simp); (try with_reducible rfl))
  simp only [Act.put, List.setIfInBounds_toArray, List.set_cons_zero, List.set_cons_succ, List.getElem_toArray, List.getElem_cons_zero, List.getElem_cons_succ]
  refine wpAnyH_take (i := 1) (v := ?_) rfl (by kernel_rfl) (by kernel_rfl) (by kernel_rfl) (fun _ _ _ h => h) (Or.inl ⟨by rfl, ?_⟩) (by assumption) ?_
  rotate_left 1
  · ((intro w hSw; (try dsimp only at hSw); go_simp); (try with_reducible rfl))
  simp only [Act.put, List.setIfInBounds_toArray, List.set_cons_zero, List.set_cons_succ, List.getElem_toArray, List.getElem_cons_zero, List.getElem_cons_succ]
  refine wpAnyH_take (i := 2) (v := ?_) rfl (by kernel_rfl) (by kernel_rfl) (by kernel_rfl) (fun _ _ _ h => h) (Or.inl ⟨by rfl, ?_⟩) (by assumption) ?_
  rotate_left 1
  · ((intro w hSw; (try dsimp only at hSw); go_simp); (try with_reducible rfl))
  simp only [Act.put, List.setIfInBounds_toArray, List.set_cons_zero, List.set_cons_succ, List.getElem_toArray, List.getElem_cons_zero, List.getElem_cons_succ]
  refine wpAnyH_take (i := 5) (v := ?_) rfl (by kernel_rfl) (by kernel_rfl) (by kernel_rfl) (fun _ _ _ h => h) (Or.inl ⟨by rfl, ?_⟩) (by assumption) ?_
  rotate_left 1
  · ((intro w hSw; (try dsimp only at hSw); go_simp); (try with_reducible rfl))
  simp only [Act.put, List.setIfInBounds_toArray, List.set_cons_zero, List.set_cons_succ, List.getElem_toArray, List.getElem_cons_zero, List.getElem_cons_succ]
  refine wpAnyH_take (i := 6) (v := ?_) rfl (by kernel_rfl) (by kernel_rfl) (by kernel_rfl) (fun _ _ _ h => h) (Or.inl ⟨by rfl, ?_⟩) (by assumption) ?_
  rotate_left 1
  · ((intro w hSw; (try dsimp only at hSw); go_simp); (try with_reducible rfl))
  simp only [Act.put, List.setIfInBounds_toArray, List.set_cons_zero, List.set_cons_succ, List.getElem_toArray, List.getElem_cons_zero, List.getElem_cons_succ]
  refine wpAnyH_take (i := 7) (v := ?_) rfl (by kernel_rfl) (by kernel_rfl) (by kernel_rfl) (fun _ _ _ h => h) (Or.inl ⟨by rfl, ?_⟩) (by assumption) ?_
  rotate_left 1
  · ((intro w hSw; (try dsimp only at hSw); go_simp); (try with_reducible rfl))
  simp only [Act.put, List.setIfInBounds_toArray, List.set_cons_zero, List.set_cons_succ, List.getElem_toArray, List.getElem_cons_zero, List.getElem_cons_succ]
  refine wpAnyH_take (i := 3) (v := ?_) rfl (by kernel_rfl) (by kernel_rfl) (by kernel_rfl) (fun _ _ _ h => h) (Or.inl ⟨by rfl, ?_⟩) (by assumption) ?_
  rotate_left 1
  · ((intro w hSw; (try dsimp only at hSw); go_simp); (try with_reducible rfl))
  simp only [Act.put, List.setIfInBounds_toArray, List.set_cons_zero, List.set_cons_succ, List.getElem_toArray, List.getElem_cons_zero, List.getElem_cons_succ]
  refine wpAnyH_take (i := 8) (v := ?_) rfl (by kernel_rfl) (by kernel_rfl) (by kernel_rfl) (fun _ _ _ h => h) (Or.inl ⟨by rfl, ?_⟩) (by assumption) ?_
  rotate_left 1
  · ((intro w hSw; (try dsimp only at hSw); go_simp); (try with_reducible rfl))
  simp only [Act.put, List.setIfInBounds_toArray, List.set_cons_zero, List.set_cons_succ, List.getElem_toArray, List.getElem_cons_zero, List.getElem_cons_succ]
  have Z1 := hidp (show B + 1 ≤ v.drew.heap.size from hlt0)
  refine wpAnyH_ready (rs := [4]) (by kernel_rfl) (by simp) ?_
  refine AllReadyH.cons rfl (fun K hK => ?_) AllReadyH.nil
  refine step_app2 v.drew rfl (.const (.slice none 0 0)) (.tmp 35) 23 rfl (B + 1) 42 j0 _ 6 72 Try.underlying23 hj0 hk0 hk1 hk2 rfl (by decide) none 0 0 [] rfl (World.ownsRow_nil _ _ _ _) v.drew.heap.size (some ⟨gt, ot + kk * 6, none⟩) (tasks.length - kk) (tc - kk) (ttc (tasks.drop kk)) rfl Q1.out L1.out S1.out O1.out N1.out T1.out Z1.out ?_
  intro A1 k1 v1 happ
  rw [Nat.zero_add, List.nil_append] at happ
  simp only [Nat.zero_add]
  have t3 : v1.cell? ⟨w.heap.size, 3, none⟩ = some (.slice (some ⟨gt, ot, none⟩) tasks.length tc) := happ.turned.cell s3 (by simp [fp])
  have Bt1 := Btd.turned happ.turned (by simp [fp])
  have o1 : OwnT (B + 1) v1 A1 (tasks.length - kk) k1 (tasks.drop kk) := ⟨happ.own, by simp, happ.cap, happ.nil⟩
  have hv1 := happ.turned.below (B := v.drew.heap.size) (Nat.le_refl _) (by simp [fp])
  have Z2 := hidp (Nat.le_trans Z1.out hv1.size)
  have S2 := hidp (S2'.out v1 (Keeps.of_below hv1))
  have N2 : Hid (tasks.length - kk + kk ≤ maxLen) := hidp (by unfold maxLen; omega)
  have T2 : Hid ((tasks.length - kk + kk) * 72 ≤ 140737488355328) := hidp (by omega)
  have F1 := hidp (own_fp o1.own)
  clear hHeld
  refine hK.out _ _ ?_ (fun hHeld => ?_)
  · exact t3
  clear hK K
  try simp only [Act.put, List.setIfInBounds_toArray, List.set_cons_zero, List.set_cons_succ, List.getElem_toArray, List.getElem_cons_zero, List.getElem_cons_succ]
  refine wpAnyH_ready (rs := [9]) (by kernel_rfl) (by simp) ?_
  refine AllReadyH.cons rfl (fun K hK => ?_) AllReadyH.nil
  refine step_app2 v1 rfl (.tmp 36) (.tmp 40) 23 rfl (B + 1) 42 j0 _ 6 72 Try.underlying23 hj0 hk0 hk1 hk2 rfl (by decide) A1 (tasks.length - kk) k1 (ttc (tasks.drop kk)) rfl o1.own v1.heap.size (some ⟨gt, ot, none⟩) kk tc (ttc (tasks.take kk)) rfl Q2.out L2.out S2.out O2.out N2.out T2.out Z2.out ?_
  intro A2 k2 v2 happ2
  have hnn : tasks.length - kk + kk = tasks.length := by omega
  rw [hnn] at happ2
  simp only [hnn]
  have t3' : v2.cell? ⟨w.heap.size, 3, none⟩ = some (.slice (some ⟨gt, ot, none⟩) tasks.length tc) := happ2.turned.cell t3 (fun h => by have := (F1.out _ h).1; dsimp only at this; omega)
  have Bt2 := Bt1.turned happ2.turned (fun h => by have := (F1.out _ h).1; omega)
  have o2 : OwnT (B + 1) v2 A2 tasks.length k2 (tasks.drop kk ++ tasks.take kk) := ⟨by rw [ttc_append]; exact happ2.own, by simp; omega, happ2.cap, happ2.nil⟩
  have hB1 : B + 1 ≤ v1.heap.size := Z2.out
  have hv2 : Below B v.drew v2 := (hv1.mono (Nat.le_of_lt hlt0)).trans (happ2.turned.below (Nat.le_of_succ_le hB1) (fun k hk => Nat.le_of_succ_le (F1.out k hk).1))
  have TS := (Turned.refl [B] v2).setCell (p := ⟨B, 3, none⟩) (.inl (by simp)) (.slice A2 tasks.length k2)
  have hv3 := hv2.trans (TS.below (Nat.le_trans (Nat.le_of_lt hlt0) hv2.size) (by simp))
  have Bt3 : Bk (v2.setCell ⟨B, 3, none⟩ (.slice A2 tasks.length k2)) B 25 #[.int .i64 proto, .slice ca cores.length cc, .slice ha homes.length hc, .slice A2 tasks.length k2] := Bt2.put 3 (.slice A2 tasks.length k2)
  have F2 := hidp (own_fp o2.own)
  have o3 := o2.turned TS (fun k hk hm => by simp at hm; have := (F2.out k hk).1; omega)
  have x3 : (v2.setCell ⟨B, 3, none⟩ (.slice A2 tasks.length k2)).cell? ⟨w.heap.size, 3, none⟩ = some (.slice (some ⟨gt, ot, none⟩) tasks.length tc) := TS.cell t3' (by simp; omega)
  have fz := (ZF4 Bt2).2.2.2
  have cz := (Z4 Bt2).2.2.2
  clear hHeld
  refine hK.out _ _ ?_ (fun hHeld => ?_)
  · exact t3'
  clear hK K
  try simp only [Act.put, List.setIfInBounds_toArray, List.set_cons_zero, List.set_cons_succ, List.getElem_toArray, List.getElem_cons_zero, List.getElem_cons_succ]
  refine wpAnyH_take (i := 10) (v := ?_) rfl (by kernel_rfl) (by kernel_rfl) (by kernel_rfl) (fun _ _ _ h => h) (Or.inl ⟨by rfl, ?_⟩) (by assumption) ?_
  rotate_left 1
  · ((intro w hSw; (try dsimp only at hSw); go_simp); (try with_reducible rfl))
  simp only [Act.put, List.setIfInBounds_toArray, List.set_cons_zero, List.set_cons_succ, List.getElem_toArray, List.getElem_cons_zero, List.getElem_cons_succ]
  refine wpAnyH_ready (rs := [11]) (by kernel_rfl) (by simp) ?_
  refine AllReadyH.cons rfl (fun K hK => ?_) AllReadyH.nil
  go_simp
  refine hK.out _ _ ?_ (fun hHeld => ?_)
  · exact x3
  clear hK K
  try simp only [Act.put, List.setIfInBounds_toArray, List.set_cons_zero, List.set_cons_succ, List.getElem_toArray, List.getElem_cons_zero, List.getElem_cons_succ]
  refine wpAnyH_done (by kernel_rfl) ?_ _
  obtain ⟨v3, hw3⟩ : ∃ x, v2.setCell ⟨B, 3, none⟩ (.slice A2 tasks.length k2) = x := ⟨_, rfl⟩
  rw [hw3] at hv3 Bt3 o3 ⊢
  have hbu : Below B u2 v3 := hbu0.drew.trans hv3
  clear hw3 fz cz x3 t3 t3' Bt1 Bt2 o1 o2 hv1 hv2 TS happ happ2 hB1 hnn Bt Btd s3 scd hsd hsv scv hbv hbu0 hv3 hHeld
  have k3 := keeps_of hbu HBe.out
  have hs := HS2.out.keep k3
  have sc := SC2.out.keep k3
  have hb := HBW.out.trans (hbu.mono hwh)
  have CA : Hid (∀ (u : World), SetOk u ⟨proto, ca, cc, cores, ha, hc, homes, A2, k2, tasks.drop kk ++ tasks.take kk⟩ → Calls Try.prog 11 #[.agg #[.int .i64 proto, .slice ca cores.length cc, .slice ha homes.length hc, .slice A2 tasks.length k2]] u (AnPost u ⟨proto, ca, cc, cores, ha, hc, homes, A2, k2, tasks.drop kk ++ tasks.take kk⟩)) := hidp (fun u h => by
    have := analyze_any ⟨proto, ca, cc, cores, ha, hc, homes, A2, k2, tasks.drop kk ++ tasks.take kk⟩ u h
    dsimp only at this
    rw [show (tasks.drop kk ++ tasks.take kk).length = tasks.length by simp; omega] at this
    exact this)
  have HM : Hid (Moved ⟨proto, ca, cc, cores, ha, hc, homes, some ⟨gt, ot, none⟩, tc, tasks⟩ ⟨proto, ca, cc, cores, ha, hc, homes, A2, k2, tasks.drop kk ++ tasks.take kk⟩ (fun i => (i + kk) % tasks.length) (fun i => (i + (tasks.length - kk)) % tasks.length)) := hidp (moved_turn (k := kk) rfl rfl rfl rfl hkl)
  have MT := HM.out.told
  have HT : Hid (∀ u, Below B u2 u → OwnT (B + 1) u A2 tasks.length k2 (tasks.drop kk ++ tasks.take kk) → SetOk u ⟨proto, ca, cc, cores, ha, hc, homes, A2, k2, tasks.drop kk ++ tasks.take kk⟩) := hidp (fun u h ho => by
    have hs8 := HS2.out.keep (keeps_of h HBe.out)
    exact ⟨hs8.proto, hs8.cores, hs8.homes, ⟨ho.sl, ho.tasks, fun t ht => by
      rcases List.mem_append.1 ht with h1 | h1
      · exact hs8.tasks.ok t (List.mem_of_mem_drop h1)
      · exact hs8.tasks.ok t (List.mem_of_mem_take h1)⟩⟩)
  obtain ⟨E, HE⟩ : ∃ E, Hid (anE ⟨proto, ca, cc, cores, ha, hc, homes, some ⟨gt, ot, none⟩, tc, tasks⟩ = E) := ⟨_, hidp rfl⟩
  obtain ⟨F, HF⟩ : ∃ E, Hid (anE ⟨proto, ca, cc, cores, ha, hc, homes, A2, k2, tasks.drop kk ++ tasks.take kk⟩ = E) := ⟨_, hidp rfl⟩
  rw [HE.out, HF.out] at MT
  obtain ⟨hEF, hok, hbd⟩ := MT
  have HEF := hidp (show (F = 0) = (E = 0) from hEF)
  have HOK := hidp hok
  have HBD := hidp hbd
  clear hEF hok hbd k3
  obtain ⟨sc_0, sc_1, sc_2, sc_3⟩ := id sc
  try dsimp only at sc_0 sc_1 sc_2 sc_3
  go_wp2_with fail
  refine (analyze_any ⟨proto, ca, cc, cores, ha, hc, homes, some ⟨gt, ot, none⟩, tc, tasks⟩ _ hs).mono ?_
  rintro e u4 ⟨⟨va, rfl, hva, h1, h2, h3⟩, hb2⟩
  obtain ⟨ok1, ba1, bc1, bs1, wa1, wc1, rs1⟩ := va
  try dsimp only at h1 h2 h3 hva ⊢
  rw [HE.out] at h1 ⊢
  have hB3 : B ≤ v3.heap.size := Nat.le_of_lt Bt3.lt
  have hbu4 := (hbu.trans (hb2.mono hB3)).alloc (Nat.le_trans hB3 hb2.size) (.cells #[.bool ok1, .slice ba1 bs1.length bc1, .slice wa1 rs1.length wc1] 31)
  have Bt4 := (Bt3.below hb2).alloc (.cells #[.bool ok1, .slice ba1 bs1.length bc1, .slice wa1 rs1.length wc1] 31)
  have o4 := (o3.turned (Turned.of_below hb2 []) (by simp)).turned ((Turned.refl [] u4).alloc (.cells #[.bool ok1, .slice ba1 bs1.length bc1, .slice wa1 rs1.length wc1] 31)) (by simp)
  have hva4 := hva.keep (Keeps.alloc u4 (.cells #[.bool ok1, .slice ba1 bs1.length bc1, .slice wa1 rs1.length wc1] 31))
  have bv := Y3 (Bk.new u4 31 #[.bool ok1, .slice ba1 bs1.length bc1, .slice wa1 rs1.length wc1])
  have H1 := hidp h1
  have H2 := hidp h2
  have hlu4 : u4.heap.size < (u4.alloc (.cells #[.bool ok1, .slice ba1 bs1.length bc1, .slice wa1 rs1.length wc1] 31)).heap.size := by simp
  have hBu4 : B < u4.heap.size := Nat.lt_of_lt_of_le Bt3.lt hb2.size
  clear sc_0 sc_1 sc_2 sc_3 sc hs hb hbu Bt3 o3 hva h1 h2 h3 hb2 hB3
  obtain ⟨d0, d1, d2, d3⟩ := Z4 Bt4
  go_wp2_with fail
  refine (CA.out _ (HT.out _ hbu4 o4)).mono ?_
  rintro e u5 ⟨⟨vb, rfl, hvb, h1, h2, h3⟩, hb2⟩
  obtain ⟨ok2, ba2, bc2, bs2, wa2, wc2, rs2⟩ := vb
  try dsimp only at h1 h2 h3 hvb ⊢
  rw [HF.out] at h1 ⊢
  have hbu5 := (hbu4.trans (hb2.mono (Nat.le_of_lt (Nat.lt_trans hBu4 hlu4)))).alloc (Nat.le_trans (Nat.le_of_lt (Nat.lt_trans hBu4 hlu4)) hb2.size) (.cells #[.bool ok2, .slice ba2 bs2.length bc2, .slice wa2 rs2.length wc2] 31)
  have K5 := (Keeps.of_below hb2).trans (Keeps.alloc u5 (.cells #[.bool ok2, .slice ba2 bs2.length bc2, .slice wa2 rs2.length wc2] 31))
  have hva5 := hva4.keep K5
  have hvb5 := hvb.keep (Keeps.alloc u5 (.cells #[.bool ok2, .slice ba2 bs2.length bc2, .slice wa2 rs2.length wc2] 31))
  have bv5 := And.intro (K5 _ _ bv.1) (And.intro (K5 _ _ bv.2.1) (K5 _ _ bv.2.2))
  have bw5 := Y3 (Bk.new u5 31 #[.bool ok2, .slice ba2 bs2.length bc2, .slice wa2 rs2.length wc2])
  have J1 := hidp h1
  have J2 := hidp h2
  have k5 := keeps_of hbu5 HBe.out
  have hs := HS2.out.keep k5
  have sc := SC2.out.keep k5
  have hb := HBW.out.trans (hbu5.mono hwh)
  clear d0 d1 d2 d3 hbu4 Bt4 o4 hva4 bv h1 h2 h3 hvb hb2 K5 k5 hbu5 hlu4 hBu4
  obtain ⟨sc_0, sc_1, sc_2, sc_3⟩ := id sc
  try dsimp only at sc_0 sc_1 sc_2 sc_3
  go_wp2_with fail
  refine (rok_any ⟨proto, ca, cc, cores, ha, hc, homes, some ⟨gt, ot, none⟩, tc, tasks⟩ _ hs).mono ?_
  rintro e u6 ⟨rfl, hb2⟩
  have k6 := Keeps.of_below hb2
  have hva := hva5.keep k6
  have hvb := hvb5.keep k6
  have bv := And.intro (k6 _ _ bv5.1) (And.intro (k6 _ _ bv5.2.1) (k6 _ _ bv5.2.2))
  have bw := And.intro (k6 _ _ bw5.1) (And.intro (k6 _ _ bw5.2.1) (k6 _ _ bw5.2.2))
  replace hb := hb.trans (hb2.mono hb.size)
  clear k6 hva5 hvb5 bv5 bw5 hb2 sc hs sc_0 sc_1 sc_2 sc_3
  obtain ⟨bv_0, bv_1, bv_2⟩ := bv
  obtain ⟨bw_0, bw_1, bw_2⟩ := bw
  by_cases e0 : E = 0
  · have ho : okS ⟨proto, ca, cc, cores, ha, hc, homes, some ⟨gt, ot, none⟩, tc, tasks⟩ = true := (anE_zero (HE.out.trans e0)).1
    have f0 : F = 0 := by rw [HEF.out]; exact e0
    rw [ho]
    have BD := HBD.out e0
    rw [← H2.out, ← J2.out] at BD
    obtain ⟨l1, l2, hat⟩ := BD
    try dsimp only at l1 l2
    subst e0
    subst f0
    obtain rfl : ok1 = true := by rw [H1.out]; rfl
    obtain rfl : ok2 = true := by rw [J1.out]; rfl
    have L1' := hidp l1
    have L2' := hidp l2
    have HAT := hidp hat
    have d1 : ((bs1.length : Int) != (bs2.length : Int)) = false := by rw [l1, l2]; simp
    have d2 : ((bs1.length : Int) != (tasks.length : Int)) = false := by rw [l1]; simp
    have HA := hidp hva.bounds.at_
    have HB := hidp hvb.bounds.at_
    have BV := hidp bv_1
    have BW := hidp bw_1
    have HBb := hidp hb
    clear ho hat l1 l2 hva hvb
    go_wp2_with fail
    clear bv_0 bv_1 bv_2 bw_0 bw_1 bw_2 hb d1 d2
    have ht0 := Turned.refl [] u6
    go_loopg [12] bs1.length (fun gg i w5 => ∃ j : Nat, j + gg = bs1.length ∧ i = .int .i64 j ∧ Turned [] u6 w5)
    case atStart => exact ⟨0, by omega, rfl, ht0⟩
    case round =>
      clear ht0
      obtain ⟨j, hj, rfl, ht5⟩ := hrel
      have hb5 := ht5.below (Nat.le_refl _) (by simp)
      have K := Keeps.of_below hb5
      have bv_1 := K _ _ BV.out
      have bw_1 := K _ _ BW.out
      have hbz := HBb.out.trans (hb5.mono HBb.out.size)
      by_cases hjl : j < bs1.length
      · have hjn : j < tasks.length := by rw [← L1'.out]; exact hjl
        obtain ⟨ga, oa, ea, hca⟩ := (HA.out.mono K).resolve_left (by intro e; (try dsimp only at e); rw [e] at hjl; simp at hjl)
        obtain ⟨gb, ob, eb, hcb⟩ := (HB.out.mono K).resolve_left (by intro e; have := L2'.out; (try dsimp only at e); rw [e] at this; simp at this; omega)
        try dsimp only at ea eb hca hcb
        subst ea
        subst eb
        obtain ⟨m, hm⟩ : ∃ m, (j + kk) % tasks.length = m := ⟨_, rfl⟩
        have hml : m < tasks.length := by rw [← hm]; exact Nat.mod_lt _ (by omega)
        obtain ⟨x, Hx⟩ : ∃ x, Hid (bs1.getD m 0 = x) := ⟨_, hidp rfl⟩
        have hat := HAT.out j hjn
        try dsimp only at hat
        rw [hm, Hx.out] at hat
        have ca := Hx.out ▸ hca m (by rw [L1'.out]; exact hml)
        have cb := hat ▸ hcb j (by rw [L2'.out]; exact hjn)
        have hmt : ((j : Int) + (kk : Int)).tmod (tasks.length : Int) = (m : Int) := by rw [Int.tmod_eq_emod_of_nonneg (by omega), ← hm]; simp
        have hwj : IntKind.i64.wrap ((j : Int) + (kk : Int)) = (j : Int) + (kk : Int) := IntWalk.i64_in _ (by omega)
        have j0 : (0 : Int) ≤ (j : Int) := by omega
        have jb1 : (j : Int) < (bs1.length : Int) := by omega
        have jb2 : (j : Int) < (bs2.length : Int) := by rw [L2'.out]; omega
        have m0 : (0 : Int) ≤ (m : Int) := by omega
        have mb : (m : Int) < (bs1.length : Int) := by rw [L1'.out]; omega
        have Hj := hidp hj
        have Ht5 := hidp ht5
        clear hca hcb hat hm hml hj ht5 hb5 K hbz
        go_wp2_with fail
        go_quiet (fail)
        go_wp2
        go_roundg (gk - 1)
        case measure => have := Hj.out; omega
        case rel => exact ⟨j + 1, by have := Hj.out; omega, by go_num, Ht5.out.drewN _⟩
      · have hjn : ¬ (j : Int) < (bs1.length : Int) := by omega
        clear ht5 hb5 K hj
        go_wp2
        try rw [Exit.noGoto_ret]
        go_ret
        exact ⟨rfl, hbz⟩
  · have f0 : ¬ F = 0 := by rw [HEF.out]; exact e0
    have eE : (E == 0) = false := by simpa using e0
    have eF : (F == 0) = false := by simpa using f0
    obtain rfl : ok1 = false := by rw [H1.out]; exact decide_eq_false e0
    obtain rfl : ok2 = false := by rw [J1.out]; exact decide_eq_false f0
    have n1 : bs1 = [] := by rw [H2.out]; unfold anB; rw [if_neg (by rw [HE.out]; exact e0)]
    have n2 : bs2 = [] := by rw [J2.out]; unfold anB; rw [if_neg (by rw [HF.out]; exact f0)]
    cases ho : okS ⟨proto, ca, cc, cores, ha, hc, homes, some ⟨gt, ot, none⟩, tc, tasks⟩ with
    | false =>
      clear e0 f0 n1 n2 hva hvb ho
      go_wp2_with fail
      go_ret
      exact ⟨rfl, hb⟩
    | true =>
      have hFE : F = E := HOK.out ho
      subst hFE
      subst n1
      subst n2
      have eEE : (F != F) = false := by simp
      have BV := hidp bv_1
      have HBb := hidp hb
      clear e0 f0 hva hvb ho eE eF
      try simp only [List.length_nil] at bv_0 bv_1 bv_2 bw_0 bw_1 bw_2
      go_wp2_with fail
      go_loopg [12] 0 (fun gg i w5 => i = .int .i64 0 ∧ u6 = w5)
      case atStart => exact ⟨rfl, rfl⟩
      case round =>
        obtain ⟨rfl, rfl⟩ := hrel
        go_wp2
        try rw [Exit.noGoto_ret]
        go_ret
        exact ⟨rfl, hb⟩

theorem own : ownKnob Try.prog.godebug = none := by kernel_rfl
theorem laidOut : laidOutB Try.prog = true := by kernel_rfl

/-! THE ROW's STEP -/
set_option maxRecDepth 100000 in
theorem lifted (os : Os) (started : os.Started) (H : Type) (enc : TypeId × Value → H) :
    ReturnsInHanded {} Try.checked os 4 .any (Rows.admitTurnsSpec.pre6 enc Try.prog Try.f4 Rows.admitTurnsRow.domain false) (Rows.admitTurnsSpec.post enc Try.prog Try.f4 false true false false) := by
  refine returnsInHanded_of_change (C := Try.checked) own started (by kernel_rfl) Try.func4
    (ChangeSpec.witness6 (enc := enc) (C := Try.checked) false ⟨#[], #[.agg #[.int .i64 0, .slice none 0 0, .slice none 0 0, .slice none 0 0], .int .u8 0], []⟩ 8 (by kernel_rfl) (by kernel_rfl) (by kernel_rfl) (by kernel_rfl)) ?_
  intro W base args ds gs before hval0 hW hcnd _
  have hval : ∀ (j : Nat) t v, Try.f4.params[j]? = some t → args[j]? = some v → Value.okWide Try.prog W .any base t v := hval0
  have hW' := hW
  obtain ⟨p, q, hA0, hV, rfl, hfz, hnd⟩ := hW
  have hA : DataW.TrodAll enc Try.prog W 0 (fun _ => true) true Try.f4.params.toList args.toList ds p := hA0
  rw [Try.params4] at hA hval
  obtain ⟨v0, vs0, d0, ds0, p0, q0, hargs, rfl, rfl, h0, r0⟩ := trodAll_cons hA
  obtain ⟨v1, vs1, d1, ds1, p1, q1, rfl, rfl, rfl, h1, r1⟩ := trodAll_cons r0
  obtain ⟨rfl, rfl, rfl⟩ := trodAll_nil r1
  obtain rfl : args = #[v0, v1] := by cases args; simp_all
  obtain ⟨rfl, rfl⟩ := trodVars_none hV
  have k0 := h0
  have lt0 : ∀ x ∈ p0, x.block < W.heap.size := by obtain ⟨m, hm⟩ := k0; exact DataW.trod_lt m _ _ _ hm
  obtain ⟨s0, w0, rfl⟩ := setTypes.arg_set (hval 0 25 v0 rfl rfl) h0
  obtain ⟨a1, rfl, rfl, rfl, w1⟩ := open_int Try.underlying5 (hval 1 5 v1 rfl rfl) h1
  clear hA0 hval0
  refine (walk s0 a1 W w0 w1).mono fun e W' ⟨he, bel⟩ => ?_
  subst he
  exact ⟨_, rfl, _, _, _, [], _, [], hW', trodAll_mk1 (shut_bool Try.underlying4 _), (trodAll_cons_mk (Below.trod laidOut (by kernel_rfl) (of_decide_eq_true (by kernel_rfl)) k0 bel lt0) (trodAll_cons_mk (shut_int Try.underlying5 w1) trodAll_mk0)), rfl, bel.frame _, fun h => by cases h⟩

theorem over : Rows.admitTurnsRow.holds Try.pinned (OpenSpec.ofChange Rows.admitTurnsSpec) :=
  OpenClaim.holds_of_wide 4 Try.f4 rfl rfl rfl rfl rfl rfl rfl ⟨rfl, rfl, rfl, rfl, rfl⟩ rfl rfl rfl rfl rfl (by kernel_rfl) Try.func4 (by kernel_rfl)
    (of_decide_eq_true (by kernel_rfl)) (by unfold Func.isWrapper; first | (rw [if_pos (by decide +kernel)]; kernel_rfl) | (rw [if_neg (by decide +kernel)]; exact ⟨rfl, rfl⟩))
    (fun os started H enc _ => lifted os started H enc)

/-- THE STATEMENT -/
theorem proved : Rows.AdmitTurnsSaid := over
#print axioms proved
end Go.Proofs.Ytpnghhaflgkgfaa.admitTurns

