/- swingbridgelaw19: same, known. -/
import Derived.Test.YtjjlpaampmpdfaaGreatDoorRefCanonM
import Derived.Test.YtjjlpaampmpdfaaGreatDoorWaitNums
import Derived.Test.YtjjlpaampmpdfaaGreatDoorOwnPut
import Derived.Test.YtjjlpaampmpdfaaGreatDoorLit
import Derived.Test.YtjjlpaampmpdfaaGreatDoorBoundNums
import Derived.Deep.DeepCutAuto
import Derived.Deep.CutRange
import Derived.BigRegion
import Derived.Deep.RegionHeld3
import Derived.Test.YtjjlpaampmpdfaaGreatDoorAdmitNums
import Derived.Deep.QuietTactic
import Derived.BigQuiet
import Derived.Test.YtjjlpaampmpdfaaGreatDoorSound
import Derived.Test.YtjjlpaampmpdfaaGreatDoorDemandNums
import Derived.Test.YtjjlpaampmpdfaaGreatDoorTwo19
namespace Go.Proofs.YtjjlpaampmpdfaaGreatDoor
open Go.ChangeShapes Go.WideShapes Go.ChangeAt Go.RowKit
set_option linter.unusedVariables false
set_option linter.unusedSimpArgs false

theorem there16_any (s : SetR) (of : Int) (w : World) (hs : SetOk w s) : Calls Tryz.prog 43 #[.agg #[.int .i64 s.proto, .slice s.ca s.cores.length s.cc, .slice s.ha s.homes.length s.hc, .slice s.ta s.tasks.length s.tc], .int .i64 of] w fun e w' => e = .returned (.bool (thereB s of)) ∧ Below w.heap.size w w' := by
  have hb := (Below.refl w.heap.size w).alloc (Nat.le_refl _) (.cells #[.int .i64 s.proto, .slice s.ca s.cores.length s.cc, .slice s.ha s.homes.length s.hc, .slice s.ta s.tasks.length s.tc] 25)
  have sc := SetCells.new w s 25
  have H := hidp (hs.keep (Keeps.of_below hb))
  have l3 : s.tasks.length ≤ maxLen := Nat.le_trans hs.tasks.sl.2.1 hs.tasks.sl.2.2
  unfold maxLen at l3
  clear hs
  by_cases e : chkE s = 0
  · have e1 : (chkE s == 0) = true := by simpa using e
    have ho : okS s = true := e1
    clear e
    by_cases h0 : 0 ≤ of
    · have Hv : Hid (thereB s of = decide (of < s.tasks.length)) := hidp (by simp [thereB, ho, h0])
      clear ho
      go_enter Tryz.func43, Tryz.ntmps43
      go_wp2_with (first | (go_at_call 23; (with_reducible refine (check_any _ _ H.out).mono ?_); rintro e w2 ⟨rfl, hb2⟩; have sc2 := sc.keep (Keeps.of_below hb2); obtain ⟨c0, c1, c2, c3⟩ := sc2))
      go_ret
      exact ⟨ret_bool Hv.out.symm, hb.trans (hb2.mono hb.size)⟩
    · have Hv : Hid (thereB s of = false) := hidp (by simp [thereB, h0])
      have d0 : decide (0 ≤ of) = false := by simpa using h0
      clear ho h0
      go_enter Tryz.func43, Tryz.ntmps43
      go_wp2_with (first | (go_at_call 23; (with_reducible refine (check_any _ _ H.out).mono ?_); rintro e w2 ⟨rfl, hb2⟩; have sc2 := sc.keep (Keeps.of_below hb2); obtain ⟨c0, c1, c2, c3⟩ := sc2))
      go_ret
      exact ⟨ret_bool Hv.out.symm, hb.trans (hb2.mono hb.size)⟩
  · have e1 : (chkE s == 0) = false := by simpa using e
    have Hv : Hid (thereB s of = false) := hidp (by unfold thereB okS; rw [e1]; rfl)
    clear e
    go_enter Tryz.func43, Tryz.ntmps43
    go_wp2_with (first | (go_at_call 23; (with_reducible refine (check_any _ _ H.out).mono ?_); rintro e w2 ⟨rfl, hb2⟩; have sc2 := sc.keep (Keeps.of_below hb2); obtain ⟨c0, c1, c2, c3⟩ := sc2))
    go_ret
    exact ⟨ret_bool Hv.out.symm, hb.trans (hb2.mono hb.size)⟩


set_option maxHeartbeats 1000000 in
theorem wpart_any (s : SetR) (bs : List Int) (ba : Option Addr) (bc : Nat) (of part : Int) (w : World) (hs : SetOk w s) (hB : IntsOk w ba bc bs) : Calls Tryz.prog 44 #[.agg #[.int .i64 s.proto, .slice s.ca s.cores.length s.cc, .slice s.ha s.homes.length s.hc, .slice s.ta s.tasks.length s.tc], .slice ba bs.length bc, .int .i64 of, .int .i64 part] w fun e w' => e = .returned (.tuple #[.int .i64 (waitV s bs of part), .bool (waitK s bs of part)]) ∧ Below w.heap.size w w' := by
  have hb := (Below.refl w.heap.size w).alloc (Nat.le_refl _) (.cells #[.int .i64 s.proto, .slice s.ca s.cores.length s.cc, .slice s.ha s.homes.length s.hc, .slice s.ta s.tasks.length s.tc] 25)
  have sc := SetCells.new w s 25
  have H := hs.keep (Keeps.of_below hb)
  have HB := hB.keep (Keeps.of_below hb)
  have l3 : s.tasks.length ≤ maxLen := Nat.le_trans hs.tasks.sl.2.1 hs.tasks.sl.2.2
  have l4 : bs.length ≤ maxLen := Nat.le_trans hB.sl.2.1 hB.sl.2.2
  unfold maxLen at l3 l4
  by_cases e2 : bs.length = s.tasks.length
  · have d1 : ((bs.length : Int) != (s.tasks.length : Int)) = false := by simp [e2]
    by_cases p1 : s.proto = 1
    · have HV : Hid (waitV s bs of part = fairV s of part) := hidp (by unfold waitV; rw [if_pos e2, if_pos p1])
      have HK : Hid (waitK s bs of part = fairK s of part) := hidp (by unfold waitK; rw [if_pos e2, if_neg (by omega)])
      have q1 : (s.proto == 1) = true := by simpa using p1
      clear p1 e2
      go_enter Tryz.func44, Tryz.ntmps44
      go_wp2_with fail
      refine (part_any s of part _ H).mono ?_
      rintro e w2 ⟨rfl, hb2⟩
      replace hb := hb.trans (hb2.mono hb.size)
      clear hb2
      go_wp2
      go_ret2
      exact ⟨ret_ib HV.out.symm HK.out.symm, hb⟩
    · have q1 : (s.proto == 1) = false := by simpa using p1
      by_cases p2 : s.proto = 2
      · have HV : Hid (waitV s bs of part = agentV s bs of part) := hidp (by unfold waitV; rw [if_pos e2, if_neg p1, if_pos p2])
        have HK : Hid (waitK s bs of part = agentK s bs of part) := hidp (by unfold waitK; rw [if_pos e2, if_pos p2])
        have q2 : (s.proto == 2) = true := by simpa using p2
        clear p1 p2 e2
        go_enter Tryz.func44, Tryz.ntmps44
        go_wp2_with fail
        refine (apart_any s bs ba bc of part _ H HB).mono ?_
        rintro e w2 ⟨rfl, hb2⟩
        replace hb := hb.trans (hb2.mono hb.size)
        clear hb2
        go_wp2
        go_ret2
        exact ⟨ret_ib HV.out.symm HK.out.symm, hb⟩
      · have q2 : (s.proto == 2) = false := by simpa using p2
        have HV : Hid (waitV s bs of part = tokV s of part) := hidp (by unfold waitV; rw [if_pos e2, if_neg p1, if_neg p2])
        have HK : Hid (waitK s bs of part = fairK s of part) := hidp (by unfold waitK; rw [if_pos e2, if_neg p2])
        by_cases p3 : s.proto = 3
        · have q3 : (s.proto == 3) = true := by simpa using p3
          clear p1 p2 p3 e2
          go_enter Tryz.func44, Tryz.ntmps44
          go_wp2_with fail
          refine (tpart_any s of part _ H).mono ?_
          rintro e w2 ⟨rfl, hb2⟩
          replace hb := hb.trans (hb2.mono hb.size)
          clear hb2
          go_wp2
          go_ret2
          exact ⟨ret_ib HV.out.symm HK.out.symm, hb⟩
        · have q3 : (s.proto == 3) = false := by simpa using p3
          have hk : fairK s of part = false := by
            rw [Bool.eq_false_iff]; intro h
            have := (Good.of (lock_part h).1).proto
            omega
          have HV2 : Hid (waitV s bs of part = 0) := hidp (by rw [HV.out]; unfold tokV; rw [hk]; rfl)
          have HK2 : Hid (waitK s bs of part = false) := hidp (by rw [HK.out, hk])
          clear p1 p2 p3 e2 hk
          go_enter Tryz.func44, Tryz.ntmps44
          go_wp2
          go_ret2
          exact ⟨ret_ib HV2.out.symm HK2.out.symm, hb⟩
  · have d1 : ((bs.length : Int) != (s.tasks.length : Int)) = true := by simp; omega
    have HV : Hid (waitV s bs of part = 0) := hidp (by unfold waitV; rw [if_neg e2])
    have HK : Hid (waitK s bs of part = false) := hidp (by unfold waitK; rw [if_neg e2])
    clear e2
    go_enter Tryz.func44, Tryz.ntmps44
    go_wp2
    go_ret2
    exact ⟨ret_ib HV.out.symm HK.out.symm, hb⟩

theorem OwnN.none (B : Nat) (w : World) : OwnN B w none 0 0 [] := ⟨World.ownsRow_nil _ _ _ _, rfl, by decide, fun _ => ⟨rfl, rfl⟩⟩
theorem OwnN.app {B : Nat} {w w1 w2 : World} {A A' : Option Addr} {n c c' : Nat} {rs ps : List Int} {m : Nat} (h : OwnN B w A n c rs) (ha : App B 3 1 w1 A A' (n + m) c' (rs.map (Value.int .i64) ++ ps.map (Value.int .i64)) w2) (hm : m = ps.length) : OwnN B w2 A' (n + m) c' (rs ++ ps) :=
  ⟨by rw [List.map_append]; exact ha.own, by rw [List.length_append, h.len, hm], ha.cap, ha.nil⟩
theorem ints_one (x : Int) : ∀ u ∈ [x].map (Value.int .i64), u.oneCell' = true := fun u hu => by simp at hu; subst hu; rfl
/-- a row of numbers, and a word -/
def RowK (w : World) (zs : List Int) (k : Bool) (e : Ending) (w' : World) : Prop := ∃ A c, e = .returned (.tuple #[.slice A zs.length c, .bool k]) ∧ IntsOk w' A c zs ∧ Below w.heap.size w w'
theorem RowK.eq {w w' : World} {zs ys : List Int} {k j : Bool} {e : Ending} (h : RowK w zs k e w') (h1 : zs = ys) (h2 : k = j) : RowK w ys j e w' := h1 ▸ h2 ▸ h

set_option maxHeartbeats 4000000 in
set_option maxRecDepth 100000 in
theorem wall_any (s : SetR) (bs : List Int) (ba : Option Addr) (bc : Nat) (of : Int) (w : World) (hs : SetOk w s) (hB : IntsOk w ba bc bs) : Calls Tryz.prog 25 #[.agg #[.int .i64 s.proto, .slice s.ca s.cores.length s.cc, .slice s.ha s.homes.length s.hc, .slice s.ta s.tasks.length s.tc], .slice ba bs.length bc, .int .i64 of] w (RowK w (waitsL s bs of) (waitsK s bs of)) := by
  have hb := (Below.refl w.heap.size w).alloc (Nat.le_refl _) (.cells #[.int .i64 s.proto, .slice s.ca s.cores.length s.cc, .slice s.ha s.homes.length s.hc, .slice s.ta s.tasks.length s.tc] 25)
  have sc := SetCells.new w s 25
  have H := hs.keep (Keeps.of_below hb)
  have l3 : s.tasks.length ≤ maxLen := Nat.le_trans hs.tasks.sl.2.1 hs.tasks.sl.2.2
  unfold maxLen at l3
  by_cases e : thereB s of = true
  · have Hth := hidp e
    obtain ⟨ho, r1, r2⟩ := thereB_true.1 e
    obtain ⟨n, rfl⟩ : ∃ n : Nat, of = n := ⟨of.toNat, by omega⟩
    have hn : n < s.tasks.length := by omega
    have hg := Good.of ho
    obtain ⟨t, HT⟩ : ∃ t, Hid (s.tasks.getD n default = t) := ⟨_, rfl⟩
    have hm : t ∈ s.tasks := HT.out ▸ getD_mem hn
    have Tok := hs.tasks.ok t hm
    have Tg := hg.parts t hm
    obtain ⟨g, off, hA, hcl⟩ := hs.tasks.at_.resolve_left (by intro e; rw [e] at hn; simp at hn)
    have Ht5 := hidp ((HT.out ▸ hcl n hn).2.2.2.2.2)
    have hpl := Tg.len
    obtain ⟨gp, op, hP, hpc⟩ := Tok.at_.resolve_left (by intro e; rw [e] at hpl; simp at hpl)
    have Hpc := hidp hpc
    obtain ⟨parts, hparts⟩ : ∃ parts, t.parts = parts := ⟨_, rfl⟩
    have Hpt : Hid (partsOf s n = parts) := hidp (by unfold partsOf; simp only [Int.toNat_natCast]; rw [HT.out, hparts])
    rw [hP, hparts] at Ht5
    rw [hparts] at Hpc hpl
    obtain ⟨V, HV⟩ : ∃ V : Nat → Int, Hid (∀ k : Nat, waitV s bs n k = V k) := ⟨fun k => waitV s bs n k, hidp (fun _ => rfl)⟩
    obtain ⟨K, HK⟩ : ∃ K : Nat → Bool, Hid (∀ k : Nat, waitK s bs n k = K k) := ⟨fun k => waitK s bs n k, hidp (fun _ => rfl)⟩
    have Hpa : Hid (∀ k : Nat, partAt s n k = parts.getD k default) := hidp (fun k => by unfold partAt; have := Hpt.out; unfold partsOf at this; rw [this]; simp)
    obtain ⟨PW, HPW⟩ : ∃ f : Nat → Int, Hid (pW s bs n = f) := ⟨_, hidp rfl⟩
    obtain ⟨PK, HPK⟩ : ∃ f : Nat → Bool, Hid (pK s bs n = f) := ⟨_, hidp rfl⟩
    have HPWl : Hid (∀ k, (parts.getD k default).kind = 3 → PW k = V k ∧ PK k = K k) := hidp (fun k h => by
      rw [← HPW.out, ← HPK.out]; unfold pW pK; rw [Hpa.out, if_pos h, if_pos h, HV.out, HK.out]; exact ⟨rfl, rfl⟩)
    have HPWn : Hid (∀ k, (parts.getD k default).kind ≠ 3 → PW k = 0 ∧ PK k = true) := hidp (fun k h => by
      rw [← HPW.out, ← HPK.out]; unfold pW pK; rw [Hpa.out, if_neg h, if_neg h]; exact ⟨rfl, rfl⟩)
    have HWb : Hid (∀ k, 0 ≤ PW k ∧ PW k ≤ 3000) := hidp (fun k => by rw [← HPW.out]; exact pW_bd s bs n k)
    have Hoff : Hid (∀ k, k < parts.length → PK k = false → waitsK s bs n = false ∧ waitsL s bs n = []) := hidp (fun k hk h => waits_off (by rw [Hpt.out]; exact hk) (by rw [HPK.out]; exact h))
    have Hyes : Hid ((∀ k, k < parts.length → PK k = true) → waitsK s bs n = true ∧ waitsL s bs n = (List.range parts.length).map PW) := hidp (fun h => by
      have := waits_yes (s := s) (bs := bs) (of := n) Hth.out (by rw [Hpt.out, HPK.out]; exact h)
      rw [Hpt.out, HPW.out] at this; exact this)
    obtain ⟨RL, HRL⟩ : ∃ L, Hid (waitsL s bs n = L) := ⟨_, hidp rfl⟩
    obtain ⟨RK, HRK⟩ : ∃ L, Hid (waitsK s bs n = L) := ⟨_, hidp rfl⟩
    rw [HRL.out, HRK.out] at Hoff Hyes ⊢
    have HS1 := hidp (fun u (h : Below w.heap.size w u) => hs.keep (Keeps.of_below h))
    have HB1 := hidp (fun u (h : Below w.heap.size w u) => hB.keep (Keeps.of_below h))
    obtain ⟨S, HSS⟩ : ∃ S : SetR, Hid (S = s) := ⟨s, rfl⟩
    obtain ⟨i0, hi0, hy0, hy1, hy2⟩ := info_parts infoZ
    clear hcl hm Tok Tg hpc hP hparts hg ho HT e hs hB r1
    have dn : decide (s.tasks.length ≤ n) = false := by simp; omega
    obtain ⟨proto, ca, cc, cores, ha, hc, homes, ta, tc, tasks⟩ := s
    dsimp only at hA hn l3 r2 hb sc H dn HS1 ⊢
    subst hA
    go_enter Tryz.func25, Tryz.ntmps25
    go_wp2
    go_step3
    go_wp2_with fail
    refine (there16_any _ _ _ H).mono ?_
    rintro e w2 ⟨rfl, hb2⟩
    replace hb := hb.trans (hb2.mono hb.size)
    replace sc := sc.keep (Keeps.of_below hb2)
    clear hb2
    try clear sc_0 sc_1 sc_2 sc_3
    have scx := sc
    obtain ⟨sc_0, sc_1, sc_2, sc_3⟩ := scx
    try dsimp only at sc_0 sc_1 sc_2 sc_3
    rw [Hth.out]
    have hz0 : w.heap.size + 1 ≤ w2.heap.size := cell_lt sc_0
    have d5 := Keeps.of_below hb _ _ Ht5.out
    go_wp2
    go_step3
    go_wp2
    clear sc_0 sc_1 sc_2 sc_3 d5
    go_loopg [8, 9, 24] parts.length (fun gg a ok i wr => ∃ (k c : Nat) (A : Option Addr), k + gg = parts.length ∧ i = .int .i64 k ∧ ok = .bool true ∧ a = .slice A k c ∧ Hid (∀ j, j < k → PK j = true) ∧ OwnN (w.heap.size + 1) wr A k c ((List.range k).map PW) ∧ SetCells wr w.heap.size ⟨proto, ca, cc, cores, ha, hc, homes, some ⟨g, off, none⟩, tc, tasks⟩ ∧ Below w.heap.size w wr ∧ w.heap.size + 1 ≤ wr.heap.size)
    case atStart => exact ⟨0, 0, none, by omega, rfl, rfl, rfl, hidp (fun j hj => by omega), OwnN.none _ _, sc, hb, hz0⟩
    case round =>
      clear sc hb
      obtain ⟨k, c, A, hk, rfl, rfl, rfl, Hk, ho, sc, hw, hz⟩ := hrel
      by_cases hlt : k < parts.length
      · obtain ⟨p, HP⟩ : ∃ p, Hid (parts.getD k default = p) := ⟨_, rfl⟩
        have pcl := (HP.out ▸ Hpc.out k hlt).keep (Keeps.of_below hw)
        obtain ⟨x0, x1, x2⟩ := pcl
        have hw1 := hw.alloc hw.size (.cells #[.int .i64 p.kind, .int .i64 p.len, .int .i64 p.res] 38)
        have ho1 := ho.turned ((Turned.refl [] wr).alloc (.cells #[.int .i64 p.kind, .int .i64 p.len, .int .i64 p.res] 38)) (by simp)
        have hz1 : w.heap.size + 1 ≤ (wr.alloc (.cells #[.int .i64 p.kind, .int .i64 p.len, .int .i64 p.res] 38)).heap.size := Nat.le_trans hz (by simp)
        have sc1 := sc.keep (Keeps.alloc wr (.cells #[.int .i64 p.kind, .int .i64 p.len, .int .i64 p.res] 38))
        obtain ⟨sc_0, sc_1, sc_2, sc_3⟩ := id sc1
        dsimp only at sc_0 sc_1 sc_2 sc_3
        have N2 : Hid (k + 1 ≤ maxLen) := hidp (by unfold maxLen; omega)
        have T2 : Hid ((k + 1) * 8 ≤ 140737488355328) := hidp (by omega)
        by_cases e : p.kind = 3
        · obtain ⟨v1, v2⟩ := HPWl.out k (by rw [HP.out]; exact e)
          have e' : (p.kind == 3) = true := by simpa using e
          obtain ⟨b, Hb⟩ : ∃ b, Hid (K k = b) := ⟨_, rfl⟩
          rw [Hb.out] at v2
          obtain ⟨v, Hv⟩ : ∃ v, Hid (PW k = v) := ⟨_, rfl⟩
          rw [Hv.out] at v1
          have Hvv := hidp v1.symm
          have Hpk := hidp v2
          clear v1 v2 e
          cases b with
          | false =>
            obtain ⟨f1, f2⟩ := Hoff.out k hlt Hpk.out
            have F1 := hidp f1
            have F2 := hidp f2
            clear f1 f2
            go_wp2_with fail
            refine (wpart_any _ bs ba bc n k _ (HS1.out _ hw1) (HB1.out _ hw1)).mono ?_
            rintro e w3 ⟨rfl, hb3⟩
            rw [HV.out k, HK.out k, Hb.out]
            go_wp2_with fail
            try rw [Exit.noGoto_ret]
            go_ret2
            exact RowK.eq ⟨none, 0, rfl, nil_ints _, hw1.trans (hb3.mono hw1.size)⟩ F2.out.symm F1.out.symm
          | true =>
            go_wp2_with fail
            refine (wpart_any _ bs ba bc n k _ (HS1.out _ hw1) (HB1.out _ hw1)).mono ?_
            rintro e w3 ⟨rfl, hb3⟩
            rw [HV.out k, HK.out k, Hb.out, Hvv.out]
            have hw3 := hw1.trans (hb3.mono hw1.size)
            have hown4 := ((ho1.turned (Turned.of_below hb3 []) (by simp)).turned ((Turned.refl [] w3).alloc (.cells #[.int .i64 v] 3)) (by simp))
            have S2 := hidp (Lies.newCells' w3 [.int .i64 v] 3)
            have Z2 : Hid (w.heap.size + 1 ≤ (w3.alloc (.cells #[.int .i64 v] 3)).heap.size) := hidp (Nat.le_trans hz1 (Nat.le_trans hb3.size (by simp)))
            have sc4 := (sc1.keep (Keeps.of_below hb3)).keep (Keeps.alloc _ (.cells #[.int .i64 v] 3))
            have hw4 := hw3.alloc hw3.size (.cells #[.int .i64 v] 3)
            have O2 := hidp (ints_one v)
            have Hfp := hidp (own_fp hown4.own)
            clear x0 x1 x2 sc_0 sc_1 sc_2 sc_3
            go_wp2_with (at_builtin; refine wpList_app2 _ rfl (.tmp 42) (.tmp 44) 22 rfl (w.heap.size + 1) 3 i0 _ 1 8 Tryz.underlying22 hi0 hy0 hy1 hy2 rfl (by decide) A k c _ rfl hown4.own _ _ 1 1 [.int .i64 v] rfl (by simp) rfl S2.out O2.out N2.out T2.out Z2.out ?_; intro A' c' w5 happ)
            go_roundg (gk - 1)
            case measure => omega
            case rel => exact ⟨k + 1, c', A', by omega, by go_num, rfl, rfl, hidp (fun j hj => by
              by_cases ej : j = k
              · subst ej; exact Hpk.out
              · exact Hk.out j (by omega)), by rw [range_snoc, Hv.out]; exact hown4.app (ps := [v]) happ rfl, sc4.turned happ.turned (fun hf => by have := (Hfp.out _ hf).1; omega), hw4.trans (happ.turned.below hw4.size (fun j hj => by have := (Hfp.out _ hj).1; omega)), Nat.le_trans Z2.out happ.turned.size⟩
        · obtain ⟨v1, v2⟩ := HPWn.out k (by rw [HP.out]; exact e)
          have e' : (p.kind == 3) = false := by simpa using e
          have Hv := hidp v1
          have Hpk := hidp v2
          clear v1 v2 e
          have hw3 := hw1
          have hown4 := ho1.turned ((Turned.refl [] (wr.alloc (.cells #[.int .i64 p.kind, .int .i64 p.len, .int .i64 p.res] 38))).alloc (.cells #[.int .i64 0] 3)) (by simp)
          have S2' := Lies.newCells' (wr.alloc (.cells #[.int .i64 p.kind, .int .i64 p.len, .int .i64 p.res] 38)) [.int .i64 0] 3
          rw [show (wr.alloc (.cells #[.int .i64 p.kind, .int .i64 p.len, .int .i64 p.res] 38)).heap.size = wr.heap.size + 1 by simp] at S2'
          have S2 := hidp S2'
          clear S2'
          have Z2 : Hid (w.heap.size + 1 ≤ ((wr.alloc (.cells #[.int .i64 p.kind, .int .i64 p.len, .int .i64 p.res] 38)).alloc (.cells #[.int .i64 0] 3)).heap.size) := hidp (Nat.le_trans hz1 (by simp))
          have sc4 := sc1.keep (Keeps.alloc _ (.cells #[.int .i64 0] 3))
          have hw4 := hw3.alloc hw3.size (.cells #[.int .i64 0] 3)
          have O2 := hidp (ints_one 0)
          have Hfp := hidp (own_fp hown4.own)
          go_wp2_with (at_builtin; refine wpList_app2 _ rfl (.tmp 42) (.tmp 44) 22 rfl (w.heap.size + 1) 3 i0 _ 1 8 Tryz.underlying22 hi0 hy0 hy1 hy2 rfl (by decide) A k c _ rfl hown4.own _ _ 1 1 [.int .i64 0] rfl (by simp) rfl S2.out O2.out N2.out T2.out Z2.out ?_; intro A' c' w5 happ)
          go_roundg (gk - 1)
          case measure => omega
          case rel => exact ⟨k + 1, c', A', by omega, by go_num, rfl, rfl, hidp (fun j hj => by
              by_cases ej : j = k
              · subst ej; exact Hpk.out
              · exact Hk.out j (by omega)), by rw [range_snoc, Hv.out]; exact hown4.app (ps := [0]) happ rfl, sc4.turned happ.turned (fun hf => by have := (Hfp.out _ hf).1; omega), hw4.trans (happ.turned.below hw4.size (fun j hj => by have := (Hfp.out _ hj).1; omega)), Nat.le_trans Z2.out happ.turned.size⟩
      · obtain rfl : k = parts.length := by omega
        obtain ⟨f1, f2⟩ := Hyes.out Hk.out
        have F1 := hidp f1
        have F2 := hidp f2
        have hrow := ho.ok (fun x hx => by obtain ⟨j, _, rfl⟩ := List.mem_map.1 hx; have := HWb.out j; unfold I64; omega)
        have Hr := hidp hrow
        clear f1 f2 hrow
        go_wp2
        try rw [Exit.noGoto_ret]
        go_ret2
        exact RowK.eq ⟨A, c, by simp, Hr.out, hw⟩ F2.out.symm F1.out.symm
  · have e : thereB s of = false := by simpa using e
    obtain ⟨k1, k2⟩ := waits_no (bs := bs) e
    have Hth := hidp e
    have F1 := hidp k1
    have F2 := hidp k2
    clear e k1 k2 hs hB
    go_enter Tryz.func25, Tryz.ntmps25
    go_wp2
    go_step3
    go_wp2_with fail
    refine (there16_any _ _ _ H).mono ?_
    rintro e w2 ⟨rfl, hb2⟩
    replace hb := hb.trans (hb2.mono hb.size)
    replace sc := sc.keep (Keeps.of_below hb2)
    clear hb2
    rw [Hth.out]
    go_wp2
    go_ret2
    exact RowK.eq ⟨none, 0, rfl, nil_ints _, hb⟩ F2.out.symm F1.out.symm

set_option maxHeartbeats 1000000 in
set_option maxRecDepth 100000 in
theorem wsum_any (s : SetR) (bs : List Int) (ba : Option Addr) (bc : Nat) (of : Int) (w : World) (hs : SetOk w s) (hB : IntsOk w ba bc bs) : Calls Tryz.prog 107 #[.agg #[.int .i64 s.proto, .slice s.ca s.cores.length s.cc, .slice s.ha s.homes.length s.hc, .slice s.ta s.tasks.length s.tc], .slice ba bs.length bc, .int .i64 of] w fun e w' => e = .returned (.tuple #[.int .i64 (tot (waitsL s bs of)), .bool (waitsK s bs of)]) ∧ Below w.heap.size w w' := by
  have hb := (Below.refl w.heap.size w).alloc (Nat.le_refl _) (.cells #[.int .i64 s.proto, .slice s.ca s.cores.length s.cc, .slice s.ha s.homes.length s.hc, .slice s.ta s.tasks.length s.tc] 25)
  have sc := SetCells.new w s 25
  have H := hs.keep (Keeps.of_below hb)
  have HB := hB.keep (Keeps.of_below hb)
  have h6 := waitsL_len s bs of
  obtain ⟨L, HL⟩ : ∃ L, Hid (waitsL s bs of = L) := ⟨_, hidp rfl⟩
  obtain ⟨K, HK⟩ : ∃ K, Hid (waitsK s bs of = K) := ⟨_, hidp rfl⟩
  rw [HL.out] at h6
  obtain ⟨l6, hb6⟩ := h6
  have HP := hidp hb6
  have HW := wall_any s bs ba bc of _ H HB
  rw [HL.out, HK.out] at HW ⊢
  clear hs hB H HB hb6
  go_enter Tryz.func107, Tryz.ntmps107
  go_wp2_with fail
  refine HW.mono ?_
  rintro e w2 ⟨A, c, rfl, hr, hb2⟩
  replace hb := hb.trans (hb2.mono hb.size)
  have HR := hidp hr.at_
  clear hr hb2 HW sc
  go_wp2
  go_loopg [10, 22] L.length (fun gg a i wr => ∃ (k : Nat) (x : Int), k + gg = L.length ∧ i = .int .i64 k ∧ a = .int .i64 x ∧ Hid (tot (L.take k) = x) ∧ w2 = wr)
  case atStart => exact ⟨0, 0, by omega, rfl, rfl, hidp rfl, rfl⟩
  case round =>
    obtain ⟨k, x, hk, rfl, rfl, Hx, rfl⟩ := hrel
    have hx := tot_cap (fun n (hn : n ∈ L.take k) => HP.out n (List.mem_of_mem_take hn))
    rw [Hx.out, List.length_take] at hx
    obtain ⟨x0, x1⟩ := hx
    have x2 : x ≤ 18000 := by omega
    clear x1
    by_cases hlt : k < L.length
    · obtain ⟨g, off, hA, hcl⟩ := HR.out.resolve_left (by intro e; rw [e] at hlt; simp at hlt)
      subst hA
      obtain ⟨v, Hv⟩ : ∃ v, Hid (L.getD k 0 = v) := ⟨_, rfl⟩
      have c1 := Hv.out ▸ hcl k hlt
      have hv := HP.out v (by rw [← Hv.out]; simp [List.getD, hlt])
      obtain ⟨v0, v1⟩ := hv
      have Hs : Hid (tot (L.take (k + 1)) = x + v) := hidp (by rw [tot_snoc _ _ hlt, Hx.out, Hv.out])
      clear hcl
      go_wp2
      go_roundg (gk - 1)
      case measure => omega
      case rel => exact ⟨k + 1, x + v, by omega, by go_num, rfl, Hs, rfl⟩
    · obtain rfl : k = L.length := by omega
      have Hz : Hid (tot L = x) := hidp (by have := Hx.out; rw [List.take_length] at this; exact this)
      go_wp2
      go_ret2
      exact ⟨ret_ib Hz.out.symm rfl, hb⟩
end Go.Proofs.YtjjlpaampmpdfaaGreatDoor

namespace Go.Proofs.YtjjlpaampmpdfaaGreatDoor
open Go.ChangeShapes Go.WideShapes Go.ChangeAt Go.RowKit
set_option linter.unusedVariables false
set_option linter.unusedSimpArgs false

theorem there17_any (s : SetR) (of : Int) (w : World) (hs : SetOk w s) : Calls Tryz.prog 110 #[.agg #[.int .i64 s.proto, .slice s.ca s.cores.length s.cc, .slice s.ha s.homes.length s.hc, .slice s.ta s.tasks.length s.tc], .int .i64 of] w fun e w' => e = .returned (.bool (thereB s of)) ∧ Below w.heap.size w w' := by
  have hb := (Below.refl w.heap.size w).alloc (Nat.le_refl _) (.cells #[.int .i64 s.proto, .slice s.ca s.cores.length s.cc, .slice s.ha s.homes.length s.hc, .slice s.ta s.tasks.length s.tc] 25)
  have sc := SetCells.new w s 25
  have H := hidp (hs.keep (Keeps.of_below hb))
  have l3 : s.tasks.length ≤ maxLen := Nat.le_trans hs.tasks.sl.2.1 hs.tasks.sl.2.2
  unfold maxLen at l3
  clear hs
  by_cases e : chkE s = 0
  · have e1 : (chkE s == 0) = true := by simpa using e
    have ho : okS s = true := e1
    clear e
    by_cases h0 : 0 ≤ of
    · have Hv : Hid (thereB s of = decide (of < s.tasks.length)) := hidp (by simp [thereB, ho, h0])
      clear ho
      go_enter Tryz.func110, Tryz.ntmps110
      go_wp2_with (first | (go_at_call 23; (with_reducible refine (check_any _ _ H.out).mono ?_); rintro e w2 ⟨rfl, hb2⟩; have sc2 := sc.keep (Keeps.of_below hb2); obtain ⟨c0, c1, c2, c3⟩ := sc2))
      go_ret
      exact ⟨ret_bool Hv.out.symm, hb.trans (hb2.mono hb.size)⟩
    · have Hv : Hid (thereB s of = false) := hidp (by simp [thereB, h0])
      have d0 : decide (0 ≤ of) = false := by simpa using h0
      clear ho h0
      go_enter Tryz.func110, Tryz.ntmps110
      go_wp2_with (first | (go_at_call 23; (with_reducible refine (check_any _ _ H.out).mono ?_); rintro e w2 ⟨rfl, hb2⟩; have sc2 := sc.keep (Keeps.of_below hb2); obtain ⟨c0, c1, c2, c3⟩ := sc2))
      go_ret
      exact ⟨ret_bool Hv.out.symm, hb.trans (hb2.mono hb.size)⟩
  · have e1 : (chkE s == 0) = false := by simpa using e
    have Hv : Hid (thereB s of = false) := hidp (by unfold thereB okS; rw [e1]; rfl)
    clear e
    go_enter Tryz.func110, Tryz.ntmps110
    go_wp2_with (first | (go_at_call 23; (with_reducible refine (check_any _ _ H.out).mono ?_); rintro e w2 ⟨rfl, hb2⟩; have sc2 := sc.keep (Keeps.of_below hb2); obtain ⟨c0, c1, c2, c3⟩ := sc2))
    go_ret
    exact ⟨ret_bool Hv.out.symm, hb.trans (hb2.mono hb.size)⟩


set_option maxHeartbeats 4000000 in
set_option maxRecDepth 100000 in
theorem each_any (s : SetR) (a b : Nat) (w : World) (hs : SetOk w s) (ho : okS s = true) (ha : a < s.tasks.length) (hbl : b < s.tasks.length) : Calls Tryz.prog 112 #[.agg #[.int .i64 s.proto, .slice s.ca s.cores.length s.cc, .slice s.ha s.homes.length s.hc, .slice s.ta s.tasks.length s.tc], .int .i64 a, .int .i64 b] w fun e w' => e = .returned (.int .i64 (eachV s a b)) ∧ Below w.heap.size w w' := by
  have hb := (Below.refl w.heap.size w).alloc (Nat.le_refl _) (.cells #[.int .i64 s.proto, .slice s.ca s.cores.length s.cc, .slice s.ha s.homes.length s.hc, .slice s.ta s.tasks.length s.tc] 25)
  have sc := SetCells.new w s 25
  have H := hs.keep (Keeps.of_below hb)
  have l3 : s.tasks.length ≤ maxLen := Nat.le_trans hs.tasks.sl.2.1 hs.tasks.sl.2.2
  unfold maxLen at l3
  have hg := Good.of ho
  obtain ⟨t, HT⟩ : ∃ t, Hid (s.tasks.getD a default = t) := ⟨_, rfl⟩
  obtain ⟨o, HO⟩ : ∃ t, Hid (s.tasks.getD b default = t) := ⟨_, rfl⟩
  have hm : t ∈ s.tasks := HT.out ▸ getD_mem ha
  have TL : Hid (TaskLen w t) := hidp ⟨(hs.tasks.ok t hm).at_, (hg.parts t hm).lens, by have := (hg.parts t hm).len; omega⟩
  obtain ⟨g, off, hA, hcl⟩ := hs.tasks.at_.resolve_left (by intro e; rw [e] at ha; simp at ha)
  have Hta := hidp (HT.out ▸ hcl a ha)
  have Htb := hidp (HO.out ▸ hcl b hbl)
  obtain ⟨V, HV⟩ : ∃ V, Hid (atV s a o.cl = V) := ⟨_, hidp rfl⟩
  obtain ⟨L, HL⟩ : ∃ V, Hid (sumK 3 t.parts = V) := ⟨_, hidp rfl⟩
  obtain ⟨R, HR⟩ : ∃ V, Hid (sumK 1 t.parts = V) := ⟨_, hidp rfl⟩
  have HE : Hid (eachV s a b = (if s.proto = 2 then V else if t.cl = o.cl then L else 0) + (if t.cl = o.cl ∧ t.prio < o.prio then R else 0)) := hidp (by
    unfold eachV taskAt; simp only [Int.toNat_natCast]; rw [HT.out, HO.out, HV.out, HL.out, HR.out])
  have hV := atV_bd s a o.cl
  have hL := sumK_bd 3 (hg.parts t hm).lens
  have hR := sumK_bd 1 (hg.parts t hm).lens
  have h6 := (hg.parts t hm).len
  rw [HV.out] at hV
  rw [HL.out] at hL
  rw [HR.out] at hR
  obtain ⟨V0, V1⟩ := hV
  obtain ⟨L0, L1⟩ := hL
  obtain ⟨R0, R1⟩ := hR
  have L2 : L ≤ 360 := by omega
  have R2 : R ≤ 360 := by omega
  have HS1 : Hid (∀ u, Below w.heap.size w u → SetOk u s) := hidp (fun u h => hs.keep (Keeps.of_below h))
  clear L1 R1 h6 hcl hm hg ho hs
  obtain ⟨proto, ca, cc, cores, hha, hc, homes, ta, tc, tasks⟩ := s
  dsimp only at hA ha hbl l3 hb sc H HE HV HS1 ⊢
  subst hA
  have dn : decide (tasks.length ≤ a) = false := by simp; omega
  have dm : decide (tasks.length ≤ b) = false := by simp; omega
  obtain ⟨x0, x1, x2, x3, x4, x5⟩ := Hta.out.keep (Keeps.of_below hb)
  obtain ⟨y0, y1, y2, y3, y4, y5⟩ := Htb.out.keep (Keeps.of_below hb)
  go_enter Tryz.func112, Tryz.ntmps112
  go_upto_region 1 with fail
  go_cut [7, 8] from 11 to 20 (fun x y wx => ∃ g1 g2 : Nat, x = .pointer (some ⟨g1, 0, none⟩) ∧ y = .pointer (some ⟨g2, 0, none⟩) ∧ TaskBox wx g1 t ∧ TaskBox wx g2 o ∧ SetCells wx w.heap.size ⟨proto, ca, cc, cores, hha, hc, homes, some ⟨g, off, none⟩, tc, tasks⟩ ∧ Below w.heap.size w wx)
  case first =>
    have hs : (w.alloc (.cells #[.int .i64 proto, .slice ca cores.length cc, .slice hha homes.length hc, .slice (some ⟨g, off, none⟩) tasks.length tc] 25)).drew.cell? ⟨g, off + a * 6, none⟩ = some (.string t.name) ∧ (w.alloc (.cells #[.int .i64 proto, .slice ca cores.length cc, .slice hha homes.length hc, .slice (some ⟨g, off, none⟩) tasks.length tc] 25)).drew.cell? ⟨g, off + a * 6 + 1, none⟩ = some (.int .i64 t.per) ∧ (w.alloc (.cells #[.int .i64 proto, .slice ca cores.length cc, .slice hha homes.length hc, .slice (some ⟨g, off, none⟩) tasks.length tc] 25)).drew.cell? ⟨g, off + a * 6 + 2, none⟩ = some (.int .i64 t.dl) ∧ (w.alloc (.cells #[.int .i64 proto, .slice ca cores.length cc, .slice hha homes.length hc, .slice (some ⟨g, off, none⟩) tasks.length tc] 25)).drew.cell? ⟨g, off + a * 6 + 3, none⟩ = some (.int .i64 t.prio) ∧ (w.alloc (.cells #[.int .i64 proto, .slice ca cores.length cc, .slice hha homes.length hc, .slice (some ⟨g, off, none⟩) tasks.length tc] 25)).drew.cell? ⟨g, off + a * 6 + 4, none⟩ = some (.int .i64 t.cl) ∧ (w.alloc (.cells #[.int .i64 proto, .slice ca cores.length cc, .slice hha homes.length hc, .slice (some ⟨g, off, none⟩) tasks.length tc] 25)).drew.cell? ⟨g, off + a * 6 + 5, none⟩ = some (.slice t.pa t.parts.length t.pc) ∧ (w.alloc (.cells #[.int .i64 proto, .slice ca cores.length cc, .slice hha homes.length hc, .slice (some ⟨g, off, none⟩) tasks.length tc] 25)).drew.cell? ⟨g, off + b * 6, none⟩ = some (.string o.name) ∧ (w.alloc (.cells #[.int .i64 proto, .slice ca cores.length cc, .slice hha homes.length hc, .slice (some ⟨g, off, none⟩) tasks.length tc] 25)).drew.cell? ⟨g, off + b * 6 + 1, none⟩ = some (.int .i64 o.per) ∧ (w.alloc (.cells #[.int .i64 proto, .slice ca cores.length cc, .slice hha homes.length hc, .slice (some ⟨g, off, none⟩) tasks.length tc] 25)).drew.cell? ⟨g, off + b * 6 + 2, none⟩ = some (.int .i64 o.dl) ∧ (w.alloc (.cells #[.int .i64 proto, .slice ca cores.length cc, .slice hha homes.length hc, .slice (some ⟨g, off, none⟩) tasks.length tc] 25)).drew.cell? ⟨g, off + b * 6 + 3, none⟩ = some (.int .i64 o.prio) ∧ (w.alloc (.cells #[.int .i64 proto, .slice ca cores.length cc, .slice hha homes.length hc, .slice (some ⟨g, off, none⟩) tasks.length tc] 25)).drew.cell? ⟨g, off + b * 6 + 4, none⟩ = some (.int .i64 o.cl) ∧ (w.alloc (.cells #[.int .i64 proto, .slice ca cores.length cc, .slice hha homes.length hc, .slice (some ⟨g, off, none⟩) tasks.length tc] 25)).drew.cell? ⟨g, off + b * 6 + 5, none⟩ = some (.slice o.pa o.parts.length o.pc) ∧ (w.alloc (.cells #[.int .i64 proto, .slice ca cores.length cc, .slice hha homes.length hc, .slice (some ⟨g, off, none⟩) tasks.length tc] 25)).drew.cell? ⟨w.heap.size, 0, none⟩ = some (.int .i64 proto) ∧ (w.alloc (.cells #[.int .i64 proto, .slice ca cores.length cc, .slice hha homes.length hc, .slice (some ⟨g, off, none⟩) tasks.length tc] 25)).drew.cell? ⟨w.heap.size, 1, none⟩ = some (.slice ca cores.length cc) ∧ (w.alloc (.cells #[.int .i64 proto, .slice ca cores.length cc, .slice hha homes.length hc, .slice (some ⟨g, off, none⟩) tasks.length tc] 25)).drew.cell? ⟨w.heap.size, 2, none⟩ = some (.slice hha homes.length hc) ∧ (w.alloc (.cells #[.int .i64 proto, .slice ca cores.length cc, .slice hha homes.length hc, .slice (some ⟨g, off, none⟩) tasks.length tc] 25)).drew.cell? ⟨w.heap.size, 3, none⟩ = some (.slice (some ⟨g, off, none⟩) tasks.length tc) := And.intro x0 (And.intro x1 (And.intro x2 (And.intro x3 (And.intro x4 (And.intro x5 (And.intro y0 (And.intro y1 (And.intro y2 (And.intro y3 (And.intro y4 (And.intro y5 sc)))))))))))
    have hK16 : ∀ u v : World, Keeps u v → (u.cell? ⟨g, off + a * 6, none⟩ = some (.string t.name) ∧ u.cell? ⟨g, off + a * 6 + 1, none⟩ = some (.int .i64 t.per) ∧ u.cell? ⟨g, off + a * 6 + 2, none⟩ = some (.int .i64 t.dl) ∧ u.cell? ⟨g, off + a * 6 + 3, none⟩ = some (.int .i64 t.prio) ∧ u.cell? ⟨g, off + a * 6 + 4, none⟩ = some (.int .i64 t.cl) ∧ u.cell? ⟨g, off + a * 6 + 5, none⟩ = some (.slice t.pa t.parts.length t.pc) ∧ u.cell? ⟨g, off + b * 6, none⟩ = some (.string o.name) ∧ u.cell? ⟨g, off + b * 6 + 1, none⟩ = some (.int .i64 o.per) ∧ u.cell? ⟨g, off + b * 6 + 2, none⟩ = some (.int .i64 o.dl) ∧ u.cell? ⟨g, off + b * 6 + 3, none⟩ = some (.int .i64 o.prio) ∧ u.cell? ⟨g, off + b * 6 + 4, none⟩ = some (.int .i64 o.cl) ∧ u.cell? ⟨g, off + b * 6 + 5, none⟩ = some (.slice o.pa o.parts.length o.pc) ∧ u.cell? ⟨w.heap.size, 0, none⟩ = some (.int .i64 proto) ∧ u.cell? ⟨w.heap.size, 1, none⟩ = some (.slice ca cores.length cc) ∧ u.cell? ⟨w.heap.size, 2, none⟩ = some (.slice hha homes.length hc) ∧ u.cell? ⟨w.heap.size, 3, none⟩ = some (.slice (some ⟨g, off, none⟩) tasks.length tc)) → (v.cell? ⟨g, off + a * 6, none⟩ = some (.string t.name) ∧ v.cell? ⟨g, off + a * 6 + 1, none⟩ = some (.int .i64 t.per) ∧ v.cell? ⟨g, off + a * 6 + 2, none⟩ = some (.int .i64 t.dl) ∧ v.cell? ⟨g, off + a * 6 + 3, none⟩ = some (.int .i64 t.prio) ∧ v.cell? ⟨g, off + a * 6 + 4, none⟩ = some (.int .i64 t.cl) ∧ v.cell? ⟨g, off + a * 6 + 5, none⟩ = some (.slice t.pa t.parts.length t.pc) ∧ v.cell? ⟨g, off + b * 6, none⟩ = some (.string o.name) ∧ v.cell? ⟨g, off + b * 6 + 1, none⟩ = some (.int .i64 o.per) ∧ v.cell? ⟨g, off + b * 6 + 2, none⟩ = some (.int .i64 o.dl) ∧ v.cell? ⟨g, off + b * 6 + 3, none⟩ = some (.int .i64 o.prio) ∧ v.cell? ⟨g, off + b * 6 + 4, none⟩ = some (.int .i64 o.cl) ∧ v.cell? ⟨g, off + b * 6 + 5, none⟩ = some (.slice o.pa o.parts.length o.pc) ∧ v.cell? ⟨w.heap.size, 0, none⟩ = some (.int .i64 proto) ∧ v.cell? ⟨w.heap.size, 1, none⟩ = some (.slice ca cores.length cc) ∧ v.cell? ⟨w.heap.size, 2, none⟩ = some (.slice hha homes.length hc) ∧ v.cell? ⟨w.heap.size, 3, none⟩ = some (.slice (some ⟨g, off, none⟩) tasks.length tc)) := fun u v k h => And.intro (k _ _ h.1) (And.intro (k _ _ h.2.1) (And.intro (k _ _ h.2.2.1) (And.intro (k _ _ h.2.2.2.1) (And.intro (k _ _ h.2.2.2.2.1) (And.intro (k _ _ h.2.2.2.2.2.1) (And.intro (k _ _ h.2.2.2.2.2.2.1) (And.intro (k _ _ h.2.2.2.2.2.2.2.1) (And.intro (k _ _ h.2.2.2.2.2.2.2.2.1) (And.intro (k _ _ h.2.2.2.2.2.2.2.2.2.1) (And.intro (k _ _ h.2.2.2.2.2.2.2.2.2.2.1) (And.intro (k _ _ h.2.2.2.2.2.2.2.2.2.2.2.1) (And.intro (k _ _ h.2.2.2.2.2.2.2.2.2.2.2.2.1) (And.intro (k _ _ h.2.2.2.2.2.2.2.2.2.2.2.2.2.1) (And.intro (k _ _ h.2.2.2.2.2.2.2.2.2.2.2.2.2.2.1) (k _ _ h.2.2.2.2.2.2.2.2.2.2.2.2.2.2.2)))))))))))))))
    have HK := hidp hK16
    replace hb := hb.drew
    replace sc := sc.keep (Keeps.drew _)
    clear x0 x1 x2 x3 x4 x5 y0 y1 y2 y3 y4 y5 hK16 H
    refine wp_region_held_drew (S := fun w' => w'.cell? ⟨g, off + a * 6, none⟩ = some (.string t.name) ∧ w'.cell? ⟨g, off + a * 6 + 1, none⟩ = some (.int .i64 t.per) ∧ w'.cell? ⟨g, off + a * 6 + 2, none⟩ = some (.int .i64 t.dl) ∧ w'.cell? ⟨g, off + a * 6 + 3, none⟩ = some (.int .i64 t.prio) ∧ w'.cell? ⟨g, off + a * 6 + 4, none⟩ = some (.int .i64 t.cl) ∧ w'.cell? ⟨g, off + a * 6 + 5, none⟩ = some (.slice t.pa t.parts.length t.pc) ∧ w'.cell? ⟨g, off + b * 6, none⟩ = some (.string o.name) ∧ w'.cell? ⟨g, off + b * 6 + 1, none⟩ = some (.int .i64 o.per) ∧ w'.cell? ⟨g, off + b * 6 + 2, none⟩ = some (.int .i64 o.dl) ∧ w'.cell? ⟨g, off + b * 6 + 3, none⟩ = some (.int .i64 o.prio) ∧ w'.cell? ⟨g, off + b * 6 + 4, none⟩ = some (.int .i64 o.cl) ∧ w'.cell? ⟨g, off + b * 6 + 5, none⟩ = some (.slice o.pa o.parts.length o.pc) ∧ w'.cell? ⟨w.heap.size, 0, none⟩ = some (.int .i64 proto) ∧ w'.cell? ⟨w.heap.size, 1, none⟩ = some (.slice ca cores.length cc) ∧ w'.cell? ⟨w.heap.size, 2, none⟩ = some (.slice hha homes.length hc) ∧ w'.cell? ⟨w.heap.size, 3, none⟩ = some (.slice (some ⟨g, off, none⟩) tasks.length tc)) (by kernel_rfl) ?_ (fun hHeld => ?_)
    · exact hs
    generalize (w.alloc (.cells #[.int .i64 proto, .slice ca cores.length cc, .slice hha homes.length hc, .slice (some ⟨g, off, none⟩) tasks.length tc] 25)).drew = u1 at *
    refine wpAnyH_take (i := 0) (v := ?_) rfl (by kernel_rfl) (by kernel_rfl) (by kernel_rfl) (fun _ _ _ h => h) (Or.inl ⟨by rfl, ?_⟩) (by assumption) ?_
    rotate_left 1
    · ((intro w hSw; (try dsimp only at hSw); go_simp); (try with_reducible rfl))
    simp only [Act.put, List.setIfInBounds_toArray, List.set_cons_zero, List.set_cons_succ, List.getElem_toArray, List.getElem_cons_zero, List.getElem_cons_succ]
    refine wpAnyH_take (i := 1) (v := ?_) rfl (by kernel_rfl) (by kernel_rfl) (by kernel_rfl) (fun _ _ _ h => h) (Or.inl ⟨by rfl, ?_⟩) (by assumption) ?_
    rotate_left 1
    · ((intro w hSw; (try dsimp only at hSw); go_simp); (try with_reducible rfl))
    simp only [Act.put, List.setIfInBounds_toArray, List.set_cons_zero, List.set_cons_succ, List.getElem_toArray, List.getElem_cons_zero, List.getElem_cons_succ]
    refine wpAnyH_take (i := 2) (v := ?_) rfl (by kernel_rfl) (by kernel_rfl) (by kernel_rfl) (fun _ _ _ h => h) (Or.inl ⟨by rfl, ?_⟩) (by assumption) ?_
    rotate_left 1
    · ((intro w hSw; (try dsimp only at hSw); go_simp); (try with_reducible rfl))
    simp only [Act.put, List.setIfInBounds_toArray, List.set_cons_zero, List.set_cons_succ, List.getElem_toArray, List.getElem_cons_zero, List.getElem_cons_succ]
    refine wpAnyH_take (i := 3) (v := ?_) rfl (by kernel_rfl) (by kernel_rfl) (by kernel_rfl) (fun _ _ _ h => h) (Or.inl ⟨by rfl, ?_⟩) (by assumption) ?_
    rotate_left 1
    · ((intro w hSw; (try dsimp only at hSw); go_simp); (try with_reducible rfl))
    simp only [Act.put, List.setIfInBounds_toArray, List.set_cons_zero, List.set_cons_succ, List.getElem_toArray, List.getElem_cons_zero, List.getElem_cons_succ]
    refine wpAnyH_take (i := 4) (v := ?_) rfl (by kernel_rfl) (by kernel_rfl) (by kernel_rfl) (fun _ _ _ h => h) (Or.inl ⟨by rfl, ?_⟩) (by assumption) ?_
    rotate_left 1
    · ((intro w hSw; (try dsimp only at hSw); go_simp); (try with_reducible rfl))
    simp only [Act.put, List.setIfInBounds_toArray, List.set_cons_zero, List.set_cons_succ, List.getElem_toArray, List.getElem_cons_zero, List.getElem_cons_succ]
    refine wpAnyH_take (i := 5) (v := ?_) rfl (by kernel_rfl) (by kernel_rfl) (by kernel_rfl) (fun _ _ _ h => h) (Or.inl ⟨by rfl, ?_⟩) (by assumption) ?_
    rotate_left 1
    · ((intro w hSw; (try dsimp only at hSw); go_simp); (try with_reducible rfl))
    simp only [Act.put, List.setIfInBounds_toArray, List.set_cons_zero, List.set_cons_succ, List.getElem_toArray, List.getElem_cons_zero, List.getElem_cons_succ]
    refine wpAnyH_take (i := 6) (v := ?_) rfl (by kernel_rfl) (by kernel_rfl) (by kernel_rfl) (fun _ _ _ h => h) (Or.inl ⟨by rfl, ?_⟩) (by assumption) ?_
    rotate_left 1
    · ((intro w hSw; (try dsimp only at hSw); go_simp); (try with_reducible rfl))
    simp only [Act.put, List.setIfInBounds_toArray, List.set_cons_zero, List.set_cons_succ, List.getElem_toArray, List.getElem_cons_zero, List.getElem_cons_succ]
    refine wpAnyH_take (i := 7) (v := ?_) rfl (by kernel_rfl) (by kernel_rfl) (by kernel_rfl) (fun _ _ _ h => h) (Or.inl ⟨by rfl, ?_⟩) (by assumption) ?_
    rotate_left 1
    · ((intro w hSw; (try dsimp only at hSw); go_simp); (try with_reducible rfl))
    simp only [Act.put, List.setIfInBounds_toArray, List.set_cons_zero, List.set_cons_succ, List.getElem_toArray, List.getElem_cons_zero, List.getElem_cons_succ]
    refine wpAnyH_take (i := 8) (v := ?_) rfl (by kernel_rfl) (by kernel_rfl) (by kernel_rfl) (fun _ _ _ h => h) (Or.inl ⟨by rfl, ?_⟩) (by assumption) ?_
    rotate_left 1
    · ((intro w hSw; (try dsimp only at hSw); go_simp); (try with_reducible rfl))
    simp only [Act.put, List.setIfInBounds_toArray, List.set_cons_zero, List.set_cons_succ, List.getElem_toArray, List.getElem_cons_zero, List.getElem_cons_succ]
    refine wpAnyH_take (i := 9) (v := ?_) rfl (by kernel_rfl) (by kernel_rfl) (by kernel_rfl) (fun _ _ _ h => h) (Or.inl ⟨by rfl, ?_⟩) (by assumption) ?_
    rotate_left 1
    · ((intro w hSw; (try dsimp only at hSw); go_simp); (try with_reducible rfl))
    simp only [Act.put, List.setIfInBounds_toArray, List.set_cons_zero, List.set_cons_succ, List.getElem_toArray, List.getElem_cons_zero, List.getElem_cons_succ]
    refine wpAnyH_ready (rs := [10, 11]) (by kernel_rfl) (by simp) ?_
    refine AllReadyH.cons rfl (fun K hK => ?_) (AllReadyH.cons rfl (fun K hK => ?_) AllReadyH.nil)
    · go_simp
      refine hK.out _ _ ?_ (fun hHeld => ?_)
      · exact HK.out _ _ (Keeps.alloc u1 (.cells #[.string ⟨#[]⟩, .int .i64 0, .int .i64 0, .int .i64 0, .int .i64 0, .slice none 0 0] 41)) hs
      clear hK K
      try simp only [Act.put, List.setIfInBounds_toArray, List.set_cons_zero, List.set_cons_succ, List.getElem_toArray, List.getElem_cons_zero, List.getElem_cons_succ]
      refine wpAnyH_ready (rs := [11]) (by kernel_rfl) (by simp) ?_
      refine AllReadyH.cons rfl (fun K hK => ?_) AllReadyH.nil
      go_simp
      refine hK.out _ _ ?_ (fun hHeld => ?_)
      · exact HK.out _ _ ((Keeps.alloc u1 (.cells #[.string ⟨#[]⟩, .int .i64 0, .int .i64 0, .int .i64 0, .int .i64 0, .slice none 0 0] 41)).trans (Keeps.alloc _ (.cells #[.string ⟨#[]⟩, .int .i64 0, .int .i64 0, .int .i64 0, .int .i64 0, .slice none 0 0] 41))) hs
      clear hK K
      try simp only [Act.put, List.setIfInBounds_toArray, List.set_cons_zero, List.set_cons_succ, List.getElem_toArray, List.getElem_cons_zero, List.getElem_cons_succ]
      refine wpAnyH_ready (rs := [12]) (by kernel_rfl) (by simp) ?_
      refine AllReadyH.cons rfl (fun K hK => ?_) AllReadyH.nil
      go_simp
      refine hK.out _ _ ?_ (fun hHeld => ?_)
      · exact HK.out _ _ ((Keeps.alloc u1 (.cells #[.string t.name, .int .i64 t.per, .int .i64 t.dl, .int .i64 t.prio, .int .i64 t.cl, .slice t.pa t.parts.length t.pc] 41)).trans (Keeps.alloc _ (.cells #[.string ⟨#[]⟩, .int .i64 0, .int .i64 0, .int .i64 0, .int .i64 0, .slice none 0 0] 41))) hs
      clear hK K
      try simp only [Act.put, List.setIfInBounds_toArray, List.set_cons_zero, List.set_cons_succ, List.getElem_toArray, List.getElem_cons_zero, List.getElem_cons_succ]
      refine wpAnyH_ready (rs := [13]) (by kernel_rfl) (by simp) ?_
      refine AllReadyH.cons rfl (fun K hK => ?_) AllReadyH.nil
      go_simp
      refine hK.out _ _ ?_ (fun hHeld => ?_)
      · exact HK.out _ _ ((Keeps.alloc u1 (.cells #[.string t.name, .int .i64 t.per, .int .i64 t.dl, .int .i64 t.prio, .int .i64 t.cl, .slice t.pa t.parts.length t.pc] 41)).trans (Keeps.alloc _ (.cells #[.string o.name, .int .i64 o.per, .int .i64 o.dl, .int .i64 o.prio, .int .i64 o.cl, .slice o.pa o.parts.length o.pc] 41))) hs
      clear hK K
      try simp only [Act.put, List.setIfInBounds_toArray, List.set_cons_zero, List.set_cons_succ, List.getElem_toArray, List.getElem_cons_zero, List.getElem_cons_succ]
      refine wpAnyH_done (by kernel_rfl) ?_ _
      clear hHeld
      go_wp2_with fail
      go_meet
      have tb0 := TaskBox.new u1 t 41
      have tb1 := TaskBox.new (u1.alloc (.cells #[.string t.name, .int .i64 t.per, .int .i64 t.dl, .int .i64 t.prio, .int .i64 t.cl, .slice t.pa t.parts.length t.pc] 41)) o 41
      rw [show (u1.alloc (.cells #[.string t.name, .int .i64 t.per, .int .i64 t.dl, .int .i64 t.prio, .int .i64 t.cl, .slice t.pa t.parts.length t.pc] 41)).heap.size = u1.heap.size + 1 by simp] at tb1
      have tb2 := tb0.keep (Keeps.alloc _ (.cells #[.string o.name, .int .i64 o.per, .int .i64 o.dl, .int .i64 o.prio, .int .i64 o.cl, .slice o.pa o.parts.length o.pc] 41))
      exact ⟨_, _, rfl, rfl, tb2, tb1, (sc.keep (Keeps.alloc u1 (.cells #[.string t.name, .int .i64 t.per, .int .i64 t.dl, .int .i64 t.prio, .int .i64 t.cl, .slice t.pa t.parts.length t.pc] 41))).keep (Keeps.alloc _ (.cells #[.string o.name, .int .i64 o.per, .int .i64 o.dl, .int .i64 o.prio, .int .i64 o.cl, .slice o.pa o.parts.length o.pc] 41)), (hb.alloc hb.size (.cells #[.string t.name, .int .i64 t.per, .int .i64 t.dl, .int .i64 t.prio, .int .i64 t.cl, .slice t.pa t.parts.length t.pc] 41)).alloc (hb.alloc hb.size (.cells #[.string t.name, .int .i64 t.per, .int .i64 t.dl, .int .i64 t.prio, .int .i64 t.cl, .slice t.pa t.parts.length t.pc] 41)).size (.cells #[.string o.name, .int .i64 o.per, .int .i64 o.dl, .int .i64 o.prio, .int .i64 o.cl, .slice o.pa o.parts.length o.pc] 41)⟩
    · go_simp
      refine hK.out _ _ ?_ (fun hHeld => ?_)
      · exact HK.out _ _ (Keeps.alloc u1 (.cells #[.string ⟨#[]⟩, .int .i64 0, .int .i64 0, .int .i64 0, .int .i64 0, .slice none 0 0] 41)) hs
      clear hK K
      try simp only [Act.put, List.setIfInBounds_toArray, List.set_cons_zero, List.set_cons_succ, List.getElem_toArray, List.getElem_cons_zero, List.getElem_cons_succ]
      refine wpAnyH_ready (rs := [10]) (by kernel_rfl) (by simp) ?_
      refine AllReadyH.cons rfl (fun K hK => ?_) AllReadyH.nil
      go_simp
      refine hK.out _ _ ?_ (fun hHeld => ?_)
      · exact HK.out _ _ ((Keeps.alloc u1 (.cells #[.string ⟨#[]⟩, .int .i64 0, .int .i64 0, .int .i64 0, .int .i64 0, .slice none 0 0] 41)).trans (Keeps.alloc _ (.cells #[.string ⟨#[]⟩, .int .i64 0, .int .i64 0, .int .i64 0, .int .i64 0, .slice none 0 0] 41))) hs
      clear hK K
      try simp only [Act.put, List.setIfInBounds_toArray, List.set_cons_zero, List.set_cons_succ, List.getElem_toArray, List.getElem_cons_zero, List.getElem_cons_succ]
      refine wpAnyH_ready (rs := [12]) (by kernel_rfl) (by simp) ?_
      refine AllReadyH.cons rfl (fun K hK => ?_) AllReadyH.nil
      go_simp
      refine hK.out _ _ ?_ (fun hHeld => ?_)
      · exact HK.out _ _ ((Keeps.alloc u1 (.cells #[.string ⟨#[]⟩, .int .i64 0, .int .i64 0, .int .i64 0, .int .i64 0, .slice none 0 0] 41)).trans (Keeps.alloc _ (.cells #[.string t.name, .int .i64 t.per, .int .i64 t.dl, .int .i64 t.prio, .int .i64 t.cl, .slice t.pa t.parts.length t.pc] 41))) hs
      clear hK K
      try simp only [Act.put, List.setIfInBounds_toArray, List.set_cons_zero, List.set_cons_succ, List.getElem_toArray, List.getElem_cons_zero, List.getElem_cons_succ]
      refine wpAnyH_ready (rs := [13]) (by kernel_rfl) (by simp) ?_
      refine AllReadyH.cons rfl (fun K hK => ?_) AllReadyH.nil
      go_simp
      refine hK.out _ _ ?_ (fun hHeld => ?_)
      · exact HK.out _ _ ((Keeps.alloc u1 (.cells #[.string o.name, .int .i64 o.per, .int .i64 o.dl, .int .i64 o.prio, .int .i64 o.cl, .slice o.pa o.parts.length o.pc] 41)).trans (Keeps.alloc _ (.cells #[.string t.name, .int .i64 t.per, .int .i64 t.dl, .int .i64 t.prio, .int .i64 t.cl, .slice t.pa t.parts.length t.pc] 41))) hs
      clear hK K
      try simp only [Act.put, List.setIfInBounds_toArray, List.set_cons_zero, List.set_cons_succ, List.getElem_toArray, List.getElem_cons_zero, List.getElem_cons_succ]
      refine wpAnyH_done (by kernel_rfl) ?_ _
      clear hHeld
      go_wp2_with fail
      go_meet
      have tb0 := TaskBox.new u1 o 41
      have tb1 := TaskBox.new (u1.alloc (.cells #[.string o.name, .int .i64 o.per, .int .i64 o.dl, .int .i64 o.prio, .int .i64 o.cl, .slice o.pa o.parts.length o.pc] 41)) t 41
      rw [show (u1.alloc (.cells #[.string o.name, .int .i64 o.per, .int .i64 o.dl, .int .i64 o.prio, .int .i64 o.cl, .slice o.pa o.parts.length o.pc] 41)).heap.size = u1.heap.size + 1 by simp] at tb1
      have tb2 := tb0.keep (Keeps.alloc _ (.cells #[.string t.name, .int .i64 t.per, .int .i64 t.dl, .int .i64 t.prio, .int .i64 t.cl, .slice t.pa t.parts.length t.pc] 41))
      exact ⟨_, _, rfl, rfl, tb1, tb2, (sc.keep (Keeps.alloc u1 (.cells #[.string o.name, .int .i64 o.per, .int .i64 o.dl, .int .i64 o.prio, .int .i64 o.cl, .slice o.pa o.parts.length o.pc] 41))).keep (Keeps.alloc _ (.cells #[.string t.name, .int .i64 t.per, .int .i64 t.dl, .int .i64 t.prio, .int .i64 t.cl, .slice t.pa t.parts.length t.pc] 41)), (hb.alloc hb.size (.cells #[.string o.name, .int .i64 o.per, .int .i64 o.dl, .int .i64 o.prio, .int .i64 o.cl, .slice o.pa o.parts.length o.pc] 41)).alloc (hb.alloc hb.size (.cells #[.string o.name, .int .i64 o.per, .int .i64 o.dl, .int .i64 o.prio, .int .i64 o.cl, .slice o.pa o.parts.length o.pc] 41)).size (.cells #[.string t.name, .int .i64 t.per, .int .i64 t.dl, .int .i64 t.prio, .int .i64 t.cl, .slice t.pa t.parts.length t.pc] 41)⟩
  case rest =>
    obtain ⟨g1, g2, rfl, rfl, tb, ob, sc, hb⟩ := hcut
    clear x0 x1 x2 x3 x4 x5 y0 y1 y2 y3 y4 y5
    obtain ⟨sc_0, sc_1, sc_2, sc_3⟩ := id sc
    dsimp only at sc_0 sc_1 sc_2 sc_3
    obtain ⟨d0, d1, d2, d3, d4, d5⟩ := id tb
    obtain ⟨f0, f1, f2, f3, f4, f5⟩ := id ob
    have HEV := HE.out
    by_cases p2 : proto = 2
    · have q2 : (proto == 2) = true := by simpa using p2
      rw [if_pos p2] at HEV
      have HAt := at_any ⟨proto, ca, cc, cores, hha, hc, homes, some ⟨g, off, none⟩, tc, tasks⟩ a o.cl wc (HS1.out _ hb)
      rw [HV.out] at HAt
      by_cases c1 : t.cl = o.cl
      · by_cases c2 : t.prio < o.prio
        · rw [if_pos ⟨c1, c2⟩] at HEV
          have Hv := hidp HEV
          have e1 : (t.cl == o.cl) = true := by simpa using c1
          clear p2 c1 HEV
          go_wp2_with fail
          refine HAt.mono ?_
          rintro e w2 ⟨rfl, hb2⟩
          replace hb := hb.trans (hb2.mono hb.size)
          replace tb := tb.keep (Keeps.of_below hb2)
          replace ob := ob.keep (Keeps.of_below hb2)
          clear hb2 d0 d1 d2 d3 d4 d5 f0 f1 f2 f3 f4 f5 sc_0 sc_1 sc_2 sc_3
          obtain ⟨d0, d1, d2, d3, d4, d5⟩ := id tb
          obtain ⟨f0, f1, f2, f3, f4, f5⟩ := id ob
          go_wp2_with fail
          refine (runs_any t _ (TL.out.keep (Keeps.of_below hb))).mono ?_
          rintro e w3 ⟨rfl, hb2⟩
          rw [HR.out]
          replace hb := hb.trans (hb2.mono hb.size)
          go_wp2
          go_ret
          exact ⟨ret_int Hv.out.symm, hb⟩
        · rw [if_neg (fun h => c2 h.2), Int.add_zero] at HEV
          have Hv := hidp HEV
          have e1 : (t.cl == o.cl) = true := by simpa using c1
          clear p2 c1 HEV
          go_wp2_with fail
          refine HAt.mono ?_
          rintro e w2 ⟨rfl, hb2⟩
          replace hb := hb.trans (hb2.mono hb.size)
          replace tb := tb.keep (Keeps.of_below hb2)
          replace ob := ob.keep (Keeps.of_below hb2)
          clear hb2 d0 d1 d2 d3 d4 d5 f0 f1 f2 f3 f4 f5 sc_0 sc_1 sc_2 sc_3
          obtain ⟨d0, d1, d2, d3, d4, d5⟩ := id tb
          obtain ⟨f0, f1, f2, f3, f4, f5⟩ := id ob
          go_wp2
          go_ret
          exact ⟨ret_int Hv.out.symm, hb⟩
      · rw [if_neg (fun h => c1 h.1), Int.add_zero] at HEV
        have Hv := hidp HEV
        have e1 : (t.cl == o.cl) = false := by simpa using c1
        clear p2 c1 HEV
        go_wp2_with fail
        refine HAt.mono ?_
        rintro e w2 ⟨rfl, hb2⟩
        replace hb := hb.trans (hb2.mono hb.size)
        replace tb := tb.keep (Keeps.of_below hb2)
        replace ob := ob.keep (Keeps.of_below hb2)
        clear hb2 d0 d1 d2 d3 d4 d5 f0 f1 f2 f3 f4 f5 sc_0 sc_1 sc_2 sc_3
        obtain ⟨d0, d1, d2, d3, d4, d5⟩ := id tb
        obtain ⟨f0, f1, f2, f3, f4, f5⟩ := id ob
        go_wp2
        go_ret
        exact ⟨ret_int Hv.out.symm, hb⟩
    · have q2 : (proto == 2) = false := by simpa using p2
      rw [if_neg p2] at HEV
      by_cases c1 : t.cl = o.cl
      · rw [if_pos c1] at HEV
        by_cases c2 : t.prio < o.prio
        · rw [if_pos ⟨c1, c2⟩] at HEV
          have Hv := hidp HEV
          have e1 : (t.cl == o.cl) = true := by simpa using c1
          clear p2 c1 HEV
          go_wp2_with fail
          refine (locks_any t _ (TL.out.keep (Keeps.of_below hb))).mono ?_
          rintro e w2 ⟨rfl, hb2⟩
          rw [HL.out]
          replace hb := hb.trans (hb2.mono hb.size)
          replace tb := tb.keep (Keeps.of_below hb2)
          replace ob := ob.keep (Keeps.of_below hb2)
          clear hb2 d0 d1 d2 d3 d4 d5 f0 f1 f2 f3 f4 f5 sc_0 sc_1 sc_2 sc_3
          obtain ⟨d0, d1, d2, d3, d4, d5⟩ := id tb
          obtain ⟨f0, f1, f2, f3, f4, f5⟩ := id ob
          go_wp2_with fail
          refine (runs_any t _ (TL.out.keep (Keeps.of_below hb))).mono ?_
          rintro e w3 ⟨rfl, hb2⟩
          rw [HR.out]
          replace hb := hb.trans (hb2.mono hb.size)
          go_wp2
          go_ret
          exact ⟨ret_int Hv.out.symm, hb⟩
        · rw [if_neg (fun h => c2 h.2), Int.add_zero] at HEV
          have Hv := hidp HEV
          have e1 : (t.cl == o.cl) = true := by simpa using c1
          clear p2 c1 HEV
          go_wp2_with fail
          refine (locks_any t _ (TL.out.keep (Keeps.of_below hb))).mono ?_
          rintro e w2 ⟨rfl, hb2⟩
          rw [HL.out]
          replace hb := hb.trans (hb2.mono hb.size)
          replace tb := tb.keep (Keeps.of_below hb2)
          replace ob := ob.keep (Keeps.of_below hb2)
          clear hb2 d0 d1 d2 d3 d4 d5 f0 f1 f2 f3 f4 f5 sc_0 sc_1 sc_2 sc_3
          obtain ⟨d0, d1, d2, d3, d4, d5⟩ := id tb
          obtain ⟨f0, f1, f2, f3, f4, f5⟩ := id ob
          go_wp2
          go_ret
          exact ⟨ret_int Hv.out.symm, hb⟩
      · rw [if_neg c1, if_neg (fun h => c1 h.1), Int.add_zero] at HEV
        have Hv := hidp HEV
        have e1 : (t.cl == o.cl) = false := by simpa using c1
        clear p2 c1 HEV
        go_wp2
        go_ret
        exact ⟨ret_int Hv.out.symm, hb⟩
end Go.Proofs.YtjjlpaampmpdfaaGreatDoor

namespace Go.Proofs.YtjjlpaampmpdfaaGreatDoor
open Go.ChangeShapes Go.WideShapes Go.ChangeAt Go.RowKit
set_option linter.unusedVariables false
set_option linter.unusedSimpArgs false

set_option maxHeartbeats 2000000 in
set_option maxRecDepth 100000 in
theorem own_any (s : SetR) (bs : List Int) (ba : Option Addr) (bc : Nat) (of : Int) (w : World) (hs : SetOk w s) (hB : IntsOk w ba bc bs) : Calls Tryz.prog 78 #[.agg #[.int .i64 s.proto, .slice s.ca s.cores.length s.cc, .slice s.ha s.homes.length s.hc, .slice s.ta s.tasks.length s.tc], .slice ba bs.length bc, .int .i64 of] w fun e w' => e = .returned (.tuple #[.int .i64 (ownV s bs of), .bool (waitsK s bs of)]) ∧ Below w.heap.size w w' := by
  have hb := (Below.refl w.heap.size w).alloc (Nat.le_refl _) (.cells #[.int .i64 s.proto, .slice s.ca s.cores.length s.cc, .slice s.ha s.homes.length s.hc, .slice s.ta s.tasks.length s.tc] 25)
  have sc := SetCells.new w s 25
  have H := hs.keep (Keeps.of_below hb)
  have HB := hB.keep (Keeps.of_below hb)
  have l3 : s.tasks.length ≤ maxLen := Nat.le_trans hs.tasks.sl.2.1 hs.tasks.sl.2.2
  unfold maxLen at l3
  obtain ⟨T, HT0⟩ : ∃ T, Hid (tot (waitsL s bs of) = T) := ⟨_, hidp rfl⟩
  have hT := waitsT_bd s bs of
  rw [HT0.out] at hT
  obtain ⟨T0, T1⟩ := hT
  by_cases k : waitsK s bs of = true
  · have Hk := hidp k
    have hth := waitsK_there k
    obtain ⟨ho, r1, r2⟩ := thereB_true.1 hth
    obtain ⟨A, HA⟩ : ∃ A, Hid (sumK 1 (taskAt s of).parts = A) := ⟨_, hidp rfl⟩
    obtain ⟨B, HBb⟩ : ∃ B, Hid (sumK 2 (taskAt s of).parts = B) := ⟨_, hidp rfl⟩
    have hA := sum12_bd hth 1
    have hBb := sum12_bd hth 2
    rw [HA.out] at hA
    rw [HBb.out] at hBb
    obtain ⟨A0, A1⟩ := hA
    obtain ⟨B0, B1⟩ := hBb
    have Hv : Hid (ownV s bs of = A + B + T) := hidp (by unfold ownV; rw [if_pos k, HA.out, HBb.out, HT0.out])
    obtain ⟨n, rfl⟩ : ∃ n : Nat, of = n := ⟨of.toNat, by omega⟩
    have hn : n < s.tasks.length := by omega
    have hg := Good.of ho
    obtain ⟨t, HT⟩ : ∃ t, Hid (s.tasks.getD n default = t) := ⟨_, rfl⟩
    have hm : t ∈ s.tasks := HT.out ▸ getD_mem hn
    have TL : Hid (TaskLen w t) := hidp ⟨(hs.tasks.ok t hm).at_, (hg.parts t hm).lens, by have := (hg.parts t hm).len; omega⟩
    have e0 : taskAt s n = t := by unfold taskAt; simp only [Int.toNat_natCast]; exact HT.out
    rw [e0] at HA HBb
    obtain ⟨g, off, hA, hcl⟩ := hs.tasks.at_.resolve_left (by intro e; rw [e] at hn; simp at hn)
    have Htc := hidp (HT.out ▸ hcl n hn)
    have w1 : IntKind.i64.wrap (A + B) = A + B := IntWalk.i64_in _ (by omega)
    have w2 : IntKind.i64.wrap (A + B + T) = A + B + T := IntWalk.i64_in _ (by omega)
    clear hcl hm hg ho hs hB k hth e0 r1
    have dn : decide (s.tasks.length ≤ n) = false := by simp; omega
    obtain ⟨proto, ca, cc, cores, ha, hc, homes, ta, tc, tasks⟩ := s
    dsimp only at hA hn l3 r2 hb sc H dn ⊢
    subst hA
    go_enter Tryz.func78, Tryz.ntmps78
    go_wp2_with fail
    refine (wsum_any _ bs ba bc n _ H HB).mono ?_
    rintro e w3 ⟨rfl, hb2⟩
    replace hb := hb.trans (hb2.mono hb.size)
    replace sc := sc.keep (Keeps.of_below hb2)
    clear hb2
    try clear sc_0 sc_1 sc_2 sc_3
    have scx := sc
    obtain ⟨sc_0, sc_1, sc_2, sc_3⟩ := scx
    try dsimp only at sc_0 sc_1 sc_2 sc_3
    rw [HT0.out, Hk.out]
    obtain ⟨d0, d1, d2, d3, d4, d5⟩ := Htc.out.keep (Keeps.of_below hb)
    go_wp2_with fail
    have tb := (TaskBox.new w3 t 41).keep (Keeps.drew _)
    replace hb := (hb.alloc hb.size (.cells #[.string t.name, .int .i64 t.per, .int .i64 t.dl, .int .i64 t.prio, .int .i64 t.cl, .slice t.pa t.parts.length t.pc] 41)).drew
    clear d0 d1 d2 d3 d4 d5 sc_0 sc_1 sc_2 sc_3 sc H
    go_region_held3 (fun w' => w'.cell? ⟨w3.heap.size, 0, none⟩ = some (.string t.name) ∧ w'.cell? ⟨w3.heap.size, 1, none⟩ = some (.int .i64 t.per) ∧ w'.cell? ⟨w3.heap.size, 2, none⟩ = some (.int .i64 t.dl) ∧ w'.cell? ⟨w3.heap.size, 3, none⟩ = some (.int .i64 t.prio) ∧ w'.cell? ⟨w3.heap.size, 4, none⟩ = some (.int .i64 t.cl) ∧ w'.cell? ⟨w3.heap.size, 5, none⟩ = some (.slice t.pa t.parts.length t.pc)) (exact tb)
      (first
        | (go_at_call 108; refine (runs_any t _ (TL.out.keep (Keeps.of_below hb))).mono ?_; rintro e u ⟨rfl, hb3⟩; have tb := tb.keep (Keeps.of_below hb3); have hb := hb.trans (hb3.mono hb.size); rw [HA.out])
        | (go_at_call 109; refine (sleeps_any t _ (TL.out.keep (Keeps.of_below hb))).mono ?_; rintro e u ⟨rfl, hb3⟩; have tb := tb.keep (Keeps.of_below hb3); have hb := hb.trans (hb3.mono hb.size); rw [HBb.out]))
    clear w1 w2
    go_wp2_with fail
    go_ret2
    exact ⟨ret_ib Hv.out.symm Hk.out.symm, hb⟩
  · have k : waitsK s bs of = false := by simpa using k
    have Hk := hidp k
    have Hv : Hid (ownV s bs of = 0) := hidp (by unfold ownV; rw [k]; rfl)
    clear k hs hB
    go_enter Tryz.func78, Tryz.ntmps78
    go_wp2_with fail
    refine (wsum_any _ bs ba bc of _ H HB).mono ?_
    rintro e w3 ⟨rfl, hb2⟩
    replace hb := hb.trans (hb2.mono hb.size)
    replace sc := sc.keep (Keeps.of_below hb2)
    clear hb2
    rw [HT0.out, Hk.out]
    go_wp2
    go_ret2
    exact ⟨ret_ib Hv.out.symm Hk.out.symm, hb⟩

theorem workB_any (w0 b p e : Int) (w : World) (i0 : I64 w0) (i1 : I64 b) (i2 : I64 p) (i3 : I64 e) :
    Calls Tryz.prog 111 #[.int .i64 w0, .int .i64 b, .int .i64 p, .int .i64 e] w fun r w' => r = .returned (.int .i64 (workV w0 b p e)) ∧ Below w.heap.size w w' :=
  (work_any w0 b p e w i0 i1 i2 i3).mono fun r w' h => ⟨h.1, h.2.b⟩

set_option maxHeartbeats 4000000 in
set_option maxRecDepth 100000 in
theorem others17_any (s : SetR) (bs : List Int) (ba : Option Addr) (bc : Nat) (of wd : Int) (w : World) (hs : SetOk w s) (hB : IntsOk w ba bc bs) (hwd : I64 wd) : Calls Tryz.prog 79 #[.agg #[.int .i64 s.proto, .slice s.ca s.cores.length s.cc, .slice s.ha s.homes.length s.hc, .slice s.ta s.tasks.length s.tc], .slice ba bs.length bc, .int .i64 of, .int .i64 wd] w fun e w' => e = .returned (.int .i64 (othersV s bs of wd)) ∧ Below w.heap.size w w' := by
  have hb := (Below.refl w.heap.size w).alloc (Nat.le_refl _) (.cells #[.int .i64 s.proto, .slice s.ca s.cores.length s.cc, .slice s.ha s.homes.length s.hc, .slice s.ta s.tasks.length s.tc] 25)
  have sc := SetCells.new w s 25
  have H := hs.keep (Keeps.of_below hb)
  have l3 : s.tasks.length ≤ maxLen := Nat.le_trans hs.tasks.sl.2.1 hs.tasks.sl.2.2
  have l4 : bs.length ≤ maxLen := Nat.le_trans hB.sl.2.1 hB.sl.2.2
  unfold maxLen at l3 l4
  have Hwd := hidp hwd
  clear hwd
  by_cases e : thereB s of = true
  · have Hth := hidp e
    by_cases e2 : bs.length = s.tasks.length
    · have HL := hidp e2
      have d1 : ((bs.length : Int) != (s.tasks.length : Int)) = false := by simp [e2]
      obtain ⟨ho, r1, r2⟩ := thereB_true.1 e
      obtain ⟨c0, c1, c2, c3⟩ := cores_at e
      obtain ⟨n, rfl⟩ : ∃ n : Nat, of = n := ⟨of.toNat, by omega⟩
      have hn : n < s.tasks.length := by omega
      have hg := Good.of ho
      have n6 := hg.ntasks.2
      have Ho := hidp ho
      obtain ⟨cn, hcn⟩ : ∃ cn : Nat, (taskAt s n).cl = cn := ⟨(taskAt s n).cl.toNat, by omega⟩
      have hcl2 : cn < s.cores.length := by omega
      obtain ⟨nc, HNC⟩ : ∃ nc, Hid (s.cores.getD cn 0 = nc) := ⟨_, rfl⟩
      have e5 : s.cores.getD (taskAt s n).cl.toNat 0 = nc := by rw [hcn]; simpa using HNC.out
      rw [e5] at c2 c3
      obtain ⟨W, HW⟩ : ∃ W : Nat → Int, Hid (∀ k, othW s bs n wd 0 (s.tasks.take k) = W k) := ⟨fun k => othW s bs n wd 0 (s.tasks.take k), hidp (fun _ => rfl)⟩
      obtain ⟨E, HE⟩ : ∃ E : Nat → Int, Hid (∀ k : Nat, eachV s k n = E k) := ⟨fun k => eachV s k n, hidp (fun _ => rfl)⟩
      have HEb : Hid (∀ k, 0 ≤ E k ∧ E k ≤ 720) := hidp (fun k => by rw [← HE.out]; exact eachV_bd ho k n)
      have HW0 : Hid (W 0 = 0) := hidp (by rw [← HW.out]; simp [othW])
      have HWb : Hid (∀ k, 0 ≤ W k ∧ W k ≤ 6000000) := hidp (fun k => by
        rw [← HW.out]
        have h1 := othW_bd s bs n wd 0 (s.tasks.take k)
        have h2 : (s.tasks.take k).length ≤ 6 := by rw [List.length_take]; omega
        omega)
      have HWs : Hid (∀ k, k < s.tasks.length → W (k + 1) = W k + (if (k : Int) = n then 0 else workV wd (bs.getD k 0) (s.tasks.getD k default).per (E k))) := hidp (fun k hk => by rw [← HW.out, ← HW.out, ← HE.out]; exact othW_snoc s bs n wd s.tasks k hk)
      have HVy : Hid (nnB bs = true → othersV s bs n wd = W s.tasks.length / nc) := hidp (fun h => by
        unfold othersV; rw [if_pos ⟨othersB_true.2 ⟨e, e2⟩, h⟩, e5, ← HW.out, List.take_length])
      have HVn : Hid (nnB bs = false → othersV s bs n wd = 0) := hidp (fun h => by unfold othersV; rw [h, if_neg (fun g => by cases g.2)])
      have HR := hidp hs.tasks.at_
      have HRc := hidp hs.cores.at_
      have HBR := hidp hB.at_
      have HBw := hidp hB.wf
      have Hper := hidp (fun t ht => (hs.tasks.ok t ht).per)
      have HS1 : Hid (∀ u, Below w.heap.size w u → SetOk u s) := hidp (fun u h => hs.keep (Keeps.of_below h))
      have Hcn := hidp hcn
      have Hat : Hid ((s.tasks.getD n default).cl = cn) := hidp (by have := hcn; unfold taskAt at this; simpa using this)
      clear hg ho hs hB e e2 r1 HW c0 c1 e5 hcn
      obtain ⟨proto, ca, cc, cores, ha, hc, homes, ta, tc, tasks⟩ := s
      dsimp only at hn l3 r2 hb sc H d1 n6 hcl2 HR HRc HWs HL Hper HNC Hat HS1 Ho ⊢
      obtain ⟨g, off, hA, hcl⟩ := HR.out.resolve_left (by intro e; rw [e] at hn; simp at hn)
      subst hA
      have Hcl := hidp hcl
      obtain ⟨gc, oc, hCA, hcc⟩ := HRc.out.resolve_left (by intro e; rw [e] at hcl2; simp at hcl2)
      subst hCA
      have Hcc := hidp (HNC.out ▸ hcc cn hcl2)
      obtain ⟨gb, ob, hBA, hbl⟩ := HBR.out.resolve_left (by intro e; have := HL.out; rw [e] at this; simp at this; omega)
      subst hBA
      have Hbl := hidp hbl
      clear hcl hcc hbl
      have dn : decide (tasks.length ≤ n) = false := by simp; omega
      have dc : decide (cores.length ≤ cn) = false := by simp; omega
      have z0 : (nc == 0) = false := by simp; omega
      have z1 : (nc == -1) = false := by simp; omega
      go_enter Tryz.func79, Tryz.ntmps79
      go_wp2
      go_step3
      go_wp2_with fail
      refine (there17_any _ _ _ H).mono ?_
      rintro e w2 ⟨rfl, hb2⟩
      replace hb := hb.trans (hb2.mono hb.size)
      replace sc := sc.keep (Keeps.of_below hb2)
      clear hb2
      try clear sc_0 sc_1 sc_2 sc_3
      have scx := sc
      obtain ⟨sc_0, sc_1, sc_2, sc_3⟩ := scx
      try dsimp only at sc_0 sc_1 sc_2 sc_3
      rw [Hth.out]
      go_wp2
      go_step3
      go_wp2
      clear sc_0 sc_1 sc_2 sc_3
      go_loopg [9, 27] tasks.length (fun gg a i wr => ∃ (k : Nat) (x : Int), k + gg = tasks.length ∧ i = .int .i64 k ∧ a = .int .i64 x ∧ Hid (W k = x) ∧ Hid (∀ j, j < k → 0 ≤ bs.getD j 0) ∧ SetCells wr w.heap.size ⟨proto, some ⟨gc, oc, none⟩, cc, cores, ha, hc, homes, some ⟨g, off, none⟩, tc, tasks⟩ ∧ Below w.heap.size w wr)
      case atStart => exact ⟨0, 0, by omega, rfl, rfl, HW0, hidp (fun j hj => by omega), sc, hb⟩
      case round =>
        clear sc hb
        obtain ⟨k, x, hk, rfl, rfl, Hx, Hnn, sc, hw⟩ := hrel
        have hx := HWb.out k
        rw [Hx.out] at hx
        obtain ⟨x0, x1⟩ := hx
        by_cases hlt : k < tasks.length
        · obtain ⟨t, HT⟩ : ∃ t, Hid (tasks.getD k default = t) := ⟨_, rfl⟩
          have hkb : k < bs.length := by rw [HL.out]; exact hlt
          obtain ⟨b, Hb⟩ : ∃ b, Hid (bs.getD k 0 = b) := ⟨_, rfl⟩
          have hb64 := HBw.out b (by rw [← Hb.out]; exact getD_mem (α := Int) hkb)
          have hp64 := Hper.out t (HT.out ▸ getD_mem hlt)
          obtain ⟨d0, d1', d2, d3, d4, d5⟩ := (HT.out ▸ Hcl.out k hlt).keep (Keeps.of_below hw)
          have hw1 := hw.alloc hw.size (.cells #[.string t.name, .int .i64 t.per, .int .i64 t.dl, .int .i64 t.prio, .int .i64 t.cl, .slice t.pa t.parts.length t.pc] 41)
          have hbc := Keeps.of_below hw1 _ _ (Hb.out ▸ Hbl.out k hkb)
          have sc1 := sc.keep (Keeps.alloc wr (.cells #[.string t.name, .int .i64 t.per, .int .i64 t.dl, .int .i64 t.prio, .int .i64 t.cl, .slice t.pa t.parts.length t.pc] 41))
          have hkI : (k : Int) < (bs.length : Int) := by omega
          have Hb64 := hidp hb64
          have Hp64 := hidp hp64
          clear hb64 hp64
          by_cases e : b < 0
          · have Hz := hidp (HVn.out (nn_not hkb (by rw [Hb.out]; exact e)))
            go_wp2_with fail
            try rw [Exit.noGoto_ret]
            go_ret
            exact ⟨ret_int Hz.out.symm, hw1⟩
          · have hb0 : 0 ≤ b := by omega
            have Hnn' : Hid (∀ j, j < k + 1 → 0 ≤ bs.getD j 0) := hidp (fun j hj => by
              by_cases ej : j = k
              · subst ej; rw [Hb.out]; exact hb0
              · exact Hnn.out j (by omega))
            by_cases e3 : (k : Int) = n
            · have e4 : ((k : Int) == (n : Int)) = true := by simpa using e3
              have Hz : Hid (W (k + 1) = x) := hidp (by rw [HWs.out k hlt, if_pos e3, Hx.out]; omega)
              clear e3
              go_wp2_with fail
              go_roundg (gk - 1)
              case measure => omega
              case rel => exact ⟨k + 1, x, by omega, by go_num, rfl, Hz, Hnn', sc1, hw1⟩
            · have e4 : ((k : Int) == (n : Int)) = false := by simpa using e3
              obtain ⟨v, Hv⟩ : ∃ v, Hid (workV wd b t.per (E k) = v) := ⟨_, hidp rfl⟩
              have Hz : Hid (W (k + 1) = x + v) := hidp (by rw [HWs.out k hlt, if_neg e3, Hx.out, Hb.out, HT.out, Hv.out])
              have hv := workV_bd wd b t.per (E k)
              rw [Hv.out] at hv
              obtain ⟨v0, v1⟩ := hv
              have hEk := HEb.out k
              have HE64 : Hid (I64 (E k)) := hidp (by unfold I64; omega)
              have hwr : IntKind.i64.wrap (x + v) = x + v := IntWalk.i64_in _ (by omega)
              have hsv := Keeps.drew _ _ _ hbc
              have pb : (wr.alloc (.cells #[.string t.name, .int .i64 t.per, .int .i64 t.dl, .int .i64 t.prio, .int .i64 t.cl, .slice t.pa t.parts.length t.pc] 41)).drew.cell? ⟨wr.heap.size, 1, none⟩ = some (.int .i64 t.per) := by simp
              obtain ⟨s0, s1, s2, s3⟩ := sc1.keep (Keeps.drew _)
              have hb := hw1.drew
              clear e3 hEk
              go_wp2_with fail
              clear d0 d1' d2 d3 d4 d5 sc sc1 hw1 hbc
              go_region_held3 (fun w' => w'.cell? ⟨gb, ob + k, none⟩ = some (.int .i64 b) ∧ w'.cell? ⟨wr.heap.size, 1, none⟩ = some (.int .i64 t.per) ∧ w'.cell? ⟨w.heap.size, 0, none⟩ = some (.int .i64 proto) ∧ w'.cell? ⟨w.heap.size, 1, none⟩ = some (.slice (some ⟨gc, oc, none⟩) cores.length cc) ∧ w'.cell? ⟨w.heap.size, 2, none⟩ = some (.slice ha homes.length hc) ∧ w'.cell? ⟨w.heap.size, 3, none⟩ = some (.slice (some ⟨g, off, none⟩) tasks.length tc)) (exact ⟨hsv, pb, s0, s1, s2, s3⟩)
                (first
                  | (go_at_call 112; refine (each_any _ k n _ (HS1.out _ hb) Ho.out hlt hn).mono ?_; rintro e u ⟨rfl, hb3⟩; have hsv := Keeps.of_below hb3 _ _ hsv; have pb := Keeps.of_below hb3 _ _ pb; have s0 := Keeps.of_below hb3 _ _ s0; have s1 := Keeps.of_below hb3 _ _ s1; have s2 := Keeps.of_below hb3 _ _ s2; have s3 := Keeps.of_below hb3 _ _ s3; have hb := hb.trans (hb3.mono hb.size); rw [HE.out])
                  | (go_at_call 111; refine (workB_any wd b t.per (E k) _ Hwd.out Hb64.out Hp64.out HE64.out).mono ?_; rintro e u ⟨rfl, hb3⟩; have hsv := Keeps.of_below hb3 _ _ hsv; have pb := Keeps.of_below hb3 _ _ pb; have s0 := Keeps.of_below hb3 _ _ s0; have s1 := Keeps.of_below hb3 _ _ s1; have s2 := Keeps.of_below hb3 _ _ s2; have s3 := Keeps.of_below hb3 _ _ s3; have hb := hb.trans (hb3.mono hb.size); rw [Hv.out]))
              clear hwr
              go_wp2_with fail
              go_roundg (gk - 1)
              case measure => omega
              case rel => exact ⟨k + 1, x + v, by omega, by go_num, rfl, Hz, Hnn', ⟨s0, s1, s2, s3⟩, hb⟩
        · obtain rfl : k = tasks.length := by omega
          have hnn : nnB bs = true := nn_yes (fun j hj => Hnn.out j (by rw [← HL.out]; exact hj))
          have Hz := hidp (HVy.out hnn)
          obtain ⟨q, hq⟩ : ∃ q, x.tdiv nc = q := ⟨_, rfl⟩
          have Hq : Hid (q = x / nc) := hidp (by rw [← hq, Int.tdiv_eq_ediv_of_nonneg x0])
          have q0 : 0 ≤ q := by rw [Hq.out]; exact Int.ediv_nonneg x0 (by omega)
          have q1 : q ≤ 6000000 := by rw [Hq.out]; exact Int.le_trans (Int.ediv_le_self _ x0) x1
          obtain ⟨s0, s1, s2, s3⟩ := id sc
          dsimp only at s0 s1 s2 s3
          have k4 := Keeps.of_below hw _ _ Hcc.out
          have k5 := Keeps.of_below hw _ _ (Hcl.out n hn).2.2.2.2.1
          rw [Hat.out] at k5
          have cI : (cn : Int) < (cores.length : Int) := by omega
          have nI : (n : Int) < (tasks.length : Int) := by omega
          clear hnn
          go_wp2_with fail
          go_quiet (fail)
          go_wp2
          try rw [Exit.noGoto_ret]
          go_ret
          exact ⟨ret_int (by rw [Hz.out, Hq.out, Hx.out]), below_drewN hw _⟩
    · have Hv : Hid (othersV s bs of wd = 0) := hidp (by unfold othersV; rw [if_neg (fun h => e2 (othersB_true.1 h.1).2)])
      have d1 : ((bs.length : Int) != (s.tasks.length : Int)) = true := by simp; omega
      clear e e2
      go_enter Tryz.func79, Tryz.ntmps79
      go_wp2
      go_step3
      go_wp2_with fail
      refine (there17_any _ _ _ H).mono ?_
      rintro e w2 ⟨rfl, hb2⟩
      replace hb := hb.trans (hb2.mono hb.size)
      replace sc := sc.keep (Keeps.of_below hb2)
      clear hb2
      try clear sc_0 sc_1 sc_2 sc_3
      have scx := sc
      obtain ⟨sc_0, sc_1, sc_2, sc_3⟩ := scx
      try dsimp only at sc_0 sc_1 sc_2 sc_3
      rw [Hth.out]
      go_wp2
      try rw [Exit.noGoto_ret]
      go_ret
      exact ⟨ret_int Hv.out.symm, hb⟩
  · have Hv : Hid (othersV s bs of wd = 0) := hidp (by unfold othersV; rw [if_neg (fun h => e (othersB_true.1 h.1).1)])
    have Hth : Hid (thereB s of = false) := hidp (by simpa using e)
    clear e
    go_enter Tryz.func79, Tryz.ntmps79
    go_wp2
    go_step3
    go_wp2_with fail
    refine (there17_any _ _ _ H).mono ?_
    rintro e w2 ⟨rfl, hb2⟩
    replace hb := hb.trans (hb2.mono hb.size)
    replace sc := sc.keep (Keeps.of_below hb2)
    clear hb2
    try clear sc_0 sc_1 sc_2 sc_3
    have scx := sc
    obtain ⟨sc_0, sc_1, sc_2, sc_3⟩ := scx
    try dsimp only at sc_0 sc_1 sc_2 sc_3
    rw [Hth.out]
    go_wp2
    try rw [Exit.noGoto_ret]
    go_ret
    exact ⟨ret_int Hv.out.symm, hb⟩

set_option maxHeartbeats 2000000 in
set_option maxRecDepth 100000 in
theorem next_any (s : SetR) (bs : List Int) (ba : Option Addr) (bc : Nat) (of : Int) (w : World) (hs : SetOk w s) (hB : IntsOk w ba bc bs) : Calls Tryz.prog 60 #[.agg #[.int .i64 s.proto, .slice s.ca s.cores.length s.cc, .slice s.ha s.homes.length s.hc, .slice s.ta s.tasks.length s.tc], .slice ba bs.length bc, .int .i64 of] w fun e w' => e = .returned (.tuple #[.int .i64 (nextV s bs of), .bool (nextK s bs of)]) ∧ Below w.heap.size w w' := by
  have hb := (Below.refl w.heap.size w).alloc (Nat.le_refl _) (.cells #[.int .i64 s.proto, .slice s.ca s.cores.length s.cc, .slice s.ha s.homes.length s.hc, .slice s.ta s.tasks.length s.tc] 25)
  have sc := SetCells.new w s 25
  have H := hs.keep (Keeps.of_below hb)
  have HB := hB.keep (Keeps.of_below hb)
  have l3 : s.tasks.length ≤ maxLen := Nat.le_trans hs.tasks.sl.2.1 hs.tasks.sl.2.2
  have l4 : bs.length ≤ maxLen := Nat.le_trans hB.sl.2.1 hB.sl.2.2
  unfold maxLen at l3 l4
  obtain ⟨O, HO⟩ : ∃ V, Hid (ownV s bs of = V) := ⟨_, hidp rfl⟩
  have hO := ownV_bd s bs of
  rw [HO.out] at hO
  obtain ⟨O0, O1⟩ := hO
  by_cases k : waitsK s bs of = true
  · have Hk := hidp k
    by_cases e2 : bs.length = s.tasks.length
    · have d1 : ((bs.length : Int) != (s.tasks.length : Int)) = false := by simp [e2]
      obtain ⟨ho, r1, r2⟩ := thereB_true.1 (waitsK_there k)
      obtain ⟨n, rfl⟩ : ∃ n : Nat, of = n := ⟨of.toNat, by omega⟩
      have hnb : n < bs.length := by omega
      obtain ⟨b, Hb⟩ : ∃ b, Hid (bs.getD n 0 = b) := ⟨_, rfl⟩
      have hb64 := hB.wf b (by rw [← Hb.out]; exact getD_mem (α := Int) hnb)
      obtain ⟨P, HP⟩ : ∃ V, Hid (othersV s bs n b = V) := ⟨_, hidp rfl⟩
      have hP := othersV_bd s bs n b
      rw [HP.out] at hP
      obtain ⟨P0, P1⟩ := hP
      have HK : Hid (nextK s bs n = true) := hidp (nextK_true.2 ⟨k, e2⟩)
      have HV : Hid (nextV s bs n = O + P) := hidp (by unfold nextV; rw [if_pos HK.out, HO.out]; simp only [Int.toNat_natCast]; rw [Hb.out, HP.out])
      have hwr : IntKind.i64.wrap (O + P) = O + P := IntWalk.i64_in _ (by omega)
      obtain ⟨gb, ob, hBA, hbl⟩ := hB.at_.resolve_left (by intro e; rw [e] at hnb; simp at hnb)
      have Hbc := hidp (Hb.out ▸ hbl n hnb)
      have nI : (n : Int) < (bs.length : Int) := by omega
      clear hbl hs hB k e2 ho r1 r2
      subst hBA
      go_enter Tryz.func60, Tryz.ntmps60
      go_wp2_with fail
      refine (own_any s bs _ bc n _ H HB).mono ?_
      rintro e w2 ⟨rfl, hb2⟩
      replace hb := hb.trans (hb2.mono hb.size)
      replace sc := sc.keep (Keeps.of_below hb2)
      replace H := H.keep (Keeps.of_below hb2)
      replace HB := HB.keep (Keeps.of_below hb2)
      clear hb2
      try clear sc_0 sc_1 sc_2 sc_3
      have scx := sc
      obtain ⟨sc_0, sc_1, sc_2, sc_3⟩ := scx
      try dsimp only at sc_0 sc_1 sc_2 sc_3
      rw [HO.out, Hk.out]
      go_wp2_with fail
      have pb := Keeps.of_below hb _ _ Hbc.out
      have H' := H.keep (Keeps.drew _)
      have HB' := HB.keep (Keeps.drew _)
      have hsv := Keeps.drew _ _ _ pb
      obtain ⟨s0, s1, s2, s3⟩ := sc.keep (Keeps.drew _)
      replace hb := hb.drew
      clear sc_0 sc_1 sc_2 sc_3 sc H HB pb
      go_region_held3 (fun w' => w'.cell? ⟨gb, ob + n, none⟩ = some (.int .i64 b) ∧ w'.cell? ⟨w.heap.size, 0, none⟩ = some (.int .i64 s.proto) ∧ w'.cell? ⟨w.heap.size, 1, none⟩ = some (.slice s.ca s.cores.length s.cc) ∧ w'.cell? ⟨w.heap.size, 2, none⟩ = some (.slice s.ha s.homes.length s.hc) ∧ w'.cell? ⟨w.heap.size, 3, none⟩ = some (.slice s.ta s.tasks.length s.tc)) (exact ⟨hsv, s0, s1, s2, s3⟩)
        (first
          | (go_at_call 79; refine (others17_any s bs _ bc n b _ H' HB' hb64).mono ?_; rintro e u ⟨rfl, hb3⟩; have hsv := Keeps.of_below hb3 _ _ hsv; have s0 := Keeps.of_below hb3 _ _ s0; have s1 := Keeps.of_below hb3 _ _ s1; have s2 := Keeps.of_below hb3 _ _ s2; have s3 := Keeps.of_below hb3 _ _ s3; have H' := H'.keep (Keeps.of_below hb3); have HB' := HB'.keep (Keeps.of_below hb3); have hb := hb.trans (hb3.mono hb.size); rw [HP.out]))
      clear hwr
      go_wp2_with fail
      go_ret2
      exact ⟨ret_ib HV.out.symm HK.out.symm, hb⟩
    · have d1 : ((bs.length : Int) != (s.tasks.length : Int)) = true := by simp; omega
      have hk : nextK s bs of = false := by rw [Bool.eq_false_iff]; intro h; exact e2 (nextK_true.1 h).2
      have HK := hidp hk
      have HV : Hid (nextV s bs of = 0) := hidp (by unfold nextV; rw [hk]; rfl)
      clear k e2 hk
      go_enter Tryz.func60, Tryz.ntmps60
      go_wp2_with fail
      refine (own_any s bs ba bc of _ H HB).mono ?_
      rintro e w2 ⟨rfl, hb2⟩
      replace hb := hb.trans (hb2.mono hb.size)
      replace sc := sc.keep (Keeps.of_below hb2)
      clear hb2
      try clear sc_0 sc_1 sc_2 sc_3
      have scx := sc
      obtain ⟨sc_0, sc_1, sc_2, sc_3⟩ := scx
      try dsimp only at sc_0 sc_1 sc_2 sc_3
      rw [HO.out, Hk.out]
      go_wp2
      go_ret2
      exact ⟨ret_ib HV.out.symm HK.out.symm, hb⟩
  · have k : waitsK s bs of = false := by simpa using k
    have Hk := hidp k
    have hk : nextK s bs of = false := by unfold nextK; rw [k]; rfl
    have HK := hidp hk
    have HV : Hid (nextV s bs of = 0) := hidp (by unfold nextV; rw [hk]; rfl)
    clear k hk
    go_enter Tryz.func60, Tryz.ntmps60
    go_wp2_with fail
    refine (own_any s bs ba bc of _ H HB).mono ?_
    rintro e w2 ⟨rfl, hb2⟩
    replace hb := hb.trans (hb2.mono hb.size)
    replace sc := sc.keep (Keeps.of_below hb2)
    clear hb2
    try clear sc_0 sc_1 sc_2 sc_3
    have scx := sc
    obtain ⟨sc_0, sc_1, sc_2, sc_3⟩ := scx
    try dsimp only at sc_0 sc_1 sc_2 sc_3
    rw [HO.out, Hk.out]
    go_wp2
    go_ret2
    exact ⟨ret_ib HV.out.symm HK.out.symm, hb⟩
end Go.Proofs.YtjjlpaampmpdfaaGreatDoor

namespace Go.Proofs.YtjjlpaampmpdfaaGreatDoor
open Go.ChangeShapes Go.WideShapes Go.ChangeAt Go.RowKit
set_option linter.unusedVariables false
set_option linter.unusedSimpArgs false

set_option maxHeartbeats 4000000 in
set_option maxRecDepth 100000 in
theorem soonest_any (s : SetR) (w : World) (hs : SetOk w s) (ho : okS s = true) : Calls Tryz.prog 40 #[.agg #[.int .i64 s.proto, .slice s.ca s.cores.length s.cc, .slice s.ha s.homes.length s.hc, .slice s.ta s.tasks.length s.tc]] w fun e w' => ∃ A c, e = .returned (.slice A (soonL s).length c) ∧ IntsOk w' A c (soonL s) ∧ Below w.heap.size w w' := by
  have hb := (Below.refl w.heap.size w).alloc (Nat.le_refl _) (.cells #[.int .i64 s.proto, .slice s.ca s.cores.length s.cc, .slice s.ha s.homes.length s.hc, .slice s.ta s.tasks.length s.tc] 25)
  have sc := SetCells.new w s 25
  have hg := Good.of ho
  have n6 := hg.ntasks.2
  have HR := hidp hs.tasks.at_
  have Hok := hidp hs.tasks.ok
  have HG := hidp hg.parts
  have HF := hidp (soonL_ok ho)
  obtain ⟨f, Hf⟩ : ∃ f : Nat → Int, Hid (∀ k, allK (s.tasks.getD k default).parts = f k) := ⟨fun k => allK (s.tasks.getD k default).parts, hidp (fun _ => rfl)⟩
  have Hso : Hid (soonL s = (List.range s.tasks.length).map f) := hidp (by
    unfold soonL
    apply List.ext_getElem
    · simp
    · intro i h1 h2
      have hi : i < s.tasks.length := by simpa using h1
      have := Hf.out i
      simp [List.getD, hi] at this
      simpa using this)
  obtain ⟨i0, hi0, hy0, hy1, hy2⟩ := info_parts infoZ
  rw [Hso.out] at HF
  rw [Hso.out]
  clear hs ho hg
  obtain ⟨proto, ca, cc, cores, ha, hc, homes, ta, tc, tasks⟩ := s
  dsimp only at HR Hok HG n6 hb sc HF Hf ⊢
  obtain ⟨sc_0, sc_1, sc_2, sc_3⟩ := id sc
  dsimp only at sc_0 sc_1 sc_2 sc_3
  have hz0 : w.heap.size + 1 ≤ (w.alloc (.cells #[.int .i64 proto, .slice ca cores.length cc, .slice ha homes.length hc, .slice ta tasks.length tc] 25)).heap.size := by simp
  go_enter Tryz.func40, Tryz.ntmps40
  go_wp2
  clear sc_0 sc_1 sc_2 sc_3 sc
  go_loopg [3, 12] tasks.length (fun gg a i wr => ∃ (k c : Nat) (A : Option Addr), k + gg = tasks.length ∧ i = .int .i64 k ∧ a = .slice A k c ∧ OwnN (w.heap.size + 1) wr A k c ((List.range k).map f) ∧ Below w.heap.size w wr ∧ w.heap.size + 1 ≤ wr.heap.size)
  case atStart => exact ⟨0, 0, none, by omega, rfl, rfl, OwnN.none _ _, hb, hz0⟩
  case round =>
    clear hb hz0
    obtain ⟨k, c, A, hk, rfl, rfl, ho, hw, hz⟩ := hrel
    by_cases hlt : k < tasks.length
    · obtain ⟨g, off, hA, hcl⟩ := HR.out.resolve_left (by intro e; rw [e] at hlt; simp at hlt)
      subst hA
      obtain ⟨t, HT⟩ : ∃ t, Hid (tasks.getD k default = t) := ⟨_, rfl⟩
      have hm : t ∈ tasks := HT.out ▸ getD_mem hlt
      obtain ⟨d0, d1, d2, d3, d4, d5⟩ := (HT.out ▸ hcl k hlt).keep (Keeps.of_below hw)
      have hw1 := hw.alloc hw.size (.cells #[.string t.name, .int .i64 t.per, .int .i64 t.dl, .int .i64 t.prio, .int .i64 t.cl, .slice t.pa t.parts.length t.pc] 41)
      have ho1 := ho.turned ((Turned.refl [] wr).alloc (.cells #[.string t.name, .int .i64 t.per, .int .i64 t.dl, .int .i64 t.prio, .int .i64 t.cl, .slice t.pa t.parts.length t.pc] 41)) (by simp)
      have hz1 : w.heap.size + 1 ≤ (wr.alloc (.cells #[.string t.name, .int .i64 t.per, .int .i64 t.dl, .int .i64 t.prio, .int .i64 t.cl, .slice t.pa t.parts.length t.pc] 41)).heap.size := Nat.le_trans hz (by simp)
      have HP := hidp (Hok.out t hm).at_
      have HL := hidp (HG.out t hm).lens
      have hl6 := (HG.out t hm).len
      have Hfk : Hid (allK t.parts = f k) := hidp (by rw [← Hf.out, HT.out])
      obtain ⟨hl0, hl1⟩ := hl6
      clear hcl hm ho hw hz
      go_wp2
      clear d0 d1 d2 d3 d4 d5
      go_loopg [6, 19] t.parts.length (fun g2 a i w5 => ∃ (j : Nat) (x : Int), j + g2 = t.parts.length ∧ i = .int .i64 j ∧ a = .int .i64 x ∧ Hid (allK (t.parts.take j) = x) ∧ OwnN (w.heap.size + 1) w5 A k c ((List.range k).map f) ∧ Below w.heap.size w w5 ∧ w.heap.size + 1 ≤ w5.heap.size)
      case atStart => exact ⟨0, 0, by omega, rfl, rfl, hidp (by simp [allK]), ho1, hw1, hz1⟩
      case round =>
        clear ho1 hw1 hz1
        obtain ⟨j, x, hj, rfl, rfl, Hx, ho2, hw2, hz2⟩ := hrel
        have hx := allK_bd (HL.out.take j)
        rw [Hx.out, List.length_take] at hx
        obtain ⟨x0, x1⟩ := hx
        have x2 : x ≤ 360 := by omega
        clear x1
        by_cases hlt2 : j < t.parts.length
        · obtain ⟨gp, op, hPA, hpc⟩ := HP.out.resolve_left (by intro e; rw [e] at hlt2; simp at hlt2)
          obtain ⟨p, Hp⟩ : ∃ p, Hid (t.parts.getD j default = p) := ⟨_, rfl⟩
          have pcl := (Hp.out ▸ hpc j hlt2).keep (Keeps.of_below hw2)
          obtain ⟨c0, c1, c2⟩ := pcl
          have hp := HL.out p (Hp.out ▸ getD_mem hlt2)
          obtain ⟨p0, p1⟩ := hp
          have Hs : Hid (allK (t.parts.take (j + 1)) = x + p.len) := hidp (by rw [allK_snoc _ _ hlt2, Hx.out, Hp.out])
          have hw3 := hw2.alloc hw2.size (.cells #[.int .i64 p.kind, .int .i64 p.len, .int .i64 p.res] 38)
          have ho3 := ho2.turned ((Turned.refl [] wr).alloc (.cells #[.int .i64 p.kind, .int .i64 p.len, .int .i64 p.res] 38)) (by simp)
          have hz3 : w.heap.size + 1 ≤ (wr.alloc (.cells #[.int .i64 p.kind, .int .i64 p.len, .int .i64 p.res] 38)).heap.size := Nat.le_trans hz2 (by simp)
          clear hpc ho2 hw2 hz2
          go_wp2
          go_roundg (gk - 1)
          case measure => omega
          case rel => exact ⟨j + 1, x + p.len, by omega, by go_num, rfl, Hs, ho3, hw3, hz3⟩
        · have hjn : j = t.parts.length := by omega
          have Hz : Hid (f k = x) := hidp (by rw [← Hfk.out, ← Hx.out, hjn, List.take_length])
          have N2 : Hid (k + 1 ≤ maxLen) := hidp (by unfold maxLen; omega)
          have T2 : Hid ((k + 1) * 8 ≤ 140737488355328) := hidp (by omega)
          have ho4 := ho2.turned ((Turned.refl [] wr).alloc (.cells #[.int .i64 x] 3)) (by simp)
          have S2 := hidp (Lies.newCells' wr [.int .i64 x] 3)
          have Z2 : Hid (w.heap.size + 1 ≤ (wr.alloc (.cells #[.int .i64 x] 3)).heap.size) := hidp (Nat.le_trans hz2 (by simp))
          have hw4 := hw2.alloc hw2.size (.cells #[.int .i64 x] 3)
          have O2 := hidp (ints_one x)
          have Hfp := hidp (own_fp ho4.own)
          clear ho2 hw2 hz2 hjn
          go_wp2_with (at_builtin; refine wpList_app2 _ rfl (.tmp 28) (.tmp 30) 22 rfl (w.heap.size + 1) 3 i0 _ 1 8 Tryz.underlying22 hi0 hy0 hy1 hy2 rfl (by decide) A k c _ rfl ho4.own _ _ 1 1 [.int .i64 x] rfl (by simp) rfl S2.out O2.out N2.out T2.out Z2.out ?_; intro A' c' w6 happ)
          go_roundg (tasks.length - k - 1)
          case measure => omega
          case rel => exact ⟨k + 1, c', A', by omega, by go_num, rfl, by rw [range_snoc, Hz.out]; exact ho4.app (ps := [x]) happ rfl, hw4.trans (happ.turned.below hw4.size (fun j hj => by have := (Hfp.out _ hj).1; omega)), Nat.le_trans Z2.out happ.turned.size⟩
    · obtain rfl : k = tasks.length := by omega
      have hrow := ho.ok (fun x hx => by have := HF.out x hx; unfold I64; omega)
      have Hr := hidp hrow
      clear hrow
      go_wp2
      go_ret
      exact ⟨A, c, by simp, Hr.out, hw⟩

set_option maxHeartbeats 4000000 in
set_option maxRecDepth 100000 in
theorem round_any (s : SetR) (bs : List Int) (ba : Option Addr) (bc : Nat) (w : World) (hs : SetOk w s) (hB : IntsOk w ba bc bs) (hn : s.tasks.length ≤ 6) : Calls Tryz.prog 41 #[.agg #[.int .i64 s.proto, .slice s.ca s.cores.length s.cc, .slice s.ha s.homes.length s.hc, .slice s.ta s.tasks.length s.tc], .slice ba bs.length bc] w (RowK w (roundL s bs) (roundB s bs)) := by
  have hb := (Below.refl w.heap.size w).alloc (Nat.le_refl _) (.cells #[.int .i64 s.proto, .slice s.ca s.cores.length s.cc, .slice s.ha s.homes.length s.hc, .slice s.ta s.tasks.length s.tc] 25)
  have sc := SetCells.new w s 25
  have HR := hidp hs.tasks.at_
  obtain ⟨N, HN⟩ : ∃ f : Nat → Int, Hid (∀ k : Nat, nextV s bs k = f k) := ⟨fun k => nextV s bs k, hidp (fun _ => rfl)⟩
  obtain ⟨K, HK⟩ : ∃ f : Nat → Bool, Hid (∀ k : Nat, nextK s bs k = f k) := ⟨fun k => nextK s bs k, hidp (fun _ => rfl)⟩
  have HNb : Hid (∀ k, 0 ≤ N k ∧ N k ≤ 6100000) := hidp (fun k => by rw [← HN.out]; exact nextV_bd s bs k)
  obtain ⟨L, HL⟩ : ∃ L, Hid (roundL s bs = L) := ⟨_, hidp rfl⟩
  obtain ⟨R, HRd⟩ : ∃ L, Hid (roundB s bs = L) := ⟨_, hidp rfl⟩
  have Hoff : Hid (∀ k, k < s.tasks.length → (K k && decide (N k ≤ (s.tasks.getD k default).dl)) = false → R = false ∧ L = []) := hidp (fun k hk h => by
    have e : roundB s bs = false := upTo_not hk (by unfold stepB; rw [HN.out, HK.out]; exact h)
    rw [← HRd.out, ← HL.out]
    exact ⟨e, by unfold roundL; rw [e]; rfl⟩)
  have Hyes : Hid ((∀ k, k < s.tasks.length → (K k && decide (N k ≤ (s.tasks.getD k default).dl)) = true) → R = true ∧ L = (List.range s.tasks.length).map N) := hidp (fun h => by
    have e : roundB s bs = true := (upTo_iff _ _).2 (fun k hk => by unfold stepB; rw [HN.out, HK.out]; exact h k hk)
    rw [← HRd.out, ← HL.out]
    refine ⟨e, ?_⟩
    unfold roundL nextRow
    rw [if_pos e]
    exact List.map_congr_left (fun i _ => HN.out i))
  have HS1 := hidp (fun u (h : Below w.heap.size w u) => hs.keep (Keeps.of_below h))
  have HB1 := hidp (fun u (h : Below w.heap.size w u) => hB.keep (Keeps.of_below h))
  obtain ⟨i0, hi0, hy0, hy1, hy2⟩ := info_parts infoZ
  rw [HL.out, HRd.out]
  clear hs hB HL HRd
  obtain ⟨proto, ca, cc, cores, ha, hc, homes, ta, tc, tasks⟩ := s
  dsimp only at HR hn hb sc HS1 Hoff Hyes ⊢
  obtain ⟨sc_0, sc_1, sc_2, sc_3⟩ := id sc
  dsimp only at sc_0 sc_1 sc_2 sc_3
  have hz0 : w.heap.size + 1 ≤ (w.alloc (.cells #[.int .i64 proto, .slice ca cores.length cc, .slice ha homes.length hc, .slice ta tasks.length tc] 25)).heap.size := by simp
  go_enter Tryz.func41, Tryz.ntmps41
  go_wp2
  clear sc_0 sc_1 sc_2 sc_3
  go_loopg [6, 14] tasks.length (fun gg a i wr => ∃ (k c : Nat) (A : Option Addr), k + gg = tasks.length ∧ i = .int .i64 k ∧ a = .slice A k c ∧ Hid (∀ j, j < k → (K j && decide (N j ≤ (tasks.getD j default).dl)) = true) ∧ OwnN (w.heap.size + 1) wr A k c ((List.range k).map N) ∧ SetCells wr w.heap.size ⟨proto, ca, cc, cores, ha, hc, homes, ta, tc, tasks⟩ ∧ Below w.heap.size w wr ∧ w.heap.size + 1 ≤ wr.heap.size)
  case atStart => exact ⟨0, 0, none, by omega, rfl, rfl, hidp (fun j hj => by omega), OwnN.none _ _, sc, hb, hz0⟩
  case round =>
    clear hb hz0 sc
    obtain ⟨k, c, A, hk, rfl, rfl, Hk, ho, sc, hw, hz⟩ := hrel
    by_cases hlt : k < tasks.length
    · obtain ⟨g, off, hA, hcl⟩ := HR.out.resolve_left (by intro e; rw [e] at hlt; simp at hlt)
      subst hA
      obtain ⟨t, HT⟩ : ∃ t, Hid (tasks.getD k default = t) := ⟨_, rfl⟩
      obtain ⟨d0, d1, d2, d3, d4, d5⟩ := (HT.out ▸ hcl k hlt).keep (Keeps.of_below hw)
      have hw1 := hw.alloc hw.size (.cells #[.string t.name, .int .i64 t.per, .int .i64 t.dl, .int .i64 t.prio, .int .i64 t.cl, .slice t.pa t.parts.length t.pc] 41)
      have ho1 := ho.turned ((Turned.refl [] wr).alloc (.cells #[.string t.name, .int .i64 t.per, .int .i64 t.dl, .int .i64 t.prio, .int .i64 t.cl, .slice t.pa t.parts.length t.pc] 41)) (by simp)
      have hz1 : w.heap.size + 1 ≤ (wr.alloc (.cells #[.string t.name, .int .i64 t.per, .int .i64 t.dl, .int .i64 t.prio, .int .i64 t.cl, .slice t.pa t.parts.length t.pc] 41)).heap.size := Nat.le_trans hz (by simp)
      have sc1 := sc.keep (Keeps.alloc wr (.cells #[.string t.name, .int .i64 t.per, .int .i64 t.dl, .int .i64 t.prio, .int .i64 t.cl, .slice t.pa t.parts.length t.pc] 41))
      have tb := TaskBox.new wr t 41
      obtain ⟨sc_0, sc_1, sc_2, sc_3⟩ := id sc1
      dsimp only at sc_0 sc_1 sc_2 sc_3
      obtain ⟨v, Hv⟩ : ∃ v, Hid (N k = v) := ⟨_, hidp rfl⟩
      obtain ⟨b, Hb⟩ : ∃ v, Hid (K k = v) := ⟨_, hidp rfl⟩
      have hvb := HNb.out k
      rw [Hv.out] at hvb
      obtain ⟨v0, v1⟩ := hvb
      clear hcl ho hw hz sc
      go_wp2_with fail
      refine (next_any _ bs ba bc k _ (HS1.out _ hw1) (HB1.out _ hw1)).mono ?_
      rintro e w3 ⟨rfl, hb3⟩
      rw [HN.out, HK.out, Hv.out, Hb.out]
      replace hw1 := hw1.trans (hb3.mono hw1.size)
      replace ho1 := ho1.turned (Turned.of_below hb3 []) (by simp)
      replace hz1 := Nat.le_trans hz1 hb3.size
      replace sc1 := sc1.keep (Keeps.of_below hb3)
      replace tb := tb.keep (Keeps.of_below hb3)
      clear hb3 d0 d1 d2 d3 d4 d5 sc_0 sc_1 sc_2 sc_3
      obtain ⟨d0, d1, d2, d3, d4, d5⟩ := id tb
      cases b with
      | false =>
        obtain ⟨f1, f2⟩ := Hoff.out k hlt (by rw [Hb.out]; rfl)
        have F1 := hidp f1
        have F2 := hidp f2
        clear f1 f2
        go_wp2_with fail
        go_ret2
        exact RowK.eq ⟨none, 0, rfl, nil_ints _, hw1⟩ F2.out.symm F1.out.symm
      | true =>
        by_cases hd : t.dl < v
        · obtain ⟨f1, f2⟩ := Hoff.out k hlt (by rw [Hb.out, Hv.out, HT.out]; simp; omega)
          have F1 := hidp f1
          have F2 := hidp f2
          clear f1 f2
          go_wp2_with fail
          go_ret2
          exact RowK.eq ⟨none, 0, rfl, nil_ints _, hw1⟩ F2.out.symm F1.out.symm
        · have hd' : decide (t.dl < v) = false := by simpa using hd
          have Hk2 : Hid (∀ j, j < k + 1 → (K j && decide (N j ≤ (tasks.getD j default).dl)) = true) := hidp (fun j hj => by
            by_cases ej : j = k
            · subst ej; rw [Hb.out, Hv.out, HT.out]; simp; omega
            · exact Hk.out j (by omega))
          have N2 : Hid (k + 1 ≤ maxLen) := hidp (by unfold maxLen; omega)
          have T2 : Hid ((k + 1) * 8 ≤ 140737488355328) := hidp (by omega)
          have ho4 := ho1.turned ((Turned.refl [] w3).alloc (.cells #[.int .i64 v] 3)) (by simp)
          have S2 := hidp (Lies.newCells' w3 [.int .i64 v] 3)
          have Z2 : Hid (w.heap.size + 1 ≤ (w3.alloc (.cells #[.int .i64 v] 3)).heap.size) := hidp (Nat.le_trans hz1 (by simp))
          have hw4 := hw1.alloc hw1.size (.cells #[.int .i64 v] 3)
          have sc4 := sc1.keep (Keeps.alloc w3 (.cells #[.int .i64 v] 3))
          have O2 := hidp (ints_one v)
          have Hfp := hidp (own_fp ho4.own)
          clear ho1 hw1 hz1 sc1 hd
          go_wp2_with (at_builtin; refine wpList_app2 _ rfl (.tmp 34) (.tmp 36) 22 rfl (w.heap.size + 1) 3 i0 _ 1 8 Tryz.underlying22 hi0 hy0 hy1 hy2 rfl (by decide) A k c _ rfl ho4.own _ _ 1 1 [.int .i64 v] rfl (by simp) rfl S2.out O2.out N2.out T2.out Z2.out ?_; intro A' c' w6 happ)
          go_roundg (gk - 1)
          case measure => omega
          case rel => exact ⟨k + 1, c', A', by omega, by go_num, rfl, Hk2, by rw [range_snoc, Hv.out]; exact ho4.app (ps := [v]) happ rfl, sc4.turned happ.turned (fun hf => by have := (Hfp.out _ hf).1; omega), hw4.trans (happ.turned.below hw4.size (fun j hj => by have := (Hfp.out _ hj).1; omega)), Nat.le_trans Z2.out happ.turned.size⟩
    · obtain rfl : k = tasks.length := by omega
      obtain ⟨f1, f2⟩ := Hyes.out Hk.out
      have F1 := hidp f1
      have F2 := hidp f2
      have hrow := ho.ok (fun x hx => by obtain ⟨j, _, rfl⟩ := List.mem_map.1 hx; have := HNb.out j; unfold I64; omega)
      have Hr := hidp hrow
      clear f1 f2 hrow
      go_wp2
      go_ret2
      exact RowK.eq ⟨A, c, by simp, Hr.out, hw⟩ F2.out.symm F1.out.symm

/-- a row of numbers, and an error -/
def RowE (w : World) (zs : List Int) (k : Int) (e : Ending) (w' : World) : Prop := ∃ A c, e = .returned (.tuple #[.slice A zs.length c, .int .i64 k]) ∧ IntsOk w' A c zs ∧ Below w.heap.size w w'
theorem RowE.eq {w w' : World} {zs ys : List Int} {k j : Int} {e : Ending} (h : RowE w zs k e w') (h1 : zs = ys) (h2 : k = j) : RowE w ys j e w' := h1 ▸ h2 ▸ h

set_option maxHeartbeats 4000000 in
set_option maxRecDepth 100000 in
theorem settled18_any (s : SetR) (w : World) (hs : SetOk w s) (ho : okS s = true) : Calls Tryz.prog 24 #[.agg #[.int .i64 s.proto, .slice s.ca s.cores.length s.cc, .slice s.ha s.homes.length s.hc, .slice s.ta s.tasks.length s.tc]] w (RowE w (settle s).1 (settle s).2) := by
  have hb := (Below.refl w.heap.size w).alloc (Nat.le_refl _) (.cells #[.int .i64 s.proto, .slice s.ca s.cores.length s.cc, .slice s.ha s.homes.length s.hc, .slice s.ta s.tasks.length s.tc] 25)
  have sc := SetCells.new w s 25
  have H := hs.keep (Keeps.of_below hb)
  have n6 := (Good.of ho).ntasks.2
  have Ho := hidp ho
  have HS1 := hidp (fun u (h : Below w.heap.size w u) => hs.keep (Keeps.of_below h))
  obtain ⟨P, HP⟩ : ∃ P, Hid (settle s = P) := ⟨_, hidp rfl⟩
  rw [HP.out]
  clear hs ho
  go_enter Tryz.func24, Tryz.ntmps24
  go_wp2
  go_step3
  go_wp2_with fail
  refine (soonest_any s _ H Ho.out).mono ?_
  rintro e w2 ⟨A0, c0, rfl, hr, hb2⟩
  replace hb := hb.trans (hb2.mono hb.size)
  replace sc := sc.keep (Keeps.of_below hb2)
  clear hb2 H
  obtain ⟨cur0, Hc0⟩ : ∃ l, Hid (soonL s = l) := ⟨_, hidp rfl⟩
  have Hst : Hid (setL s 200 cur0 = P) := hidp (by rw [← Hc0.out, ← HP.out]; rfl)
  rw [Hc0.out] at hr ⊢
  go_wp2
  go_step3
  go_wp2
  go_loopg [4, 5, 10] 200 (fun gg a e i wr => ∃ (k c : Nat) (A : Option Addr) (cur : List Int), k + gg = 200 ∧ i = .int .i64 k ∧ e = .int .i64 20 ∧ a = .slice A cur.length c ∧ Hid (setL s gg cur = P) ∧ IntsOk wr A c cur ∧ SetCells wr w.heap.size s ∧ Below w.heap.size w wr)
  case atStart => exact ⟨0, c0, A0, cur0, by omega, rfl, rfl, rfl, Hst, hr, sc, hb⟩
  case round =>
    clear hb sc hr
    obtain ⟨k, c, A, cur, hk, rfl, rfl, rfl, Hs, hr, sc, hw⟩ := hrel
    obtain ⟨sc_0, sc_1, sc_2, sc_3⟩ := id sc
    by_cases hlt : k < 200
    · obtain ⟨g, hg⟩ : ∃ g, gk = g + 1 := ⟨gk - 1, by omega⟩
      subst hg
      have HR := round_any s cur A c _ (HS1.out _ hw) hr n6
      by_cases e : roundB s cur = true
      · have el : roundL s cur = nextRow s cur := by unfold roundL; rw [if_pos e]
        rw [el, e] at HR
        have Hs2 : Hid ((if nextRow s cur = cur then (cur, 0) else setL s g (nextRow s cur)) = P) := hidp (by rw [← Hs.out, setL_succ, if_pos e])
        obtain ⟨nx, Hnx⟩ : ∃ l, Hid (nextRow s cur = l) := ⟨_, hidp rfl⟩
        rw [Hnx.out] at HR Hs2
        clear e el
        go_wp2_with fail
        refine HR.mono ?_
        rintro e w4 ⟨C, d, rfl, hC, hb2⟩
        replace hw := hw.trans (hb2.mono hw.size)
        replace sc := sc.keep (Keeps.of_below hb2)
        replace hr := hr.keep (Keeps.of_below hb2)
        clear hb2 sc_0 sc_1 sc_2 sc_3 HR
        by_cases e2 : nx = cur
        · have HE := eqI_any nx cur C A d c w4 hC hr
          rw [decide_eq_true e2] at HE
          have Hz : Hid ((cur, (0 : Int)) = P) := hidp (by have := Hs2.out; rw [if_pos e2] at this; exact this)
          clear e2
          go_wp2_with fail
          refine HE.mono ?_
          rintro e w5 ⟨rfl, hq⟩
          replace hw := hq.below hw
          replace hr := hr.keep (Keeps.of_qt hq)
          go_wp2_with fail
          try rw [Exit.noGoto_ret]
          go_ret2
          exact RowE.eq ⟨A, c, rfl, hr, hw⟩ (by rw [← Hz.out]) (by rw [← Hz.out])
        · have HE := eqI_any nx cur C A d c w4 hC hr
          rw [decide_eq_false e2] at HE
          have Hz : Hid (setL s g nx = P) := hidp (by have := Hs2.out; rw [if_neg e2] at this; exact this)
          clear e2
          go_wp2_with fail
          refine HE.mono ?_
          rintro e w5 ⟨rfl, hq⟩
          replace hw := hq.below hw
          replace hC := hC.keep (Keeps.of_qt hq)
          replace sc := sc.keep (Keeps.of_qt hq)
          go_wp2_with fail
          go_roundg g
          case measure => omega
          case rel => exact ⟨k + 1, d, C, nx, by omega, by go_num, rfl, rfl, Hz, hC, sc, hw⟩
      · have e' : roundB s cur = false := by simpa using e
        have el : roundL s cur = [] := by unfold roundL; rw [e']; rfl
        rw [el, e'] at HR
        have Hz : Hid ((([] : List Int), (19 : Int)) = P) := hidp (by rw [← Hs.out, setL_succ, if_neg e])
        clear e e' el
        go_wp2_with fail
        refine HR.mono ?_
        rintro e w4 ⟨C, d, rfl, hC, hb2⟩
        replace hw := hw.trans (hb2.mono hw.size)
        go_wp2_with fail
        try rw [Exit.noGoto_ret]
        go_ret2
        exact RowE.eq ⟨none, 0, rfl, nil_ints _, hw⟩ (by rw [← Hz.out]) (by rw [← Hz.out])
    · have hg0 : gk = 0 := by omega
      subst hg0
      have Hz : Hid ((cur, (20 : Int)) = P) := hidp (by rw [← Hs.out]; rfl)
      go_wp2
      try rw [Exit.noGoto_ret]
      go_ret2
      exact RowE.eq ⟨A, c, rfl, hr, hw⟩ (by rw [← Hz.out]) (by rw [← Hz.out])
end Go.Proofs.YtjjlpaampmpdfaaGreatDoor

namespace Go.Proofs.YtjjlpaampmpdfaaGreatDoor
open Go.ChangeShapes Go.WideShapes Go.ChangeAt Go.RowKit
set_option linter.unusedVariables false
set_option linter.unusedSimpArgs false
def RowN (w : World) (zs : List Int) (k : Bool) (e : Ending) (w' : World) : Prop := ∃ A c, e = .returned (.tuple #[.slice A zs.length c, .bool k]) ∧ IntsOk w' A c zs ∧ Below w.heap.size w w' ∧ ∀ k ∈ fp A, w.heap.size ≤ k
theorem RowN.eq {w w' : World} {zs ys : List Int} {k j : Bool} {e : Ending} (h : RowN w zs k e w') (h1 : zs = ys) (h2 : k = j) : RowN w ys j e w' := h1 ▸ h2 ▸ h

set_option maxHeartbeats 4000000 in
set_option maxRecDepth 100000 in
theorem wallN_any (s : SetR) (bs : List Int) (ba : Option Addr) (bc : Nat) (of : Int) (w : World) (hs : SetOk w s) (hB : IntsOk w ba bc bs) : Calls Tryz.prog 25 #[.agg #[.int .i64 s.proto, .slice s.ca s.cores.length s.cc, .slice s.ha s.homes.length s.hc, .slice s.ta s.tasks.length s.tc], .slice ba bs.length bc, .int .i64 of] w (RowN w (waitsL s bs of) (waitsK s bs of)) := by
  have hb := (Below.refl w.heap.size w).alloc (Nat.le_refl _) (.cells #[.int .i64 s.proto, .slice s.ca s.cores.length s.cc, .slice s.ha s.homes.length s.hc, .slice s.ta s.tasks.length s.tc] 25)
  have sc := SetCells.new w s 25
  have H := hs.keep (Keeps.of_below hb)
  have l3 : s.tasks.length ≤ maxLen := Nat.le_trans hs.tasks.sl.2.1 hs.tasks.sl.2.2
  unfold maxLen at l3
  by_cases e : thereB s of = true
  · have Hth := hidp e
    obtain ⟨ho, r1, r2⟩ := thereB_true.1 e
    obtain ⟨n, rfl⟩ : ∃ n : Nat, of = n := ⟨of.toNat, by omega⟩
    have hn : n < s.tasks.length := by omega
    have hg := Good.of ho
    obtain ⟨t, HT⟩ : ∃ t, Hid (s.tasks.getD n default = t) := ⟨_, rfl⟩
    have hm : t ∈ s.tasks := HT.out ▸ getD_mem hn
    have Tok := hs.tasks.ok t hm
    have Tg := hg.parts t hm
    obtain ⟨g, off, hA, hcl⟩ := hs.tasks.at_.resolve_left (by intro e; rw [e] at hn; simp at hn)
    have Ht5 := hidp ((HT.out ▸ hcl n hn).2.2.2.2.2)
    have hpl := Tg.len
    obtain ⟨gp, op, hP, hpc⟩ := Tok.at_.resolve_left (by intro e; rw [e] at hpl; simp at hpl)
    have Hpc := hidp hpc
    obtain ⟨parts, hparts⟩ : ∃ parts, t.parts = parts := ⟨_, rfl⟩
    have Hpt : Hid (partsOf s n = parts) := hidp (by unfold partsOf; simp only [Int.toNat_natCast]; rw [HT.out, hparts])
    rw [hP, hparts] at Ht5
    rw [hparts] at Hpc hpl
    obtain ⟨V, HV⟩ : ∃ V : Nat → Int, Hid (∀ k : Nat, waitV s bs n k = V k) := ⟨fun k => waitV s bs n k, hidp (fun _ => rfl)⟩
    obtain ⟨K, HK⟩ : ∃ K : Nat → Bool, Hid (∀ k : Nat, waitK s bs n k = K k) := ⟨fun k => waitK s bs n k, hidp (fun _ => rfl)⟩
    have Hpa : Hid (∀ k : Nat, partAt s n k = parts.getD k default) := hidp (fun k => by unfold partAt; have := Hpt.out; unfold partsOf at this; rw [this]; simp)
    obtain ⟨PW, HPW⟩ : ∃ f : Nat → Int, Hid (pW s bs n = f) := ⟨_, hidp rfl⟩
    obtain ⟨PK, HPK⟩ : ∃ f : Nat → Bool, Hid (pK s bs n = f) := ⟨_, hidp rfl⟩
    have HPWl : Hid (∀ k, (parts.getD k default).kind = 3 → PW k = V k ∧ PK k = K k) := hidp (fun k h => by
      rw [← HPW.out, ← HPK.out]; unfold pW pK; rw [Hpa.out, if_pos h, if_pos h, HV.out, HK.out]; exact ⟨rfl, rfl⟩)
    have HPWn : Hid (∀ k, (parts.getD k default).kind ≠ 3 → PW k = 0 ∧ PK k = true) := hidp (fun k h => by
      rw [← HPW.out, ← HPK.out]; unfold pW pK; rw [Hpa.out, if_neg h, if_neg h]; exact ⟨rfl, rfl⟩)
    have HWb : Hid (∀ k, 0 ≤ PW k ∧ PW k ≤ 3000) := hidp (fun k => by rw [← HPW.out]; exact pW_bd s bs n k)
    have Hoff : Hid (∀ k, k < parts.length → PK k = false → waitsK s bs n = false ∧ waitsL s bs n = []) := hidp (fun k hk h => waits_off (by rw [Hpt.out]; exact hk) (by rw [HPK.out]; exact h))
    have Hyes : Hid ((∀ k, k < parts.length → PK k = true) → waitsK s bs n = true ∧ waitsL s bs n = (List.range parts.length).map PW) := hidp (fun h => by
      have := waits_yes (s := s) (bs := bs) (of := n) Hth.out (by rw [Hpt.out, HPK.out]; exact h)
      rw [Hpt.out, HPW.out] at this; exact this)
    obtain ⟨RL, HRL⟩ : ∃ L, Hid (waitsL s bs n = L) := ⟨_, hidp rfl⟩
    obtain ⟨RK, HRK⟩ : ∃ L, Hid (waitsK s bs n = L) := ⟨_, hidp rfl⟩
    rw [HRL.out, HRK.out] at Hoff Hyes ⊢
    have HS1 := hidp (fun u (h : Below w.heap.size w u) => hs.keep (Keeps.of_below h))
    have HB1 := hidp (fun u (h : Below w.heap.size w u) => hB.keep (Keeps.of_below h))
    obtain ⟨S, HSS⟩ : ∃ S : SetR, Hid (S = s) := ⟨s, rfl⟩
    obtain ⟨i0, hi0, hy0, hy1, hy2⟩ := info_parts infoZ
    clear hcl hm Tok Tg hpc hP hparts hg ho HT e hs hB r1
    have dn : decide (s.tasks.length ≤ n) = false := by simp; omega
    obtain ⟨proto, ca, cc, cores, ha, hc, homes, ta, tc, tasks⟩ := s
    dsimp only at hA hn l3 r2 hb sc H dn HS1 ⊢
    subst hA
    go_enter Tryz.func25, Tryz.ntmps25
    go_wp2
    go_step3
    go_wp2_with fail
    refine (there16_any _ _ _ H).mono ?_
    rintro e w2 ⟨rfl, hb2⟩
    replace hb := hb.trans (hb2.mono hb.size)
    replace sc := sc.keep (Keeps.of_below hb2)
    clear hb2
    try clear sc_0 sc_1 sc_2 sc_3
    have scx := sc
    obtain ⟨sc_0, sc_1, sc_2, sc_3⟩ := scx
    try dsimp only at sc_0 sc_1 sc_2 sc_3
    rw [Hth.out]
    have hz0 : w.heap.size + 1 ≤ w2.heap.size := cell_lt sc_0
    have d5 := Keeps.of_below hb _ _ Ht5.out
    go_wp2
    go_step3
    go_wp2
    clear sc_0 sc_1 sc_2 sc_3 d5
    go_loopg [8, 9, 24] parts.length (fun gg a ok i wr => ∃ (k c : Nat) (A : Option Addr), k + gg = parts.length ∧ i = .int .i64 k ∧ ok = .bool true ∧ a = .slice A k c ∧ Hid (∀ j, j < k → PK j = true) ∧ OwnN (w.heap.size + 1) wr A k c ((List.range k).map PW) ∧ SetCells wr w.heap.size ⟨proto, ca, cc, cores, ha, hc, homes, some ⟨g, off, none⟩, tc, tasks⟩ ∧ Below w.heap.size w wr ∧ w.heap.size + 1 ≤ wr.heap.size)
    case atStart => exact ⟨0, 0, none, by omega, rfl, rfl, rfl, hidp (fun j hj => by omega), OwnN.none _ _, sc, hb, hz0⟩
    case round =>
      clear sc hb
      obtain ⟨k, c, A, hk, rfl, rfl, rfl, Hk, ho, sc, hw, hz⟩ := hrel
      by_cases hlt : k < parts.length
      · obtain ⟨p, HP⟩ : ∃ p, Hid (parts.getD k default = p) := ⟨_, rfl⟩
        have pcl := (HP.out ▸ Hpc.out k hlt).keep (Keeps.of_below hw)
        obtain ⟨x0, x1, x2⟩ := pcl
        have hw1 := hw.alloc hw.size (.cells #[.int .i64 p.kind, .int .i64 p.len, .int .i64 p.res] 38)
        have ho1 := ho.turned ((Turned.refl [] wr).alloc (.cells #[.int .i64 p.kind, .int .i64 p.len, .int .i64 p.res] 38)) (by simp)
        have hz1 : w.heap.size + 1 ≤ (wr.alloc (.cells #[.int .i64 p.kind, .int .i64 p.len, .int .i64 p.res] 38)).heap.size := Nat.le_trans hz (by simp)
        have sc1 := sc.keep (Keeps.alloc wr (.cells #[.int .i64 p.kind, .int .i64 p.len, .int .i64 p.res] 38))
        obtain ⟨sc_0, sc_1, sc_2, sc_3⟩ := id sc1
        dsimp only at sc_0 sc_1 sc_2 sc_3
        have N2 : Hid (k + 1 ≤ maxLen) := hidp (by unfold maxLen; omega)
        have T2 : Hid ((k + 1) * 8 ≤ 140737488355328) := hidp (by omega)
        by_cases e : p.kind = 3
        · obtain ⟨v1, v2⟩ := HPWl.out k (by rw [HP.out]; exact e)
          have e' : (p.kind == 3) = true := by simpa using e
          obtain ⟨b, Hb⟩ : ∃ b, Hid (K k = b) := ⟨_, rfl⟩
          rw [Hb.out] at v2
          obtain ⟨v, Hv⟩ : ∃ v, Hid (PW k = v) := ⟨_, rfl⟩
          rw [Hv.out] at v1
          have Hvv := hidp v1.symm
          have Hpk := hidp v2
          clear v1 v2 e
          cases b with
          | false =>
            obtain ⟨f1, f2⟩ := Hoff.out k hlt Hpk.out
            have F1 := hidp f1
            have F2 := hidp f2
            clear f1 f2
            go_wp2_with fail
            refine (wpart_any _ bs ba bc n k _ (HS1.out _ hw1) (HB1.out _ hw1)).mono ?_
            rintro e w3 ⟨rfl, hb3⟩
            rw [HV.out k, HK.out k, Hb.out]
            go_wp2_with fail
            try rw [Exit.noGoto_ret]
            go_ret2
            exact RowN.eq ⟨none, 0, rfl, nil_ints _, hw1.trans (hb3.mono hw1.size), by simp [fp]⟩ F2.out.symm F1.out.symm
          | true =>
            go_wp2_with fail
            refine (wpart_any _ bs ba bc n k _ (HS1.out _ hw1) (HB1.out _ hw1)).mono ?_
            rintro e w3 ⟨rfl, hb3⟩
            rw [HV.out k, HK.out k, Hb.out, Hvv.out]
            have hw3 := hw1.trans (hb3.mono hw1.size)
            have hown4 := ((ho1.turned (Turned.of_below hb3 []) (by simp)).turned ((Turned.refl [] w3).alloc (.cells #[.int .i64 v] 3)) (by simp))
            have S2 := hidp (Lies.newCells' w3 [.int .i64 v] 3)
            have Z2 : Hid (w.heap.size + 1 ≤ (w3.alloc (.cells #[.int .i64 v] 3)).heap.size) := hidp (Nat.le_trans hz1 (Nat.le_trans hb3.size (by simp)))
            have sc4 := (sc1.keep (Keeps.of_below hb3)).keep (Keeps.alloc _ (.cells #[.int .i64 v] 3))
            have hw4 := hw3.alloc hw3.size (.cells #[.int .i64 v] 3)
            have O2 := hidp (ints_one v)
            have Hfp := hidp (own_fp hown4.own)
            clear x0 x1 x2 sc_0 sc_1 sc_2 sc_3
            go_wp2_with (at_builtin; refine wpList_app2 _ rfl (.tmp 42) (.tmp 44) 22 rfl (w.heap.size + 1) 3 i0 _ 1 8 Tryz.underlying22 hi0 hy0 hy1 hy2 rfl (by decide) A k c _ rfl hown4.own _ _ 1 1 [.int .i64 v] rfl (by simp) rfl S2.out O2.out N2.out T2.out Z2.out ?_; intro A' c' w5 happ)
            go_roundg (gk - 1)
            case measure => omega
            case rel => exact ⟨k + 1, c', A', by omega, by go_num, rfl, rfl, hidp (fun j hj => by
              by_cases ej : j = k
              · subst ej; exact Hpk.out
              · exact Hk.out j (by omega)), by rw [range_snoc, Hv.out]; exact hown4.app (ps := [v]) happ rfl, sc4.turned happ.turned (fun hf => by have := (Hfp.out _ hf).1; omega), hw4.trans (happ.turned.below hw4.size (fun j hj => by have := (Hfp.out _ hj).1; omega)), Nat.le_trans Z2.out happ.turned.size⟩
        · obtain ⟨v1, v2⟩ := HPWn.out k (by rw [HP.out]; exact e)
          have e' : (p.kind == 3) = false := by simpa using e
          have Hv := hidp v1
          have Hpk := hidp v2
          clear v1 v2 e
          have hw3 := hw1
          have hown4 := ho1.turned ((Turned.refl [] (wr.alloc (.cells #[.int .i64 p.kind, .int .i64 p.len, .int .i64 p.res] 38))).alloc (.cells #[.int .i64 0] 3)) (by simp)
          have S2' := Lies.newCells' (wr.alloc (.cells #[.int .i64 p.kind, .int .i64 p.len, .int .i64 p.res] 38)) [.int .i64 0] 3
          rw [show (wr.alloc (.cells #[.int .i64 p.kind, .int .i64 p.len, .int .i64 p.res] 38)).heap.size = wr.heap.size + 1 by simp] at S2'
          have S2 := hidp S2'
          clear S2'
          have Z2 : Hid (w.heap.size + 1 ≤ ((wr.alloc (.cells #[.int .i64 p.kind, .int .i64 p.len, .int .i64 p.res] 38)).alloc (.cells #[.int .i64 0] 3)).heap.size) := hidp (Nat.le_trans hz1 (by simp))
          have sc4 := sc1.keep (Keeps.alloc _ (.cells #[.int .i64 0] 3))
          have hw4 := hw3.alloc hw3.size (.cells #[.int .i64 0] 3)
          have O2 := hidp (ints_one 0)
          have Hfp := hidp (own_fp hown4.own)
          go_wp2_with (at_builtin; refine wpList_app2 _ rfl (.tmp 42) (.tmp 44) 22 rfl (w.heap.size + 1) 3 i0 _ 1 8 Tryz.underlying22 hi0 hy0 hy1 hy2 rfl (by decide) A k c _ rfl hown4.own _ _ 1 1 [.int .i64 0] rfl (by simp) rfl S2.out O2.out N2.out T2.out Z2.out ?_; intro A' c' w5 happ)
          go_roundg (gk - 1)
          case measure => omega
          case rel => exact ⟨k + 1, c', A', by omega, by go_num, rfl, rfl, hidp (fun j hj => by
              by_cases ej : j = k
              · subst ej; exact Hpk.out
              · exact Hk.out j (by omega)), by rw [range_snoc, Hv.out]; exact hown4.app (ps := [0]) happ rfl, sc4.turned happ.turned (fun hf => by have := (Hfp.out _ hf).1; omega), hw4.trans (happ.turned.below hw4.size (fun j hj => by have := (Hfp.out _ hj).1; omega)), Nat.le_trans Z2.out happ.turned.size⟩
      · obtain rfl : k = parts.length := by omega
        obtain ⟨f1, f2⟩ := Hyes.out Hk.out
        have F1 := hidp f1
        have F2 := hidp f2
        have hrow := ho.ok (fun x hx => by obtain ⟨j, _, rfl⟩ := List.mem_map.1 hx; have := HWb.out j; unfold I64; omega)
        have Hr := hidp hrow
        have Hfn := hidp (own_fp ho.own)
        clear f1 f2 hrow
        go_wp2
        try rw [Exit.noGoto_ret]
        go_ret2
        exact RowN.eq ⟨A, c, by simp, Hr.out, hw, fun k hk => by have := (Hfn.out k hk).1; omega⟩ F2.out.symm F1.out.symm
  · have e : thereB s of = false := by simpa using e
    obtain ⟨k1, k2⟩ := waits_no (bs := bs) e
    have Hth := hidp e
    have F1 := hidp k1
    have F2 := hidp k2
    clear e k1 k2 hs hB
    go_enter Tryz.func25, Tryz.ntmps25
    go_wp2
    go_step3
    go_wp2_with fail
    refine (there16_any _ _ _ H).mono ?_
    rintro e w2 ⟨rfl, hb2⟩
    replace hb := hb.trans (hb2.mono hb.size)
    replace sc := sc.keep (Keeps.of_below hb2)
    clear hb2
    rw [Hth.out]
    go_wp2
    go_ret2
    exact RowN.eq ⟨none, 0, rfl, nil_ints _, hb, by simp [fp]⟩ F2.out.symm F1.out.symm

end Go.Proofs.YtjjlpaampmpdfaaGreatDoor

namespace Go.Proofs.YtjjlpaampmpdfaaGreatDoor
open Go.ChangeShapes Go.WideShapes Go.ChangeAt Go.RowKit
set_option linter.unusedVariables false
set_option linter.unusedSimpArgs false

end Go.Proofs.YtjjlpaampmpdfaaGreatDoor

namespace Go.Proofs.YtjjlpaampmpdfaaGreatDoor
open Go.ChangeShapes Go.WideShapes Go.ChangeAt Go.RowKit
set_option linter.unusedVariables false
set_option linter.unusedSimpArgs false

structure RowR where
  a : Option Addr
  c : Nat
  zs : List Int
instance : Inhabited RowR := ⟨⟨none, 0, []⟩⟩
def RowR.val (r : RowR) : Value := .slice r.a r.zs.length r.c
def rowsC (rs : List RowR) : List Value := rs.map RowR.val
def RowsAt (w : World) (a : Option Addr) (rs : List RowR) : Prop :=
  rs = [] ∨ ∃ b off, a = some ⟨b, off, none⟩ ∧ ∀ i, i < rs.length → w.cell? ⟨b, off + i, none⟩ = some (rs.getD i default).val
theorem RowsAt.keep {w w' : World} {a : Option Addr} {rs : List RowR} (h : RowsAt w a rs) (k : Keeps w w') : RowsAt w' a rs := by
  rcases h with h | ⟨b, off, e, h⟩
  · exact .inl h
  · exact .inr ⟨b, off, e, fun i hi => k _ _ (h i hi)⟩
theorem rows_lie {B : Nat} {w : World} {a : Option Addr} {rs : List RowR} (h : Lies B w a (rowsC rs)) : RowsAt w a rs := by
  rcases h with h | ⟨b, off, e, _, hc⟩
  · exact .inl (by simpa [rowsC] using h)
  · exact .inr ⟨b, off, e, fun i hi => hc i _ (by simp [rowsC, List.getD, hi])⟩
theorem infoI : (Tryz.prog.info? 22).map (fun i => (i.zero, i.size, i.bytes)) = some (some (.slice none 0 0), 1, 24) := by kernel_rfl
structure OwnV (B : Nat) (w : World) (A : Option Addr) (n c : Nat) (rs : List RowR) : Prop where
  own : w.ownsRow B 22 1 (.slice A n c) n (rowsC rs)
  len : n = rs.length
  cap : n ≤ c ∧ c ≤ maxLen
  nil : A = none → n = 0 ∧ c = 0
theorem OwnV.none (B : Nat) (w : World) : OwnV B w none 0 0 [] := ⟨World.ownsRow_nil _ _ _ _, rfl, by decide, fun _ => ⟨rfl, rfl⟩⟩
theorem OwnV.app {B : Nat} {w w1 w2 : World} {A A' : Option Addr} {n c c' : Nat} {rs ps : List RowR} {m : Nat} (h : OwnV B w A n c rs) (ha : App B 22 1 w1 A A' (n + m) c' (rowsC rs ++ rowsC ps) w2) (hm : m = ps.length) : OwnV B w2 A' (n + m) c' (rs ++ ps) :=
  ⟨by unfold rowsC; rw [List.map_append]; exact ha.own, by rw [List.length_append, h.len, hm], ha.cap, ha.nil⟩
theorem OwnV.turned {B : Nat} {F : List Nat} {w w' : World} {A : Option Addr} {n c : Nat} {rs : List RowR} (h : OwnV B w A n c rs) (ht : Turned F w w') (hF : ∀ k ∈ fp A, k ∉ F) : OwnV B w' A n c rs := ⟨own_turned h.own ht hF, h.len, h.cap, h.nil⟩
theorem OwnV.at_ {B : Nat} {w : World} {A : Option Addr} {n c : Nat} {rs : List RowR} (h : OwnV B w A n c rs) : RowsAt w A rs := rows_lie (Lies.of_own h.own)
theorem rows_one (r : RowR) : ∀ u ∈ rowsC [r], u.oneCell' = true := fun u hu => by simp [rowsC] at hu; subst hu; rfl
/-- a verdict -/
structure VerdR where
  ok : Bool
  ba : Option Addr
  bc : Nat
  bounds : List Int
  wa : Option Addr
  wc : Nat
  rows : List RowR
structure VerdOk (w : World) (v : VerdR) : Prop where
  bounds : IntsOk w v.ba v.bc v.bounds
  sl : SlOk v.wa v.rows.length v.wc
  at_ : RowsAt w v.wa v.rows
  rows : ∀ r ∈ v.rows, IntsOk w r.a r.c r.zs
theorem VerdOk.keep {w w' : World} {v : VerdR} (h : VerdOk w v) (k : Keeps w w') : VerdOk w' v := ⟨h.bounds.keep k, h.sl, h.at_.keep k, fun r hr => (h.rows r hr).keep k⟩
theorem VerdOk.none (w : World) : VerdOk w ⟨false, none, 0, [], none, 0, []⟩ := ⟨nil_ints w, ⟨fun _ => ⟨rfl, rfl⟩, by decide, by decide⟩, .inl rfl, by simp⟩
def AnPost (w : World) (s : SetR) (e : Ending) (w' : World) : Prop :=
  (∃ v : VerdR, e = .returned (.tuple #[.agg #[.bool v.ok, .slice v.ba v.bounds.length v.bc, .slice v.wa v.rows.length v.wc], .int .i64 (anE s)]) ∧ VerdOk w' v ∧ v.ok = decide (anE s = 0) ∧ v.bounds = anB s ∧ v.rows.map RowR.zs = anW s) ∧ Below w.heap.size w w'
theorem v3_turned (w : World) (g : Nat) (v0 v1 v2 : Value) : Turned [g] w (((w.setCell ⟨g, 0, none⟩ v0).setCell ⟨g, 1, none⟩ v1).setCell ⟨g, 2, none⟩ v2) :=
  (((Turned.refl [g] w).setCell (.inl (by simp)) _).setCell (.inl (by simp)) _).setCell (.inl (by simp)) _
theorem v3_bk {w : World} {g : Nat} {t : TypeId} {c0 c1 c2 v0 v1 v2 : Value} (h : Bk w g t #[c0, c1, c2]) : Bk (((w.setCell ⟨g, 0, none⟩ v0).setCell ⟨g, 1, none⟩ v1).setCell ⟨g, 2, none⟩ v2) g t #[v0, v1, v2] := by
  have := ((h.put 0 v0).put 1 v1).put 2 v2
  simpa using this
theorem Y3 {w : World} {g : Nat} {t : TypeId} {c0 c1 c2 : Value} (h : Bk w g t #[c0, c1, c2]) : w.cell? ⟨g, 0, none⟩ = some c0 ∧ w.cell? ⟨g, 1, none⟩ = some c1 ∧ w.cell? ⟨g, 2, none⟩ = some c2 := ⟨h.cell 0, h.cell 1, h.cell 2⟩
theorem YF3 {w : World} {g : Nat} {t : TypeId} {cs : Array Value} (h : Bk w g t cs) : w.frozen? ⟨g, 0, none⟩ = false ∧ w.frozen? ⟨g, 1, none⟩ = false ∧ w.frozen? ⟨g, 2, none⟩ = false := ⟨h.frozen 0, h.frozen 1, h.frozen 2⟩
/-- a row of numbers doesn't lie in a block without numbers -/
theorem IntsOk.other {w w' : World} {a : Option Addr} {c g : Nat} {t : TypeId} {zs : List Int} {c0 c1 c2 : Value} (h : IntsOk w a c zs) (hb : Bk w g t #[c0, c1, c2]) (h0 : ∀ z, c0 ≠ .int .i64 z) (h1 : ∀ z, c1 ≠ .int .i64 z) (h2 : ∀ z, c2 ≠ .int .i64 z) (ht : Turned [g] w w') : IntsOk w' a c zs := by
  refine ⟨h.sl, ?_, h.wf⟩
  rcases h.at_ with e | ⟨b, off, e, hc⟩
  · exact .inl e
  · by_cases hz : zs = []
    · exact .inl hz
    · have hp : 0 < zs.length := List.length_pos_iff.2 hz
      have hbg : b ≠ g := fun e2 => by
        subst e2
        have := hc 0 hp
        rw [Nat.add_zero, hb.cell off] at this
        match off, this with
        | 0, this => simp at this; exact h0 _ this
        | 1, this => simp at this; exact h1 _ this
        | 2, this => simp at this; exact h2 _ this
        | off + 3, this => simp at this
      exact .inr ⟨b, off, e, fun j hj => ht.cell (hc j hj) (by simpa using hbg)⟩
theorem IntsOk.turned2 {F : List Nat} {w w' : World} {a : Option Addr} {c : Nat} {zs : List Int} (h : IntsOk w a c zs) (ht : Turned F w w') (hF : zs = [] ∨ ∀ k ∈ fp a, k ∉ F) : IntsOk w' a c zs := by
  rcases hF with e | hF
  · exact ⟨h.sl, .inl e, h.wf⟩
  · exact h.turned ht hF

set_option maxHeartbeats 4000000 in
set_option maxRecDepth 100000 in
theorem analyze_any (s : SetR) (w : World) (hs : SetOk w s) : Calls Tryz.prog 17 #[.agg #[.int .i64 s.proto, .slice s.ca s.cores.length s.cc, .slice s.ha s.homes.length s.hc, .slice s.ta s.tasks.length s.tc]] w (AnPost w s) := by
  have hb := ((Below.refl w.heap.size w).alloc (Nat.le_refl _) (.cells #[.int .i64 s.proto, .slice s.ca s.cores.length s.cc, .slice s.ha s.homes.length s.hc, .slice s.ta s.tasks.length s.tc] 25)).alloc (by simp) (.cells #[.bool false, .slice none 0 0, .slice none 0 0] 49)
  have sc := (SetCells.new w s 25).keep (Keeps.alloc _ (.cells #[.bool false, .slice none 0 0, .slice none 0 0] 49))
  have bk := Bk.at_ (w := w.alloc (.cells #[.int .i64 s.proto, .slice s.ca s.cores.length s.cc, .slice s.ha s.homes.length s.hc, .slice s.ta s.tasks.length s.tc] 25)) (g := w.heap.size + 1) (t := 49) (cs := #[.bool false, .slice none 0 0, .slice none 0 0]) (by simp) rfl
  have hz0 : w.heap.size + 1 < ((w.alloc (.cells #[.int .i64 s.proto, .slice s.ca s.cores.length s.cc, .slice s.ha s.homes.length s.hc, .slice s.ta s.tasks.length s.tc] 25)).alloc (.cells #[.bool false, .slice none 0 0, .slice none 0 0] 49)).heap.size := by simp
  have H := hs.keep (Keeps.of_below hb)
  have l3 : s.tasks.length ≤ maxLen := Nat.le_trans hs.tasks.sl.2.1 hs.tasks.sl.2.2
  unfold maxLen at l3
  obtain ⟨at0, Hat⟩ : ∃ x, Hid (chkAt s = x) := ⟨_, hidp rfl⟩
  obtain ⟨ce, Hce⟩ : ∃ x, Hid (chkE s = x) := ⟨_, hidp rfl⟩
  have HC := check_any s _ H
  rw [Hat.out, Hce.out] at HC
  by_cases e : chkE s = 0
  · have ho := (okS_chk s).2 e
    have Ho := hidp ho
    have e1 : (ce != 0) = false := by rw [← Hce.out]; simpa using e
    have n6 := (Good.of ho).ntasks.2
    obtain ⟨L, HL⟩ : ∃ l, Hid ((settle s).1 = l) := ⟨_, hidp rfl⟩
    obtain ⟨se, Hse⟩ : ∃ l, Hid ((settle s).2 = l) := ⟨_, hidp rfl⟩
    have HanE : Hid (anE s = se) := hidp (by unfold anE; rw [if_pos e, Hse.out])
    have HS := fun u h => settled18_any s u h ho
    rw [HL.out, Hse.out] at HS
    have HS1 := hidp (fun u (h : Below w.heap.size w u) => hs.keep (Keeps.of_below h))
    clear hs ho e
    by_cases es : se = 0
    · have HB : Hid (anB s = L) := hidp (by unfold anB; rw [HanE.out, if_pos es, HL.out])
      have HW : Hid (anW s = (List.range s.tasks.length).map (fun i : Nat => waitsL s L i)) := hidp (by unfold anW; rw [HanE.out, if_pos es, HL.out])
      have es1 : (se != 0) = false := by simpa using es
      have Hes := hidp es
      obtain ⟨wl, Hwl⟩ : ∃ f : Nat → List Int, Hid (∀ k : Nat, waitsL s L k = f k) := ⟨fun k => waitsL s L k, hidp (fun _ => rfl)⟩
      obtain ⟨wk, Hwk⟩ : ∃ f : Nat → Bool, Hid (∀ k : Nat, waitsK s L k = f k) := ⟨fun k => waitsK s L k, hidp (fun _ => rfl)⟩
      obtain ⟨i1, hi0, hy0, hy1, hy2⟩ := info_parts infoI
      obtain ⟨S, HSS⟩ : ∃ S : SetR, Hid (S = s) := ⟨s, hidp rfl⟩
      clear es
      go_enter Tryz.func17, Tryz.ntmps17
      go_wp2_with fail
      refine HC.mono ?_
      rintro e w2 ⟨rfl, hb2⟩
      replace hb := hb.trans (hb2.mono hb.size)
      replace sc := sc.keep (Keeps.of_below hb2)
      replace bk := bk.below hb2
      replace hz0 := Nat.lt_of_lt_of_le hz0 hb2.size
      replace H := H.keep (Keeps.of_below hb2)
      clear hb2 HC
      obtain ⟨sc_0, sc_1, sc_2, sc_3⟩ := id sc
      go_wp2_with fail
      refine (HS _ H).mono ?_
      rintro e w4 ⟨A, c, rfl, hA, hb2⟩
      replace hb := hb.trans (hb2.mono hb.size)
      replace sc := sc.keep (Keeps.of_below hb2)
      replace bk := bk.below hb2
      replace hz0 := Nat.lt_of_lt_of_le hz0 hb2.size
      clear hb2 H HS sc_0 sc_1 sc_2 sc_3
      have hB0 := (Below.refl w4.heap.size w4).alloc (Nat.le_refl _) (.cells #[.bool true, .slice A L.length c, .slice none 0 0] 49)
      have bv := Bk.new w4 49 #[.bool true, .slice A L.length c, .slice none 0 0]
      have hz1 : w4.heap.size + 1 ≤ (w4.alloc (.cells #[.bool true, .slice A L.length c, .slice none 0 0] 49)).heap.size := by simp
      have HA := hidp hA
      have HSC := hidp sc
      have HBK := hidp bk
      have HB4 := hidp hb
      have sc1 := sc.keep (Keeps.alloc w4 (.cells #[.bool true, .slice A L.length c, .slice none 0 0] 49))
      obtain ⟨sc_0, sc_1, sc_2, sc_3⟩ := id sc1
      have hz2 := hz0
      clear hA sc bk hb sc1 hz0
      go_wp2_with fail
      clear sc_0 sc_1 sc_2 sc_3
      go_loopg [35] s.tasks.length (fun gg i wr => ∃ (k d : Nat) (W : Option Addr) (rs : List RowR), k + gg = s.tasks.length ∧ i = .int .i64 k ∧ Hid (rs.map RowR.zs = (List.range k).map wl) ∧ OwnV (w4.heap.size + 1) wr W k d rs ∧ (∀ r ∈ rs, IntsOk wr r.a r.c r.zs) ∧ (∀ r ∈ rs, r.zs = [] ∨ ∀ x ∈ fp r.a, w4.heap.size + 1 ≤ x ∧ x < wr.heap.size ∧ x ∉ fp W) ∧ Bk wr w4.heap.size 49 #[.bool true, .slice A L.length c, .slice W k d] ∧ Below w4.heap.size w4 wr ∧ w4.heap.size + 1 ≤ wr.heap.size)
      case atStart => exact ⟨0, 0, none, [], by omega, rfl, hidp rfl, OwnV.none _ _, by simp, by simp, bv, hB0, hz1⟩
      case round =>
        clear bv hB0 hz1
        obtain ⟨k, d, W, rs, hk, rfl, Hm, oW, hro, hap, bv, hB, hz⟩ := hrel
        have hw : Below w.heap.size w wr := HB4.out.trans (hB.mono HB4.out.size)
        by_cases hlt : k < s.tasks.length
        · have sc := HSC.out.keep (Keeps.of_below hB)
          obtain ⟨sc_0, sc_1, sc_2, sc_3⟩ := id sc
          obtain ⟨y0, y1, y2⟩ := Y3 bv
          have HX := wallN_any s L A c k _ (HS1.out _ hw) (HA.out.keep (Keeps.of_below hB))
          rw [Hwl.out, Hwk.out] at HX
          obtain ⟨zs, Hzs⟩ : ∃ l, Hid (wl k = l) := ⟨_, hidp rfl⟩
          obtain ⟨zk, Hzk⟩ : ∃ l, Hid (wk k = l) := ⟨_, hidp rfl⟩
          rw [Hzs.out, Hzk.out] at HX
          have Hrs : Hid (rs.length = k) := hidp oW.len.symm
          go_wp2_with fail
          refine HX.mono ?_
          rintro e w5 ⟨a', c', rfl, hR, hb3, hfr⟩
          have hF : ∀ x ∈ fp a', x ∉ fp W := fun x hx hx2 => by have := hfr x hx; have := (own_fp oW.own x hx2).2; omega
          have hlt5 : ∀ x ∈ fp a', zs ≠ [] → x < w5.heap.size := fun x hx hz => by
            rcases hR.at_ with e | ⟨b, off, e, hc⟩
            · exact absurd e hz
            · subst e; simp [fp] at hx; subst hx; exact cell_lt (hc 0 (List.length_pos_iff.2 hz))
          have HR5 := hidp hR
          have HF5 := hidp hF
          have HL5 := hidp hlt5
          have Hfr := hidp hfr
          have hs5 := hb3.size
          have oW6 := (oW.turned (Turned.of_below hb3 []) (by simp)).turned ((Turned.refl [] w5).alloc (.cells #[.slice a' zs.length c'] 22)) (by simp)
          have S2 := hidp (Lies.newCells' w5 [.slice a' zs.length c'] 22)
          have Z2 : Hid (w4.heap.size + 1 ≤ (w5.alloc (.cells #[.slice a' zs.length c'] 22)).heap.size) := hidp (Nat.le_trans hz (Nat.le_trans hs5 (by simp)))
          have O2 := hidp (rows_one ⟨a', c', zs⟩)
          have N2 : Hid (k + 1 ≤ maxLen) := hidp (by unfold maxLen; omega)
          have T2 : Hid ((k + 1) * 24 ≤ 140737488355328) := hidp (by omega)
          have Hfp := hidp (own_fp oW.own)
          have bv5 := bv.below hb3
          have bv6 := bv5.alloc (.cells #[.slice a' zs.length c'] 22)
          have hB6 := (hB.trans (hb3.mono hB.size)).alloc (hB.trans (hb3.mono hB.size)).size (.cells #[.slice a' zs.length c'] 22)
          have Hb3 := hidp hb3
          clear y0 y1 y2 sc_0 sc_1 sc_2 sc_3 sc HX hR hF hlt5 hfr hb3 oW bv hB
          obtain ⟨y0, y1, y2⟩ := Y3 bv5
          go_wp2_with (at_builtin; refine wpList_app2 _ rfl (.tmp 46) (.tmp 48) 47 rfl (w4.heap.size + 1) 22 i1 _ 1 24 Tryz.underlying47 hi0 hy0 hy1 hy2 rfl (by decide) W k d _ rfl oW6.own _ _ 1 1 [.slice a' zs.length c'] rfl (by simp) rfl S2.out O2.out N2.out T2.out Z2.out ?_; intro W' d' w7 happ; have D7 := bv6.turned happ.turned (fun hf => by have := (Hfp.out _ hf).1; omega); obtain ⟨x0, x1, x2⟩ := Y3 D7; obtain ⟨f0, f1, f2⟩ := YF3 D7)
          go_roundg (gk - 1)
          case measure => omega
          case rel =>
            have TS := (Turned.refl [w4.heap.size] w7).setCell (p := ⟨w4.heap.size, 2, none⟩) (.inl (by simp)) (.slice W' (k + 1) d')
            have hs7 := happ.turned.size
            have hs6 : w5.heap.size + 1 = (w5.alloc (.cells #[.slice a' zs.length c'] 22)).heap.size := by simp
            refine ⟨k + 1, d', W', rs ++ [⟨a', c', zs⟩], by omega, by go_num, hidp (by rw [List.map_append, Hm.out, List.range_succ, List.map_append]; simp [Hzs.out]), (oW6.app (ps := [⟨a', c', zs⟩]) happ rfl).turned TS (fun j hj => by
              rcases happ.fps j hj with h | h
              · have := (Hfp.out j h).1; simp; omega
              · simp; omega), fun r hr => ?_, fun r hr => ?_, D7.put 2 (.slice W' (k + 1) d'), (hB6.trans (happ.turned.below hB6.size (fun j hj => by have := (Hfp.out j hj).1; omega))).trans (TS.below (Nat.le_trans hB6.size hs7) (by simp)), Nat.le_trans (Nat.le_trans Z2.out hs7) TS.size⟩
            · rcases List.mem_append.1 hr with hm | hm
              · refine (IntsOk.turned2 (((hro r hm).keep (Keeps.of_below Hb3.out)).keep (Keeps.alloc _ _)) happ.turned ?_).turned2 TS ?_
                · rcases hap r hm with e | e
                  · exact .inl e
                  · exact .inr (fun j hj => (e j hj).2.2)
                · rcases hap r hm with e | e
                  · exact .inl e
                  · exact .inr (fun j hj => by have := (e j hj).1; simp; omega)
              · simp only [List.mem_cons, List.not_mem_nil, or_false] at hm
                subst hm
                refine (IntsOk.turned2 (HR5.out.keep (Keeps.alloc _ _)) happ.turned (.inr HF5.out)).turned2 TS (.inr (fun j hj => by have := Hfr.out j hj; simp; omega))
            · rcases List.mem_append.1 hr with hm | hm
              · rcases hap r hm with e | e
                · exact .inl e
                · refine .inr (fun x hx => ⟨(e x hx).1, ?_, fun hf => ?_⟩)
                  · have := (e x hx).2.1; have := TS.size; omega
                  · rcases happ.fps x hf with h | h
                    · exact (e x hx).2.2 h
                    · have := (e x hx).2.1; omega
              · simp only [List.mem_cons, List.not_mem_nil, or_false] at hm
                subst hm
                by_cases ez : zs = []
                · exact .inl ez
                · refine .inr (fun x hx => ⟨by have := Hfr.out x hx; omega, ?_, fun hf => ?_⟩)
                  · have := HL5.out x hx ez; have := TS.size; omega
                  · rcases happ.fps x hf with h | h
                    · exact HF5.out x hx h
                    · have := HL5.out x hx ez; omega
        · have hkn : k = s.tasks.length := by omega
          have bkr := HBK.out.below hB
          obtain ⟨y0, y1, y2⟩ := Y3 bv
          obtain ⟨z0, z1, z2⟩ := Y3 bkr
          obtain ⟨f0, f1, f2⟩ := YF3 bkr
          have hkI : (k : Int) = (s.tasks.length : Int) := by omega
          have hAr := HA.out.keep (Keeps.of_below hB)
          have Hrl := hidp (oW.len)
          have Hkn := hidp hkn
          clear hkn hkI
          go_wp2_with fail
          have PB := v3_bk bkr (v0 := .bool true) (v1 := .slice A L.length c) (v2 := .slice W k d)
          have PT := v3_turned wr (w.heap.size + 1) (.bool true) (.slice A L.length c) (.slice W k d)
          obtain ⟨x0, x1, x2⟩ := Y3 PB
          have hbe := hw.trans (PT.below hw.size (by simp))
          refine bodyPost_ret (v := .tuple #[.agg #[.bool true, .slice A L.length c, .slice W k d], .int .i64 0]) (by simp [results, Tryz.results17, go_sem, x0, x1, x2]) rfl ⟨⟨⟨true, A, c, L, W, d, rs⟩, ?_, ⟨hAr.other bkr (fun z h => by cases h) (fun z h => by cases h) (fun z h => by cases h) PT, ?_, ?_, fun r hr => (hro r hr).other bkr (fun z h => by cases h) (fun z h => by cases h) (fun z h => by cases h) PT⟩, ?_, HB.out.symm, ?_⟩, hbe⟩
          · rw [HanE.out, Hes.out, ← Hrl.out]
          · show SlOk W rs.length d
            rw [← Hrl.out]; exact ⟨oW.nil, oW.cap⟩
          · exact (oW.turned PT (fun j hj => by have := (own_fp oW.own j hj).1; simp; omega)).at_
          · rw [HanE.out, Hes.out]; rfl
          · rw [HW.out, Hm.out, Hkn.out]
            exact (List.map_congr_left (fun i _ => Hwl.out i)).symm
    · have es1 : (se != 0) = true := by simpa using es
      have HB : Hid (anB s = []) := hidp (by unfold anB; rw [HanE.out, if_neg es])
      have HW : Hid (anW s = []) := hidp (by unfold anW; rw [HanE.out, if_neg es])
      have Hok : Hid (decide (anE s = 0) = false) := hidp (by rw [HanE.out]; simpa using es)
      clear es
      go_enter Tryz.func17, Tryz.ntmps17
      go_wp2_with fail
      refine HC.mono ?_
      rintro e w2 ⟨rfl, hb2⟩
      replace hb := hb.trans (hb2.mono hb.size)
      replace sc := sc.keep (Keeps.of_below hb2)
      replace bk := bk.below hb2
      replace H := H.keep (Keeps.of_below hb2)
      clear hb2 HC
      obtain ⟨sc_0, sc_1, sc_2, sc_3⟩ := id sc
      go_wp2_with fail
      refine (HS _ H).mono ?_
      rintro e w4 ⟨A, c, rfl, hA, hb2⟩
      replace hb := hb.trans (hb2.mono hb.size)
      replace bk := bk.below hb2
      obtain ⟨z0, z1, z2⟩ := Y3 bk
      obtain ⟨f0, f1, f2⟩ := YF3 bk
      clear hb2 hA sc_0 sc_1 sc_2 sc_3
      go_wp2_with fail
      have PB := v3_bk bk (v0 := .bool false) (v1 := .slice none 0 0) (v2 := .slice none 0 0)
      have PT := v3_turned w4 (w.heap.size + 1) (.bool false) (.slice none 0 0) (.slice none 0 0)
      obtain ⟨x0, x1, x2⟩ := Y3 PB
      have hbe := hb.trans (PT.below hb.size (by simp))
      exact bodyPost_ret (v := .tuple #[.agg #[.bool false, .slice none 0 0, .slice none 0 0], .int .i64 se]) (by simp [results, Tryz.results17, go_sem, x0, x1, x2]) rfl ⟨⟨⟨false, none, 0, [], none, 0, []⟩, by rw [HanE.out]; rfl, VerdOk.none _, Hok.out.symm, HB.out.symm, HW.out.symm⟩, hbe⟩
  · have e1 : (ce != 0) = true := by rw [← Hce.out]; simpa using e
    have HanE : Hid (anE s = ce) := hidp (by unfold anE; rw [if_neg e, Hce.out])
    have hne : ¬ anE s = 0 := by rw [HanE.out, ← Hce.out]; exact e
    have HB : Hid (anB s = []) := hidp (by unfold anB; rw [if_neg hne])
    have HW : Hid (anW s = []) := hidp (by unfold anW; rw [if_neg hne])
    have Hok : Hid (decide (anE s = 0) = false) := hidp (by simpa using hne)
    clear e hne
    go_enter Tryz.func17, Tryz.ntmps17
    go_wp2_with fail
    refine HC.mono ?_
    rintro e w2 ⟨rfl, hb2⟩
    replace hb := hb.trans (hb2.mono hb.size)
    replace bk := bk.below hb2
    obtain ⟨z0, z1, z2⟩ := Y3 bk
    obtain ⟨f0, f1, f2⟩ := YF3 bk
    clear hb2 HC
    go_wp2_with fail
    have PB := v3_bk bk (v0 := .bool false) (v1 := .slice none 0 0) (v2 := .slice none 0 0)
    have PT := v3_turned w2 (w.heap.size + 1) (.bool false) (.slice none 0 0) (.slice none 0 0)
    obtain ⟨x0, x1, x2⟩ := Y3 PB
    have hbe := hb.trans (PT.below hb.size (by simp))
    exact bodyPost_ret (v := .tuple #[.agg #[.bool false, .slice none 0 0, .slice none 0 0], .int .i64 ce]) (by simp [results, Tryz.results17, go_sem, x0, x1, x2]) rfl ⟨⟨⟨false, none, 0, [], none, 0, []⟩, by rw [HanE.out]; rfl, VerdOk.none _, Hok.out.symm, HB.out.symm, HW.out.symm⟩, hbe⟩
end Go.Proofs.YtjjlpaampmpdfaaGreatDoor

namespace Go.Proofs.YtjjlpaampmpdfaaGreatDoor
open Go.ChangeShapes Go.WideShapes Go.ChangeAt Go.RowKit
set_option linter.unusedVariables false
set_option linter.unusedSimpArgs false
def wErr : Bts := [101, 114, 114, 111, 114, 32]
def wordV (n : Int) : Bts := if n = 19 then wLate else if n = 20 then wUnk else wErr ++ textL n
theorem error_any (n : Int) (w : World) (hn : 0 ≤ n ∧ n ≤ 9999999) (ht : Tab w) : Calls Tryz.prog 22 #[.int .i64 n] w fun e w' => ∃ r : ByteArray, e = .returned (.string r) ∧ bl r = wErr ++ textL n ∧ Below w.heap.size w w' := by
  have C := Tryz.strconv_Itoa n (by omega) (by omega) w ht
  have e1 : Lib.itoa n = Lib.decDigits n.toNat := by unfold Lib.itoa; rw [if_neg (by omega)]
  rw [e1] at C
  obtain ⟨x, Hx⟩ : ∃ x, Hid (mkB (Lib.decDigits n.toNat) = x) := ⟨_, hidp rfl⟩
  have hx : x.size ≤ 7 := by rw [← Hx.out, ← bl_len, bl_mk]; exact (dec_len _ (by omega)).2
  have HV : Hid (bl ((⟨#[101, 114, 114, 111, 114, 32]⟩ : ByteArray) ++ x) = wErr ++ textL n) := hidp (by
    rw [bl_append, ← Hx.out, bl_mk]
    unfold textL textV
    rw [if_neg (by omega), bl_mk]; rfl)
  have k1 : ¬ 9223372036854775807 < 6 + x.size := by omega
  have HC : Hid (Calls Tryz.prog 34 #[.int .i64 n] w fun e w' => e = .returned (.string x) ∧ ∃ k os, w' = Sort.grow (w.drewN k) os) := hidp (by rw [← Hx.out]; exact C)
  clear C e1 ht
  go_enter Tryz.func22, Tryz.ntmps22
  go_wp2_with fail
  refine HC.out.mono ?_
  rintro e w' ⟨rfl, k, os, rfl⟩
  go_wp2_with fail
  go_ret
  exact ⟨_, rfl, HV.out, below_grow k os⟩
theorem word_any (n : Int) (w : World) (hn : 0 ≤ n ∧ n ≤ 9999999) (ht : Tab w) : Calls Tryz.prog 15 #[.int .i64 n] w fun e w' => ∃ r : ByteArray, e = .returned (.string r) ∧ bl r = wordV n ∧ Below w.heap.size w w' := by
  by_cases h1 : n = 19
  · subst h1
    clear ht
    go_enter Tryz.func15, Tryz.ntmps15
    go_wp2_with fail
    go_ret
    exact ⟨_, rfl, rfl, Below.refl _ _⟩
  by_cases h2 : n = 20
  · subst h2
    clear ht
    go_enter Tryz.func15, Tryz.ntmps15
    go_wp2_with fail
    go_ret
    exact ⟨_, rfl, rfl, Below.refl _ _⟩
  have f1 : (n == 19) = false := by rw [beq_eq_false_iff_ne]; exact h1
  have f2 : (n == 20) = false := by rw [beq_eq_false_iff_ne]; exact h2
  have HV : Hid (wordV n = wErr ++ textL n) := hidp (by unfold wordV; rw [if_neg h1, if_neg h2])
  have HC := hidp (error_any n w hn ht)
  clear ht h1 h2
  go_enter Tryz.func15, Tryz.ntmps15
  go_wp2_with fail
  refine HC.out.mono ?_
  rintro e w' ⟨r, rfl, hv, hb⟩
  have H := hidp (hv.trans HV.out.symm)
  clear hv
  go_wp2_with fail
  go_ret
  exact ⟨r, rfl, H.out, hb⟩
theorem its_at {ts : List TaskR} {n i : Nat} (hi : i < n) : (itsN ts n).getD i (0, 0) = ((ts.getD i default).prio, (i : Int)) := by
  unfold itsN; simp [List.getD, hi]
set_option maxHeartbeats 8000000 in
set_option maxRecDepth 100000 in
theorem byPrio_any (s : SetR) (w : World) (hs : SetOk w s) (ho : okS s = true) : Calls Tryz.prog 26 #[.agg #[.int .i64 s.proto, .slice s.ca s.cores.length s.cc, .slice s.ha s.homes.length s.hc, .slice s.ta s.tasks.length s.tc]] w (IntsPost w s.tasks.length (ordL s.tasks)) := by
  have hl : s.tasks.length ≤ 6 := (Good.of ho).ntasks.2
  have HNE : Hid (∀ i j : Nat, i < s.tasks.length → j < s.tasks.length → i ≠ j → (s.tasks.getD i default).prio ≠ (s.tasks.getD j default).prio) := hidp (fun i j hi hj hne => prio_ne ho hi hj hne)
  have HA := hidp hs.tasks.at_
  obtain ⟨proto, ca, cc, cores, ha, hc, homes, ta, tc, tasks⟩ := s
  dsimp only at HA HNE hl ⊢
  clear hs ho
  obtain ⟨N, hN⟩ : ∃ N, tasks.length = N := ⟨_, rfl⟩
  have HN := hidp hN
  obtain ⟨v, HV, bx, hbw, hsv⟩ : ∃ v, Hid (w.alloc (.cells #[.int .i64 proto, .slice ca cores.length cc, .slice ha homes.length hc, .slice ta N tc] 25) = v) ∧ Bk v w.heap.size 25 #[.int .i64 proto, .slice ca cores.length cc, .slice ha homes.length hc, .slice ta N tc] ∧ Below w.heap.size w v ∧ v.heap.size = w.heap.size + 1 :=
    ⟨_, hidp rfl, Bk.new w 25 #[.int .i64 proto, .slice ca cores.length cc, .slice ha homes.length hc, .slice ta N tc], (Below.refl _ _).alloc (Nat.le_refl _) _, by simp⟩
  have HSV := hidp hsv
  have HBX := hidp bx
  have HBW := hidp hbw
  rw [hN] at hl ⊢
  clear hsv hN
  go_enter Tryz.func26, Tryz.ntmps26
  go_wp2_with fail
  rw [HV.out]
  clear hbw
  obtain ⟨x0, x1, x2, x3⟩ := Z4 bx
  clear bx
  go_wp2_with fail
  go_loopg [3, 10] N (fun g r i wr => ∃ (k : Nat) (D : Option Addr) (d : Nat), k + g = N ∧ i = .int .i64 k ∧ r = .slice D k d ∧ Hid (OwnN v.heap.size wr D k d ((isort (itsN tasks k)).map (·.2))) ∧ Hid (Below v.heap.size v wr))
  case atStart => exact ⟨0, none, 0, by omega, rfl, rfl, hidp (by simpa [itsN, isort] using OwnN.zero _ _), hidp (Below.refl _ _)⟩
  case round =>
    clear x0 x1 x2 x3
    obtain ⟨k, D, d, hk, rfl, rfl, o, hb⟩ := hrel
    obtain ⟨wo, rfl⟩ : ∃ x, x = wr := ⟨_, rfl⟩
    have HKW := hidp (Keeps.trans (Keeps.of_below HBW.out) (Keeps.of_below hb.out))
    have wk : IntKind.i64.wrap ((k : Int) + 1) = (k : Int) + 1 := IntWalk.i64_in _ (by omega)
    by_cases hlt : k < N
    · obtain ⟨g, off, rfl, hcl⟩ := HA.out.resolve_left (by intro e; have := HN.out; rw [e] at this; simp at this; omega)
      have HCL : Hid (∀ i, i < N → ∀ w', Keeps w w' → TaskCells w' g (off + i * 6) (tasks.getD i default)) := hidp (fun i hi w' hk => (hcl i (by rw [HN.out]; exact hi)).keep hk)
      clear hcl
      obtain ⟨⟨nm, per, dl, prio, cl, pa, pc, ps⟩, HT⟩ : ∃ t, Hid (tasks.getD k default = t) := ⟨_, hidp rfl⟩
      obtain ⟨c0, c1, c2, c3, c4, c5⟩ : TaskCells wo g (off + k * 6) ⟨nm, per, dl, prio, cl, pa, pc, ps⟩ := HT.out ▸ HCL.out k hlt wo HKW.out
      dsimp only at c0 c1 c2 c3 c4 c5
      have hba : Below wo.heap.size wo (wo.alloc (.cells #[.string nm, .int .i64 per, .int .i64 dl, .int .i64 prio, .int .i64 cl, .slice pa ps.length pc] 41)) := (Below.refl _ wo).alloc (Nat.le_refl _) _
      have HBA := hidp hba
      have HB1 := hidp (hb.out.trans (hba.mono hb.out.size))
      have HT3 := hidp ((Bk.new wo 41 #[.string nm, .int .i64 per, .int .i64 dl, .int .i64 prio, .int .i64 cl, .slice pa ps.length pc]).cell 3)
      have HO1 := hidp (o.out.turned (Turned.of_below hba []) (by simp))
      have HZL : Hid ((isort (itsN tasks k)).length = k) := hidp (by rw [isort_len, itsN_len])
      have HINS : Hid (∀ (u : World) (m : Nat), Qt (wo.alloc (.cells #[.string nm, .int .i64 per, .int .i64 dl, .int .i64 prio, .int .i64 cl, .slice pa ps.length pc] 41)) u → m ≤ k → (∀ y ∈ (isort (itsN tasks k)).take m, y.1 ≤ prio) → (∀ y ∈ (isort (itsN tasks k)).drop m, prio < y.1) →
          Calls Tryz.prog 45 #[.slice D k d, .int .i64 m, .slice (some ⟨u.heap.size, 0, none⟩) 1 1] (u.alloc (.cells #[.int .i64 (k : Int)] 3)) fun e w' => ∃ A' c', e = .returned (.slice A' (k + 1) c') ∧ OwnN v.heap.size w' A' (k + 1) c' ((isort (itsN tasks (k + 1))).map (·.2)) ∧ Below v.heap.size v w') := hidp (fun u m hq hm h1 h2 => by
        have hbu := (hq.below HB1.out)
        have hou := (HO1.out.turned (hq.turned []) (by simp)).turned (Turned.of_below ((Below.refl u.heap.size u).alloc (Nat.le_refl _) (.cells #[.int .i64 (k : Int)] 3)) []) (by simp)
        have hfp := own_fp (HO1.out.turned (hq.turned []) (by simp)).own
        have hba2 := hbu.alloc hbu.size (.cells #[.int .i64 (k : Int)] 3)
        refine (insert_any (i := m) (x := (k : Int)) hou hm (Bk.new u 3 #[.int .i64 (k : Int)]) (fun hm => by have := (hfp _ hm).2; omega) (by omega) hba2.size).mono ?_
        rintro e w' ⟨A', c', rfl, ho, ht⟩
        refine ⟨A', c', rfl, ?_, hba2.trans (ht.below hba2.size (fun i hi => (own_fp hou.own i hi).1))⟩
        have := ord_put (ts := tasks) (k := k) (m := m) hm (by rw [HT.out]; exact h1) (by rw [HT.out]; exact h2)
        rw [this]
        exact ho)
      clear hba
      have x3 := (Keeps.of_below hb.out) _ _ (HBX.out.cell 3)
      go_wp2_with fail
      try go_step3
      try go_wp2_with fail
      try go_step3
      try go_wp2_with fail
      go_loopg [6] k (fun g2 s6 wr2 => ∃ m : Nat, m = g2 ∧ s6 = .int .i64 m ∧ m ≤ k ∧ Hid (∀ y ∈ (isort (itsN tasks k)).drop m, prio < y.1) ∧ Hid (Qt (wo.alloc (.cells #[.string nm, .int .i64 per, .int .i64 dl, .int .i64 prio, .int .i64 cl, .slice pa ps.length pc] 41)) wr2))
      case atStart => exact ⟨k, rfl, rfl, Nat.le_refl _, hidp (by rw [List.drop_of_length_le (by rw [HZL.out]; exact Nat.le_refl _)]; simp), hidp (Qt.refl _)⟩
      case round =>
        clear c0 c1 c2 c3 c4 c5
        obtain ⟨m, hmg, rfl, hmk, Hy, HQ⟩ := hrel
        have HMG := hidp hmg
        clear hmg
        by_cases hm0 : m = 0
        · have HCI := hidp (HINS.out wr 0 HQ.out (Nat.zero_le _) (by simp) (by rw [← hm0]; exact Hy.out))
          subst hm0
          go_wp2_with fail
          refine HCI.out.mono ?_
          rintro e u2 ⟨A2, c2, rfl, ho2, hb2⟩
          have HO2 := hidp ho2
          have HB2 := hidp hb2
          clear ho2 hb2
          go_wp2_with fail
          try rw [Exit.noGoto_normal]
          try go_wp2_with fail
          go_roundg (N - k - 1)
          case measure => omega
          case rel => exact ⟨k + 1, A2, c2, by omega, by go_num, rfl, HO2, HB2⟩
        · obtain ⟨j, hj⟩ : ∃ j : Nat, m = j + 1 := ⟨m - 1, by omega⟩
          have HJ := hidp hj
          have hjk : j < k := by omega
          have hjl : j < (isort (itsN tasks k)).length := by rw [HZL.out]; exact hjk
          obtain ⟨y, HY⟩ : ∃ y, Hid ((isort (itsN tasks k)).getD j (0, 0) = y) := ⟨_, hidp rfl⟩
          have HYm : Hid (y ∈ isort (itsN tasks k)) := hidp (by rw [← HY.out]; simp [List.getD, hjl])
          obtain ⟨q, hq1, hq2⟩ := its_in ((isort_perm _).mem_iff.1 HYm.out)
          have HQ2 := hidp hq2
          have wj : IntKind.i64.wrap ((m : Int) - 1) = (j : Int) := by rw [IntWalk.i64_in _ (by omega)]; omega
          have hm1 : (0 : Int) < (m : Int) := by omega
          have hj0 : (0 : Int) ≤ (j : Int) := by omega
          have hjk2 : (j : Int) < (k : Int) := by omega
          have hq0 : (0 : Int) ≤ (q : Int) := by omega
          have hqN : (q : Int) < (N : Int) := by omega
          obtain ⟨gd, rfl, hcd⟩ := ((HO1.out.turned (HQ.out.turned []) (by simp))).at0 (by rw [List.length_map, HZL.out]; omega)
          have d1 : wr.cell? ⟨gd, j, none⟩ = some (.int .i64 (q : Int)) := by
            have h5 := hcd j (by rw [List.length_map]; exact hjl)
            have h6 : ((isort (itsN tasks k)).map (·.2)).getD j 0 = (q : Int) := by
              have h7 := HY.out
              rw [hq2] at h7
              simp only [List.getD, List.getElem?_map, List.getElem?_eq_getElem hjl, Option.map_some, Option.getD_some] at h7 ⊢
              rw [h7]
            rwa [h6] at h5
          obtain ⟨pq, HPQ⟩ : ∃ z, Hid ((tasks.getD q default).prio = z) := ⟨_, hidp rfl⟩
          have d2 : wr.cell? ⟨g, off + q * 6 + 3, none⟩ = some (.int .i64 pq) := by
            have := (HCL.out q (by omega) wr (HKW.out.trans ((Keeps.of_below HBA.out).trans (Keeps.of_qt HQ.out)))).2.2.2.1
            rwa [HPQ.out] at this
          have d3 : wr.cell? ⟨wo.heap.size, 3, none⟩ = some (.int .i64 prio) := (Keeps.of_qt HQ.out) _ _ HT3.out
          have d4 := (Keeps.of_qt HQ.out) _ _ ((Keeps.of_below HBA.out) _ _ x3)
          have HNP : Hid (pq ≠ prio) := hidp (by
            have := HNE.out q k (by rw [HN.out]; omega) (by rw [HN.out]; exact hlt) (by omega)
            rwa [HPQ.out, HT.out] at this)
          have HYP : Hid (y.1 = pq) := hidp (by rw [hq2]; exact HPQ.out)
          clear hj hcd hjl hq2 hq1
          by_cases hp : pq < prio
          · have HTK : Hid (∀ z ∈ (isort (itsN tasks k)).take m, z.1 ≤ prio) := hidp (by
              rw [HJ.out]
              refine srt_take (isort_srt _) (by rw [HZL.out]; exact hjk) ?_
              rw [HY.out, HYP.out]; omega)
            have HCI := hidp (fun n => HINS.out (wr.drewN n) m (HQ.out.add n) hmk HTK.out Hy.out)
            clear hm0
            go_wp2_with fail
            go_quiet (fail)
            go_wp2_with fail
            refine (HCI.out _).mono ?_
            rintro e u2 ⟨A2, c2, rfl, ho2, hb2⟩
            have HO2 := hidp ho2
            have HB2 := hidp hb2
            clear ho2 hb2
            go_wp2_with fail
            try rw [Exit.noGoto_normal]
            try go_wp2_with fail
            go_roundg (N - k - 1)
            case measure => omega
            case rel => exact ⟨k + 1, A2, c2, by omega, by go_num, rfl, HO2, HB2⟩
          · have HY2 : Hid (∀ z ∈ (isort (itsN tasks k)).drop j, prio < z.1) := hidp (fun z hz => by
              have hjl : j < (isort (itsN tasks k)).length := by rw [HZL.out]; exact hjk
              rw [List.drop_eq_getElem_cons hjl] at hz
              rcases List.mem_cons.1 hz with e | e
              · have h7 := HY.out
                simp only [List.getD, List.getElem?_eq_getElem hjl, Option.getD_some] at h7
                rw [e, h7, HYP.out]
                have := HNP.out; omega
              · exact Hy.out z (by rw [HJ.out]; exact e))
            clear hm0
            go_wp2_with fail
            go_quiet (fail)
            go_wp2_with fail
            go_roundg j
            case measure => have := HJ.out; have := HMG.out; omega
            case rel => exact ⟨j, rfl, by go_num, by omega, HY2, hidp (HQ.out.add _)⟩
    · obtain rfl : k = N := by omega
      have HL : Hid (itsN tasks k = its tasks) := hidp (by unfold its; rw [HN.out])
      go_wp2_with fail
      go_ret
      refine ⟨D, d, rfl, ?_, HBW.out.trans (hb.out.mono HBW.out.size)⟩
      have h5 := o.out
      rw [HL.out] at h5
      exact h5.low HBW.out.size
end Go.Proofs.YtjjlpaampmpdfaaGreatDoor

namespace Go.Proofs.YtjjlpaampmpdfaaGreatDoor
open Go.ChangeShapes Go.WideShapes Go.ChangeAt Go.RowKit
set_option linter.unusedVariables false
set_option linter.unusedSimpArgs false
/-- a row of texts of the call's own, what they read as -/
def StrL (B : Nat) (w : World) (A : Option Addr) (n c : Nat) (L : List Bts) : Prop := ∃ ls : List ByteArray, OwnS B w A n c ls ∧ ls.map bl = L ∧ ∀ x ∈ ls, x.size ≤ 2000
def StrLPost (w : World) (L : List Bts) (e : Ending) (w' : World) : Prop := ∃ A c, e = .returned (.slice A L.length c) ∧ StrL w.heap.size w' A L.length c L ∧ Below w.heap.size w w'
theorem StrL.turned {B : Nat} {w w' : World} {A : Option Addr} {n c : Nat} {L : List Bts} {F : List Nat} (h : StrL B w A n c L) (ht : Turned F w w') (hF : ∀ k ∈ fp A, k ∉ F) : StrL B w' A n c L := by
  obtain ⟨ls, h1, h2⟩ := h
  exact ⟨ls, h1.turned ht hF, h2⟩
theorem StrL.own {B : Nat} {w : World} {A : Option Addr} {n c : Nat} {L : List Bts} (h : StrL B w A n c L) : ∃ xs : List ByteArray, w.ownsRow B 9 1 (.slice A n c) n (xs.map Value.string) ∧ (∀ (w1 w2 : World) (A' : Option Addr) (c' : Nat) (x : ByteArray), x.size ≤ 2000 → App B 9 1 w1 A A' (n + 1) c' (xs.map Value.string ++ [.string x]) w2 → StrL B w2 A' (n + 1) c' (L ++ [bl x])) := by
  obtain ⟨ls, h1, h2, h3⟩ := h
  refine ⟨ls, h1.own, fun w1 w2 A' c' x hx ha => ⟨ls ++ [x], h1.app ha, by rw [List.map_append, h2]; rfl, fun y hy => ?_⟩⟩
  rcases List.mem_append.1 hy with h | h
  · exact h3 y h
  · rw [List.mem_singleton.1 h]; exact hx
theorem StrL.len {B : Nat} {w : World} {A : Option Addr} {n c : Nat} {L : List Bts} (h : StrL B w A n c L) : n = L.length := by
  obtain ⟨ls, h1, h2, _⟩ := h
  rw [h1.len, ← h2, List.length_map]
theorem StrL.low {B B' : Nat} {w : World} {A : Option Addr} {n c : Nat} {L : List Bts} (h : StrL B w A n c L) (hB : B' ≤ B) : StrL B' w A n c L := by
  obtain ⟨ls, h1, h2⟩ := h
  exact ⟨ls, h1.low hB, h2⟩
theorem StrL.fpB {B : Nat} {w : World} {A : Option Addr} {n c : Nat} {L : List Bts} (h : StrL B w A n c L) : ∀ k ∈ fp A, B ≤ k ∧ k < w.heap.size := by
  obtain ⟨ls, h1, _⟩ := h
  exact own_fp h1.own
theorem wordsR_len (s : SetR) (bs : List Int) (ws : List (List Int)) (i k : Nat) : 3 ≤ (wordsR s bs ws i k).length ∧ (wordsR s bs ws i k).length ≤ k + 3 := by
  have := locksL_len (s.tasks.getD i default).parts (ws.getD i []) k
  unfold wordsR
  rw [List.length_cons, List.length_cons, List.length_cons]
  omega
theorem line_size {s : SetR} {bs : List Int} {ws : List (List Int)} {i : Nat} (h : (s.tasks.getD i default).name.size ≤ 100) (hp : (s.tasks.getD i default).parts.length ≤ 6) : (lineR s bs ws i).length ≤ 2000 := by
  unfold lineR
  have h1 := wordsR_len s bs ws i (s.tasks.getD i default).parts.length
  have h2 : (joinT 32 (wordsR s bs ws i (s.tasks.getD i default).parts.length)).length ≤ (wordsR s bs ws i (s.tasks.getD i default).parts.length).length * (100 + 1) := joinT_size (fun x hx => by
    unfold wordsR at hx
    rcases List.mem_cons.1 hx with e | e
    · rw [e, bl_len]; exact h
    · rcases List.mem_cons.1 e with e | e
      · rw [e]; have := textL_len (bs.getD i 0); omega
      · rcases List.mem_cons.1 e with e | e
        · rw [e]; have := textL_len (s.tasks.getD i default).dl; omega
        · have := locksL_mem e; omega)
  have h3 : (wordsR s bs ws i (s.tasks.getD i default).parts.length).length * (100 + 1) ≤ 9 * 101 := Nat.mul_le_mul (by omega) (Nat.le_refl _)
  omega
theorem strL_lit (w : World) (xs : List ByteArray) (h : ∀ x ∈ xs, x.size ≤ 2000) (hn : xs.length ≤ 1000) : StrL w.heap.size (w.alloc (.cells (xs.map Value.string).toArray 9)) (some ⟨w.heap.size, 0, none⟩) xs.length xs.length (xs.map bl) := by
  refine ⟨xs, ⟨own_of_bk (Bk.new w 9 _) (Nat.le_refl _) (Nat.le_refl _) (by unfold maxLen; omega) (by simp) ?_ (by simp), rfl, ⟨Nat.le_refl _, by unfold maxLen; omega⟩, by simp⟩, rfl, h⟩
  rw [List.take_of_length_le (by simp)]
theorem RowsAt.at_ {w : World} {a : Option Addr} {rs : List RowR} (h : RowsAt w a rs) {i : Nat} (hi : i < rs.length) : ∃ b off, a = some ⟨b, off, none⟩ ∧ w.cell? ⟨b, off + i, none⟩ = some (rs.getD i default).val := by
  rcases h with h | ⟨b, off, e, h⟩
  · rw [h] at hi; simp at hi
  · exact ⟨b, off, e, h i hi⟩
theorem Row.at_ {w : World} {a : Option Addr} {zs : List Int} (h : Row w .i64 a zs) {i : Nat} (hi : i < zs.length) : ∃ b off, a = some ⟨b, off, none⟩ ∧ w.cell? ⟨b, off + i, none⟩ = some (.int .i64 (zs.getD i 0)) := by
  rcases h with h | ⟨b, off, e, h⟩
  · rw [h] at hi; simp at hi
  · exact ⟨b, off, e, h i hi⟩
/-- what a verdict that fits a set holds -/
structure VFit (s : SetR) (v : VerdR) : Prop where
  nb : v.bounds.length = s.tasks.length
  nr : v.rows.length = s.tasks.length
  nw : ∀ i, i < s.tasks.length → ((v.rows.map RowR.zs).getD i []).length = (s.tasks.getD i default).parts.length
  bi : ∀ n ∈ v.bounds, I64 n
theorem text_calls (n : Int) (hn : I64 n) (w : World) (ht : ∀ u, Below w.heap.size w u → Tab u) : ∃ r : ByteArray, Hid (bl r = textL n) ∧ r.size ≤ 7 ∧ Hid (∀ u, Below w.heap.size w u → Calls Tryz.prog 27 #[.int .i64 n] u fun e w' => e = .returned (.string r) ∧ Below u.heap.size u w') :=
  ⟨textV n, hidp rfl, by rw [← bl_len]; exact textL_len n, hidp (fun u hu => text_any n u hn (ht u hu))⟩
set_option maxHeartbeats 16000000 in
set_option maxRecDepth 100000 in
theorem admitted_any (s : SetR) (v : VerdR) (w : World) (hs : SetOk w s) (ho : okS s = true) (hv : VerdOk w v) (hf : VFit s v) (ht : ∀ u, Below w.heap.size w u → Tab u) :
    Calls Tryz.prog 18 #[.agg #[.int .i64 s.proto, .slice s.ca s.cores.length s.cc, .slice s.ha s.homes.length s.hc, .slice s.ta s.tasks.length s.tc], .agg #[.bool v.ok, .slice v.ba v.bounds.length v.bc, .slice v.wa v.rows.length v.wc]] w (StrLPost w (wAdm :: (ordL s.tasks).map (fun i => lineR s v.bounds (v.rows.map RowR.zs) i.toNat))) := by
  have hl : s.tasks.length ≤ 6 := (Good.of ho).ntasks.2
  have HNM : Hid (∀ t ∈ s.tasks, t.name.size ≤ 100) := hidp (fun t h => by
    have := (Good.of ho).form t h
    unfold formB at this
    rw [Bool.and_eq_true] at this
    have h1 := this.1
    unfold nameB at h1
    rw [Bool.and_eq_true] at h1
    have := (of_decide_eq_true h1.1).2
    omega)
  have HPN : Hid (∀ t ∈ s.tasks, t.parts.length ≤ 6) := hidp (fun t h => by
    have h1 := (okS_iff s).1 ho
    obtain ⟨k, hk, rfl⟩ := mem_getD h
    have h2 := (taskE_ok (h1.2 k hk)).2.2.2
    unfold partsB at h2
    rw [Bool.and_eq_true] at h2
    have := inB_true.1 h2.1
    omega)
  obtain ⟨S, HSS⟩ : ∃ S, Hid (s = S) := ⟨_, hidp rfl⟩
  obtain ⟨V, HVV⟩ : ∃ V, Hid (v = V) := ⟨_, hidp rfl⟩
  have HS := hidp hs
  have HF := hidp hf
  have HVO := hidp hv
  have HT := hidp ht
  have HO := hidp ho
  obtain ⟨proto, ca, cc, cores, ha, hc, homes, ta, tc, tasks⟩ := s
  obtain ⟨ok, ba, bc, bounds, wa, wc, rows⟩ := v
  dsimp only at hl HNM HPN ⊢
  obtain ⟨N, hN⟩ : ∃ N, tasks.length = N := ⟨_, rfl⟩
  have HN := hidp hN
  have hb1 : bounds.length = N := hf.nb.trans hN
  have hr1 : rows.length = N := hf.nr.trans hN
  have HNB := hidp hb1
  have HNR := hidp hr1
  have hLL : ((ordL tasks).map (fun i => lineR ⟨proto, ca, cc, cores, ha, hc, homes, ta, tc, tasks⟩ bounds (rows.map RowR.zs) i.toNat)).length = N := by rw [List.length_map, ordL_len, hN]
  have HLL := hidp hLL
  have hb0 := (Below.refl w.heap.size w).alloc (Nat.le_refl _) (.cells #[.int .i64 proto, .slice ca cores.length cc, .slice ha homes.length hc, .slice ta N tc] 25)
  have hb2 := hb0.alloc hb0.size (.cells #[.bool ok, .slice ba N bc, .slice wa N wc] 49)
  have BS : Bk ((w.alloc (.cells #[.int .i64 proto, .slice ca cores.length cc, .slice ha homes.length hc, .slice ta N tc] 25)).alloc (.cells #[.bool ok, .slice ba N bc, .slice wa N wc] 49)) w.heap.size 25 #[.int .i64 proto, .slice ca cores.length cc, .slice ha homes.length hc, .slice ta N tc] := (Bk.new w _ _).alloc _
  have BV : Bk ((w.alloc (.cells #[.int .i64 proto, .slice ca cores.length cc, .slice ha homes.length hc, .slice ta N tc] 25)).alloc (.cells #[.bool ok, .slice ba N bc, .slice wa N wc] 49)) (w.heap.size + 1) 49 #[.bool ok, .slice ba N bc, .slice wa N wc] := Bk.at_ (by simp) rfl
  have hb3 := hb2.alloc hb2.size (.cells #[.string ⟨#[97, 100, 109, 105, 116, 116, 101, 100]⟩] 9)
  have hs3 := hs.keep (Keeps.of_below hb3)
  have CB := byPrio_any ⟨proto, ca, cc, cores, ha, hc, homes, ta, tc, tasks⟩ _ hs3 ho
  have HSL := hidp (strL_lit ((w.alloc (.cells #[.int .i64 proto, .slice ca cores.length cc, .slice ha homes.length hc, .slice ta N tc] 25)).alloc (.cells #[.bool ok, .slice ba N bc, .slice wa N wc] 49)) [⟨#[97, 100, 109, 105, 116, 116, 101, 100]⟩] (by intro x hx; rw [List.mem_singleton.1 hx]; decide) (by simp))
  dsimp only at CB
  rw [hN] at CB
  have HCB := hidp CB
  have HB3 := hidp hb3
  have HBS := hidp (BS.alloc (.cells #[.string ⟨#[97, 100, 109, 105, 116, 116, 101, 100]⟩] 9))
  have HBV := hidp (BV.alloc (.cells #[.string ⟨#[97, 100, 109, 105, 116, 116, 101, 100]⟩] 9))
  obtain ⟨x0, x1, x2, x3⟩ := Z4 HBS.out
  rw [hN] at hl
  rw [hN, hb1, hr1]
  clear hs hv hf ht ho hN hb1 hr1 hLL hb0 hb2 hb3 hs3 CB BS BV
  go_enter Tryz.func18, Tryz.ntmps18
  go_wp2_with fail
  refine HCB.out.mono ?_
  rintro e w1 ⟨D, d, rfl, hod, hbd⟩
  have HOD := hidp hod
  have HB1 := hidp (HB3.out.trans (hbd.mono HB3.out.size))
  have K1 := Keeps.of_below hbd
  have HBS1 := hidp (HBS.out.below hbd)
  have HBV1 := hidp (HBV.out.below hbd)
  have HW1 : Hid (w.heap.size + 1 + 1 < w1.heap.size) := hidp (by have := hbd.size; simp at this; omega)
  have HL0 : Hid (StrL w.heap.size w1 (some ⟨w.heap.size + 1 + 1, 0, none⟩) 1 1 [wAdm]) := hidp (by
    have h := (HSL.out.turned (Turned.of_below hbd []) (by simp)).low (B' := w.heap.size) (by simp; omega)
    have e : ((w.alloc (.cells #[.int .i64 proto, .slice ca cores.length cc, .slice ha homes.length hc, .slice ta N tc] 25)).alloc (.cells #[.bool ok, .slice ba N bc, .slice wa N wc] 49)).heap.size = w.heap.size + 1 + 1 := by simp
    rw [e] at h
    exact h)
  have ht0 := Turned.refl [w.heap.size + 1 + 1] w1
  have HDF : Hid (∀ q ∈ fp D, q ≠ w.heap.size + 1 + 1 ∧ q < w1.heap.size) := hidp (fun q hq => by have := own_fp hod.own q hq; simp at this; omega)
  clear hod hbd K1 x0 x1 x2 x3 HCB HBS HBV HSL HB3
  go_wp2_with fail
  go_loopg [5, 16] N (fun g ln i wr => ∃ (k c : Nat) (A : Option Addr), k + g = N ∧ i = .int .i64 k ∧ ln = .slice A (k + 1) c ∧ Hid (StrL w.heap.size wr A (k + 1) c (wAdm :: ((ordL tasks).take k).map (fun i => lineR ⟨proto, ca, cc, cores, ha, hc, homes, ta, tc, tasks⟩ bounds (rows.map RowR.zs) i.toNat))) ∧ Hid (Turned [w.heap.size + 1 + 1] w1 wr) ∧ Hid (∀ q ∈ fp A, q = w.heap.size + 1 + 1 ∨ w1.heap.size ≤ q))
  case atStart => exact ⟨0, 1, some ⟨w.heap.size + 1 + 1, 0, none⟩, by omega, rfl, rfl, hidp (by simpa using HL0.out), hidp ht0, hidp (by simp [fp])⟩
  case round =>
    clear HL0 ht0
    obtain ⟨k, c, A, hk, rfl, rfl, HLN, HTU, HAF⟩ := hrel
    obtain ⟨wo, rfl⟩ : ∃ x, x = wr := ⟨_, rfl⟩
    have wk : IntKind.i64.wrap ((k : Int) + 1) = (k : Int) + 1 := IntWalk.i64_in _ (by omega)
    have HBo := hidp (HB1.out.trans (HTU.out.below HB1.out.size (by simp; omega)))
    by_cases hlt : k < N
    · -- a task
      have hkl : k < (ordL tasks).length := by rw [ordL_len, HN.out]; exact hlt
      obtain ⟨q, Hq⟩ : ∃ q : Nat, Hid ((ordL tasks).getD k 0 = (q : Int)) := by
        have hm : (ordL tasks).getD k 0 ∈ ordL tasks := by simp [List.getD, hkl]
        have := ordL_in hm
        exact ⟨((ordL tasks).getD k 0).toNat, by show _ = _; omega⟩
      have hq : q < N := by
        have hm : (ordL tasks).getD k 0 ∈ ordL tasks := by simp [List.getD, hkl]
        have h1 := ordL_in hm
        rw [Hq.out, HN.out] at h1; omega
      have hql : q < tasks.length := by rw [HN.out]; exact hq
      have HTk : Hid (((ordL tasks).take (k + 1)).map (fun i => lineR ⟨proto, ca, cc, cores, ha, hc, homes, ta, tc, tasks⟩ bounds (rows.map RowR.zs) i.toNat) = ((ordL tasks).take k).map (fun i => lineR ⟨proto, ca, cc, cores, ha, hc, homes, ta, tc, tasks⟩ bounds (rows.map RowR.zs) i.toNat) ++ [lineR ⟨proto, ca, cc, cores, ha, hc, homes, ta, tc, tasks⟩ bounds (rows.map RowR.zs) q]) := hidp (by
        rw [List.take_succ_eq_append_getElem hkl, List.map_append]
        have h1 := Hq.out
        simp only [List.getD, List.getElem?_eq_getElem hkl, Option.getD_some] at h1
        rw [List.map_cons, List.map_nil, h1, Int.toNat_natCast])
      obtain ⟨gd, rfl, hcd⟩ := HOD.out.at0 (by rw [ordL_len, HN.out]; omega)
      have dk : wo.cell? ⟨gd, k, none⟩ = some (.int .i64 (q : Int)) := by
        have h1 := HTU.out.cell (hcd k hkl) (by have := HDF.out gd (by simp [fp]); simp; omega)
        rwa [Hq.out] at h1
      obtain ⟨⟨nm, per, dl, prio, cl, pa, pc, ps⟩, Ht⟩ : ∃ t, Hid (tasks.getD q default = t) := ⟨_, hidp rfl⟩
      have HTm : Hid ((⟨nm, per, dl, prio, cl, pa, pc, ps⟩ : TaskR) ∈ tasks) := hidp (by rw [← Ht.out]; simp [List.getD, hql])
      have HTO := hidp (HS.out.tasks.ok _ HTm.out)
      obtain ⟨P, hP⟩ : ∃ P, ps.length = P := ⟨_, rfl⟩
      have HP := hidp hP
      have hP6 : P ≤ 6 := by have := HPN.out _ HTm.out; dsimp only at this; omega
      have hnm : nm.size ≤ 100 := HNM.out _ HTm.out
      have K0 := Keeps.of_below HBo.out
      obtain ⟨gt, ot, rfl, hct⟩ := HS.out.tasks.at_.resolve_left (by intro e; dsimp only at e; rw [e] at hql; simp at hql)
      have hct2 := (hct q hql).keep K0
      dsimp only at hct2
      rw [Ht.out] at hct2
      obtain ⟨c0, c1, c2, c3, c4, c5⟩ := hct2
      dsimp only at c0 c1 c2 c3 c4 c5
      rw [hP] at c5
      obtain ⟨gb, ob, rfl, cb⟩ := Row.at_ HVO.out.bounds.at_ (i := q) (by dsimp only; rw [HNB.out]; exact hq)
      obtain ⟨bd, Hbd⟩ : ∃ z, Hid (bounds.getD q 0 = z) := ⟨_, hidp rfl⟩
      dsimp only at cb
      rw [Hbd.out] at cb
      have HBI : Hid (I64 bd) := hidp (by rw [← Hbd.out]; exact getD_i64 HF.out.bi q)
      obtain ⟨gw, ow, rfl, cwr⟩ := RowsAt.at_ HVO.out.at_ (i := q) (by dsimp only; rw [HNR.out]; exact hq)
      obtain ⟨⟨ra, rc, rz⟩, Hrw⟩ : ∃ r, Hid (rows.getD q default = r) := ⟨_, hidp rfl⟩
      dsimp only at cwr
      rw [Hrw.out] at cwr
      have HRM : Hid ((⟨ra, rc, rz⟩ : RowR) ∈ rows) := hidp (by
        have hr : q < rows.length := by rw [HNR.out]; exact hq
        rw [← Hrw.out]; simp [List.getD, hr])
      have HRO := hidp (HVO.out.rows _ HRM.out)
      have HRG : Hid ((rows.map RowR.zs).getD q [] = rz) := hidp (by
        have hr : q < rows.length := by rw [HNR.out]; exact hq
        have h1 := Hrw.out
        simp only [List.getD, List.getElem?_eq_getElem hr, Option.getD_some, List.getElem?_map, Option.map_some] at h1 ⊢
        rw [h1])
      have HRL : Hid (rz.length = P) := hidp (by
        have h1 := HF.out.nw q hql
        dsimp only at h1
        rw [HRG.out, Ht.out] at h1
        exact h1.trans hP)
      have s1 := HTU.out.cell (p := ⟨w.heap.size, 3, none⟩) (HBS1.out.cell 3) (by simp <;> omega)
      have s2 := HTU.out.cell (p := ⟨w.heap.size + 1, 1, none⟩) (HBV1.out.cell 1) (by simp <;> omega)
      have s3 := HTU.out.cell (p := ⟨w.heap.size + 1, 2, none⟩) (HBV1.out.cell 2) (by simp <;> omega)
      have cbo := K0 _ _ cb
      have cwo := K0 _ _ cwr
      clear cb cwr hcd hct K0 hP
      have hba : Below wo.heap.size wo (wo.alloc (.cells #[.string nm, .int .i64 per, .int .i64 dl, .int .i64 prio, .int .i64 cl, .slice pa P pc] 41)) := (Below.refl _ wo).alloc (Nat.le_refl _) _
      have HBA := hidp hba
      have BT := Bk.new wo 41 #[.string nm, .int .i64 per, .int .i64 dl, .int .i64 prio, .int .i64 cl, .slice pa P pc]
      have HBT := hidp BT
      have HB5 := hidp (below_drewN (HBo.out.trans (hba.mono HBo.out.size)) 1)
      have HLN5 := hidp (HLN.out.turned (Turned.of_below hba []) (by simp))
      obtain ⟨xb, Hxb, sxb, CXB⟩ := text_calls bd HBI.out w HT.out
      obtain ⟨xd, Hxd, sxd, CXD⟩ := text_calls dl HTO.out.dl w HT.out
      have y0 : (wo.alloc (.cells #[.string nm, .int .i64 per, .int .i64 dl, .int .i64 prio, .int .i64 cl, .slice pa P pc] 41)).drew.cell? ⟨wo.heap.size, 0, none⟩ = some (.string nm) := BT.cell 0
      have y2 : (wo.alloc (.cells #[.string nm, .int .i64 per, .int .i64 dl, .int .i64 prio, .int .i64 cl, .slice pa P pc] 41)).drew.cell? ⟨wo.heap.size, 2, none⟩ = some (.int .i64 dl) := BT.cell 2
      have y3 : (wo.alloc (.cells #[.string nm, .int .i64 per, .int .i64 dl, .int .i64 prio, .int .i64 cl, .slice pa P pc] 41)).drew.cell? ⟨w.heap.size + 1, 1, none⟩ = some (.slice (some ⟨gb, ob, none⟩) N bc) := (Keeps.of_below hba) _ _ s2
      have y4 : (wo.alloc (.cells #[.string nm, .int .i64 per, .int .i64 dl, .int .i64 prio, .int .i64 cl, .slice pa P pc] 41)).drew.cell? ⟨gb, ob + q, none⟩ = some (.int .i64 bd) := (Keeps.of_below hba) _ _ cbo
      have y5 : (wo.alloc (.cells #[.string nm, .int .i64 per, .int .i64 dl, .int .i64 prio, .int .i64 cl, .slice pa P pc] 41)).drew.cell? ⟨wo.heap.size, 5, none⟩ = some (.slice pa P pc) := BT.cell 5
      have hs : (wo.alloc (.cells #[.string nm, .int .i64 per, .int .i64 dl, .int .i64 prio, .int .i64 cl, .slice pa P pc] 41)).drew.cell? ⟨wo.heap.size, 0, none⟩ = some (.string nm) ∧ (wo.alloc (.cells #[.string nm, .int .i64 per, .int .i64 dl, .int .i64 prio, .int .i64 cl, .slice pa P pc] 41)).drew.cell? ⟨wo.heap.size, 2, none⟩ = some (.int .i64 dl) ∧ (wo.alloc (.cells #[.string nm, .int .i64 per, .int .i64 dl, .int .i64 prio, .int .i64 cl, .slice pa P pc] 41)).drew.cell? ⟨w.heap.size + 1, 1, none⟩ = some (.slice (some ⟨gb, ob, none⟩) N bc) ∧ (wo.alloc (.cells #[.string nm, .int .i64 per, .int .i64 dl, .int .i64 prio, .int .i64 cl, .slice pa P pc] 41)).drew.cell? ⟨gb, ob + q, none⟩ = some (.int .i64 bd) := ⟨y0, y2, y3, y4⟩
      have q0 : (0 : Int) ≤ (q : Int) := by omega
      have q1 : (q : Int) < (N : Int) := by omega
      have kI0 : (0 : Int) ≤ (k : Int) := by omega
      have kI1 : (k : Int) < (N : Int) := by omega
      have hbz : Below (wo.alloc (.cells #[.string nm, .int .i64 per, .int .i64 dl, .int .i64 prio, .int .i64 cl, .slice pa P pc] 41)).drew.heap.size (wo.alloc (.cells #[.string nm, .int .i64 per, .int .i64 dl, .int .i64 prio, .int .i64 cl, .slice pa P pc] 41)).drew (wo.alloc (.cells #[.string nm, .int .i64 per, .int .i64 dl, .int .i64 prio, .int .i64 cl, .slice pa P pc] 41)).drew := Below.refl _ _
      clear y0 y2 y3 y4 hba BT hql hkl
      go_wp2_with fail
      refine wp_region_held_drew (S := fun u => u.cell? ⟨wo.heap.size, 0, none⟩ = some (.string nm) ∧ u.cell? ⟨wo.heap.size, 2, none⟩ = some (.int .i64 dl) ∧ u.cell? ⟨w.heap.size + 1, 1, none⟩ = some (.slice (some ⟨gb, ob, none⟩) N bc) ∧ u.cell? ⟨gb, ob + q, none⟩ = some (.int .i64 bd)) (by kernel_rfl) ?_ (fun hHeld => ?_)
      · exact hs
      refine wpAnyH_take (i := 0) (v := ?_) rfl (by kernel_rfl) (by kernel_rfl) (by kernel_rfl) (fun _ _ _ h => h) (Or.inl ⟨by rfl, ?_⟩) (by assumption) ?_
      rotate_left 1
      · ((intro w hSw; (try dsimp only at hSw); go_simp); (try with_reducible rfl))
      simp only [Act.put, List.setIfInBounds_toArray, List.set_cons_zero, List.set_cons_succ, List.getElem_toArray, List.getElem_cons_zero, List.getElem_cons_succ]
      refine wpAnyH_take (i := 1) (v := ?_) rfl (by kernel_rfl) (by kernel_rfl) (by kernel_rfl) (fun _ _ _ h => h) (Or.inl ⟨by rfl, ?_⟩) (by assumption) ?_
      rotate_left 1
      · ((intro w hSw; (try dsimp only at hSw); go_simp); (try with_reducible rfl))
      simp only [Act.put, List.setIfInBounds_toArray, List.set_cons_zero, List.set_cons_succ, List.getElem_toArray, List.getElem_cons_zero, List.getElem_cons_succ]
      refine wpAnyH_take (i := 2) (v := ?_) rfl (by kernel_rfl) (by kernel_rfl) (by kernel_rfl) (fun _ _ _ h => h) (Or.inl ⟨by rfl, ?_⟩) (by assumption) ?_
      rotate_left 1
      · ((intro w hSw; (try dsimp only at hSw); go_simp); (try with_reducible rfl))
      simp only [Act.put, List.setIfInBounds_toArray, List.set_cons_zero, List.set_cons_succ, List.getElem_toArray, List.getElem_cons_zero, List.getElem_cons_succ]
      refine wpAnyH_take (i := 3) (v := ?_) rfl (by kernel_rfl) (by kernel_rfl) (by kernel_rfl) (fun _ _ _ h => h) (Or.inl ⟨by rfl, ?_⟩) (by assumption) ?_
      rotate_left 1
      · ((intro w hSw; (try dsimp only at hSw); go_simp); (try with_reducible rfl))
      simp only [Act.put, List.setIfInBounds_toArray, List.set_cons_zero, List.set_cons_succ, List.getElem_toArray, List.getElem_cons_zero, List.getElem_cons_succ]
      refine wpAnyH_take (i := 4) (v := ?_) rfl (by kernel_rfl) (by kernel_rfl) (by kernel_rfl) (fun _ _ _ h => h) (Or.inl ⟨by rfl, ?_⟩) (by assumption) ?_
      rotate_left 1
      · ((intro w hSw; (try dsimp only at hSw); go_simp); (try with_reducible rfl))
      simp only [Act.put, List.setIfInBounds_toArray, List.set_cons_zero, List.set_cons_succ, List.getElem_toArray, List.getElem_cons_zero, List.getElem_cons_succ]
      refine wpAnyH_take (i := 5) (v := ?_) rfl (by kernel_rfl) (by kernel_rfl) (by kernel_rfl) (fun _ _ _ h => h) (Or.inl ⟨by rfl, ?_⟩) (by assumption) ?_
      rotate_left 1
      · ((intro w hSw; (try dsimp only at hSw); go_simp); (try with_reducible rfl))
      simp only [Act.put, List.setIfInBounds_toArray, List.set_cons_zero, List.set_cons_succ, List.getElem_toArray, List.getElem_cons_zero, List.getElem_cons_succ]
      refine wpAnyH_take (i := 6) (v := ?_) rfl (by kernel_rfl) (by kernel_rfl) (by kernel_rfl) (fun _ _ _ h => h) (Or.inl ⟨by rfl, ?_⟩) (by assumption) ?_
      rotate_left 1
      · ((intro w hSw; (try dsimp only at hSw); go_simp); (try with_reducible rfl))
      simp only [Act.put, List.setIfInBounds_toArray, List.set_cons_zero, List.set_cons_succ, List.getElem_toArray, List.getElem_cons_zero, List.getElem_cons_succ]
      refine wpAnyH_take (i := 8) (v := ?_) rfl (by kernel_rfl) (by kernel_rfl) (by kernel_rfl) (fun _ _ _ h => h) (Or.inl ⟨by rfl, ?_⟩) (by assumption) ?_
      rotate_left 1
      · ((intro w hSw; (try dsimp only at hSw); go_simp); (try with_reducible rfl))
      simp only [Act.put, List.setIfInBounds_toArray, List.set_cons_zero, List.set_cons_succ, List.getElem_toArray, List.getElem_cons_zero, List.getElem_cons_succ]
      refine wpAnyH_take (i := 9) (v := ?_) rfl (by kernel_rfl) (by kernel_rfl) (by kernel_rfl) (fun _ _ _ h => h) (Or.inl ⟨by rfl, ?_⟩) (by assumption) ?_
      rotate_left 1
      · ((intro w hSw; (try dsimp only at hSw); go_simp); (try with_reducible rfl))
      simp only [Act.put, List.setIfInBounds_toArray, List.set_cons_zero, List.set_cons_succ, List.getElem_toArray, List.getElem_cons_zero, List.getElem_cons_succ]
      refine wpAnyH_ready (rs := [7]) (by kernel_rfl) (by simp) ?_
      refine AllReadyH.cons rfl (fun K hK => ?_) AllReadyH.nil
      go_simp
      refine (CXB.out _ HB5.out).mono ?_
      rintro e u1 ⟨rfl, hb7⟩
      have k7 := Keeps.of_below hb7
      have hs7 := (And.intro (k7 _ _ hs.1) (And.intro (k7 _ _ hs.2.1) (And.intro (k7 _ _ hs.2.2.1) (k7 _ _ hs.2.2.2))))
      have HB7 := hidp (HB5.out.trans (hb7.mono HB5.out.size))
      have HBz7 := hidp (hbz.trans (hb7.mono hbz.size))
      clear hb7 k7
      refine hK.out _ _ ?_ (fun hHeld => ?_)
      · exact hs7
      clear hK K
      try simp only [Act.put, List.setIfInBounds_toArray, List.set_cons_zero, List.set_cons_succ, List.getElem_toArray, List.getElem_cons_zero, List.getElem_cons_succ]
      refine wpAnyH_ready (rs := [10]) (by kernel_rfl) (by simp) ?_
      refine AllReadyH.cons rfl (fun K hK => ?_) AllReadyH.nil
      go_simp
      refine (CXD.out _ HB7.out).mono ?_
      rintro e u2 ⟨rfl, hb8⟩
      have k8 := Keeps.of_below hb8
      have hs8 := (And.intro (k8 _ _ hs7.1) (And.intro (k8 _ _ hs7.2.1) (And.intro (k8 _ _ hs7.2.2.1) (k8 _ _ hs7.2.2.2))))
      have HB8 := hidp (HB7.out.trans (hb8.mono HB7.out.size))
      have HBz8 := hidp (HBz7.out.trans (hb8.mono HBz7.out.size))
      clear hb8 k8
      refine hK.out _ _ ?_ (fun hHeld => ?_)
      · exact hs8
      clear hK K
      try simp only [Act.put, List.setIfInBounds_toArray, List.set_cons_zero, List.set_cons_succ, List.getElem_toArray, List.getElem_cons_zero, List.getElem_cons_succ]
      refine wpAnyH_ready (rs := [11]) (by kernel_rfl) (by simp) ?_
      refine AllReadyH.cons rfl (fun K hK => ?_) AllReadyH.nil
      go_simp
      have k9 := Keeps.alloc u2 (.cells #[.string nm, .string xb, .string xd] 9)
      have hs9 := (And.intro (k9 _ _ hs8.1) (And.intro (k9 _ _ hs8.2.1) (And.intro (k9 _ _ hs8.2.2.1) (k9 _ _ hs8.2.2.2))))
      refine hK.out _ _ ?_ (fun hHeld => ?_)
      · exact hs9
      clear hK K
      try simp only [Act.put, List.setIfInBounds_toArray, List.set_cons_zero, List.set_cons_succ, List.getElem_toArray, List.getElem_cons_zero, List.getElem_cons_succ]
      refine wpAnyH_take (i := 12) (v := ?_) rfl (by kernel_rfl) (by kernel_rfl) (by kernel_rfl) (fun _ _ _ h => h) (Or.inl ⟨by rfl, ?_⟩) (by assumption) ?_
      rotate_left 1
      · ((intro w hSw; (try dsimp only at hSw); go_simp); (try with_reducible rfl))
      simp only [Act.put, List.setIfInBounds_toArray, List.set_cons_zero, List.set_cons_succ, List.getElem_toArray, List.getElem_cons_zero, List.getElem_cons_succ]
      refine wpAnyH_done (by kernel_rfl) ?_ _
      have HR0 : Hid (StrL u2.heap.size (u2.alloc (.cells #[.string nm, .string xb, .string xd] 9)) (some ⟨u2.heap.size, 0, none⟩) 3 3 (wordsR ⟨proto, ca, cc, cores, ha, hc, homes, some ⟨gt, ot, none⟩, tc, tasks⟩ bounds (rows.map RowR.zs) q 0)) := hidp (by
        have h1 := strL_lit u2 [nm, xb, xd] (by intro x hx; simp only [List.mem_cons, List.not_mem_nil, or_false] at hx; rcases hx with rfl | rfl | rfl <;> omega) (by simp)
        have h2 : [nm, xb, xd].map bl = wordsR ⟨proto, ca, cc, cores, ha, hc, homes, some ⟨gt, ot, none⟩, tc, tasks⟩ bounds (rows.map RowR.zs) q 0 := by
          unfold wordsR locksL
          dsimp only
          rw [Ht.out, Hbd.out]
          simp [Hxb.out, Hxd.out]
        rw [h2] at h1
        exact h1)
      have z5 := (Keeps.of_below HBz8.out) _ _ y5
      have z5b := k9 _ _ z5
      have hbU := Below.refl u2.heap.size u2
      have hbU1 := hidp (hbU.alloc (Nat.le_refl _) (.cells #[.string nm, .string xb, .string xd] 9))
      have HKU := hidp (Keeps.trans (Keeps.of_below HBA.out) (Keeps.trans (Keeps.drew _) (Keeps.of_below HBz8.out)))
      clear hs hs7 hs8 hs9 k9 hHeld hbU y5 z5
      obtain ⟨U, hU⟩ : ∃ U, U = u2 := ⟨_, rfl⟩
      have HS3 := hidp (HKU.out _ _ s3)
      have HCW := hidp (HKU.out _ _ cwo)
      have HPA := hidp (HTO.out.at_.keep (Keeps.trans (Keeps.of_below HBo.out) HKU.out))
      have HTP := hidp HTO.out.wf
      clear s1 s2 s3 cbo cwo
      have HU8 := hidp (Keeps.alloc u2 (.cells #[.string nm, .string xb, .string xd] 9))
      have HLL3 : Hid ((wordsR ⟨proto, ca, cc, cores, ha, hc, homes, some ⟨gt, ot, none⟩, tc, tasks⟩ bounds (rows.map RowR.zs) q 0).length = 3) := hidp (by unfold wordsR locksL; simp)
      have HRW0 := hidp (HRO.out.at_.mono (Keeps.trans (Keeps.of_below HBo.out) HKU.out))
      have HZI := hidp HRO.out.wf
      clear hU
      go_wp2_with fail
      go_loopg [9, 40] P (fun g rw_ i wi => ∃ (j n cr : Nat) (A : Option Addr), j + g = P ∧ i = .int .i64 j ∧ rw_ = .slice A n cr ∧ n ≤ j + 3 ∧ Hid (StrL u2.heap.size wi A n cr (wordsR ⟨proto, ca, cc, cores, ha, hc, homes, some ⟨gt, ot, none⟩, tc, tasks⟩ bounds (rows.map RowR.zs) q j)) ∧ Hid (Below u2.heap.size u2 wi))
      case atStart => exact ⟨0, 3, 3, some ⟨u2.heap.size, 0, none⟩, by omega, rfl, rfl, Nat.le_refl _, HR0, hbU1⟩
      case round =>
        clear HR0 z5b
        obtain ⟨j, n, cr, A2, hj, rfl, rfl, hn3, HRW, HBU⟩ := hrel
        have wj : IntKind.i64.wrap ((j : Int) + 1) = (j : Int) + 1 := IntWalk.i64_in _ (by omega)
        have KU := Keeps.of_below HBU.out
        by_cases hjn : j < P
        · have hjl : j < ps.length := by rw [HP.out]; exact hjn
          obtain ⟨gp, op, rfl, hcp⟩ := (HPA.out.keep KU).resolve_left (by intro e; rw [e] at hjl; simp at hjl)
          obtain ⟨⟨kd, ln, rs⟩, Hp⟩ : ∃ p, Hid (ps.getD j default = p) := ⟨_, hidp rfl⟩
          obtain ⟨e0, e1, e2⟩ : PartCells wr gp (op + j * 3) ⟨kd, ln, rs⟩ := Hp.out ▸ hcp j hjl
          dsimp only at e0 e1 e2
          have b3 : (0 : Int) ≤ (j : Int) := by omega
          have b4 : (j : Int) < (P : Int) := by omega
          have BP := Bk.new wr 38 #[.int .i64 kd, .int .i64 ln, .int .i64 rs]
          have p0 : (wr.alloc (.cells #[.int .i64 kd, .int .i64 ln, .int .i64 rs] 38)).cell? ⟨wr.heap.size, 0, none⟩ = some (.int .i64 kd) := BP.cell 0
          have hbp : Below wr.heap.size wr (wr.alloc (.cells #[.int .i64 kd, .int .i64 ln, .int .i64 rs] 38)) := (Below.refl _ wr).alloc (Nat.le_refl _) _
          have HBp := hidp (HBU.out.trans (hbp.mono HBU.out.size))
          have HRWp := hidp (HRW.out.turned (Turned.of_below hbp []) (by simp))
          by_cases hk3 : kd = 3
          · subst hk3
            have HW : Hid (wordsR ⟨proto, ca, cc, cores, ha, hc, homes, some ⟨gt, ot, none⟩, tc, tasks⟩ bounds (rows.map RowR.zs) q (j + 1) = wordsR ⟨proto, ca, cc, cores, ha, hc, homes, some ⟨gt, ot, none⟩, tc, tasks⟩ bounds (rows.map RowR.zs) q j ++ [textL (rz.getD j 0)]) := hidp (by
              unfold wordsR
              dsimp only
              rw [Ht.out, HRG.out]
              dsimp only
              rw [locksL_yes (by rw [Hp.out])]
              rfl)
            have hjz : j < rz.length := by rw [HRL.out]; exact hjn
            obtain ⟨gz, oz, rfl, cz⟩ := Row.at_ HRW0.out hjz
            obtain ⟨zv, Hzv⟩ : ∃ z, Hid (rz.getD j 0 = z) := ⟨_, hidp rfl⟩
            have HZV : Hid (I64 zv) := hidp (by rw [← Hzv.out]; exact getD_i64 HZI.out j)
            rw [Hzv.out] at cz
            have r1 := (Keeps.of_below hbp) _ _ (KU _ _ HS3.out)
            have r2 := (Keeps.of_below hbp) _ _ (KU _ _ HCW.out)
            have r3 := (Keeps.of_below hbp) _ _ (KU _ _ cz)
            have r2b : (wr.alloc (.cells #[.int .i64 3, .int .i64 ln, .int .i64 rs] 38)).cell? ⟨gw, ow + q, none⟩ = some (.slice (some ⟨gz, oz, none⟩) P rc) := by rw [r2]; unfold RowR.val; dsimp only; rw [HRL.out]
            obtain ⟨xz, Hxz, sxz, CXZ⟩ := text_calls zv HZV.out w HT.out
            have HBpw := hidp (HB8.out.trans (HBp.out.mono HB8.out.size))
            obtain ⟨i0, hi0, hy0, hy1, hy2⟩ := info_parts infoStr
            clear hcp hjl BP hbp r2 cz hjz
            go_wp2_with fail
            refine (CXZ.out _ HBpw.out).mono ?_
            rintro e u3 ⟨rfl, hb3⟩
            have HLx := hidp (HRWp.out.turned (Turned.of_below (hb3.alloc hb3.size (.cells #[.string xz] 9)) []) (by simp))
            have HBx := hidp (HBp.out.trans (hb3.mono HBp.out.size))
            have HBx2 := hidp (HBx.out.alloc HBx.out.size (.cells #[.string xz] 9))
            obtain ⟨xs, hown, happL⟩ := HLx.out.own
            have HAP := hidp happL
            have S2' := hidp (new_liesW u3 [.string xz] 9)
            have O2 := hidp (str_one [xz])
            have N2 : Hid (n + 1 ≤ maxLen) := hidp (by unfold maxLen; omega)
            have T2 : Hid ((n + 1) * 16 ≤ 140737488355328) := hidp (by omega)
            have Z2 := hidp HBx2.out.size
            clear hb3 happL p0 e0 e1 e2 r1 r2b r3
            go_wp2_with (at_builtin; refine wpList_app2 _ rfl (.tmp 48) (.tmp 58) 28 rfl u2.heap.size 9 i0 _ 1 16 Tryz.underlying28 hi0 hy0 hy1 hy2 rfl (by decide) A2 n cr _ rfl hown _ _ 1 1 [.string xz] rfl (by simp) rfl S2'.out O2.out N2.out T2.out Z2.out ?_; intro A9 c9 w6 happ)
            go_roundg (gk - 1)
            case measure => omega
            case rel => exact ⟨j + 1, n + 1, c9, A9, by omega, by go_num, rfl, by omega, hidp (by
              have h1 := HAP.out _ _ _ _ xz (by omega) happ
              rw [HW.out, ← Hzv.out] at *
              rw [Hxz.out] at h1
              exact h1), hidp (HBx2.out.trans (happ.turned.below HBx2.out.size (fun i hi => (own_fp hown i hi).1)))⟩
          · have fk : (kd == 3) = false := by rw [beq_eq_false_iff_ne]; exact hk3
            have HW : Hid (wordsR ⟨proto, ca, cc, cores, ha, hc, homes, some ⟨gt, ot, none⟩, tc, tasks⟩ bounds (rows.map RowR.zs) q (j + 1) = wordsR ⟨proto, ca, cc, cores, ha, hc, homes, some ⟨gt, ot, none⟩, tc, tasks⟩ bounds (rows.map RowR.zs) q j) := hidp (by
              unfold wordsR
              dsimp only
              rw [Ht.out, HRG.out]
              dsimp only
              rw [locksL_no (by rw [Hp.out]; exact hk3)])
            clear hcp hjl BP hbp hk3
            go_wp2_with fail
            go_roundg (gk - 1)
            case measure => omega
            case rel => exact ⟨j + 1, n, cr, A2, by omega, by go_num, rfl, by omega, hidp (by rw [HW.out]; exact HRWp.out), HBp⟩
        · obtain rfl : j = P := by omega
          obtain ⟨ls, h1, h2, h3⟩ := HRW.out
          have hlen := h1.len
          have CJ := join_any 32 A2 cr ls wr h1.at_ (by rw [← hlen]; exact h1.cap.1) (by
            have h5 := congrArg List.length h2
            have h6 := (wordsR_len ⟨proto, ca, cc, cores, ha, hc, homes, some ⟨gt, ot, none⟩, tc, tasks⟩ bounds (rows.map RowR.zs) q j).1
            rw [List.length_map] at h5; omega) (by omega) (fun x hx => Nat.le_trans (h3 x hx) (by decide))
          rw [← hlen] at CJ
          have HCJ := hidp CJ
          have HLV : Hid (joinT 32 (ls.map bl) = lineR ⟨proto, ca, cc, cores, ha, hc, homes, some ⟨gt, ot, none⟩, tc, tasks⟩ bounds (rows.map RowR.zs) q) := hidp (by
            rw [h2]
            unfold lineR
            rw [Ht.out]
            dsimp only
            rw [HP.out])
          have HLZ : Hid ((lineR ⟨proto, ca, cc, cores, ha, hc, homes, some ⟨gt, ot, none⟩, tc, tasks⟩ bounds (rows.map RowR.zs) q).length ≤ 2000) := hidp (line_size (by dsimp only; rw [Ht.out]; exact hnm) (by dsimp only; rw [Ht.out]; dsimp only; rw [HP.out]; exact hP6))
          obtain ⟨i0, hi0, hy0, hy1, hy2⟩ := info_parts infoStr
          clear h1 h2 h3 hlen CJ
          go_wp2_with fail
          refine HCJ.out.mono ?_
          rintro e u3 ⟨r, rfl, hv, hb3⟩
          have HRV := hidp (hv.trans HLV.out)
          have hrz : r.size ≤ 2000 := by rw [← bl_len, HRV.out]; exact HLZ.out
          have tA := (Turned.of_below HBz8.out []).trans (Turned.of_below HBU.out []) (by simp)
          have tB := tA.trans (Turned.of_below (hb3.alloc hb3.size (.cells #[.string r] 9)) []) (by simp)
          have HTB := hidp tB
          have HLx := hidp ((HLN5.out.turned ((Turned.refl [] _).drew) (by simp)).turned tB (by simp))
          have HBx := hidp ((HBU.out.trans (hb3.mono HBU.out.size)))
          have HBw := hidp ((HB8.out.trans (HBx.out.mono HB8.out.size)))
          have HBw2 := hidp (HBw.out.alloc HBw.out.size (.cells #[.string r] 9))
          obtain ⟨xs, hown, happL⟩ := HLx.out.own
          have HAP := hidp happL
          have S2' := hidp (new_liesW u3 [.string r] 9)
          have O2 := hidp (str_one [r])
          have N2 : Hid (k + 1 + 1 ≤ maxLen) := hidp (by unfold maxLen; omega)
          have T2 : Hid ((k + 1 + 1) * 16 ≤ 140737488355328) := hidp (by omega)
          have Z2 := hidp HBw2.out.size
          clear hb3 happL hv tA tB HCJ
          go_wp2_with (at_builtin; refine wpList_app2 _ rfl (.tmp 61) (.tmp 64) 28 rfl w.heap.size 9 i0 _ 1 16 Tryz.underlying28 hi0 hy0 hy1 hy2 rfl (by decide) A (k + 1) c _ rfl hown _ _ 1 1 [.string r] rfl (by simp) rfl S2'.out O2.out N2.out T2.out Z2.out ?_; intro A9 c9 w6 happ)
          go_roundg (N - k - 1)
          case measure => omega
          case rel => exact ⟨k + 1, c9, A9, by omega, by go_num, rfl, hidp (by
            have h1 := HAP.out _ _ _ _ r hrz happ
            rw [HRV.out] at h1
            rw [HTk.out]
            exact h1), hidp (((HTU.out.trans (Turned.of_below HBA.out []) (by simp)).trans (((Turned.refl [] _).drew).trans HTB.out (by simp)) (by simp)).trans happ.turned (fun i hi => by
              rcases HAF.out i hi with e | e
              · left; simp [e]
              · right; exact e)), hidp (fun i hi => by
              rcases happ.fps i hi with e | e
              · exact HAF.out i e
              · right
                have h1 := HTU.out.size
                have h2 := HBA.out.size
                have h3 := HTB.out.size
                simp at e h2 h3
                omega)⟩
    · obtain rfl : k = N := by omega
      go_wp2_with fail
      go_ret
      have h5 := HLN.out
      rw [List.take_of_length_le (by rw [ordL_len, HN.out]; exact Nat.le_refl _)] at h5
      refine ⟨A, c, ?_, ?_, HBo.out⟩
      · rw [List.length_cons, HLL.out]; rfl
      · rw [List.length_cons, HLL.out]; exact h5
end Go.Proofs.YtjjlpaampmpdfaaGreatDoor

namespace Go.Proofs.YtjjlpaampmpdfaaGreatDoor
open Go.ChangeShapes Go.WideShapes Go.ChangeAt Go.RowKit
set_option linter.unusedVariables false
set_option linter.unusedSimpArgs false
def LinesPost (w : World) (s : SetR) (e : Ending) (w' : World) : Prop := ∃ A c, e = .returned (.tuple #[.slice A (repV s).length c, .int .i64 (repE s)]) ∧ StrL w.heap.size w' A (repV s).length c (repV s) ∧ Below w.heap.size w w'
theorem StrL.none (B : Nat) (w : World) : StrL B w none 0 0 [] := ⟨[], OwnS.none_ _ _, rfl, by simp⟩
theorem lines_ret {w w' : World} {s : SetR} {L : List Bts} {q : Int} {A : Option Addr} {n c : Nat} (h1 : repV s = L) (h2 : repE s = q) (hn : n = L.length) (hs : StrL w.heap.size w' A n c L) (hb : Below w.heap.size w w') : LinesPost w s (.returned (.tuple #[.slice A n c, .int .i64 q])) w' := by
  subst h1; subst h2; subst hn
  exact ⟨A, c, rfl, hs, hb⟩
theorem vfit_of {s : SetR} {v : VerdR} (h : anE s = 0) (hb : v.bounds = anB s) (hr : v.rows.map RowR.zs = anW s) (hi : ∀ n ∈ v.bounds, I64 n) : VFit s v := by
  have h1 := anB_rest h
  have hw : anW s = (List.range s.tasks.length).map (fun i : Nat => waitsL s (settle s).1 i) := by unfold anW; rw [if_pos h]
  refine ⟨by rw [hb]; exact h1.2.2.2, ?_, fun i hi => ?_, hi⟩
  · have := congrArg List.length hr
    rw [List.length_map, hw] at this
    simpa using this
  · rw [hr, hw]
    have : (((List.range s.tasks.length).map (fun i : Nat => waitsL s (settle s).1 i)).getD i []) = waitsL s (settle s).1 i := by simp [List.getD, hi]
    rw [this]
    have h3 := (upTo_iff _ _).1 h1.2.1 i hi
    unfold stepB at h3
    rw [Bool.and_eq_true] at h3
    have h4 := (nextK_true.1 h3.1).1
    rw [h1.1] at h4
    unfold waitsL
    rw [if_pos h4]
    simp [partsOf]
set_option maxHeartbeats 8000000 in
set_option maxRecDepth 100000 in
theorem rlines19_any (s : SetR) (w : World) (hs : SetOk w s) (ht : ∀ u, Below w.heap.size w u → Tab u) : Calls Tryz.prog 9 #[.agg #[.int .i64 s.proto, .slice s.ca s.cores.length s.cc, .slice s.ha s.homes.length s.hc, .slice s.ta s.tasks.length s.tc]] w (LinesPost w s) := by
  obtain ⟨E, HE⟩ : ∃ E, Hid (anE s = E) := ⟨_, hidp rfl⟩
  have HRV : Hid (repV s = if E = 0 then repL s else if E = 19 then [wLate] else if E = 20 then [wUnk] else []) := hidp (by unfold repV; rw [HE.out])
  have HRE : Hid (repE s = if E = 0 ∨ E = 19 ∨ E = 20 then 0 else E) := hidp (by unfold repE; rw [HE.out])
  have hb0 := (Below.refl w.heap.size w).alloc (Nat.le_refl _) (.cells #[.int .i64 s.proto, .slice s.ca s.cores.length s.cc, .slice s.ha s.homes.length s.hc, .slice s.ta s.tasks.length s.tc] 25)
  have CA := hidp (analyze_any s _ (hs.keep (Keeps.of_below hb0)))
  have HB0 := hidp hb0
  have SC := hidp (SetCells.new w s 25)
  have HS := hidp hs
  have HT := hidp ht
  obtain ⟨x0, x1, x2, x3⟩ := SC.out
  clear hb0 hs ht
  go_enter Tryz.func9, Tryz.ntmps9
  go_wp2_with fail
  refine CA.out.mono ?_
  rintro e u ⟨⟨v, rfl, hv, hok, hvb, hvr⟩, hbu⟩
  rw [HE.out]
  have HBu := hidp (HB0.out.trans (hbu.mono HB0.out.size))
  have hba : Below u.heap.size u (u.alloc (.cells #[.bool v.ok, .slice v.ba v.bounds.length v.bc, .slice v.wa v.rows.length v.wc] 49)) := (Below.refl _ u).alloc (Nat.le_refl _) _
  have HB1 := hidp (HBu.out.trans (hba.mono HBu.out.size))
  have sc := (SC.out.keep (Keeps.of_below hbu)).keep (Keeps.of_below hba)
  obtain ⟨y0, y1, y2, y3⟩ := sc
  obtain ⟨b0, b1, b2⟩ := Y3 (Bk.new u 49 #[.bool v.ok, .slice v.ba v.bounds.length v.bc, .slice v.wa v.rows.length v.wc])
  have HV := hidp (hv.keep (Keeps.of_below hba))
  have HVB := hidp hvb
  have HVR := hidp hvr
  clear hv hok hvb hvr hbu hba x0 x1 x2 x3 CA
  by_cases e0 : E = 0
  · have f0 : (E == 0) = true := by simpa using e0
    have hE0 : anE s = 0 := by rw [HE.out]; exact e0
    have CD := hidp (admitted_any s v _ (HS.out.keep (Keeps.of_below HB1.out)) (anE_zero hE0).1 HV.out (vfit_of hE0 HVB.out HVR.out HV.out.bounds.wf) (fun x hx => HT.out x (HB1.out.trans (hx.mono HB1.out.size))))
    have HL1 : Hid (repV s = wAdm :: (ordL s.tasks).map (fun i => lineR s v.bounds (v.rows.map RowR.zs) i.toNat)) := hidp (by rw [HRV.out, if_pos e0]; unfold repL; rw [HVB.out, HVR.out])
    have HL2 : Hid (repE s = 0) := hidp (by rw [HRE.out, if_pos (.inl e0)])
    subst e0
    clear hE0
    go_wp2_with fail
    refine CD.out.mono ?_
    rintro e u2 ⟨A, c, rfl, hsl, hb2⟩
    have H9 := hidp (hsl.low HB1.out.size)
    have H8 := hidp (HB1.out.trans (hb2.mono HB1.out.size))
    clear hsl hb2
    go_wp2_with fail
    go_ret2
    have h9 := H9.out
    rw [List.length_cons, List.length_map] at h9
    exact lines_ret HL1.out HL2.out (by rw [List.length_cons, List.length_map]) h9 H8.out
  have f0 : (E == 0) = false := by simpa using e0
  by_cases e1 : E = 19
  · have HL1 : Hid (repV s = [wLate]) := hidp (by rw [HRV.out, if_neg e0, if_pos e1])
    have HL2 : Hid (repE s = 0) := hidp (by rw [HRE.out, if_pos (.inr (.inl e1))])
    subst e1
    have CW := hidp (word_any 19 _ (by decide) (HT.out _ HB1.out))
    clear e0
    go_wp2_with fail
    refine CW.out.mono ?_
    rintro e u2 ⟨r, rfl, hr, hb2⟩
    have H9 := hidp ((strL_lit u2 [r] (by intro x hx; rw [List.mem_singleton.1 hx, ← bl_len, hr]; decide) (by simp)).low (B' := w.heap.size) ((HB1.out.trans (hb2.mono HB1.out.size)).size))
    have HR := hidp (show bl r = wLate from hr)
    have H8 := hidp ((HB1.out.trans (hb2.mono HB1.out.size)).alloc (HB1.out.trans (hb2.mono HB1.out.size)).size (.cells #[.string r] 9))
    clear hr hb2
    go_wp2_with fail
    go_ret2
    refine lines_ret HL1.out HL2.out rfl ?_ H8.out
    have h := H9.out
    simp only [List.map_cons, List.map_nil, HR.out] at h
    exact h
  have f1 : (E == 19) = false := by rw [beq_eq_false_iff_ne]; exact e1
  by_cases e2 : E = 20
  · have HL1 : Hid (repV s = [wUnk]) := hidp (by rw [HRV.out, if_neg e0, if_neg e1, if_pos e2])
    have HL2 : Hid (repE s = 0) := hidp (by rw [HRE.out, if_pos (.inr (.inr e2))])
    subst e2
    have CW := hidp (word_any 20 _ (by decide) (HT.out _ HB1.out))
    clear e0 e1
    go_wp2_with fail
    refine CW.out.mono ?_
    rintro e u2 ⟨r, rfl, hr, hb2⟩
    have H9 := hidp ((strL_lit u2 [r] (by intro x hx; rw [List.mem_singleton.1 hx, ← bl_len, hr]; decide) (by simp)).low (B' := w.heap.size) ((HB1.out.trans (hb2.mono HB1.out.size)).size))
    have HR := hidp (show bl r = wUnk from hr)
    have H8 := hidp ((HB1.out.trans (hb2.mono HB1.out.size)).alloc (HB1.out.trans (hb2.mono HB1.out.size)).size (.cells #[.string r] 9))
    clear hr hb2
    go_wp2_with fail
    go_ret2
    refine lines_ret HL1.out HL2.out rfl ?_ H8.out
    have h := H9.out
    simp only [List.map_cons, List.map_nil, HR.out] at h
    exact h
  have f2 : (E == 20) = false := by rw [beq_eq_false_iff_ne]; exact e2
  have HL1 : Hid (repV s = []) := hidp (by rw [HRV.out, if_neg e0, if_neg e1, if_neg e2])
  have HL2 : Hid (repE s = E) := hidp (by rw [HRE.out, if_neg (by rintro (h | h | h); exact e0 h; exact e1 h; exact e2 h)])
  clear e0 e1 e2
  go_wp2_with fail
  go_ret2
  exact lines_ret HL1.out HL2.out rfl (StrL.none _ _) HB1.out
end Go.Proofs.YtjjlpaampmpdfaaGreatDoor

namespace Go.Proofs.YtjjlpaampmpdfaaGreatDoor
open Go.ChangeShapes Go.WideShapes Go.ChangeAt Go.RowKit
set_option linter.unusedVariables false
theorem okS_mk {s : SetR} (h1 : inB s.proto 1 3 = true) (h2 : inB s.cores.length 1 3 = true) (h3 : allB s.cores 1 3 = true) (h4 : s.homes.length ≤ 4) (h5 : allB s.homes 0 ((s.cores.length : Int) - 1) = true) (h6 : 1 ≤ s.tasks.length) (h7 : s.tasks.length ≤ 6)
    (ht : ∀ k, k < s.tasks.length → formB (s.tasks.getD k default) = true ∧ inB (s.tasks.getD k default).cl 0 ((s.cores.length : Int) - 1) = true ∧ takenB (s.tasks.take k) (s.tasks.getD k default) = false ∧ partsB (s.tasks.getD k default).parts s.homes.length = true) : okS s = true := by
  refine (okS_iff s).2 ⟨?_, fun k hk => ?_⟩
  · unfold frameV
    rw [if_neg (by simp [h1]), if_neg (by simp [h2]), if_neg (by simp [h3]), if_neg (by omega), if_neg (by simp [h5]), if_neg (by omega), if_neg (by omega)]
  · obtain ⟨a, b, c, d⟩ := ht k hk
    unfold taskE
    rw [if_neg (by rw [a]; decide), if_neg (by rw [b]; decide), if_neg (by rw [c]; decide), if_neg (by rw [d]; decide)]
theorem nameA : nameB ⟨#[97]⟩ = true := by decide +kernel
theorem nameBb : nameB ⟨#[98]⟩ = true := by decide +kernel
theorem namesAB : ((⟨#[97]⟩ : ByteArray).toList == (⟨#[98]⟩ : ByteArray).toList) = false := by decide +kernel
theorem okTwo {S : SetR} {run lock run2 lock2 : Int} {proto : Int} (hp : S.proto = proto) (hc : S.cores = [1]) (hh : S.homes = [0]) {a1 a2 : Option Addr} {c1 c2 : Nat} (ht : S.tasks = [⟨⟨#[97]⟩, 100, 100, 1, 0, a1, c1, [⟨1, run, 0⟩, ⟨3, lock, 0⟩]⟩, ⟨⟨#[98]⟩, 200, 200, 2, 0, a2, c2, [⟨1, run2, 0⟩, ⟨3, lock2, 0⟩]⟩])
    (k0 : 1 ≤ proto ∧ proto ≤ 3) (k1 : 1 ≤ run ∧ run ≤ 60) (k2 : 1 ≤ lock ∧ lock ≤ 60) (k3 : 1 ≤ run2 ∧ run2 ≤ 60) (k4 : 1 ≤ lock2 ∧ lock2 ≤ 60) : okS S = true := by
  refine okS_mk (by rw [hp]; exact inB_true.2 k0) (by rw [hc]; decide) (by rw [hc]; decide) (by rw [hh]; decide) (by rw [hh, hc]; decide) (by rw [ht]; simp) (by rw [ht]; simp) (fun k hk => ?_)
  rw [ht] at hk
  have hp : ∀ x y : Int, 1 ≤ x ∧ x ≤ 60 → 1 ≤ y ∧ y ≤ 60 → partsB [⟨1, x, 0⟩, ⟨3, y, 0⟩] 1 = true := fun x y hx hy => by
    have e1 : inB x 1 60 = true := inB_true.2 hx
    have e2 : inB y 1 60 = true := inB_true.2 hy
    have e3 : inB 0 0 0 = true := by decide
    have e4 : inB 2 1 6 = true := by decide
    simp [partsB, partB, e1, e2, e3, e4]
  match k, hk with
  | 0, _ =>
    rw [ht, hc, hh]
    refine ⟨?_, (by show inB 0 0 0 = true; decide), (by simp [takenB]), hp _ _ k1 k2⟩
    show formB _ = true
    simp only [List.getD_cons_zero, formB, nameA]
    decide
  | 1, _ =>
    rw [ht, hc, hh]
    refine ⟨?_, (by show inB 0 0 0 = true; decide), ?_, hp _ _ k3 k4⟩
    · show formB _ = true
      simp only [List.getD_cons_succ, List.getD_cons_zero, formB, nameBb]
      decide
    · simp [takenB, likeB]
end Go.Proofs.YtjjlpaampmpdfaaGreatDoor

namespace Go.Proofs.YtjjlpaampmpdfaaGreatDoor
open Go.ChangeShapes Go.WideShapes Go.ChangeAt Go.RowKit
set_option linter.unusedVariables false
/-- what two tasks at one cluster do to one another: the same by each protocol -/
theorem pair_each {S : SetR} {proto run lock run2 lock2 : Int} {a1 a2 : Option Addr} {c1 c2 : Nat} {n1 n2 : ByteArray} {e1 d1 q1 e2 d2 q2 : Int} (hok : okS S = true) (hp : S.proto = proto) (p3 : S.homes = [0]) (p4 : S.tasks = [⟨n1, e1, d1, q1, 0, a1, c1, [⟨1, run, 0⟩, ⟨3, lock, 0⟩]⟩, ⟨n2, e2, d2, q2, 0, a2, c2, [⟨1, run2, 0⟩, ⟨3, lock2, 0⟩]⟩]) :
    eachV S 1 0 = lock2 + (if q2 < q1 then run2 else 0) ∧ eachV S 0 1 = lock + (if q1 < q2 then run else 0) := by
  have s0 : atV S 0 0 = lock := by unfold atV; rw [show ((0 : Int)) = ((0 : Nat) : Int) from rfl, srv_in hok (by rw [p4]; simp), p4, p3]; simp [srvB, sumK]
  have s1 : atV S 1 0 = lock2 := by unfold atV; rw [show ((1 : Int)) = ((1 : Nat) : Int) from rfl, srv_in hok (by rw [p4]; simp), p4, p3]; simp [srvB, sumK]
  have t0 : taskAt S 0 = ⟨n1, e1, d1, q1, 0, a1, c1, [⟨1, run, 0⟩, ⟨3, lock, 0⟩]⟩ := by unfold taskAt; rw [p4]; rfl
  have t1 : taskAt S 1 = ⟨n2, e2, d2, q2, 0, a2, c2, [⟨1, run2, 0⟩, ⟨3, lock2, 0⟩]⟩ := by unfold taskAt; rw [p4]; rfl
  unfold eachV
  rw [t0, t1]
  simp only [s0, s1]
  simp [sumK]
theorem pair_others {S : SetR} {proto run lock run2 lock2 c : Int} {a1 a2 : Option Addr} {c1 c2 : Nat} {n1 n2 : ByteArray} {e1 d1 q1 e2 d2 q2 : Int} (hok : okS S = true) (hp : S.proto = proto) (p2 : S.cores = [c]) (p3 : S.homes = [0]) (p4 : S.tasks = [⟨n1, e1, d1, q1, 0, a1, c1, [⟨1, run, 0⟩, ⟨3, lock, 0⟩]⟩, ⟨n2, e2, d2, q2, 0, a2, c2, [⟨1, run2, 0⟩, ⟨3, lock2, 0⟩]⟩]) {b0 b1 : Int} (h0 : 0 ≤ b0) (h1 : 0 ≤ b1) (wd : Int) :
    othersV S [b0, b1] 0 wd = workV wd b1 e2 (lock2 + (if q2 < q1 then run2 else 0)) / c ∧ othersV S [b0, b1] 1 wd = workV wd b0 e1 (lock + (if q1 < q2 then run else 0)) / c := by
  obtain ⟨x0, x1⟩ := pair_each hok hp p3 p4
  have ht0 : thereB S 0 = true := thereB_true.2 ⟨hok, by decide, by rw [p4]; simp⟩
  have ht1 : thereB S 1 = true := thereB_true.2 ⟨hok, by decide, by rw [p4]; simp⟩
  have hl : ([b0, b1] : List Int).length = S.tasks.length := by rw [p4]; rfl
  have hn : nnB [b0, b1] = true := by simp [nnB, h0, h1]
  have t0 : (taskAt S 0).cl = 0 := by unfold taskAt; rw [p4]; rfl
  have t1 : (taskAt S 1).cl = 0 := by unfold taskAt; rw [p4]; rfl
  have w0 : othW S [b0, b1] 0 wd 0 S.tasks = workV wd b1 e2 (lock2 + (if q2 < q1 then run2 else 0)) := by
    rw [p4]; simp [othW, x0]
  have w1 : othW S [b0, b1] 1 wd 0 S.tasks = workV wd b0 e1 (lock + (if q1 < q2 then run else 0)) := by
    rw [p4]; simp [othW, x1]
  unfold othersV
  rw [if_pos (show othersB S [b0, b1] 0 = true ∧ nnB [b0, b1] = true from ⟨othersB_true.2 ⟨ht0, hl⟩, hn⟩), if_pos (show othersB S [b0, b1] 1 = true ∧ nnB [b0, b1] = true from ⟨othersB_true.2 ⟨ht1, hl⟩, hn⟩), w0, w1, t0, t1, p2]
  exact ⟨rfl, rfl⟩
theorem pair_fair {S : SetR} {run lock run2 lock2 : Int} {a1 a2 : Option Addr} {c1 c2 : Nat} {n1 n2 : ByteArray} {e1 d1 q1 e2 d2 q2 : Int} (hok : okS S = true) (p1 : S.proto = 1) (p4 : S.tasks = [⟨n1, e1, d1, q1, 0, a1, c1, [⟨1, run, 0⟩, ⟨3, lock, 0⟩]⟩, ⟨n2, e2, d2, q2, 0, a2, c2, [⟨1, run2, 0⟩, ⟨3, lock2, 0⟩]⟩]) (hl1 : 1 ≤ lock) (hl2 : 1 ≤ lock2) (b0 b1 : Int) :
    (waitsK S [b0, b1] 0 = true ∧ waitsL S [b0, b1] 0 = [0, lock + lock2] ∧ ownV S [b0, b1] 0 = run + (lock + lock2)) ∧ (waitsK S [b0, b1] 1 = true ∧ waitsL S [b0, b1] 1 = [0, lock2 + lock] ∧ ownV S [b0, b1] 1 = run2 + (lock2 + lock)) := by
  have ht0 : thereB S 0 = true := thereB_true.2 ⟨hok, by decide, by rw [p4]; simp⟩
  have ht1 : thereB S 1 = true := thereB_true.2 ⟨hok, by decide, by rw [p4]; simp⟩
  have hl : ([b0, b1] : List Int).length = S.tasks.length := by rw [p4]; rfl
  have k0 : fairK S 0 1 = true := fairK_iff.2 ⟨ht0, by decide, by rw [p4]; show (1 : Int) < 2; decide, by unfold partAt; rw [p4]; rfl⟩
  have k1 : fairK S 1 1 = true := fairK_iff.2 ⟨ht1, by decide, by rw [p4]; show (1 : Int) < 2; decide, by unfold partAt; rw [p4]; rfl⟩
  have m0 : maxL [⟨1, run, 0⟩, ⟨3, lock, 0⟩] = lock := by simp [maxL]; omega
  have m1 : maxL [⟨1, run2, 0⟩, ⟨3, lock2, 0⟩] = lock2 := by simp [maxL]; omega
  have z0 : ¬ lock = 0 := by omega
  have z1 : ¬ lock2 = 0 := by omega
  have q0 : partAt S 0 1 = ⟨3, lock, 0⟩ := by unfold partAt; rw [p4]; rfl
  have q1 : partAt S 1 1 = ⟨3, lock2, 0⟩ := by unfold partAt; rw [p4]; rfl
  have f0 : fairV S 0 1 = lock + lock2 := by unfold fairV; rw [if_pos k0, q0, p4]; simp [othL, m0, m1, z0, z1, tot]
  have f1 : fairV S 1 1 = lock2 + lock := by unfold fairV; rw [if_pos k1, q1, p4]; simp [othL, m0, m1, z0, z1, tot]
  have v0 : waitV S [b0, b1] 0 1 = lock + lock2 := by unfold waitV; rw [if_pos hl, if_pos p1, f0]
  have v1 : waitV S [b0, b1] 1 1 = lock2 + lock := by unfold waitV; rw [if_pos hl, if_pos p1, f1]
  have j0 : waitK S [b0, b1] 0 1 = true := by unfold waitK; rw [if_pos hl, if_neg (by omega), k0]
  have j1 : waitK S [b0, b1] 1 1 = true := by unfold waitK; rw [if_pos hl, if_neg (by omega), k1]
  have hp0 : partsOf S 0 = [⟨1, run, 0⟩, ⟨3, lock, 0⟩] := by unfold partsOf; rw [p4]; rfl
  have hp1 : partsOf S 1 = [⟨1, run2, 0⟩, ⟨3, lock2, 0⟩] := by unfold partsOf; rw [p4]; rfl
  have x0 : ∀ i : Int, i = 0 ∨ i = 1 → (partAt S i (0 : Nat)).kind = 1 ∧ (partAt S i (1 : Nat)).kind = 3 := fun i hi => by
    rcases hi with rfl | rfl <;> (unfold partAt; rw [p4]; exact ⟨rfl, rfl⟩)
  have y : ∀ (i v : Int), (i = 0 ∨ i = 1) → waitK S [b0, b1] i 1 = true → waitV S [b0, b1] i 1 = v → thereB S i = true → (partsOf S i).length = 2 → waitsK S [b0, b1] i = true ∧ waitsL S [b0, b1] i = [0, v] := fun i v hi hk hv ht hp => by
    obtain ⟨g0, g1⟩ := x0 i hi
    obtain ⟨y1, y2⟩ := waits_yes (s := S) (bs := [b0, b1]) (of := i) ht (by
      rw [hp]; intro k hk2
      match k, hk2 with
      | 0, _ => unfold pK; rw [if_neg (by rw [g0]; decide)]
      | 1, _ => unfold pK; rw [if_pos g1]; exact hk)
    refine ⟨y1, ?_⟩
    rw [y2, hp]
    show [pW S [b0, b1] i 0, pW S [b0, b1] i 1] = _
    have e0 : pW S [b0, b1] i 0 = 0 := by unfold pW; rw [if_neg (by rw [g0]; decide)]
    have e1 : pW S [b0, b1] i 1 = v := by unfold pW; rw [if_pos g1]; exact hv
    rw [e0, e1]
  obtain ⟨y1, y2⟩ := y 0 _ (.inl rfl) j0 v0 ht0 (by rw [hp0]; rfl)
  obtain ⟨w1, w2⟩ := y 1 _ (.inr rfl) j1 v1 ht1 (by rw [hp1]; rfl)
  have r0 : (taskAt S 0).parts = [⟨1, run, 0⟩, ⟨3, lock, 0⟩] := hp0
  have r1 : (taskAt S 1).parts = [⟨1, run2, 0⟩, ⟨3, lock2, 0⟩] := hp1
  refine ⟨⟨y1, y2, ?_⟩, ⟨w1, w2, ?_⟩⟩
  · unfold ownV; rw [if_pos y1, y2, r0]; simp [sumK, tot]
  · unfold ownV; rw [if_pos w1, w2, r1]; simp [sumK, tot]
end Go.Proofs.YtjjlpaampmpdfaaGreatDoor

namespace Go.Proofs.YtjjlpaampmpdfaaGreatDoor
open Go.ChangeShapes Go.WideShapes Go.ChangeAt Go.RowKit
set_option linter.unusedVariables false
theorem partB_lock {len r R : Int} (h1 : 1 ≤ len ∧ len ≤ 60) (h2 : 0 ≤ r ∧ r < R) : partB ⟨3, len, r⟩ R = true := by
  have e1 : inB len 1 60 = true := inB_true.2 h1
  have e2 : inB r 0 (R - 1) = true := inB_true.2 (by omega)
  simp [partB, e1, e2]
theorem partB_run {k len R : Int} (hk : k = 1 ∨ k = 2) (h1 : 1 ≤ len ∧ len ≤ 60) : partB ⟨k, len, 0⟩ R = true := by
  have e1 : inB len 1 60 = true := inB_true.2 h1
  have e2 : inB 0 0 0 = true := by decide
  have hn : ¬ k = 3 := by omega
  simp [partB, e1, e2, hn, hk]
theorem partsB_mk {ps : List PartM} {R : Int} (hl : 1 ≤ ps.length ∧ ps.length ≤ 6) (h : ∀ p ∈ ps, partB p R = true) : partsB ps R = true := by
  have e1 : inB ps.length 1 6 = true := inB_true.2 (by omega)
  unfold partsB
  rw [e1, Bool.true_and]
  exact List.all_eq_true.2 h
theorem formB_mk {t : TaskR} (h0 : nameB t.name = true) (h1 : 1 ≤ t.per ∧ t.per ≤ 3000) (h2 : 1 ≤ t.dl ∧ t.dl ≤ t.per) (h3 : 1 ≤ t.prio ∧ t.prio ≤ 1000) : formB t = true := by
  have e1 : inB t.per 1 3000 = true := inB_true.2 h1
  have e2 : inB t.dl 1 t.per = true := inB_true.2 h2
  have e3 : inB t.prio 1 1000 = true := inB_true.2 h3
  simp [formB, h0, e1, e2, e3]
theorem taken_no {ts : List TaskR} {k : Nat} {t : TaskR} (hk : k ≤ ts.length) (h : ∀ i, i < k → ((ts.getD i default).name.toList == t.name.toList) = false ∧ ((ts.getD i default).prio == t.prio) = false) : takenB (ts.take k) t = false := by
  unfold takenB
  rw [List.any_eq_false]
  intro o ho
  obtain ⟨i, hi, e⟩ := mem_getD ho
  rw [List.length_take] at hi
  have e2 : (ts.take k).getD i default = ts.getD i default := by simp [List.getD, show i < k by omega]
  rw [e2] at e
  obtain ⟨a, b⟩ := h i (by omega)
  rw [e] at a b
  simp [likeB, a, b]
theorem okS_all {s : SetR} (h1 : 1 ≤ s.proto ∧ s.proto ≤ 3) (h2 : 1 ≤ s.cores.length ∧ s.cores.length ≤ 3) (h3 : ∀ n ∈ s.cores, 1 ≤ n ∧ n ≤ 3) (h4 : s.homes.length ≤ 4) (h5 : ∀ n ∈ s.homes, 0 ≤ n ∧ n < s.cores.length) (h6 : 1 ≤ s.tasks.length ∧ s.tasks.length ≤ 6)
    (ht : ∀ k, k < s.tasks.length → formB (s.tasks.getD k default) = true ∧ (0 ≤ (s.tasks.getD k default).cl ∧ (s.tasks.getD k default).cl < s.cores.length) ∧ partsB (s.tasks.getD k default).parts s.homes.length = true)
    (hd : ∀ i k, i < k → k < s.tasks.length → ((s.tasks.getD i default).name.toList == (s.tasks.getD k default).name.toList) = false ∧ ((s.tasks.getD i default).prio == (s.tasks.getD k default).prio) = false) : okS s = true := by
  have all : ∀ (l : List Int) (lo hi : Int), (∀ n ∈ l, lo ≤ n ∧ n ≤ hi) → allB l lo hi = true := fun l lo hi h => List.all_eq_true.2 (fun n hn => inB_true.2 (h n hn))
  refine okS_mk (inB_true.2 h1) (inB_true.2 (by omega)) (all _ _ _ h3) h4 (all _ _ _ (fun n hn => by have := h5 n hn; omega)) h6.1 h6.2 (fun k hk => ?_)
  obtain ⟨a, b, c⟩ := ht k hk
  exact ⟨a, inB_true.2 (by omega), taken_no (by omega) (fun i hi => hd i k hi hk), c⟩
theorem nameC : nameB ⟨#[99]⟩ = true := by decide +kernel
theorem namesAC : ((⟨#[97]⟩ : ByteArray).toList == (⟨#[99]⟩ : ByteArray).toList) = false := by decide +kernel
theorem namesBC : ((⟨#[98]⟩ : ByteArray).toList == (⟨#[99]⟩ : ByteArray).toList) = false := by decide +kernel
/-- bytes: what is left of one -/
theorem mod_u8 {a : Int} (k : Int) (h : (Lit.int .u8 a).wf = true) (hk : 0 < k) : ∃ x, 0 ≤ x ∧ x < k ∧ a.tmod k = x := by
  have h0 : 0 ≤ a := by simp [Lit.wf, IntKind.min, IntKind.max, IntKind.signed, IntKind.bits] at h; omega
  exact ⟨a.tmod k, Int.tmod_nonneg k h0, Int.tmod_lt_of_pos a hk, rfl⟩
theorem nat_u8 {a : Int} (h : (Lit.int .u8 a).wf = true) : ∃ n : Nat, a = n := by
  have h0 : 0 ≤ a := by simp [Lit.wf, IntKind.min, IntKind.max, IntKind.signed, IntKind.bits] at h; omega
  exact ⟨a.toNat, by omega⟩
theorem u8_le {a : Int} {n : Nat} (h : (Lit.int .u8 a).wf = true) (e : a = n) : n ≤ 255 := by
  simp [Lit.wf, IntKind.min, IntKind.max, IntKind.signed, IntKind.bits] at h; omega
end Go.Proofs.YtjjlpaampmpdfaaGreatDoor

namespace Go.Proofs.YtjjlpaampmpdfaaGreatDoor
open Go.ChangeShapes Go.WideShapes Go.ChangeAt Go.RowKit
set_option linter.unusedVariables false
set_option linter.unusedSimpArgs false
theorem two19_vals {S : SetR} (hS : twoS19 S 1 1 3 5 4) : anE S = 0 ∧ anB S = [12, 16] ∧ anW S = [[0, 7], [0, 7]] := by
  obtain ⟨p1, p2, p3, a1, a2, c1, c2, p4⟩ := hS
  have hok := okTwo p1 p2 p3 p4 (by decide) (by decide) (by decide) (by decide) (by decide)
  have hn : S.tasks.length = 2 := by rw [p4]; rfl
  have PF := fun b0 b1 => pair_fair hok p1 p4 (by decide) (by decide) b0 b1
  have hso : soonL S = [4, 9] := by unfold soonL; rw [p4]; rfl
  have nk : ∀ b0 b1, nextK S [b0, b1] 0 = true ∧ nextK S [b0, b1] 1 = true := fun b0 b1 => ⟨nextK_true.2 ⟨(PF b0 b1).1.1, by rw [hn]; rfl⟩, nextK_true.2 ⟨(PF b0 b1).2.1, by rw [hn]; rfl⟩⟩
  have nv : ∀ b0 b1, 0 ≤ b0 → 0 ≤ b1 → nextV S [b0, b1] 0 = 8 + workV b0 b1 200 4 / 1 ∧ nextV S [b0, b1] 1 = 12 + workV b1 b0 100 4 / 1 := fun b0 b1 h0 h1 => by
    have o0 := (pair_others hok p1 p2 p3 p4 h0 h1 b0).1
    have o1 := (pair_others hok p1 p2 p3 p4 h0 h1 b1).2
    refine ⟨?_, ?_⟩
    · unfold nextV
      rw [if_pos (nk b0 b1).1, (PF b0 b1).1.2.2]
      show 1 + (3 + 4) + othersV S [b0, b1] 0 b0 = _
      rw [o0]; simp
    · unfold nextV
      rw [if_pos (nk b0 b1).2, (PF b0 b1).2.2.2]
      show 5 + (4 + 3) + othersV S [b0, b1] 1 b1 = _
      rw [o1]; simp
  have nr : ∀ b0 b1, nextRow S [b0, b1] = [nextV S [b0, b1] 0, nextV S [b0, b1] 1] := fun b0 b1 => by unfold nextRow; rw [hn]; rfl
  have dl : (S.tasks.getD 0 default).dl = 100 ∧ (S.tasks.getD 1 default).dl = 200 := by rw [p4]; exact ⟨rfl, rfl⟩
  have rb : ∀ b0 b1, nextV S [b0, b1] 0 ≤ 100 → nextV S [b0, b1] 1 ≤ 200 → roundB S [b0, b1] = true := fun b0 b1 h0 h1 => by
    unfold roundB
    rw [hn, upTo_iff]
    intro k hk
    have e0 : stepB S [b0, b1] 0 = true := by unfold stepB; rw [dl.1]; show (nextK S [b0, b1] 0 && decide (nextV S [b0, b1] 0 ≤ 100)) = true; rw [(nk b0 b1).1, decide_eq_true h0]; rfl
    have e1 : stepB S [b0, b1] 1 = true := by unfold stepB; rw [dl.2]; show (nextK S [b0, b1] 1 && decide (nextV S [b0, b1] 1 ≤ 200)) = true; rw [(nk b0 b1).2, decide_eq_true h1]; rfl
    match k, hk with
    | 0, _ => exact e0
    | 1, _ => exact e1
  obtain ⟨u0, u1⟩ := nv 4 9 (by decide) (by decide)
  obtain ⟨w0, w1⟩ := nv 12 16 (by decide) (by decide)
  rw [show 8 + workV 4 9 200 4 / 1 = 12 by decide +kernel] at u0
  rw [show 12 + workV 9 4 100 4 / 1 = 16 by decide +kernel] at u1
  rw [show 8 + workV 12 16 200 4 / 1 = 12 by decide +kernel] at w0
  rw [show 12 + workV 16 12 100 4 / 1 = 16 by decide +kernel] at w1
  have r1 : nextRow S [4, 9] = [12, 16] := by rw [nr, u0, u1]
  have r2 : nextRow S [12, 16] = [12, 16] := by rw [nr, w0, w1]
  have hset : settle S = ([12, 16], 0) := by
    unfold settle
    rw [hso, show (200 : Nat) = 198 + 1 + 1 from rfl, setL_succ, if_pos (rb 4 9 (by omega) (by omega)), r1, if_neg (by decide), setL_succ, if_pos (rb 12 16 (by omega) (by omega)), r2, if_pos rfl]
  have hE : anE S = 0 := by unfold anE; rw [if_pos ((okS_chk S).1 hok), hset]
  have hB : anB S = [12, 16] := by unfold anB; rw [if_pos hE, hset]
  refine ⟨hE, hB, ?_⟩
  unfold anW
  rw [if_pos hE, hset, hn]
  show [waitsL S [12, 16] 0, waitsL S [12, 16] 1] = _
  rw [(PF 12 16).1.2.1, (PF 12 16).2.2.1]; rfl
theorem txt_12 : textL 12 = [49, 50] ∧ textL 16 = [49, 54] ∧ textL 100 = [49, 48, 48] ∧ textL 200 = [50, 48, 48] ∧ textL 7 = [55] ∧ textL 10 = [49, 48] := by decide +kernel
theorem two19_rep {S : SetR} (hS : twoS19 S 1 1 3 5 4) : repE S = 0 ∧ repV S = [wAdm, [97, 32, 49, 50, 32, 49, 48, 48, 32, 55], [98, 32, 49, 54, 32, 50, 48, 48, 32, 55]] := by
  obtain ⟨h1, h2, h3⟩ := two19_vals hS
  obtain ⟨-, -, -, a1, a2, c1, c2, p4⟩ := hS
  refine ⟨by unfold repE; rw [if_pos (.inl h1)], ?_⟩
  obtain ⟨e1, e2, e3, e4, e5, _⟩ := txt_12
  have ho : ordL S.tasks = [0, 1] := by rw [p4]; rfl
  unfold repV
  rw [if_pos h1]
  unfold repL
  rw [ho, h2, h3]
  have q1 : (S.tasks.getD 0 default).parts.length = 2 := by rw [p4]; rfl
  have q2 : (S.tasks.getD 1 default).parts.length = 2 := by rw [p4]; rfl
  have l1 : lineR S [12, 16] [[0, 7], [0, 7]] 0 = [97, 32, 49, 50, 32, 49, 48, 48, 32, 55] := by
    unfold lineR
    rw [q1]
    unfold wordsR
    rw [p4]
    show joinT 32 [[97], textL 12, textL 100, textL 7] = _
    rw [e1, e3, e5]; rfl
  have l2 : lineR S [12, 16] [[0, 7], [0, 7]] 1 = [98, 32, 49, 54, 32, 50, 48, 48, 32, 55] := by
    unfold lineR
    rw [q2]
    unfold wordsR
    rw [p4]
    show joinT 32 [[98], textL 16, textL 200, textL 7] = _
    rw [e2, e4, e5]; rfl
  show [wAdm, lineR S [12, 16] [[0, 7], [0, 7]] 0, lineR S [12, 16] [[0, 7], [0, 7]] 1] = _
  rw [l1, l2]
def zeroS : SetR := ⟨0, none, 0, [], none, 0, [], none, 0, []⟩
theorem zeroS_ok (w : World) : SetOk w zeroS := ⟨by unfold I64 zeroS; decide, ⟨⟨fun _ => ⟨rfl, rfl⟩, Nat.le_refl _, by decide⟩, .inl rfl, by simp [zeroS]⟩, ⟨⟨fun _ => ⟨rfl, rfl⟩, Nat.le_refl _, by decide⟩, .inl rfl, by simp [zeroS]⟩, ⟨⟨fun _ => ⟨rfl, rfl⟩, Nat.le_refl _, by decide⟩, .inl rfl, by simp [zeroS]⟩⟩
theorem zeroS_rep : repE zeroS = 10 := by
  have h : anE zeroS = 10 := by decide +kernel
  unfold repE
  rw [h]; rfl
theorem map_bl_eq {a b : List ByteArray} (h : a.map bl = b.map bl) : a = b := by
  have := congrArg (List.map mkB) h
  simpa [List.map_map, Function.comp_def, mk_bl] using this
theorem same19_yes {w : World} {B C : Nat} {A D : Option Addr} {n m c d : Nat} {L : List Bts} (ha : StrL B w A n c L) (hd : StrL C w D m d L) (hl : L.length ≤ 1000) : Calls Tryz.prog 11 #[.slice A n c, .slice D m d] w fun e w' => e = .returned (.bool true) ∧ Qt w w' := by
  obtain ⟨ls, h1, h2, _⟩ := ha
  obtain ⟨ks, g1, g2, _⟩ := hd
  obtain rfl : ls = ks := map_bl_eq (h2.trans g2.symm)
  have sa := h1.at_
  have sd := g1.at_
  have hn := h1.len
  have hm := g1.len
  have hll : ls.length = L.length := by rw [← h2, List.length_map]
  subst hm
  obtain ⟨M, hM⟩ : ∃ M, ls.length = M := ⟨_, rfl⟩
  have HM := hidp hM
  rw [hM] at hn hll ⊢
  subst hn
  have hM1 : n ≤ 1000 := by omega
  clear h1 g1 h2 g2 hM hll hl
  go_enter Tryz.func11, Tryz.ntmps11
  go_wp2_with fail
  go_loopg [5] n (fun g i wr => ∃ k : Nat, k + g = n ∧ i = .int .i64 k ∧ Hid (Qt w wr))
  case atStart => exact ⟨0, by omega, rfl, hidp (Qt.refl _)⟩
  case round =>
    obtain ⟨k, hk, rfl, HQ⟩ := hrel
    have wk : IntKind.i64.wrap ((k : Int) + 1) = (k : Int) + 1 := IntWalk.i64_in _ (by omega)
    by_cases hin : k < n
    · obtain ⟨ga, oa, rfl, ca⟩ := sa.resolve_left (by intro e; have := HM.out; rw [e] at this; simp at this; omega)
      obtain ⟨gb, ob, rfl, cb⟩ := sd.resolve_left (by intro e; have := HM.out; rw [e] at this; simp at this; omega)
      obtain ⟨x, Hx⟩ : ∃ x, Hid (ls.getD k ByteArray.empty = x) := ⟨_, hidp rfl⟩
      have c1 : wr.cell? ⟨ga, oa + k, none⟩ = some (.string x) := HQ.out.cell (Hx.out ▸ ca k (by rw [HM.out]; exact hin))
      have c2 : wr.cell? ⟨gb, ob + k, none⟩ = some (.string x) := HQ.out.cell (Hx.out ▸ cb k (by rw [HM.out]; exact hin))
      have b1 : (0 : Int) ≤ (k : Int) := by omega
      have b2 : (k : Int) < (n : Int) := by omega
      clear ca cb
      go_wp2_with fail
      go_quiet (fail)
      go_wp2_with fail
      go_roundg (gk - 1)
      case measure => omega
      case rel => exact ⟨k + 1, by omega, by go_num, hidp (HQ.out.add _)⟩
    · obtain rfl : k = n := by omega
      go_wp2_with fail
      go_ret
      exact ⟨rfl, HQ.out⟩
theorem lit_eq {r : ByteArray} {l : Bts} (h : bl r = l) : r = mkB l := by rw [← h, mk_bl]
set_option maxHeartbeats 4000000 in
set_option maxRecDepth 100000 in
theorem known19_any (w : World) (ht : ∀ u, Below w.heap.size w u → Tab u) : Calls Tryz.prog 7 #[] w fun e w' => e = .returned (.bool true) ∧ Below w.heap.size w w' := by
  have HT := hidp ht
  have C2 := hidp (two19_any 1 1 3 5 4 w (by unfold I64; decide) (by unfold I64; decide) (by unfold I64; decide) (by unfold I64; decide) (by unfold I64; decide))
  clear ht
  go_enter Tryz.func7, Tryz.ntmps7
  go_wp2_with fail
  refine C2.out.mono ?_
  rintro e u1 ⟨⟨S, rfl, hs, hS⟩, hb1⟩
  obtain ⟨r1, r2⟩ := two19_rep hS
  have CL := rlines19_any S u1 hs (fun x hx => HT.out x (hb1.trans (hx.mono hb1.size)))
  unfold LinesPost at CL
  rw [r1, r2] at CL
  have HCL := hidp CL
  have HB1 := hidp hb1
  clear hs hS r1 r2 CL hb1 C2
  go_wp2_with fail
  refine HCL.out.mono ?_
  rintro e u2 ⟨A, c, rfl, hsl, hb2⟩
  have HB2 := hidp (HB1.out.trans (hb2.mono HB1.out.size))
  have HSL := hidp hsl
  have CZ := rlines19_any zeroS u2 (zeroS_ok _) (fun x hx => HT.out x (HB2.out.trans (hx.mono HB2.out.size)))
  unfold LinesPost at CZ
  rw [zeroS_rep] at CZ
  have HCZ := hidp CZ
  clear hsl hb2 CZ HCL
  unfold zeroS at HCZ
  dsimp only at HCZ
  go_wp2_with fail
  refine HCZ.out.mono ?_
  rintro e u3 ⟨A3, c3, rfl, _, hb3⟩
  have HB3 := hidp (HB2.out.trans (hb3.mono HB2.out.size))
  have HSL3 := hidp ((HSL.out.turned (Turned.of_below hb3 []) (by simp)).turned (Turned.of_below ((Below.refl u3.heap.size u3).alloc (Nat.le_refl _) (.cells #[.string ⟨#[97, 100, 109, 105, 116, 116, 101, 100]⟩, .string ⟨#[97, 32, 49, 50, 32, 49, 48, 48, 32, 55]⟩, .string ⟨#[98, 32, 49, 54, 32, 50, 48, 48, 32, 55]⟩] 9)) []) (by simp))
  have HLI : Hid (StrL u3.heap.size (u3.alloc (.cells #[.string ⟨#[97, 100, 109, 105, 116, 116, 101, 100]⟩, .string ⟨#[97, 32, 49, 50, 32, 49, 48, 48, 32, 55]⟩, .string ⟨#[98, 32, 49, 54, 32, 50, 48, 48, 32, 55]⟩] 9)) (some ⟨u3.heap.size, 0, none⟩) 3 3 [wAdm, [97, 32, 49, 50, 32, 49, 48, 48, 32, 55], [98, 32, 49, 54, 32, 50, 48, 48, 32, 55]]) := hidp (strL_lit u3 [⟨#[97, 100, 109, 105, 116, 116, 101, 100]⟩, ⟨#[97, 32, 49, 50, 32, 49, 48, 48, 32, 55]⟩, ⟨#[98, 32, 49, 54, 32, 50, 48, 48, 32, 55]⟩] (by intro x hx; simp only [List.mem_cons, List.not_mem_nil, or_false] at hx; rcases hx with rfl | rfl | rfl <;> decide) (by simp))
  have CS := hidp (same19_yes HSL3.out HLI.out (by decide))
  have HB4 := hidp (HB3.out.alloc HB3.out.size (.cells #[.string ⟨#[97, 100, 109, 105, 116, 116, 101, 100]⟩, .string ⟨#[97, 32, 49, 50, 32, 49, 48, 48, 32, 55]⟩, .string ⟨#[98, 32, 49, 54, 32, 50, 48, 48, 32, 55]⟩] 9))
  clear hb3 HCZ
  go_wp2_with fail
  refine CS.out.mono ?_
  rintro e u4 ⟨rfl, hq⟩
  have HB5 := hidp (hq.below HB4.out)
  have W1 := hidp (word_any 19 u4 (by decide) (HT.out _ HB5.out))
  clear hq CS
  go_wp2_with fail
  refine W1.out.mono ?_
  rintro e u5 ⟨r5, rfl, h5, hb5⟩
  obtain rfl : r5 = ⟨#[108, 97, 116, 101]⟩ := lit_eq h5
  have HB6 := hidp (HB5.out.trans (hb5.mono HB5.out.size))
  have W2 := hidp (word_any 20 u5 (by decide) (HT.out _ HB6.out))
  clear h5 hb5 W1
  go_wp2_with fail
  refine W2.out.mono ?_
  rintro e u6 ⟨r6, rfl, h6, hb6⟩
  obtain rfl : r6 = ⟨#[117, 110, 107, 110, 111, 119, 110]⟩ := lit_eq h6
  have HB7 := hidp (HB6.out.trans (hb6.mono HB6.out.size))
  have W3 := hidp (word_any 10 u6 (by decide) (HT.out _ HB7.out))
  clear h6 hb6 W2
  go_wp2_with fail
  refine W3.out.mono ?_
  rintro e u7 ⟨r7, rfl, h7, hb7⟩
  obtain rfl : r7 = ⟨#[101, 114, 114, 111, 114, 32, 49, 48]⟩ := lit_eq (h7.trans (by unfold wordV; rw [if_neg (by decide), if_neg (by decide), txt_12.2.2.2.2.2]; rfl))
  have HB8 := hidp (HB7.out.trans (hb7.mono HB7.out.size))
  clear h7 hb7 W3
  go_wp2_with fail
  go_ret
  exact ⟨rfl, HB8.out⟩
end Go.Proofs.YtjjlpaampmpdfaaGreatDoor
