/- wait: there, Part, All, Sum. -/
import Derived.Test.YtnanpopghipmbaaWaitNums
import Derived.Test.YtnanpopghipmbaaOwnPut
import Derived.Test.YtnanpopghipmbaaLit
namespace Go.Proofs.Ytnanpopghipmbaa
open Go.ChangeShapes Go.WideShapes Go.ChangeAt Go.RowKit
set_option linter.unusedVariables false
set_option linter.unusedSimpArgs false

theorem there16_any (s : SetR) (of : Int) (w : World) (hs : SetOk w s) : Calls Try.prog 15 #[.agg #[.int .i64 s.proto, .slice s.ca s.cores.length s.cc, .slice s.ha s.homes.length s.hc, .slice s.ta s.tasks.length s.tc], .int .i64 of] w fun e w' => e = .returned (.bool (thereB s of)) ∧ Below w.heap.size w w' := by
  have hb := (Below.refl w.heap.size w).alloc (Nat.le_refl _) (.cells #[.int .i64 s.proto, .slice s.ca s.cores.length s.cc, .slice s.ha s.homes.length s.hc, .slice s.ta s.tasks.length s.tc] 25)
  have sc := SetCells.new w s 25
  have H := hidp (hs.keep (Keeps.of_below hb))
  have l3 : s.tasks.length ≤ maxLen := Nat.le_trans hs.tasks.sl.2.1 hs.tasks.sl.2.2
  unfold maxLen at l3
  clear hs
  by_cases e : chkE s = 0
  · have e1 : (chkE s == 0) = true := by simpa using e
    have ho : okS s = true := e1
    clear e
    by_cases h0 : 0 ≤ of
    · have Hv : Hid (thereB s of = decide (of < s.tasks.length)) := hidp (by simp [thereB, ho, h0])
      clear ho
      go_enter Try.func15, Try.ntmps15
      go_wp2_with (first | (go_at_call 10; (with_reducible refine (check_any _ _ H.out).mono ?_); rintro e w2 ⟨rfl, hb2⟩; have sc2 := sc.keep (Keeps.of_below hb2); obtain ⟨c0, c1, c2, c3⟩ := sc2))
      go_ret
      exact ⟨ret_bool Hv.out.symm, hb.trans (hb2.mono hb.size)⟩
    · have Hv : Hid (thereB s of = false) := hidp (by simp [thereB, h0])
      have d0 : decide (0 ≤ of) = false := by simpa using h0
      clear ho h0
      go_enter Try.func15, Try.ntmps15
      go_wp2_with (first | (go_at_call 10; (with_reducible refine (check_any _ _ H.out).mono ?_); rintro e w2 ⟨rfl, hb2⟩; have sc2 := sc.keep (Keeps.of_below hb2); obtain ⟨c0, c1, c2, c3⟩ := sc2))
      go_ret
      exact ⟨ret_bool Hv.out.symm, hb.trans (hb2.mono hb.size)⟩
  · have e1 : (chkE s == 0) = false := by simpa using e
    have Hv : Hid (thereB s of = false) := hidp (by unfold thereB okS; rw [e1]; rfl)
    clear e
    go_enter Try.func15, Try.ntmps15
    go_wp2_with (first | (go_at_call 10; (with_reducible refine (check_any _ _ H.out).mono ?_); rintro e w2 ⟨rfl, hb2⟩; have sc2 := sc.keep (Keeps.of_below hb2); obtain ⟨c0, c1, c2, c3⟩ := sc2))
    go_ret
    exact ⟨ret_bool Hv.out.symm, hb.trans (hb2.mono hb.size)⟩


set_option maxHeartbeats 1000000 in
theorem wpart_any (s : SetR) (bs : List Int) (ba : Option Addr) (bc : Nat) (of part : Int) (w : World) (hs : SetOk w s) (hB : IntsOk w ba bc bs) : Calls Try.prog 12 #[.agg #[.int .i64 s.proto, .slice s.ca s.cores.length s.cc, .slice s.ha s.homes.length s.hc, .slice s.ta s.tasks.length s.tc], .slice ba bs.length bc, .int .i64 of, .int .i64 part] w fun e w' => e = .returned (.tuple #[.int .i64 (waitV s bs of part), .bool (waitK s bs of part)]) ∧ Below w.heap.size w w' := by
  have hb := (Below.refl w.heap.size w).alloc (Nat.le_refl _) (.cells #[.int .i64 s.proto, .slice s.ca s.cores.length s.cc, .slice s.ha s.homes.length s.hc, .slice s.ta s.tasks.length s.tc] 25)
  have sc := SetCells.new w s 25
  have H := hs.keep (Keeps.of_below hb)
  have HB := hB.keep (Keeps.of_below hb)
  have l3 : s.tasks.length ≤ maxLen := Nat.le_trans hs.tasks.sl.2.1 hs.tasks.sl.2.2
  have l4 : bs.length ≤ maxLen := Nat.le_trans hB.sl.2.1 hB.sl.2.2
  unfold maxLen at l3 l4
  by_cases e2 : bs.length = s.tasks.length
  · have d1 : ((bs.length : Int) != (s.tasks.length : Int)) = false := by simp [e2]
    by_cases p1 : s.proto = 1
    · have HV : Hid (waitV s bs of part = fairV s of part) := hidp (by unfold waitV; rw [if_pos e2, if_pos p1])
      have HK : Hid (waitK s bs of part = fairK s of part) := hidp (by unfold waitK; rw [if_pos e2, if_neg (by omega)])
      have q1 : (s.proto == 1) = true := by simpa using p1
      clear p1 e2
      go_enter Try.func12, Try.ntmps12
      go_wp2_with fail
      refine (part_any s of part _ H).mono ?_
      rintro e w2 ⟨rfl, hb2⟩
      replace hb := hb.trans (hb2.mono hb.size)
      clear hb2
      go_wp2
      go_ret2
      exact ⟨ret_ib HV.out.symm HK.out.symm, hb⟩
    · have q1 : (s.proto == 1) = false := by simpa using p1
      by_cases p2 : s.proto = 2
      · have HV : Hid (waitV s bs of part = agentV s bs of part) := hidp (by unfold waitV; rw [if_pos e2, if_neg p1, if_pos p2])
        have HK : Hid (waitK s bs of part = agentK s bs of part) := hidp (by unfold waitK; rw [if_pos e2, if_pos p2])
        have q2 : (s.proto == 2) = true := by simpa using p2
        clear p1 p2 e2
        go_enter Try.func12, Try.ntmps12
        go_wp2_with fail
        refine (apart_any s bs ba bc of part _ H HB).mono ?_
        rintro e w2 ⟨rfl, hb2⟩
        replace hb := hb.trans (hb2.mono hb.size)
        clear hb2
        go_wp2
        go_ret2
        exact ⟨ret_ib HV.out.symm HK.out.symm, hb⟩
      · have q2 : (s.proto == 2) = false := by simpa using p2
        have HV : Hid (waitV s bs of part = tokV s of part) := hidp (by unfold waitV; rw [if_pos e2, if_neg p1, if_neg p2])
        have HK : Hid (waitK s bs of part = fairK s of part) := hidp (by unfold waitK; rw [if_pos e2, if_neg p2])
        by_cases p3 : s.proto = 3
        · have q3 : (s.proto == 3) = true := by simpa using p3
          clear p1 p2 p3 e2
          go_enter Try.func12, Try.ntmps12
          go_wp2_with fail
          refine (tpart_any s of part _ H).mono ?_
          rintro e w2 ⟨rfl, hb2⟩
          replace hb := hb.trans (hb2.mono hb.size)
          clear hb2
          go_wp2
          go_ret2
          exact ⟨ret_ib HV.out.symm HK.out.symm, hb⟩
        · have q3 : (s.proto == 3) = false := by simpa using p3
          have hk : fairK s of part = false := by
            rw [Bool.eq_false_iff]; intro h
            have := (Good.of (lock_part h).1).proto
            omega
          have HV2 : Hid (waitV s bs of part = 0) := hidp (by rw [HV.out]; unfold tokV; rw [hk]; rfl)
          have HK2 : Hid (waitK s bs of part = false) := hidp (by rw [HK.out, hk])
          clear p1 p2 p3 e2 hk
          go_enter Try.func12, Try.ntmps12
          go_wp2
          go_ret2
          exact ⟨ret_ib HV2.out.symm HK2.out.symm, hb⟩
  · have d1 : ((bs.length : Int) != (s.tasks.length : Int)) = true := by simp; omega
    have HV : Hid (waitV s bs of part = 0) := hidp (by unfold waitV; rw [if_neg e2])
    have HK : Hid (waitK s bs of part = false) := hidp (by unfold waitK; rw [if_neg e2])
    clear e2
    go_enter Try.func12, Try.ntmps12
    go_wp2
    go_ret2
    exact ⟨ret_ib HV.out.symm HK.out.symm, hb⟩

theorem OwnN.none (B : Nat) (w : World) : OwnN B w none 0 0 [] := ⟨World.ownsRow_nil _ _ _ _, rfl, by decide, fun _ => ⟨rfl, rfl⟩⟩
theorem OwnN.app {B : Nat} {w w1 w2 : World} {A A' : Option Addr} {n c c' : Nat} {rs ps : List Int} {m : Nat} (h : OwnN B w A n c rs) (ha : App B 3 1 w1 A A' (n + m) c' (rs.map (Value.int .i64) ++ ps.map (Value.int .i64)) w2) (hm : m = ps.length) : OwnN B w2 A' (n + m) c' (rs ++ ps) :=
  ⟨by rw [List.map_append]; exact ha.own, by rw [List.length_append, h.len, hm], ha.cap, ha.nil⟩
theorem ints_one (x : Int) : ∀ u ∈ [x].map (Value.int .i64), u.oneCell' = true := fun u hu => by simp at hu; subst hu; rfl
/-- a row of numbers, and a word -/
def RowK (w : World) (zs : List Int) (k : Bool) (e : Ending) (w' : World) : Prop := ∃ A c, e = .returned (.tuple #[.slice A zs.length c, .bool k]) ∧ IntsOk w' A c zs ∧ Below w.heap.size w w'
theorem RowK.eq {w w' : World} {zs ys : List Int} {k j : Bool} {e : Ending} (h : RowK w zs k e w') (h1 : zs = ys) (h2 : k = j) : RowK w ys j e w' := h1 ▸ h2 ▸ h

set_option maxHeartbeats 4000000 in
set_option maxRecDepth 100000 in
theorem wall_any (s : SetR) (bs : List Int) (ba : Option Addr) (bc : Nat) (of : Int) (w : World) (hs : SetOk w s) (hB : IntsOk w ba bc bs) : Calls Try.prog 8 #[.agg #[.int .i64 s.proto, .slice s.ca s.cores.length s.cc, .slice s.ha s.homes.length s.hc, .slice s.ta s.tasks.length s.tc], .slice ba bs.length bc, .int .i64 of] w (RowK w (waitsL s bs of) (waitsK s bs of)) := by
  have hb := (Below.refl w.heap.size w).alloc (Nat.le_refl _) (.cells #[.int .i64 s.proto, .slice s.ca s.cores.length s.cc, .slice s.ha s.homes.length s.hc, .slice s.ta s.tasks.length s.tc] 25)
  have sc := SetCells.new w s 25
  have H := hs.keep (Keeps.of_below hb)
  have l3 : s.tasks.length ≤ maxLen := Nat.le_trans hs.tasks.sl.2.1 hs.tasks.sl.2.2
  unfold maxLen at l3
  by_cases e : thereB s of = true
  · have Hth := hidp e
    obtain ⟨ho, r1, r2⟩ := thereB_true.1 e
    obtain ⟨n, rfl⟩ : ∃ n : Nat, of = n := ⟨of.toNat, by omega⟩
    have hn : n < s.tasks.length := by omega
    have hg := Good.of ho
    obtain ⟨t, HT⟩ : ∃ t, Hid (s.tasks.getD n default = t) := ⟨_, rfl⟩
    have hm : t ∈ s.tasks := HT.out ▸ getD_mem hn
    have Tok := hs.tasks.ok t hm
    have Tg := hg.parts t hm
    obtain ⟨g, off, hA, hcl⟩ := hs.tasks.at_.resolve_left (by intro e; rw [e] at hn; simp at hn)
    have Ht5 := hidp ((HT.out ▸ hcl n hn).2.2.2.2.2)
    have hpl := Tg.len
    obtain ⟨gp, op, hP, hpc⟩ := Tok.at_.resolve_left (by intro e; rw [e] at hpl; simp at hpl)
    have Hpc := hidp hpc
    obtain ⟨parts, hparts⟩ : ∃ parts, t.parts = parts := ⟨_, rfl⟩
    have Hpt : Hid (partsOf s n = parts) := hidp (by unfold partsOf; simp only [Int.toNat_natCast]; rw [HT.out, hparts])
    rw [hP, hparts] at Ht5
    rw [hparts] at Hpc hpl
    obtain ⟨V, HV⟩ : ∃ V : Nat → Int, Hid (∀ k : Nat, waitV s bs n k = V k) := ⟨fun k => waitV s bs n k, hidp (fun _ => rfl)⟩
    obtain ⟨K, HK⟩ : ∃ K : Nat → Bool, Hid (∀ k : Nat, waitK s bs n k = K k) := ⟨fun k => waitK s bs n k, hidp (fun _ => rfl)⟩
    have Hpa : Hid (∀ k : Nat, partAt s n k = parts.getD k default) := hidp (fun k => by unfold partAt; have := Hpt.out; unfold partsOf at this; rw [this]; simp)
    obtain ⟨PW, HPW⟩ : ∃ f : Nat → Int, Hid (pW s bs n = f) := ⟨_, hidp rfl⟩
    obtain ⟨PK, HPK⟩ : ∃ f : Nat → Bool, Hid (pK s bs n = f) := ⟨_, hidp rfl⟩
    have HPWl : Hid (∀ k, (parts.getD k default).kind = 3 → PW k = V k ∧ PK k = K k) := hidp (fun k h => by
      rw [← HPW.out, ← HPK.out]; unfold pW pK; rw [Hpa.out, if_pos h, if_pos h, HV.out, HK.out]; exact ⟨rfl, rfl⟩)
    have HPWn : Hid (∀ k, (parts.getD k default).kind ≠ 3 → PW k = 0 ∧ PK k = true) := hidp (fun k h => by
      rw [← HPW.out, ← HPK.out]; unfold pW pK; rw [Hpa.out, if_neg h, if_neg h]; exact ⟨rfl, rfl⟩)
    have HWb : Hid (∀ k, 0 ≤ PW k ∧ PW k ≤ 3000) := hidp (fun k => by rw [← HPW.out]; exact pW_bd s bs n k)
    have Hoff : Hid (∀ k, k < parts.length → PK k = false → waitsK s bs n = false ∧ waitsL s bs n = []) := hidp (fun k hk h => waits_off (by rw [Hpt.out]; exact hk) (by rw [HPK.out]; exact h))
    have Hyes : Hid ((∀ k, k < parts.length → PK k = true) → waitsK s bs n = true ∧ waitsL s bs n = (List.range parts.length).map PW) := hidp (fun h => by
      have := waits_yes (s := s) (bs := bs) (of := n) Hth.out (by rw [Hpt.out, HPK.out]; exact h)
      rw [Hpt.out, HPW.out] at this; exact this)
    obtain ⟨RL, HRL⟩ : ∃ L, Hid (waitsL s bs n = L) := ⟨_, hidp rfl⟩
    obtain ⟨RK, HRK⟩ : ∃ L, Hid (waitsK s bs n = L) := ⟨_, hidp rfl⟩
    rw [HRL.out, HRK.out] at Hoff Hyes ⊢
    have HS1 := hidp (fun u (h : Below w.heap.size w u) => hs.keep (Keeps.of_below h))
    have HB1 := hidp (fun u (h : Below w.heap.size w u) => hB.keep (Keeps.of_below h))
    obtain ⟨S, HSS⟩ : ∃ S : SetR, Hid (S = s) := ⟨s, rfl⟩
    obtain ⟨i0, hi0, hy0, hy1, hy2⟩ := info_parts infoZ
    clear hcl hm Tok Tg hpc hP hparts hg ho HT e hs hB r1
    have dn : decide (s.tasks.length ≤ n) = false := by simp; omega
    obtain ⟨proto, ca, cc, cores, ha, hc, homes, ta, tc, tasks⟩ := s
    dsimp only at hA hn l3 r2 hb sc H dn HS1 ⊢
    subst hA
    go_enter Try.func8, Try.ntmps8
    go_wp2
    go_step3
    go_wp2_with fail
    refine (there16_any _ _ _ H).mono ?_
    rintro e w2 ⟨rfl, hb2⟩
    replace hb := hb.trans (hb2.mono hb.size)
    replace sc := sc.keep (Keeps.of_below hb2)
    clear hb2
    try clear sc_0 sc_1 sc_2 sc_3
    have scx := sc
    obtain ⟨sc_0, sc_1, sc_2, sc_3⟩ := scx
    try dsimp only at sc_0 sc_1 sc_2 sc_3
    rw [Hth.out]
    have hz0 : w.heap.size + 1 ≤ w2.heap.size := cell_lt sc_0
    have d5 := Keeps.of_below hb _ _ Ht5.out
    go_wp2
    go_step3
    go_wp2
    clear sc_0 sc_1 sc_2 sc_3 d5
    go_loopg [8, 9, 24] parts.length (fun gg a ok i wr => ∃ (k c : Nat) (A : Option Addr), k + gg = parts.length ∧ i = .int .i64 k ∧ ok = .bool true ∧ a = .slice A k c ∧ Hid (∀ j, j < k → PK j = true) ∧ OwnN (w.heap.size + 1) wr A k c ((List.range k).map PW) ∧ SetCells wr w.heap.size ⟨proto, ca, cc, cores, ha, hc, homes, some ⟨g, off, none⟩, tc, tasks⟩ ∧ Below w.heap.size w wr ∧ w.heap.size + 1 ≤ wr.heap.size)
    case atStart => exact ⟨0, 0, none, by omega, rfl, rfl, rfl, hidp (fun j hj => by omega), OwnN.none _ _, sc, hb, hz0⟩
    case round =>
      clear sc hb
      obtain ⟨k, c, A, hk, rfl, rfl, rfl, Hk, ho, sc, hw, hz⟩ := hrel
      by_cases hlt : k < parts.length
      · obtain ⟨p, HP⟩ : ∃ p, Hid (parts.getD k default = p) := ⟨_, rfl⟩
        have pcl := (HP.out ▸ Hpc.out k hlt).keep (Keeps.of_below hw)
        obtain ⟨x0, x1, x2⟩ := pcl
        have hw1 := hw.alloc hw.size (.cells #[.int .i64 p.kind, .int .i64 p.len, .int .i64 p.res] 33)
        have ho1 := ho.turned ((Turned.refl [] wr).alloc (.cells #[.int .i64 p.kind, .int .i64 p.len, .int .i64 p.res] 33)) (by simp)
        have hz1 : w.heap.size + 1 ≤ (wr.alloc (.cells #[.int .i64 p.kind, .int .i64 p.len, .int .i64 p.res] 33)).heap.size := Nat.le_trans hz (by simp)
        have sc1 := sc.keep (Keeps.alloc wr (.cells #[.int .i64 p.kind, .int .i64 p.len, .int .i64 p.res] 33))
        obtain ⟨sc_0, sc_1, sc_2, sc_3⟩ := id sc1
        dsimp only at sc_0 sc_1 sc_2 sc_3
        have N2 : Hid (k + 1 ≤ maxLen) := hidp (by unfold maxLen; omega)
        have T2 : Hid ((k + 1) * 8 ≤ 140737488355328) := hidp (by omega)
        by_cases e : p.kind = 3
        · obtain ⟨v1, v2⟩ := HPWl.out k (by rw [HP.out]; exact e)
          have e' : (p.kind == 3) = true := by simpa using e
          obtain ⟨b, Hb⟩ : ∃ b, Hid (K k = b) := ⟨_, rfl⟩
          rw [Hb.out] at v2
          obtain ⟨v, Hv⟩ : ∃ v, Hid (PW k = v) := ⟨_, rfl⟩
          rw [Hv.out] at v1
          have Hvv := hidp v1.symm
          have Hpk := hidp v2
          clear v1 v2 e
          cases b with
          | false =>
            obtain ⟨f1, f2⟩ := Hoff.out k hlt Hpk.out
            have F1 := hidp f1
            have F2 := hidp f2
            clear f1 f2
            go_wp2_with fail
            refine (wpart_any _ bs ba bc n k _ (HS1.out _ hw1) (HB1.out _ hw1)).mono ?_
            rintro e w3 ⟨rfl, hb3⟩
            rw [HV.out k, HK.out k, Hb.out]
            go_wp2_with fail
            try rw [Exit.noGoto_ret]
            go_ret2
            exact RowK.eq ⟨none, 0, rfl, nil_ints _, hw1.trans (hb3.mono hw1.size)⟩ F2.out.symm F1.out.symm
          | true =>
            go_wp2_with fail
            refine (wpart_any _ bs ba bc n k _ (HS1.out _ hw1) (HB1.out _ hw1)).mono ?_
            rintro e w3 ⟨rfl, hb3⟩
            rw [HV.out k, HK.out k, Hb.out, Hvv.out]
            have hw3 := hw1.trans (hb3.mono hw1.size)
            have hown4 := ((ho1.turned (Turned.of_below hb3 []) (by simp)).turned ((Turned.refl [] w3).alloc (.cells #[.int .i64 v] 3)) (by simp))
            have S2 := hidp (Lies.newCells' w3 [.int .i64 v] 3)
            have Z2 : Hid (w.heap.size + 1 ≤ (w3.alloc (.cells #[.int .i64 v] 3)).heap.size) := hidp (Nat.le_trans hz1 (Nat.le_trans hb3.size (by simp)))
            have sc4 := (sc1.keep (Keeps.of_below hb3)).keep (Keeps.alloc _ (.cells #[.int .i64 v] 3))
            have hw4 := hw3.alloc hw3.size (.cells #[.int .i64 v] 3)
            have O2 := hidp (ints_one v)
            have Hfp := hidp (own_fp hown4.own)
            clear x0 x1 x2 sc_0 sc_1 sc_2 sc_3
            go_wp2_with (at_builtin; refine wpList_app2 _ rfl (.tmp 42) (.tmp 44) 22 rfl (w.heap.size + 1) 3 i0 _ 1 8 Try.underlying22 hi0 hy0 hy1 hy2 rfl (by decide) A k c _ rfl hown4.own _ _ 1 1 [.int .i64 v] rfl (by simp) rfl S2.out O2.out N2.out T2.out Z2.out ?_; intro A' c' w5 happ)
            go_roundg (gk - 1)
            case measure => omega
            case rel => exact ⟨k + 1, c', A', by omega, by go_num, rfl, rfl, hidp (fun j hj => by
              by_cases ej : j = k
              · subst ej; exact Hpk.out
              · exact Hk.out j (by omega)), by rw [range_snoc, Hv.out]; exact hown4.app (ps := [v]) happ rfl, sc4.turned happ.turned (fun hf => by have := (Hfp.out _ hf).1; omega), hw4.trans (happ.turned.below hw4.size (fun j hj => by have := (Hfp.out _ hj).1; omega)), Nat.le_trans Z2.out happ.turned.size⟩
        · obtain ⟨v1, v2⟩ := HPWn.out k (by rw [HP.out]; exact e)
          have e' : (p.kind == 3) = false := by simpa using e
          have Hv := hidp v1
          have Hpk := hidp v2
          clear v1 v2 e
          have hw3 := hw1
          have hown4 := ho1.turned ((Turned.refl [] (wr.alloc (.cells #[.int .i64 p.kind, .int .i64 p.len, .int .i64 p.res] 33))).alloc (.cells #[.int .i64 0] 3)) (by simp)
          have S2' := Lies.newCells' (wr.alloc (.cells #[.int .i64 p.kind, .int .i64 p.len, .int .i64 p.res] 33)) [.int .i64 0] 3
          rw [show (wr.alloc (.cells #[.int .i64 p.kind, .int .i64 p.len, .int .i64 p.res] 33)).heap.size = wr.heap.size + 1 by simp] at S2'
          have S2 := hidp S2'
          clear S2'
          have Z2 : Hid (w.heap.size + 1 ≤ ((wr.alloc (.cells #[.int .i64 p.kind, .int .i64 p.len, .int .i64 p.res] 33)).alloc (.cells #[.int .i64 0] 3)).heap.size) := hidp (Nat.le_trans hz1 (by simp))
          have sc4 := sc1.keep (Keeps.alloc _ (.cells #[.int .i64 0] 3))
          have hw4 := hw3.alloc hw3.size (.cells #[.int .i64 0] 3)
          have O2 := hidp (ints_one 0)
          have Hfp := hidp (own_fp hown4.own)
          go_wp2_with (at_builtin; refine wpList_app2 _ rfl (.tmp 42) (.tmp 44) 22 rfl (w.heap.size + 1) 3 i0 _ 1 8 Try.underlying22 hi0 hy0 hy1 hy2 rfl (by decide) A k c _ rfl hown4.own _ _ 1 1 [.int .i64 0] rfl (by simp) rfl S2.out O2.out N2.out T2.out Z2.out ?_; intro A' c' w5 happ)
          go_roundg (gk - 1)
          case measure => omega
          case rel => exact ⟨k + 1, c', A', by omega, by go_num, rfl, rfl, hidp (fun j hj => by
              by_cases ej : j = k
              · subst ej; exact Hpk.out
              · exact Hk.out j (by omega)), by rw [range_snoc, Hv.out]; exact hown4.app (ps := [0]) happ rfl, sc4.turned happ.turned (fun hf => by have := (Hfp.out _ hf).1; omega), hw4.trans (happ.turned.below hw4.size (fun j hj => by have := (Hfp.out _ hj).1; omega)), Nat.le_trans Z2.out happ.turned.size⟩
      · obtain rfl : k = parts.length := by omega
        obtain ⟨f1, f2⟩ := Hyes.out Hk.out
        have F1 := hidp f1
        have F2 := hidp f2
        have hrow := ho.ok (fun x hx => by obtain ⟨j, _, rfl⟩ := List.mem_map.1 hx; have := HWb.out j; unfold I64; omega)
        have Hr := hidp hrow
        clear f1 f2 hrow
        go_wp2
        try rw [Exit.noGoto_ret]
        go_ret2
        exact RowK.eq ⟨A, c, by simp, Hr.out, hw⟩ F2.out.symm F1.out.symm
  · have e : thereB s of = false := by simpa using e
    obtain ⟨k1, k2⟩ := waits_no (bs := bs) e
    have Hth := hidp e
    have F1 := hidp k1
    have F2 := hidp k2
    clear e k1 k2 hs hB
    go_enter Try.func8, Try.ntmps8
    go_wp2
    go_step3
    go_wp2_with fail
    refine (there16_any _ _ _ H).mono ?_
    rintro e w2 ⟨rfl, hb2⟩
    replace hb := hb.trans (hb2.mono hb.size)
    replace sc := sc.keep (Keeps.of_below hb2)
    clear hb2
    rw [Hth.out]
    go_wp2
    go_ret2
    exact RowK.eq ⟨none, 0, rfl, nil_ints _, hb⟩ F2.out.symm F1.out.symm

set_option maxHeartbeats 1000000 in
set_option maxRecDepth 100000 in
theorem wsum_any (s : SetR) (bs : List Int) (ba : Option Addr) (bc : Nat) (of : Int) (w : World) (hs : SetOk w s) (hB : IntsOk w ba bc bs) : Calls Try.prog 13 #[.agg #[.int .i64 s.proto, .slice s.ca s.cores.length s.cc, .slice s.ha s.homes.length s.hc, .slice s.ta s.tasks.length s.tc], .slice ba bs.length bc, .int .i64 of] w fun e w' => e = .returned (.tuple #[.int .i64 (tot (waitsL s bs of)), .bool (waitsK s bs of)]) ∧ Below w.heap.size w w' := by
  have hb := (Below.refl w.heap.size w).alloc (Nat.le_refl _) (.cells #[.int .i64 s.proto, .slice s.ca s.cores.length s.cc, .slice s.ha s.homes.length s.hc, .slice s.ta s.tasks.length s.tc] 25)
  have sc := SetCells.new w s 25
  have H := hs.keep (Keeps.of_below hb)
  have HB := hB.keep (Keeps.of_below hb)
  have h6 := waitsL_len s bs of
  obtain ⟨L, HL⟩ : ∃ L, Hid (waitsL s bs of = L) := ⟨_, hidp rfl⟩
  obtain ⟨K, HK⟩ : ∃ K, Hid (waitsK s bs of = K) := ⟨_, hidp rfl⟩
  rw [HL.out] at h6
  obtain ⟨l6, hb6⟩ := h6
  have HP := hidp hb6
  have HW := wall_any s bs ba bc of _ H HB
  rw [HL.out, HK.out] at HW ⊢
  clear hs hB H HB hb6
  go_enter Try.func13, Try.ntmps13
  go_wp2_with fail
  refine HW.mono ?_
  rintro e w2 ⟨A, c, rfl, hr, hb2⟩
  replace hb := hb.trans (hb2.mono hb.size)
  have HR := hidp hr.at_
  clear hr hb2 HW sc
  go_wp2
  go_loopg [10, 22] L.length (fun gg a i wr => ∃ (k : Nat) (x : Int), k + gg = L.length ∧ i = .int .i64 k ∧ a = .int .i64 x ∧ Hid (tot (L.take k) = x) ∧ w2 = wr)
  case atStart => exact ⟨0, 0, by omega, rfl, rfl, hidp rfl, rfl⟩
  case round =>
    obtain ⟨k, x, hk, rfl, rfl, Hx, rfl⟩ := hrel
    have hx := tot_cap (fun n (hn : n ∈ L.take k) => HP.out n (List.mem_of_mem_take hn))
    rw [Hx.out, List.length_take] at hx
    obtain ⟨x0, x1⟩ := hx
    have x2 : x ≤ 18000 := by omega
    clear x1
    by_cases hlt : k < L.length
    · obtain ⟨g, off, hA, hcl⟩ := HR.out.resolve_left (by intro e; rw [e] at hlt; simp at hlt)
      subst hA
      obtain ⟨v, Hv⟩ : ∃ v, Hid (L.getD k 0 = v) := ⟨_, rfl⟩
      have c1 := Hv.out ▸ hcl k hlt
      have hv := HP.out v (by rw [← Hv.out]; simp [List.getD, hlt])
      obtain ⟨v0, v1⟩ := hv
      have Hs : Hid (tot (L.take (k + 1)) = x + v) := hidp (by rw [tot_snoc _ _ hlt, Hx.out, Hv.out])
      clear hcl
      go_wp2
      go_roundg (gk - 1)
      case measure => omega
      case rel => exact ⟨k + 1, x + v, by omega, by go_num, rfl, Hs, rfl⟩
    · obtain rfl : k = L.length := by omega
      have Hz : Hid (tot L = x) := hidp (by have := Hx.out; rw [List.take_length] at this; exact this)
      go_wp2
      go_ret2
      exact ⟨ret_ib Hz.out.symm rfl, hb⟩
end Go.Proofs.Ytnanpopghipmbaa
