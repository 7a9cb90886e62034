/- turn: First, of at most 40. Printed by tools/turn/turn11.py out of Turn5. -/
import Derived.Test.YtonodmoklbmfkaaTurn5
import Derived.Test.YtonodmoklbmfkaaTurn10
namespace Go.Proofs.Ytonodmoklbmfkaa
open Go.ChangeShapes Go.WideShapes Go.ChangeAt Go.RowKit
set_option linter.unusedVariables false
set_option linter.unusedSimpArgs false
set_option maxHeartbeats 4000000 in
theorem first40_any (A : Option Addr) (c : Nat) (l : List WhoM) (k : Int) (w : World) (h : WhosOk w A c l) (hl : l.length ≤ 40) : Calls Try.prog 9 #[.slice A l.length c, .int .i64 k] w (FirstPost w (firstV l k)) := by
  obtain ⟨i0, hi0, hy0, hy1, hy2⟩ := info_parts infoNum
  have HW := hidp h.wf
  have C := hidp (clone_any A c l w h (by omega))
  obtain ⟨n, hn⟩ : ∃ n, l.length = n := ⟨_, rfl⟩
  rw [hn] at C hl ⊢
  have Hn := hidp hn
  clear h hn
  go_enter Try.func9, Try.ntmps9
  go_wp2
  go_step3
  go_wp2_with fail
  refine C.out.mono ?_
  rintro e w2 ⟨A2, c2, rfl, ho, hb, hnil⟩
  cases A2 with
  | none =>
    have h1 := hnil rfl
    subst h1
    have hn0 : n = 0 := by have := Hn.out; simpa using this.symm
    have hc0 := (ho.nil rfl).2
    subst hn0
    subst hc0
    have P : FirstPost w (firstV [] k) (.returned (.slice none 0 0)) w2 := ⟨none, 0, by simp [firstV, sortW], by simp [firstV, sortW, Row], by simp [firstV, sortW], by simp [firstV, sortW], hb, by simp [fp]⟩
    have HP := hidp P
    clear P ho hb hnil
    go_wp2_with fail
    refine (sortNil_any w2).mono ?_
    rintro e w3 ⟨rfl, rfl⟩
    go_wp2_with fail
    go_step3
    go_wp2_with fail
    go_loopg [6, 15] 0 (fun gg a i w5 => a = .slice none 0 0 ∧ i = .int .i64 0 ∧ w2 = w5)
    case atStart => exact ⟨rfl, rfl, rfl⟩
    case round =>
      obtain ⟨rfl, rfl, rfl⟩ := hrel
      go_wp2
      try rw [Exit.noGoto_ret]
      go_ret
      exact HP.out
  | some a =>
    obtain ⟨g, rfl, hg⟩ : ∃ g, a = ⟨g, 0, none⟩ ∧ w.heap.size ≤ g := by
      rcases ho.own.2 with ⟨hv, _⟩ | ⟨g, cap, cur, hv, hb, _⟩
      · cases hv
      · injection hv with e1; injection e1 with e1
        exact ⟨g, e1, hb⟩
    go_wp2_with fail
    refine (sort40_any w.heap.size g n c2 l w2 ho hl HW.out).mono ?_
    rintro e w3 ⟨rfl, S, hsS, hpS, ho3, ht3⟩
    have hb3 := hb.trans (ht3.below hb.size (by simpa using hg))
    have HO := hidp ho3
    have H3 := hidp hb3
    clear ho hb hnil ht3 ho3
    have hE : Hid (firstV l k = (S.take k.toNat).map WhoM.task) := hidp (by
      unfold firstV
      rw [List.map_take, List.map_take, srt_tasks (sort_srt l) hsS ((sortW_perm l).trans hpS.symm)])
    have HL : Hid (S.length = n) := hidp (by rw [hpS.length_eq, Hn.out])
    clear hsS hpS
    rw [hE.out]
    have o0 : w3.ownsRow w3.heap.size 3 1 (.slice none 0 0) 0 (((S.take 0).map WhoM.task).map (Value.int .i64)) := World.ownsRow_nil _ _ _ _
    have hb0 := Below.refl w3.heap.size w3
    go_wp2_with fail
    go_step3
    go_wp2_with fail
    go_loopg [6, 15] n (fun gg a i wr => ∃ (j c' : Nat) (A' : Option Addr), j + gg = n ∧ i = .int .i64 j ∧ a = .slice A' j c' ∧ (j : Int) ≤ max k 0 ∧ wr.ownsRow w3.heap.size 3 1 (.slice A' j c') j (((S.take j).map WhoM.task).map (Value.int .i64)) ∧ Hid ((A' = none → j = 0 ∧ c' = 0) ∧ j ≤ c' ∧ c' ≤ maxLen) ∧ Below w3.heap.size w3 wr)
    case atStart => exact ⟨0, 0, none, by omega, rfl, rfl, by omega, o0, hidp ⟨fun _ => ⟨rfl, rfl⟩, Nat.le_refl _, by decide⟩, hb0⟩
    case round =>
      clear o0 hb0
      obtain ⟨j, c', A', hj, rfl, rfl, hjk, own, Hcap, hbr⟩ := hrel
      have Hjk := hidp hjk
      have Hfin : Hid ((j : Int) = max k 0 ∨ (j = n ∧ (j : Int) ≤ max k 0) → FirstPost w ((S.take k.toNat).map WhoM.task) (.returned (.slice A' j c')) wr) := hidp (fun hf => by
        have e1 : S.take k.toNat = S.take j := by
          rcases hf with h | ⟨h, h2⟩
          · rw [show k.toNat = j by omega]
          · rw [List.take_of_length_le (by rw [HL.out]; omega), List.take_of_length_le (by rw [HL.out]; omega)]
        have e2 : ((S.take j).map WhoM.task).length = j := by rw [List.length_map, List.length_take, HL.out]; omega
        rw [e1]
        exact ⟨A', c', by rw [e2], Lies.row (B := wr.heap.size) (Lies.of_own own), by rw [e2]; exact Hcap.out.1, by rw [e2]; exact Hcap.out.2, H3.out.trans (hbr.mono H3.out.size), fun x hx => Nat.le_trans H3.out.size (own_fp own x hx).1⟩)
      by_cases hlt : j < n
      · have hjS : j < S.length := by rw [HL.out]; exact hlt
        obtain ⟨x, Hx⟩ : ∃ x, Hid (S.getD j default = x) := ⟨_, rfl⟩
        have cx := HO.out.at_ hjS
        rw [Hx.out] at cx
        have k2 := Keeps2 hbr
        have x0 := k2 _ _ cx.1
        have x1 := k2 _ _ cx.2.1
        have x2 := k2 _ _ cx.2.2
        have jI : (j : Int) < (n : Int) := by omega
        have j20 : j ≤ 40 := by omega
        clear cx k2
        by_cases hkj : k ≤ (j : Int)
        · have hf := hidp (Hfin.out (.inl (by omega)))
          have hb1 : Below w3.heap.size w3 (wr.alloc (.cells #[.int .i64 x.task, .int .i64 x.prio, .int .i64 x.boost] 23)) := hbr.alloc hbr.size _
          clear hjk
          go_wp2
          try rw [Exit.noGoto_ret]
          go_ret
          exact (hf.out.over (Keeps2 ((Below.refl wr.heap.size wr).alloc (Nat.le_refl _) (.cells #[.int .i64 x.task, .int .i64 x.prio, .int .i64 x.boost] 23))) (fun b => b.alloc b.size _)).eq hE.out.symm
        · have Hs : Hid ((S.take (j + 1)).map WhoM.task = (S.take j).map WhoM.task ++ [x.task]) := hidp (by rw [first_step S j hjS, Hx.out])
          have N2 : Hid (j + 1 ≤ maxLen) := hidp (by unfold maxLen; omega)
          have T2 : Hid ((j + 1) * 8 ≤ 140737488355328) := hidp (by omega)
          have W1 : Below w3.heap.size w3 ((wr.alloc (.cells #[.int .i64 x.task, .int .i64 x.prio, .int .i64 x.boost] 23)).alloc (.cells #[.int .i64 x.task] 3)) := (hbr.alloc hbr.size _).alloc (hbr.alloc hbr.size _).size _
          have own4 := own_turned own (((Turned.refl [] wr).alloc (.cells #[.int .i64 x.task, .int .i64 x.prio, .int .i64 x.boost] 23)).alloc (.cells #[.int .i64 x.task] 3)) (by simp)
          have s2 := who_new (wr.alloc (.cells #[.int .i64 x.task, .int .i64 x.prio, .int .i64 x.boost] 23)) [.int .i64 x.task] 3
          rw [show (wr.alloc (.cells #[.int .i64 x.task, .int .i64 x.prio, .int .i64 x.boost] 23)).heap.size = wr.heap.size + 1 by simp] at s2
          have S2 := hidp s2
          clear s2
          have Z2 : Hid (w3.heap.size ≤ ((wr.alloc (.cells #[.int .i64 x.task, .int .i64 x.prio, .int .i64 x.boost] 23)).alloc (.cells #[.int .i64 x.task] 3)).heap.size) := hidp W1.size
          have O2 := hidp (num_one x.task)
          have Hfp := hidp (own_fp own4)
          have hW := hidp W1
          have hjk2 : ((j + 1 : Nat) : Int) ≤ max k 0 := by omega
          have Hjk2 := hidp hjk2
          have Hj := hidp hj
          clear own hbr hjk hjk2 W1 Hcap Hfin
          go_wp2_with (at_builtin; refine wpList_app2 _ rfl (.tmp 23) (.tmp 26) 28 rfl w3.heap.size 3 i0 _ 1 8 Try.underlying28 hi0 hy0 hy1 hy2 rfl (by decide) A' j c' _ rfl own4 _ _ 1 1 [.int .i64 x.task] rfl (by simp) rfl S2.out O2.out N2.out T2.out Z2.out ?_; intro A9 c9 w6 happ)
          go_roundg (gk - 1)
          case measure => omega
          case rel => exact ⟨j + 1, c9, A9, by omega, by go_num, rfl, Hjk2.out, by rw [Hs.out, List.map_append]; exact happ.own, hidp ⟨happ.nil, happ.cap⟩, hW.out.trans (happ.turned.below hW.out.size (fun i hi => (Hfp.out i hi).1))⟩
      · have hjn : j = n := by omega
        have hf := hidp (Hfin.out (.inr ⟨hjn, hjk⟩))
        have hjI : ¬ (j : Int) < (n : Int) := by omega
        clear hjn
        go_wp2
        try rw [Exit.noGoto_ret]
        go_ret
        exact hf.out.eq hE.out.symm
end Go.Proofs.Ytonodmoklbmfkaa
