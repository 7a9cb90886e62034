/- canon.Order, canon.turned. -/
import Derived.Test.YtnfkebdbfflhdaaCanonNums
import Derived.Test.YtnfkebdbfflhdaaSortIs
import Derived.Test.YtnfkebdbfflhdaaTaskCopy2
import Derived.Deep.LoopGhost
import Derived.IntWalk
namespace Go.Proofs.Ytnfkebdbfflhdaa
open Go.ChangeShapes Go.WideShapes Go.ChangeAt Go.RowKit
set_option linter.unusedVariables false
set_option linter.unusedSimpArgs false
set_option maxRecDepth 100000

theorem OwnN.zero (B : Nat) (w : World) : OwnN B w none 0 0 [] := ⟨World.ownsRow_nil _ _ _ _, rfl, by decide, fun _ => ⟨rfl, rfl⟩⟩
theorem OwnN.app {B : Nat} {w w1 w2 : World} {A A' : Option Addr} {n c c' : Nat} {rs zs : List Int} {m : Nat} (h : OwnN B w A n c rs) (ha : App B 3 1 w1 A A' (n + m) c' (rs.map (Value.int .i64) ++ zs.map (Value.int .i64)) w2) (hm : m = zs.length) : OwnN B w2 A' (n + m) c' (rs ++ zs) :=
  ⟨by rw [List.map_append]; exact ha.own, by rw [List.length_append, h.len, hm], ha.cap, ha.nil⟩
def IntsPost (w : World) (n : Nat) (zs : List Int) (e : Ending) (w' : World) : Prop := ∃ A c, e = .returned (.slice A n c) ∧ OwnN w.heap.size w' A n c zs ∧ Below w.heap.size w w'
theorem ints_oneI (zs : List Int) : ∀ u ∈ zs.map (Value.int .i64), u.oneCell' = true := fun u hu => by obtain ⟨n, _, rfl⟩ := List.mem_map.1 hu; rfl

set_option maxHeartbeats 2000000 in
theorem order_any (s : SetR) (w : World) (hs : SetOk w s) (hl : s.tasks.length ≤ 800) : Calls Try.prog 11 #[.agg #[.int .i64 s.proto, .slice s.ca s.cores.length s.cc, .slice s.ha s.homes.length s.hc, .slice s.ta s.tasks.length s.tc]] w (IntsPost w s.tasks.length (ordL s.tasks)) := by
  obtain ⟨i0, hi0, hz0, hz1, hz2⟩ := info_parts infoItem
  obtain ⟨j0, hj0, hk0, hk1, hk2⟩ := info_parts infoC
  have hb := (Below.refl w.heap.size w).alloc (Nat.le_refl _) (.cells #[.int .i64 s.proto, .slice s.ca s.cores.length s.cc, .slice s.ha s.homes.length s.hc, .slice s.ta s.tasks.length s.tc] 25)
  have HA := hidp hs.tasks.at_
  have HO := hidp hs.tasks.ok
  obtain ⟨proto, ca, cc, cores, ha, hc, homes, ta, tc, tasks⟩ := s
  dsimp only at HA HO hb hl ⊢
  clear hs
  go_enter Try.func11, Try.ntmps11
  go_wp2_with fail
  go_loopg [3, 12] tasks.length (fun g r i wr => ∃ (k : Nat) (D : Option Addr) (d : Nat), k + g = tasks.length ∧ i = .int .i64 k ∧ r = .slice D k d ∧ OwnI w.heap.size wr D k d (itsN tasks k) ∧ Below w.heap.size w wr)
  case atStart => exact ⟨0, none, 0, by omega, rfl, rfl, ⟨World.ownsRow_nil _ _ _ _, rfl, ⟨Nat.le_refl _, Nat.zero_le _⟩, fun _ => ⟨rfl, rfl⟩, by simp [itsN]⟩, hb⟩
  case round =>
    clear hb
    obtain ⟨k, D, d, hk, rfl, rfl, o, hb⟩ := hrel
    by_cases hlt : k < tasks.length
    · obtain ⟨t, HT⟩ : ∃ t, Hid (tasks.getD k default = t) := ⟨_, rfl⟩
      obtain ⟨g, off, hA, hcl⟩ := HA.out.resolve_left (by intro e; rw [e] at hlt; simp at hlt)
      subst hA
      obtain ⟨d0, d1, d2, d3, d4, d5⟩ := (HT.out ▸ hcl k hlt).keep (Keeps.of_below hb)
      have tok := HO.out t (HT.out ▸ getD_mem hlt)
      have Hp := hidp tok.prio
      clear hcl tok
      obtain ⟨nm, per, dl, prio, cl, pa, pc, parts⟩ := t
      dsimp only at d0 d1 d2 d3 d4 d5 Hp
      have hsn : Hid (itsN tasks (k + 1) = itsN tasks k ++ [(prio, (k : Int))]) := hidp (by rw [itsN_snoc, HT.out])
      have hb1 := hb.alloc hb.size (.cells #[.string nm, .int .i64 per, .int .i64 dl, .int .i64 prio, .int .i64 cl, .slice pa parts.length pc] 37)
      have hown2 := World.ownsRow.alloc (World.ownsRow.alloc o.own (.cells #[.string nm, .int .i64 per, .int .i64 dl, .int .i64 prio, .int .i64 cl, .slice pa parts.length pc] 37)) (.cells (pcs [(prio, (k : Int))]).toArray 48)
      have S2 := Lies.newCells (wr.alloc (.cells #[.string nm, .int .i64 per, .int .i64 dl, .int .i64 prio, .int .i64 cl, .slice pa parts.length pc] 37)) (pcs [(prio, (k : Int))]) 48
      rw [show (wr.alloc (.cells #[.string nm, .int .i64 per, .int .i64 dl, .int .i64 prio, .int .i64 cl, .slice pa parts.length pc] 37)).heap.size = wr.heap.size + 1 by simp] at S2
      replace S2 := hidp S2
      have O2 := hidp (pcs_one [(prio, (k : Int))])
      have N2 : Hid (k + 1 ≤ maxLen) := hidp (by unfold maxLen; omega)
      have T2 : Hid ((k + 1) * 16 ≤ 140737488355328) := hidp (by omega)
      have hb2 := hb1.alloc hb1.size (.cells (pcs [(prio, (k : Int))]).toArray 48)
      have Z2 := hidp hb2.size
      go_wp2_with (at_builtin; go_loud (refine wpList_app2 _ rfl (.tmp 17) (.tmp 22) 46 rfl w.heap.size 48 i0 _ 2 16 Try.underlying46 hi0 hz0 hz1 hz2 rfl (by decide) D k d _ rfl hown2 _ _ 1 1 (pcs [(prio, (k : Int))]) rfl (by simp) rfl S2.out O2.out N2.out T2.out Z2.out ?_); intro A' c' w1 happ)
      have hF := own_fp o.own
      have o2 := o.app (ps := [(prio, (k : Int))]) happ rfl (by intro p hp; simp at hp; subst hp; exact ⟨Hp.out, by unfold I64; omega⟩)
      rw [← hsn.out] at o2
      have hb3 := hb2.trans (happ.turned.below hb2.size (fun j hj => (hF _ hj).1))
      go_roundg (gk - 1)
      case measure => omega
      case rel => exact ⟨k + 1, A', c', by omega, by go_num, rfl, o2, hb3⟩
    · obtain rfl : k = tasks.length := by omega
      have r := RdI.of_own o
      have hq := its
      have HE : Hid (itsN tasks tasks.length = its tasks) := hidp rfl
      rw [HE.out] at r
      have HR := hidp r
      clear r o hq
      go_wp2_with fail
      refine (sort_any HR.out (by omega)).mono ?_
      rintro e w2 ⟨A2, c2, rfl, o2, hb2⟩
      have R2 := hidp (RdI.of_own o2)
      have hbe := hb.trans (hb2.mono hb.size)
      have HL : Hid ((isort (its tasks)).length = tasks.length) := hidp (by rw [isort_len]; exact itsN_len _ _)
      clear o2 hb2 HR hb
      go_wp2_with fail
      go_loopg [6, 28] tasks.length (fun g r i wr => ∃ (j : Nat) (D : Option Addr) (d : Nat), j + g = tasks.length ∧ i = .int .i64 j ∧ r = .slice D j d ∧ OwnN w2.heap.size wr D j d (((isort (its tasks)).take j).map (·.2)) ∧ Below w2.heap.size w2 wr)
      case atStart => exact ⟨0, none, 0, by omega, rfl, rfl, by simpa using OwnN.zero _ _, Below.refl _ _⟩
      case round =>
        obtain ⟨j, D, d, hj, rfl, rfl, o, hb⟩ := hrel
        by_cases hlt : j < tasks.length
        · have hjl : j < (isort (its tasks)).length := by rw [HL.out]; exact hlt
          have R3 := R2.out.over hb
          obtain ⟨g, off, rfl⟩ := R3.some_ (by omega)
          obtain ⟨a1, a2⟩ := R3.cells hjl
          obtain ⟨x, HX⟩ : ∃ x, Hid ((isort (its tasks)).getD j (0, 0) = x) := ⟨_, rfl⟩
          have HS : Hid (((isort (its tasks)).take (j + 1)).map (·.2) = ((isort (its tasks)).take j).map (·.2) ++ [x.2]) := hidp (by
            rw [List.take_succ_eq_append_getElem hjl, List.map_append, ← HX.out]; simp [List.getD, hjl])
          rw [HX.out] at a1 a2
          obtain ⟨x1, x2⟩ := x
          dsimp only at a1 a2 HS
          clear R3
          have hb1 := hb.alloc hb.size (.cells #[.int .i64 x1, .int .i64 x2] 48)
          have hown2 := World.ownsRow.alloc (World.ownsRow.alloc o.own (.cells #[.int .i64 x1, .int .i64 x2] 48)) (.cells #[.int .i64 x2] 3)
          have S2 := Lies.newCells (wr.alloc (.cells #[.int .i64 x1, .int .i64 x2] 48)) [.int .i64 x2] 3
          rw [show (wr.alloc (.cells #[.int .i64 x1, .int .i64 x2] 48)).heap.size = wr.heap.size + 1 by simp] at S2
          replace S2 := hidp S2
          have O2 := hidp (ints_oneI [x2])
          have N2 : Hid (j + 1 ≤ maxLen) := hidp (by unfold maxLen; omega)
          have T2 : Hid ((j + 1) * 8 ≤ 140737488355328) := hidp (by omega)
          have hb2 := hb1.alloc hb1.size (.cells #[.int .i64 x2] 3)
          have Z2 := hidp hb2.size
          go_wp2_with (at_builtin; go_loud (refine wpList_app2 _ rfl (.tmp 32) (.tmp 35) 22 rfl w2.heap.size 3 j0 _ 1 8 Try.underlying22 hj0 hk0 hk1 hk2 rfl (by decide) D j d _ rfl hown2 _ _ 1 1 [.int .i64 x2] rfl (by simp) rfl S2.out O2.out N2.out T2.out Z2.out ?_); intro A' c' w1 happ)
          have hF := own_fp o.own
          have o2 := o.app (zs := [x2]) happ rfl
          rw [← HS.out] at o2
          have hb3 := hb2.trans (happ.turned.below hb2.size (fun j hj => (hF _ hj).1))
          go_roundg (gk - 1)
          case measure => omega
          case rel => exact ⟨j + 1, A', c', by omega, by go_num, rfl, o2, hb3⟩
        · obtain rfl : j = tasks.length := by omega
          rw [List.take_of_length_le (by rw [HL.out]; exact Nat.le_refl _)] at o
          have o3 : OwnN w2.heap.size wr D tasks.length d (ordL tasks) := o
          clear o
          go_wp2_with fail
          go_ret
          exact ⟨D, d, rfl, o3.low hbe.size, hbe.trans (hb.mono hbe.size)⟩

set_option maxHeartbeats 2000000 in
theorem turned_any (b : Int) (n : Nat) (w : World) (hi : I64 b) (hl : n ≤ 800) : Calls Try.prog 24 #[.int .i64 b, .int .i64 n] w (IntsPost w n (turL (startN b n) n n)) := by
  obtain ⟨j0, hj0, hk0, hk1, hk2⟩ := info_parts infoC
  obtain ⟨K, HK⟩ : ∃ K, Hid (startN b n = K) := ⟨_, rfl⟩
  rw [HK.out]
  go_enter Try.func24, Try.ntmps24
  go_wp2
  go_step3
  go_wp2
  go_step3
  go_wp2
  go_loopg [5, 6] n (fun g r a wr => ∃ (i : Nat) (D : Option Addr) (d : Nat) (x : Int), i + g = n ∧ r = .slice D i d ∧ a = .int .i64 x ∧ I64 x ∧ OwnN w.heap.size wr D i d (turL K n i) ∧ Below w.heap.size w wr ∧ Hid (i < n → x % (n : Int) = (((K + i) % n : Nat) : Int)))
  case atStart => exact ⟨0, none, 0, b, by omega, rfl, rfl, hi, by simpa [turL] using OwnN.zero _ _, Below.refl _ _, hidp (fun h => by
    rw [← startN_eq h, HK.out, Nat.add_zero, Nat.mod_eq_of_lt]
    rw [← HK.out]; exact startN_lt h)⟩
  case round =>
    obtain ⟨i, D, d, x, hk, rfl, rfl, hx, o, hb, Hm⟩ := hrel
    by_cases hlt : i < n
    · have hm := Hm.out hlt
      obtain ⟨q, HQ⟩ : ∃ q, Hid ((K + i) % n = q) := ⟨_, rfl⟩
      have hql : q < n := by rw [← HQ.out]; exact Nat.mod_lt _ (by omega)
      rw [HQ.out] at hm
      have hsn : Hid (turL K n (i + 1) = turL K n i ++ [(q : Int)]) := hidp (by rw [turL_snoc, HQ.out])
      have Hn : Hid (i + 1 < n → ((q : Int) + 1) % (n : Int) = (((K + (i + 1)) % n : Nat) : Int)) := hidp (fun h => by
        rw [← Nat.add_assoc, ← Nat.mod_add_mod, HQ.out]; simp)
      have hown2 := World.ownsRow.alloc o.own (.cells #[.int .i64 (q : Int)] 3)
      have S2 := hidp (Lies.new1 wr (.int .i64 (q : Int)) 3)
      have O2 := hidp (ints_oneI [(q : Int)])
      have N2 : Hid (i + 1 ≤ maxLen) := hidp (by unfold maxLen; omega)
      have T2 : Hid ((i + 1) * 8 ≤ 140737488355328) := hidp (by omega)
      have hb2 := hb.alloc hb.size (.cells #[.int .i64 (q : Int)] 3)
      have Z2 := hidp hb2.size
      have he : ((i : Int) == (n : Int)) = false := by rw [beq_eq_false_iff_ne]; omega
      have hF := hidp (own_fp o.own)
      have HO := hidp o
      clear o Hm
      unfold I64 at hx
      by_cases hx0 : x < 0 ∨ (n : Int) ≤ x
      · have hr := rest_pos (b := x) (n := n) (by omega)
        rw [hm] at hr
        have t1 := Int.lt_tmod_of_pos x (show (0 : Int) < (n : Int) by omega)
        have t2 := Int.tmod_lt_of_pos x (show (0 : Int) < (n : Int) by omega)
        obtain ⟨r, hr0⟩ : ∃ r, x.tmod (n : Int) = r := ⟨_, rfl⟩
        rw [hr0] at hr t1 t2
        have hr2 : (r + (n : Int)) % (n : Int) = (q : Int) := by rw [← Int.tmod_eq_emod_of_nonneg (by omega)]; exact hr
        have hn0 : ¬ (n : Int) = 0 := by omega
        clear hm
        rcases hx0 with hx0 | hx0
        all_goals
          go_wp2_with (at_builtin; go_loud (refine wpList_app2 _ rfl (.tmp 28) (.tmp 30) 22 rfl w.heap.size 3 j0 _ 1 8 Try.underlying22 hj0 hk0 hk1 hk2 rfl (by decide) D i d _ rfl hown2 _ _ 1 1 [.int .i64 (q : Int)] rfl (by simp) rfl S2.out O2.out N2.out T2.out Z2.out ?_); intro A' c' w1 happ)
          have o2 := HO.out.app (zs := [(q : Int)]) happ rfl
          rw [← hsn.out] at o2
          have hb3 := hb2.trans (happ.turned.below hb2.size (fun j hj => (hF.out _ hj).1))
          go_roundg (gk - 1)
          case measure => omega
          case rel => exact ⟨i + 1, A', c', (q : Int) + 1, by omega, rfl, rfl, by unfold I64; omega, o2, hb3, Hn⟩
      · have hxq : x = (q : Int) := by rw [← hm, Int.emod_eq_of_lt (by omega) (by omega)]
        subst hxq
        clear hm hx
        have hx1 : decide ((n : Int) ≤ (q : Int)) = false := by simp; omega
        go_wp2_with (at_builtin; go_loud (refine wpList_app2 _ rfl (.tmp 28) (.tmp 30) 22 rfl w.heap.size 3 j0 _ 1 8 Try.underlying22 hj0 hk0 hk1 hk2 rfl (by decide) D i d _ rfl hown2 _ _ 1 1 [.int .i64 (q : Int)] rfl (by simp) rfl S2.out O2.out N2.out T2.out Z2.out ?_); intro A' c' w1 happ)
        have o2 := HO.out.app (zs := [(q : Int)]) happ rfl
        rw [← hsn.out] at o2
        have hb3 := hb2.trans (happ.turned.below hb2.size (fun j hj => (hF.out _ hj).1))
        go_roundg (gk - 1)
        case measure => omega
        case rel => exact ⟨i + 1, A', c', (q : Int) + 1, by omega, rfl, rfl, by unfold I64; omega, o2, hb3, Hn⟩
    · obtain rfl : i = n := by omega
      clear Hm
      go_wp2
      try rw [Exit.noGoto_ret]
      go_ret
      exact ⟨D, d, rfl, o, hb⟩
end Go.Proofs.Ytnfkebdbfflhdaa
