/- swingbridgeref7: Order, With, Move. -/
import Derived.Test.YtnfkebdbfflhdaaCanon2
import Derived.Test.YtnfkebdbfflhdaaRef7a
namespace Go.Proofs.Ytnfkebdbfflhdaa
open Go.ChangeShapes Go.WideShapes Go.ChangeAt Go.RowKit
set_option linter.unusedVariables false
set_option linter.unusedSimpArgs false
set_option maxRecDepth 100000
theorem map_fit {zs : List Int} (h : ∀ n ∈ zs, I64 n) (k : Nat) : ∀ n ∈ zs.take k, I64 n := fun n hn => h n (List.mem_of_mem_take hn)
/-- the order of the first k, with the next one put in behind m -/
theorem ord_put {ts : List TaskR} {k m : Nat} (hm : m ≤ k) (h1 : ∀ y ∈ (isort (itsN ts k)).take m, y.1 ≤ (ts.getD k default).prio) (h2 : ∀ y ∈ (isort (itsN ts k)).drop m, (ts.getD k default).prio < y.1) :
    (isort (itsN ts (k + 1))).map (·.2) = ((isort (itsN ts k)).map (·.2)).take m ++ (k : Int) :: ((isort (itsN ts k)).map (·.2)).drop m := by
  rw [itsN_snoc, isort_snoc, ins_at (k := m) (by rw [isort_len, itsN_len]; exact hm) h1 h2, List.map_append, List.map_take, List.map_cons, List.map_drop]
theorem srt_take {l : List (Int × Int)} (h : Srt l) {m : Nat} (hm : m < l.length) {c : Int} (hc : (l.getD m (0, 0)).1 ≤ c) : ∀ y ∈ l.take (m + 1), y.1 ≤ c := by
  intro y hy
  obtain ⟨i, hi, rfl⟩ := List.mem_iff_getElem.1 hy
  rw [List.length_take] at hi
  rw [List.getElem_take]
  by_cases e : i = m
  · subst e; simpa [List.getD, hm] using hc
  · have := (List.pairwise_iff_getElem.1 h) i m (by omega) hm (by omega)
    have h2 : (l.getD m (0, 0)).1 = l[m].1 := by simp [List.getD, hm]
    omega
set_option maxHeartbeats 8000000 in
theorem rorder_any (s : SetR) (w : World) (hs : SetOk w s) (hl : s.tasks.length ≤ 800) : Calls Try.prog 9 #[.agg #[.int .i64 s.proto, .slice s.ca s.cores.length s.cc, .slice s.ha s.homes.length s.hc, .slice s.ta s.tasks.length s.tc]] w (IntsPost w s.tasks.length (ordL s.tasks)) := by
  obtain ⟨j0, hj0, hk0, hk1, hk2⟩ := info_parts infoC
  have HA := hidp hs.tasks.at_
  have HO := hidp hs.tasks.ok
  obtain ⟨proto, ca, cc, cores, ha, hc, homes, ta, tc, tasks⟩ := s
  dsimp only at HA HO hl ⊢
  clear hs
  obtain ⟨v, HV, bx, hbw, hsv⟩ : ∃ v, Hid (w.alloc (.cells #[.int .i64 proto, .slice ca cores.length cc, .slice ha homes.length hc, .slice ta tasks.length tc] 25) = v) ∧ Bk v w.heap.size 25 #[.int .i64 proto, .slice ca cores.length cc, .slice ha homes.length hc, .slice ta tasks.length tc] ∧ Below w.heap.size w v ∧ v.heap.size = w.heap.size + 1 :=
    ⟨_, hidp rfl, Bk.new w 25 #[.int .i64 proto, .slice ca cores.length cc, .slice ha homes.length hc, .slice ta tasks.length tc], (Below.refl _ _).alloc (Nat.le_refl _) _, by simp⟩
  have HSV := hidp hsv
  clear hsv
  go_enter Try.func9, Try.ntmps9
  go_wp2_with fail
  rw [HV.out]
  go_loopg [3, 4] tasks.length (fun g r i wr => ∃ (k : Nat) (D : Option Addr) (d : Nat), k + g = tasks.length ∧ i = .int .i64 k ∧ r = .slice D k d ∧ OwnN v.heap.size wr D k d ((isort (itsN tasks k)).map (·.2)) ∧ Below v.heap.size v wr ∧ (k = 0 → D = none ∧ d = 0))
  case atStart => exact ⟨0, none, 0, by omega, rfl, rfl, by simpa [itsN, isort] using OwnN.zero _ _, Below.refl _ _, fun _ => ⟨rfl, rfl⟩⟩
  case round =>
    obtain ⟨k, D, d, hk, rfl, rfl, o, hb, hD⟩ := hrel
    have bxr := bx.below hb
    obtain ⟨x0, x1, x2, x3⟩ := Z4 bxr
    by_cases hlt : k < tasks.length
    · obtain ⟨t, HT⟩ : ∃ t, Hid (tasks.getD k default = t) := ⟨_, rfl⟩
      obtain ⟨g, off, hA, hcl⟩ := HA.out.resolve_left (by intro e; rw [e] at hlt; simp at hlt)
      have hcl2 : ∀ i, i < tasks.length → TaskCells v g (off + i * 6) (tasks.getD i default) := fun i hi => (hcl i hi).keep (Keeps.of_below hbw)
      have HC := hidp hcl2
      rw [hA] at x3
      have HAA := hidp hA
      clear hcl hcl2 hA x0 x1 x2 bxr
      have HL : Hid (((isort (itsN tasks k)).map (·.2)).length = k) := hidp (by rw [List.length_map, isort_len, itsN_len])
      have HI : Hid (∀ n ∈ (isort (itsN tasks k)).map (·.2), 0 ≤ n ∧ n < (k : Int)) := hidp (fun n hn => by
        obtain ⟨p, hp, rfl⟩ := List.mem_map.1 hn
        obtain ⟨i, hi, rfl⟩ := its_in ((isort_perm _).mem_iff.1 hp)
        dsimp only; omega)
      obtain ⟨wo, rfl⟩ : ∃ wo : World, wo = wr := ⟨_, rfl⟩
      have HO2 := hidp o
      have HB2 := hidp hb
      have HD := hidp hD
      clear o hb hD
      go_wp2_with fail
      go_loopg [5] k (fun g2 s5 wr2 => ∃ m : Nat, m = g2 ∧ s5 = .int .i64 m ∧ m ≤ k ∧ Hid (∀ y ∈ (isort (itsN tasks k)).drop m, t.prio < y.1) ∧ Qt wo wr2)
      case atStart => exact ⟨k, rfl, rfl, Nat.le_refl _, hidp (by rw [List.drop_of_length_le (by rw [isort_len, itsN_len]; exact Nat.le_refl _)]; simp), Qt.refl _⟩
      case round =>
        obtain ⟨m, hmg, rfl, hmk, Hy, hq⟩ := hrel
        have HMG := hidp hmg
        clear hmg
        have o := HO2.out.turned (hq.turned []) (by simp)
        have hb := hq.below HB2.out
        have bxr := bx.below hb
        obtain ⟨-, -, -, x3⟩ := Z4 bxr
        rw [HAA.out] at x3
        have ck := ((HC.out k hlt).keep (Keeps.of_below hb)).2.2.2.1
        rw [HT.out] at ck
        have kI : (k : Int) < (tasks.length : Int) := by omega
        have HQ := hidp hq
        clear bxr hq
        by_cases hm0 : m = 0
        · have Hput : Hid ((isort (itsN tasks (k + 1))).map (·.2) = ((isort (itsN tasks k)).map (·.2)).take 0 ++ (k : Int) :: ((isort (itsN tasks k)).map (·.2)).drop 0) := hidp (ord_put (Nat.zero_le _) (by simp) (by rw [HT.out, ← hm0]; exact Hy.out))
          have hg0 : decide (0 < m) = false := by simp; omega
          have hg0n : ¬ 0 < m := by omega
          by_cases hk0' : k = 0
          · obtain ⟨hD1, hD2⟩ := HD.out hk0'
            subst hD1
            subst hD2
            have HK0 := hidp hk0'
            clear hk0'
            go_wp2
            go_quiet (fail)
            go_wp2_with fail
            subst hm0
            have o3 : OwnN v.heap.size (wr.drewN nq).drew (none) k 0 ((isort (itsN tasks k)).map (·.2)) := o.turned ((Turned.refl [] wr).drewN nq).drew (by simp)
            have hb3 : Below v.heap.size v (wr.drewN nq).drew := below_drewN (below_drewN hb nq) 1
            obtain ⟨Zs, HZs⟩ : ∃ Zs, (isort (itsN tasks k)).map (·.2) = Zs := ⟨_, rfl⟩
            rw [HZs] at o3 HL Hput
            obtain ⟨u, hu⟩ : ∃ u, (wr.drewN nq).drew = u := ⟨_, rfl⟩
            have ll := Lies.of_own o3.own
            rw [hu] at o3 hb3 ll
            have HUE := hidp hu
            have O1 := hidp (fun w (h : w ∈ (Zs.take 0).map (Value.int .i64)) => ints_oneI _ w h)
            have O3 := hidp (fun w (h : w ∈ (Zs.drop 0).map (Value.int .i64)) => ints_oneI _ w h)
            have O2 := hidp (ints_oneI [(k : Int)])
            have L1 : Hid (((Zs.take 0).map (Value.int .i64)).length = 0 * 1) := hidp (by have := HL.out; simp; try omega)
            have L3 : Hid (((Zs.drop 0).map (Value.int .i64)).length = k * 1) := hidp (by have := HL.out; simp; try omega)
            have S1 : Hid (Lies u.heap.size u (none) ((Zs.take 0).map (Value.int .i64))) := hidp (by rw [List.map_take]; exact ll.take _)
            have S3 : Hid (Lies u.heap.size u none ((Zs.drop 0).map (Value.int .i64))) := hidp (by rw [List.drop_zero]; exact ll)
            have P3 : Hid ((none : Option Addr) = none → k = 0 ∧ 0 = 0) := hidp (fun _ => ⟨HK0.out, rfl⟩)
            have M1 : Hid (0 + 0 ≤ maxLen) := hidp (by unfold maxLen; omega)
            have M2 : Hid (0 + 1 ≤ maxLen) := hidp (by unfold maxLen; omega)
            have M3 : Hid (0 + 1 + (k) ≤ maxLen) := hidp (by unfold maxLen; omega)
            have N1 : Hid ((0 + 0) * 8 ≤ 140737488355328) := hidp (by omega)
            have N2 : Hid ((0 + 1) * 8 ≤ 140737488355328) := hidp (by omega)
            have N3 : Hid ((0 + 1 + (k)) * 8 ≤ 140737488355328) := hidp (by omega)
            have Hcap := hidp o3.cap
            have Hb3 := hidp hb3
            clear o3 ll hb3 HZs hb o
            refine wp_region_held_drew (S := fun _ => True) (by kernel_rfl) ?_ (fun hHeld => ?_)
            · trivial
            rw [hu]
            clear hu
            refine wpAnyH_take (i := 0) (v := ?_) rfl (by kernel_rfl) (by kernel_rfl) (by kernel_rfl) (fun _ _ _ h => h) (Or.inl ⟨by rfl, ?_⟩) (by assumption) ?_
            rotate_left 1
            · ((intro w hSw; (try dsimp only at hSw); go_simp); (try with_reducible rfl))
            simp only [Act.put, List.setIfInBounds_toArray, List.set_cons_zero, List.set_cons_succ, List.getElem_toArray, List.getElem_cons_zero, List.getElem_cons_succ]
            refine wpAnyH_take (i := 1) (v := ?_) rfl (by kernel_rfl) (by kernel_rfl) (by kernel_rfl) (fun _ _ _ h => h) (Or.inl ⟨by rfl, ?_⟩) (by assumption) ?_
            rotate_left 1
            · ((intro w hSw; (try dsimp only at hSw); go_simp); (try with_reducible rfl))
            simp only [Act.put, List.setIfInBounds_toArray, List.set_cons_zero, List.set_cons_succ, List.getElem_toArray, List.getElem_cons_zero, List.getElem_cons_succ]
            refine wpAnyH_take (i := 4) (v := ?_) rfl (by kernel_rfl) (by kernel_rfl) (by kernel_rfl) (fun _ _ _ h => h) (Or.inl ⟨by rfl, ?_⟩) (by assumption) ?_
            rotate_left 1
            · ((intro w hSw; (try dsimp only at hSw); go_simp); (try with_reducible rfl))
            simp only [Act.put, List.setIfInBounds_toArray, List.set_cons_zero, List.set_cons_succ, List.getElem_toArray, List.getElem_cons_zero, List.getElem_cons_succ]
            refine wpAnyH_take (i := 7) (v := ?_) rfl (by kernel_rfl) (by kernel_rfl) (by kernel_rfl) (fun _ _ _ h => h) (Or.inl ⟨by rfl, ?_⟩) (by assumption) ?_
            rotate_left 1
            · ((intro w hSw; (try dsimp only at hSw); go_simp); (try with_reducible rfl))
            simp only [Act.put, List.setIfInBounds_toArray, List.set_cons_zero, List.set_cons_succ, List.getElem_toArray, List.getElem_cons_zero, List.getElem_cons_succ]
            refine wpAnyH_take (i := 8) (v := ?_) rfl (by kernel_rfl) (by kernel_rfl) (by kernel_rfl) (fun _ _ _ h => h) (Or.inl ⟨by rfl, ?_⟩) (by assumption) ?_
            rotate_left 1
            · ((intro w hSw; (try dsimp only at hSw); go_simp); (try with_reducible rfl))
            simp only [Act.put, List.setIfInBounds_toArray, List.set_cons_zero, List.set_cons_succ, List.getElem_toArray, List.getElem_cons_zero, List.getElem_cons_succ]
            refine wpAnyH_take (i := 2) (v := ?_) rfl (by kernel_rfl) (by kernel_rfl) (by kernel_rfl) (fun _ _ _ h => h) (Or.inl ⟨by rfl, ?_⟩) (by assumption) ?_
            rotate_left 1
            · ((intro w hSw; (try dsimp only at hSw); go_simp); (try with_reducible rfl))
            simp only [Act.put, List.setIfInBounds_toArray, List.set_cons_zero, List.set_cons_succ, List.getElem_toArray, List.getElem_cons_zero, List.getElem_cons_succ]
            refine wpAnyH_take (i := 9) (v := ?_) rfl (by kernel_rfl) (by kernel_rfl) (by kernel_rfl) (fun _ _ _ h => h) (Or.inl ⟨by rfl, ?_⟩) (by assumption) ?_
            rotate_left 1
            · ((intro w hSw; (try dsimp only at hSw); go_simp); (try with_reducible rfl))
            simp only [Act.put, List.setIfInBounds_toArray, List.set_cons_zero, List.set_cons_succ, List.getElem_toArray, List.getElem_cons_zero, List.getElem_cons_succ]
            refine wpAnyH_ready (rs := [3, 5]) (by kernel_rfl) (by simp) ?_
            refine AllReadyH.cons rfl (fun K hK => ?_) (AllReadyH.cons rfl (fun K hK => ?_) AllReadyH.nil)
            · refine step_app2 _ rfl (.const (.slice none 0 0)) (.tmp 40) 22 rfl u.heap.size 3 j0 _ 1 8 Try.underlying22 hj0 hk0 hk1 hk2 rfl (by decide) none 0 0 _ rfl (World.ownsRow_nil _ _ _ _) _ (none) 0 0 ((Zs.take 0).map (Value.int .i64)) rfl (by simp) L1.out S1.out O1.out M1.out N1.out (Nat.le_refl _) ?_
              intro B1 k1 u2 h1
              rw [Nat.zero_add, List.nil_append] at h1
              simp only [Nat.zero_add]
              have hbu2 : Below u.heap.size u u2 := h1.turned.below (Nat.le_refl _) (by simp [fp])
              have hF1 := hidp (own_fp h1.own)
              refine hK.out _ _ ?_ (fun hHeld => ?_)
              · exact trivial
              clear hK K
              try simp only [Act.put, List.setIfInBounds_toArray, List.set_cons_zero, List.set_cons_succ, List.getElem_toArray, List.getElem_cons_zero, List.getElem_cons_succ]
              refine wpAnyH_ready (rs := [5]) (by kernel_rfl) (by simp) ?_
              refine AllReadyH.cons rfl (fun K hK => ?_) AllReadyH.nil
              go_simp
              refine hK.out _ _ ?_ (fun hHeld => ?_)
              · exact trivial
              clear hK K
              try simp only [Act.put, List.setIfInBounds_toArray, List.set_cons_zero, List.set_cons_succ, List.getElem_toArray, List.getElem_cons_zero, List.getElem_cons_succ]
              have hown2 := World.ownsRow.alloc h1.own (.cells #[.int .i64 (k : Int)] 3)
              have S2 := hidp (Lies.new1 u2 (.int .i64 (k : Int)) 3)
              have hbu2a := hbu2.alloc hbu2.size (.cells #[.int .i64 (k : Int)] 3)
              refine wpAnyH_ready (rs := [6]) (by kernel_rfl) (by simp) ?_
              refine AllReadyH.cons rfl (fun K hK => ?_) AllReadyH.nil
              refine step_app2 _ rfl (.tmp 41) (.tmp 43) 22 rfl u.heap.size 3 j0 _ 1 8 Try.underlying22 hj0 hk0 hk1 hk2 rfl (by decide) B1 0 k1 _ rfl hown2 _ (some ⟨u2.heap.size, 0, none⟩) 1 1 ([.int .i64 (k : Int)]) rfl (by simp) rfl S2.out O2.out M2.out N2.out hbu2a.size ?_
              intro B2 k2 u3 h2
              have hbu3 := hbu2a.trans (h2.turned.below hbu2a.size (fun j hj => (hF1.out j hj).1))
              have hF2 := hidp (own_fp h2.own)
              have S3b := hidp (S3.out.below hbu3)
              refine hK.out _ _ ?_ (fun hHeld => ?_)
              · exact trivial
              clear hK K
              try simp only [Act.put, List.setIfInBounds_toArray, List.set_cons_zero, List.set_cons_succ, List.getElem_toArray, List.getElem_cons_zero, List.getElem_cons_succ]
              refine wpAnyH_ready (rs := [10]) (by kernel_rfl) (by simp) ?_
              refine AllReadyH.cons rfl (fun K hK => ?_) AllReadyH.nil
              refine step_app2 _ rfl (.tmp 44) (.tmp 47) 22 rfl u.heap.size 3 j0 _ 1 8 Try.underlying22 hj0 hk0 hk1 hk2 rfl (by decide) B2 (0 + 1) k2 _ rfl h2.own _ (none) k 0 ((Zs.drop 0).map (Value.int .i64)) rfl P3.out L3.out S3b.out O3.out M3.out N3.out hbu3.size ?_
              intro B3 k3 u4 h3
              have hbu4 := hbu3.trans (h3.turned.below hbu3.size (fun j hj => (hF2.out j hj).1))
              refine hK.out _ _ ?_ (fun hHeld => ?_)
              · exact trivial
              clear hK K
              try simp only [Act.put, List.setIfInBounds_toArray, List.set_cons_zero, List.set_cons_succ, List.getElem_toArray, List.getElem_cons_zero, List.getElem_cons_succ]
              refine wpAnyH_take (i := 11) (v := ?_) rfl (by kernel_rfl) (by kernel_rfl) (by kernel_rfl) (fun _ _ _ h => h) (Or.inl ⟨by rfl, ?_⟩) (by assumption) ?_
              rotate_left 1
              · ((intro w hSw; (try dsimp only at hSw); go_simp); (try with_reducible rfl))
              simp only [Act.put, List.setIfInBounds_toArray, List.set_cons_zero, List.set_cons_succ, List.getElem_toArray, List.getElem_cons_zero, List.getElem_cons_succ]
              refine wpAnyH_done (by kernel_rfl) ?_ _
              have own3 := h3.own
              rw [show (Zs.take 0).map (Value.int .i64) ++ [Value.int .i64 (k : Int)] ++ (Zs.drop 0).map (Value.int .i64) = (Zs.take 0 ++ (k : Int) :: Zs.drop 0).map (Value.int .i64) by simp, ← Hput.out] at own3
              have HE : Hid (0 + 1 + k = k + 1) := hidp (by have := HK0.out; omega)
              rw [HE.out] at own3
              have cap3 := h3.cap
              rw [HE.out] at cap3
              have o5 : OwnN v.heap.size u4 B3 (k + 1) k3 ((isort (itsN tasks (k + 1))).map (·.2)) := OwnN.low ⟨own3, by rw [List.length_map, isort_len, itsN_len], cap3, fun e => by have := h3.nil e; omega⟩ Hb3.out.size
              have hb5 : Below v.heap.size v u4 := Hb3.out.trans (hbu4.mono Hb3.out.size)
              clear own3 h1 h2 h3 hbu2 hbu3 hbu4 hHeld
              go_wp2_with fail
              go_roundg (tasks.length - k - 1)
              case measure => omega
              case rel => exact ⟨k + 1, B3, k3, by omega, by go_num, by rw [HE.out], o5, hb5, fun e => by omega⟩
            · go_simp
              refine hK.out _ _ ?_ (fun hHeld => ?_)
              · exact trivial
              clear hK K
              try simp only [Act.put, List.setIfInBounds_toArray, List.set_cons_zero, List.set_cons_succ, List.getElem_toArray, List.getElem_cons_zero, List.getElem_cons_succ]
              have hbu0 := (Below.refl u.heap.size u).alloc (Nat.le_refl _) (.cells #[.int .i64 (k : Int)] 3)
              have S1b := hidp (S1.out.below hbu0)
              have S2 := Lies.new1 u (.int .i64 (k : Int)) 3
              refine wpAnyH_ready (rs := [3]) (by kernel_rfl) (by simp) ?_
              refine AllReadyH.cons rfl (fun K hK => ?_) AllReadyH.nil
              refine step_app2 _ rfl (.const (.slice none 0 0)) (.tmp 40) 22 rfl u.heap.size 3 j0 _ 1 8 Try.underlying22 hj0 hk0 hk1 hk2 rfl (by decide) none 0 0 _ rfl (World.ownsRow_nil _ _ _ _) _ (none) 0 0 ((Zs.take 0).map (Value.int .i64)) rfl (by simp) L1.out S1b.out O1.out M1.out N1.out hbu0.size ?_
              intro B1 k1 u2 h1
              rw [Nat.zero_add, List.nil_append] at h1
              simp only [Nat.zero_add]
              have hbu2 := hbu0.trans (h1.turned.below hbu0.size (by simp [fp]))
              have hF1 := hidp (own_fp h1.own)
              have S2b := hidp (S2.turned h1.turned (by simp [fp]))
              refine hK.out _ _ ?_ (fun hHeld => ?_)
              · exact trivial
              clear hK K
              try simp only [Act.put, List.setIfInBounds_toArray, List.set_cons_zero, List.set_cons_succ, List.getElem_toArray, List.getElem_cons_zero, List.getElem_cons_succ]
              refine wpAnyH_ready (rs := [6]) (by kernel_rfl) (by simp) ?_
              refine AllReadyH.cons rfl (fun K hK => ?_) AllReadyH.nil
              refine step_app2 _ rfl (.tmp 41) (.tmp 43) 22 rfl u.heap.size 3 j0 _ 1 8 Try.underlying22 hj0 hk0 hk1 hk2 rfl (by decide) B1 0 k1 _ rfl h1.own _ (some ⟨u.heap.size, 0, none⟩) 1 1 ([.int .i64 (k : Int)]) rfl (by simp) rfl S2b.out O2.out M2.out N2.out hbu2.size ?_
              intro B2 k2 u3 h2
              have hbu3 := hbu2.trans (h2.turned.below hbu2.size (fun j hj => (hF1.out j hj).1))
              have hF2 := hidp (own_fp h2.own)
              have S3b := hidp (S3.out.below hbu3)
              refine hK.out _ _ ?_ (fun hHeld => ?_)
              · exact trivial
              clear hK K
              try simp only [Act.put, List.setIfInBounds_toArray, List.set_cons_zero, List.set_cons_succ, List.getElem_toArray, List.getElem_cons_zero, List.getElem_cons_succ]
              refine wpAnyH_ready (rs := [10]) (by kernel_rfl) (by simp) ?_
              refine AllReadyH.cons rfl (fun K hK => ?_) AllReadyH.nil
              refine step_app2 _ rfl (.tmp 44) (.tmp 47) 22 rfl u.heap.size 3 j0 _ 1 8 Try.underlying22 hj0 hk0 hk1 hk2 rfl (by decide) B2 (0 + 1) k2 _ rfl h2.own _ (none) k 0 ((Zs.drop 0).map (Value.int .i64)) rfl P3.out L3.out S3b.out O3.out M3.out N3.out hbu3.size ?_
              intro B3 k3 u4 h3
              have hbu4 := hbu3.trans (h3.turned.below hbu3.size (fun j hj => (hF2.out j hj).1))
              refine hK.out _ _ ?_ (fun hHeld => ?_)
              · exact trivial
              clear hK K
              try simp only [Act.put, List.setIfInBounds_toArray, List.set_cons_zero, List.set_cons_succ, List.getElem_toArray, List.getElem_cons_zero, List.getElem_cons_succ]
              refine wpAnyH_take (i := 11) (v := ?_) rfl (by kernel_rfl) (by kernel_rfl) (by kernel_rfl) (fun _ _ _ h => h) (Or.inl ⟨by rfl, ?_⟩) (by assumption) ?_
              rotate_left 1
              · ((intro w hSw; (try dsimp only at hSw); go_simp); (try with_reducible rfl))
              simp only [Act.put, List.setIfInBounds_toArray, List.set_cons_zero, List.set_cons_succ, List.getElem_toArray, List.getElem_cons_zero, List.getElem_cons_succ]
              refine wpAnyH_done (by kernel_rfl) ?_ _
              have own3 := h3.own
              rw [show (Zs.take 0).map (Value.int .i64) ++ [Value.int .i64 (k : Int)] ++ (Zs.drop 0).map (Value.int .i64) = (Zs.take 0 ++ (k : Int) :: Zs.drop 0).map (Value.int .i64) by simp, ← Hput.out] at own3
              have HE : Hid (0 + 1 + k = k + 1) := hidp (by have := HK0.out; omega)
              rw [HE.out] at own3
              have cap3 := h3.cap
              rw [HE.out] at cap3
              have o5 : OwnN v.heap.size u4 B3 (k + 1) k3 ((isort (itsN tasks (k + 1))).map (·.2)) := OwnN.low ⟨own3, by rw [List.length_map, isort_len, itsN_len], cap3, fun e => by have := h3.nil e; omega⟩ Hb3.out.size
              have hb5 : Below v.heap.size v u4 := Hb3.out.trans (hbu4.mono Hb3.out.size)
              clear own3 h1 h2 h3 hbu2 hbu3 hbu4 hHeld
              go_wp2_with fail
              go_roundg (tasks.length - k - 1)
              case measure => omega
              case rel => exact ⟨k + 1, B3, k3, by omega, by go_num, by rw [HE.out], o5, hb5, fun e => by omega⟩
          · obtain ⟨gd, hgd, hgd1, hgd2⟩ := own_at o.own (by omega)
            subst hgd
            go_wp2
            go_quiet (fail)
            go_wp2_with fail
            subst hm0
            have o3 : OwnN v.heap.size (wr.drewN nq).drew (some ⟨gd, 0, none⟩) k d ((isort (itsN tasks k)).map (·.2)) := o.turned ((Turned.refl [] wr).drewN nq).drew (by simp)
            have hb3 : Below v.heap.size v (wr.drewN nq).drew := below_drewN (below_drewN hb nq) 1
            obtain ⟨Zs, HZs⟩ : ∃ Zs, (isort (itsN tasks k)).map (·.2) = Zs := ⟨_, rfl⟩
            rw [HZs] at o3 HL Hput
            obtain ⟨u, hu⟩ : ∃ u, (wr.drewN nq).drew = u := ⟨_, rfl⟩
            have ll := Lies.of_own o3.own
            rw [hu] at o3 hb3 ll
            have HUE := hidp hu
            have O1 := hidp (fun w (h : w ∈ (Zs.take 0).map (Value.int .i64)) => ints_oneI _ w h)
            have O3 := hidp (fun w (h : w ∈ (Zs.drop 0).map (Value.int .i64)) => ints_oneI _ w h)
            have O2 := hidp (ints_oneI [(k : Int)])
            have L1 : Hid (((Zs.take 0).map (Value.int .i64)).length = 0 * 1) := hidp (by have := HL.out; simp; try omega)
            have L3 : Hid (((Zs.drop 0).map (Value.int .i64)).length = k * 1) := hidp (by have := HL.out; simp; try omega)
            have S1 : Hid (Lies u.heap.size u (some ⟨gd, 0, none⟩) ((Zs.take 0).map (Value.int .i64))) := hidp (by rw [List.map_take]; exact ll.take _)
            have S3 : Hid (Lies u.heap.size u (some ⟨gd, 0, none⟩) ((Zs.drop 0).map (Value.int .i64))) := hidp (by rw [List.drop_zero]; exact ll)
            have P3 : Hid ((some ⟨gd, 0, none⟩ : Option Addr) = none → k = 0 ∧ d = 0) := hidp (by simp)
            have M1 : Hid (0 + 0 ≤ maxLen) := hidp (by unfold maxLen; omega)
            have M2 : Hid (0 + 1 ≤ maxLen) := hidp (by unfold maxLen; omega)
            have M3 : Hid (0 + 1 + k ≤ maxLen) := hidp (by unfold maxLen; omega)
            have N1 : Hid ((0 + 0) * 8 ≤ 140737488355328) := hidp (by omega)
            have N2 : Hid ((0 + 1) * 8 ≤ 140737488355328) := hidp (by omega)
            have N3 : Hid ((0 + 1 + k) * 8 ≤ 140737488355328) := hidp (by omega)
            have hcp := o3.cap.1
            have hmd : 0 ≤ d := by omega
            have hmk2 : 0 ≤ k := Nat.zero_le _
            have Hcap := hidp o3.cap
            have Hb3 := hidp hb3
            clear o3 ll hb3 HZs hb o
            refine wp_region_held_drew (S := fun _ => True) (by kernel_rfl) ?_ (fun hHeld => ?_)
            · trivial
            rw [hu]
            clear hu
            refine wpAnyH_take (i := 0) (v := ?_) rfl (by kernel_rfl) (by kernel_rfl) (by kernel_rfl) (fun _ _ _ h => h) (Or.inl ⟨by rfl, ?_⟩) (by assumption) ?_
            rotate_left 1
            · ((intro w hSw; (try dsimp only at hSw); go_simp); (try with_reducible rfl))
            simp only [Act.put, List.setIfInBounds_toArray, List.set_cons_zero, List.set_cons_succ, List.getElem_toArray, List.getElem_cons_zero, List.getElem_cons_succ]
            refine wpAnyH_take (i := 1) (v := ?_) rfl (by kernel_rfl) (by kernel_rfl) (by kernel_rfl) (fun _ _ _ h => h) (Or.inl ⟨by rfl, ?_⟩) (by assumption) ?_
            rotate_left 1
            · ((intro w hSw; (try dsimp only at hSw); go_simp); (try with_reducible rfl))
            simp only [Act.put, List.setIfInBounds_toArray, List.set_cons_zero, List.set_cons_succ, List.getElem_toArray, List.getElem_cons_zero, List.getElem_cons_succ]
            refine wpAnyH_take (i := 4) (v := ?_) rfl (by kernel_rfl) (by kernel_rfl) (by kernel_rfl) (fun _ _ _ h => h) (Or.inl ⟨by rfl, ?_⟩) (by assumption) ?_
            rotate_left 1
            · ((intro w hSw; (try dsimp only at hSw); go_simp); (try with_reducible rfl))
            simp only [Act.put, List.setIfInBounds_toArray, List.set_cons_zero, List.set_cons_succ, List.getElem_toArray, List.getElem_cons_zero, List.getElem_cons_succ]
            refine wpAnyH_take (i := 7) (v := ?_) rfl (by kernel_rfl) (by kernel_rfl) (by kernel_rfl) (fun _ _ _ h => h) (Or.inl ⟨by rfl, ?_⟩) (by assumption) ?_
            rotate_left 1
            · ((intro w hSw; (try dsimp only at hSw); go_simp); (try with_reducible rfl))
            simp only [Act.put, List.setIfInBounds_toArray, List.set_cons_zero, List.set_cons_succ, List.getElem_toArray, List.getElem_cons_zero, List.getElem_cons_succ]
            refine wpAnyH_take (i := 8) (v := ?_) rfl (by kernel_rfl) (by kernel_rfl) (by kernel_rfl) (fun _ _ _ h => h) (Or.inl ⟨by rfl, ?_⟩) (by assumption) ?_
            rotate_left 1
            · ((intro w hSw; (try dsimp only at hSw); go_simp); (try with_reducible rfl))
            simp only [Act.put, List.setIfInBounds_toArray, List.set_cons_zero, List.set_cons_succ, List.getElem_toArray, List.getElem_cons_zero, List.getElem_cons_succ]
            refine wpAnyH_take (i := 2) (v := ?_) rfl (by kernel_rfl) (by kernel_rfl) (by kernel_rfl) (fun _ _ _ h => h) (Or.inl ⟨by rfl, ?_⟩) (by assumption) ?_
            rotate_left 1
            · ((intro w hSw; (try dsimp only at hSw); go_simp); (try with_reducible rfl))
            simp only [Act.put, List.setIfInBounds_toArray, List.set_cons_zero, List.set_cons_succ, List.getElem_toArray, List.getElem_cons_zero, List.getElem_cons_succ]
            refine wpAnyH_take (i := 9) (v := ?_) rfl (by kernel_rfl) (by kernel_rfl) (by kernel_rfl) (fun _ _ _ h => h) (Or.inl ⟨by rfl, ?_⟩) (by assumption) ?_
            rotate_left 1
            · ((intro w hSw; (try dsimp only at hSw); go_simp); (try with_reducible rfl))
            simp only [Act.put, List.setIfInBounds_toArray, List.set_cons_zero, List.set_cons_succ, List.getElem_toArray, List.getElem_cons_zero, List.getElem_cons_succ]
            refine wpAnyH_ready (rs := [3, 5]) (by kernel_rfl) (by simp) ?_
            refine AllReadyH.cons rfl (fun K hK => ?_) (AllReadyH.cons rfl (fun K hK => ?_) AllReadyH.nil)
            · refine step_app2 _ rfl (.const (.slice none 0 0)) (.tmp 40) 22 rfl u.heap.size 3 j0 _ 1 8 Try.underlying22 hj0 hk0 hk1 hk2 rfl (by decide) none 0 0 _ rfl (World.ownsRow_nil _ _ _ _) _ (some ⟨gd, 0, none⟩) 0 d ((Zs.take 0).map (Value.int .i64)) rfl (by simp) L1.out S1.out O1.out M1.out N1.out (Nat.le_refl _) ?_
              intro B1 k1 u2 h1
              rw [Nat.zero_add, List.nil_append] at h1
              simp only [Nat.zero_add]
              have hbu2 : Below u.heap.size u u2 := h1.turned.below (Nat.le_refl _) (by simp [fp])
              have hF1 := hidp (own_fp h1.own)
              refine hK.out _ _ ?_ (fun hHeld => ?_)
              · exact trivial
              clear hK K
              try simp only [Act.put, List.setIfInBounds_toArray, List.set_cons_zero, List.set_cons_succ, List.getElem_toArray, List.getElem_cons_zero, List.getElem_cons_succ]
              refine wpAnyH_ready (rs := [5]) (by kernel_rfl) (by simp) ?_
              refine AllReadyH.cons rfl (fun K hK => ?_) AllReadyH.nil
              go_simp
              refine hK.out _ _ ?_ (fun hHeld => ?_)
              · exact trivial
              clear hK K
              try simp only [Act.put, List.setIfInBounds_toArray, List.set_cons_zero, List.set_cons_succ, List.getElem_toArray, List.getElem_cons_zero, List.getElem_cons_succ]
              have hown2 := World.ownsRow.alloc h1.own (.cells #[.int .i64 (k : Int)] 3)
              have S2 := hidp (Lies.new1 u2 (.int .i64 (k : Int)) 3)
              have hbu2a := hbu2.alloc hbu2.size (.cells #[.int .i64 (k : Int)] 3)
              refine wpAnyH_ready (rs := [6]) (by kernel_rfl) (by simp) ?_
              refine AllReadyH.cons rfl (fun K hK => ?_) AllReadyH.nil
              refine step_app2 _ rfl (.tmp 41) (.tmp 43) 22 rfl u.heap.size 3 j0 _ 1 8 Try.underlying22 hj0 hk0 hk1 hk2 rfl (by decide) B1 0 k1 _ rfl hown2 _ (some ⟨u2.heap.size, 0, none⟩) 1 1 ([.int .i64 (k : Int)]) rfl (by simp) rfl S2.out O2.out M2.out N2.out hbu2a.size ?_
              intro B2 k2 u3 h2
              have hbu3 := hbu2a.trans (h2.turned.below hbu2a.size (fun j hj => (hF1.out j hj).1))
              have hF2 := hidp (own_fp h2.own)
              have S3b := hidp (S3.out.below hbu3)
              refine hK.out _ _ ?_ (fun hHeld => ?_)
              · exact trivial
              clear hK K
              try simp only [Act.put, List.setIfInBounds_toArray, List.set_cons_zero, List.set_cons_succ, List.getElem_toArray, List.getElem_cons_zero, List.getElem_cons_succ]
              refine wpAnyH_ready (rs := [10]) (by kernel_rfl) (by simp) ?_
              refine AllReadyH.cons rfl (fun K hK => ?_) AllReadyH.nil
              refine step_app2 _ rfl (.tmp 44) (.tmp 47) 22 rfl u.heap.size 3 j0 _ 1 8 Try.underlying22 hj0 hk0 hk1 hk2 rfl (by decide) B2 (0 + 1) k2 _ rfl h2.own _ (some ⟨gd, 0, none⟩) k d ((Zs.drop 0).map (Value.int .i64)) rfl P3.out L3.out S3b.out O3.out M3.out N3.out hbu3.size ?_
              intro B3 k3 u4 h3
              have hbu4 := hbu3.trans (h3.turned.below hbu3.size (fun j hj => (hF2.out j hj).1))
              refine hK.out _ _ ?_ (fun hHeld => ?_)
              · exact trivial
              clear hK K
              try simp only [Act.put, List.setIfInBounds_toArray, List.set_cons_zero, List.set_cons_succ, List.getElem_toArray, List.getElem_cons_zero, List.getElem_cons_succ]
              refine wpAnyH_take (i := 11) (v := ?_) rfl (by kernel_rfl) (by kernel_rfl) (by kernel_rfl) (fun _ _ _ h => h) (Or.inl ⟨by rfl, ?_⟩) (by assumption) ?_
              rotate_left 1
              · ((intro w hSw; (try dsimp only at hSw); go_simp); (try with_reducible rfl))
              simp only [Act.put, List.setIfInBounds_toArray, List.set_cons_zero, List.set_cons_succ, List.getElem_toArray, List.getElem_cons_zero, List.getElem_cons_succ]
              refine wpAnyH_done (by kernel_rfl) ?_ _
              have own3 := h3.own
              rw [show (Zs.take 0).map (Value.int .i64) ++ [Value.int .i64 (k : Int)] ++ (Zs.drop 0).map (Value.int .i64) = (Zs.take 0 ++ (k : Int) :: Zs.drop 0).map (Value.int .i64) by simp, ← Hput.out] at own3
              have HE : Hid (0 + 1 + k = k + 1) := hidp (by omega)
              rw [HE.out] at own3
              have cap3 := h3.cap
              rw [HE.out] at cap3
              have o5 : OwnN v.heap.size u4 B3 (k + 1) k3 ((isort (itsN tasks (k + 1))).map (·.2)) := OwnN.low ⟨own3, by rw [List.length_map, isort_len, itsN_len], cap3, fun e => by have := h3.nil e; omega⟩ Hb3.out.size
              have hb5 : Below v.heap.size v u4 := Hb3.out.trans (hbu4.mono Hb3.out.size)
              clear own3 h1 h2 h3 hbu2 hbu3 hbu4 hHeld
              go_wp2_with fail
              go_roundg (tasks.length - k - 1)
              case measure => omega
              case rel => exact ⟨k + 1, B3, k3, by omega, by go_num, by rw [HE.out], o5, hb5, fun e => by omega⟩
            · go_simp
              refine hK.out _ _ ?_ (fun hHeld => ?_)
              · exact trivial
              clear hK K
              try simp only [Act.put, List.setIfInBounds_toArray, List.set_cons_zero, List.set_cons_succ, List.getElem_toArray, List.getElem_cons_zero, List.getElem_cons_succ]
              have hbu0 := (Below.refl u.heap.size u).alloc (Nat.le_refl _) (.cells #[.int .i64 (k : Int)] 3)
              have S1b := hidp (S1.out.below hbu0)
              have S2 := Lies.new1 u (.int .i64 (k : Int)) 3
              refine wpAnyH_ready (rs := [3]) (by kernel_rfl) (by simp) ?_
              refine AllReadyH.cons rfl (fun K hK => ?_) AllReadyH.nil
              refine step_app2 _ rfl (.const (.slice none 0 0)) (.tmp 40) 22 rfl u.heap.size 3 j0 _ 1 8 Try.underlying22 hj0 hk0 hk1 hk2 rfl (by decide) none 0 0 _ rfl (World.ownsRow_nil _ _ _ _) _ (some ⟨gd, 0, none⟩) 0 d ((Zs.take 0).map (Value.int .i64)) rfl (by simp) L1.out S1b.out O1.out M1.out N1.out hbu0.size ?_
              intro B1 k1 u2 h1
              rw [Nat.zero_add, List.nil_append] at h1
              simp only [Nat.zero_add]
              have hbu2 := hbu0.trans (h1.turned.below hbu0.size (by simp [fp]))
              have hF1 := hidp (own_fp h1.own)
              have S2b := hidp (S2.turned h1.turned (by simp [fp]))
              refine hK.out _ _ ?_ (fun hHeld => ?_)
              · exact trivial
              clear hK K
              try simp only [Act.put, List.setIfInBounds_toArray, List.set_cons_zero, List.set_cons_succ, List.getElem_toArray, List.getElem_cons_zero, List.getElem_cons_succ]
              refine wpAnyH_ready (rs := [6]) (by kernel_rfl) (by simp) ?_
              refine AllReadyH.cons rfl (fun K hK => ?_) AllReadyH.nil
              refine step_app2 _ rfl (.tmp 41) (.tmp 43) 22 rfl u.heap.size 3 j0 _ 1 8 Try.underlying22 hj0 hk0 hk1 hk2 rfl (by decide) B1 0 k1 _ rfl h1.own _ (some ⟨u.heap.size, 0, none⟩) 1 1 ([.int .i64 (k : Int)]) rfl (by simp) rfl S2b.out O2.out M2.out N2.out hbu2.size ?_
              intro B2 k2 u3 h2
              have hbu3 := hbu2.trans (h2.turned.below hbu2.size (fun j hj => (hF1.out j hj).1))
              have hF2 := hidp (own_fp h2.own)
              have S3b := hidp (S3.out.below hbu3)
              refine hK.out _ _ ?_ (fun hHeld => ?_)
              · exact trivial
              clear hK K
              try simp only [Act.put, List.setIfInBounds_toArray, List.set_cons_zero, List.set_cons_succ, List.getElem_toArray, List.getElem_cons_zero, List.getElem_cons_succ]
              refine wpAnyH_ready (rs := [10]) (by kernel_rfl) (by simp) ?_
              refine AllReadyH.cons rfl (fun K hK => ?_) AllReadyH.nil
              refine step_app2 _ rfl (.tmp 44) (.tmp 47) 22 rfl u.heap.size 3 j0 _ 1 8 Try.underlying22 hj0 hk0 hk1 hk2 rfl (by decide) B2 (0 + 1) k2 _ rfl h2.own _ (some ⟨gd, 0, none⟩) k d ((Zs.drop 0).map (Value.int .i64)) rfl P3.out L3.out S3b.out O3.out M3.out N3.out hbu3.size ?_
              intro B3 k3 u4 h3
              have hbu4 := hbu3.trans (h3.turned.below hbu3.size (fun j hj => (hF2.out j hj).1))
              refine hK.out _ _ ?_ (fun hHeld => ?_)
              · exact trivial
              clear hK K
              try simp only [Act.put, List.setIfInBounds_toArray, List.set_cons_zero, List.set_cons_succ, List.getElem_toArray, List.getElem_cons_zero, List.getElem_cons_succ]
              refine wpAnyH_take (i := 11) (v := ?_) rfl (by kernel_rfl) (by kernel_rfl) (by kernel_rfl) (fun _ _ _ h => h) (Or.inl ⟨by rfl, ?_⟩) (by assumption) ?_
              rotate_left 1
              · ((intro w hSw; (try dsimp only at hSw); go_simp); (try with_reducible rfl))
              simp only [Act.put, List.setIfInBounds_toArray, List.set_cons_zero, List.set_cons_succ, List.getElem_toArray, List.getElem_cons_zero, List.getElem_cons_succ]
              refine wpAnyH_done (by kernel_rfl) ?_ _
              have own3 := h3.own
              rw [show (Zs.take 0).map (Value.int .i64) ++ [Value.int .i64 (k : Int)] ++ (Zs.drop 0).map (Value.int .i64) = (Zs.take 0 ++ (k : Int) :: Zs.drop 0).map (Value.int .i64) by simp, ← Hput.out] at own3
              have HE : Hid (0 + 1 + k = k + 1) := hidp (by omega)
              rw [HE.out] at own3
              have cap3 := h3.cap
              rw [HE.out] at cap3
              have o5 : OwnN v.heap.size u4 B3 (k + 1) k3 ((isort (itsN tasks (k + 1))).map (·.2)) := OwnN.low ⟨own3, by rw [List.length_map, isort_len, itsN_len], cap3, fun e => by have := h3.nil e; omega⟩ Hb3.out.size
              have hb5 : Below v.heap.size v u4 := Hb3.out.trans (hbu4.mono Hb3.out.size)
              clear own3 h1 h2 h3 hbu2 hbu3 hbu4 hHeld
              go_wp2_with fail
              go_roundg (tasks.length - k - 1)
              case measure => omega
              case rel => exact ⟨k + 1, B3, k3, by omega, by go_num, by rw [HE.out], o5, hb5, fun e => by omega⟩
        · obtain ⟨p, hp⟩ : ∃ p, m = p + 1 := ⟨m - 1, by omega⟩
          obtain ⟨gd, hgd, hgd1, hgd2⟩ := own_at o.own (by omega)
          subst hgd
          have hpl : p < (isort (itsN tasks k)).length := by rw [isort_len, itsN_len]; omega
          obtain ⟨i, hi, hyi⟩ := its_in ((isort_perm _).mem_iff.1 (show (isort (itsN tasks k)).getD p (0, 0) ∈ isort (itsN tasks k) by simp [List.getD, hpl]))
          have co : wr.cell? ⟨gd, p, none⟩ = some (.int .i64 (i : Int)) := by
            obtain ⟨b', o', eA, hc⟩ := o.row.resolve_left (by intro e; have h1 := congrArg List.length e; rw [HL.out] at h1; simp at h1; omega)
            injection eA with eA; injection eA with e1 e2; subst e1; subst e2
            have := hc p (by rw [HL.out]; omega)
            rw [Nat.zero_add] at this
            rw [this]
            have e3 : ((isort (itsN tasks k)).map (·.2)).getD p 0 = ((isort (itsN tasks k)).getD p (0, 0)).2 := by simp [List.getD, hpl]
            rw [e3, hyi]
          have hit : i < tasks.length := by omega
          obtain ⟨ti, HTi⟩ : ∃ t, Hid (tasks.getD i default = t) := ⟨_, rfl⟩
          have ci := ((HC.out i hit).keep (Keeps.of_below hb)).2.2.2.1
          rw [HTi.out] at ci
          have iI : (i : Int) < (tasks.length : Int) := by omega
          have i0 : (0 : Int) ≤ (i : Int) := by omega
          have p0 : (0 : Int) ≤ (p : Int) := by omega
          have pk : (p : Int) < (k : Int) := by omega
          have hw1 : IntKind.i64.wrap ((m : Int) - 1) = (p : Int) := by rw [IntWalk.i64_in _ (by omega)]; omega
          have hg1 : decide (0 < m) = true := by simp; omega
          have hg2 : 0 < m := by omega
          have HYI := hidp hyi
          have Hpm := hidp hp
          have Hpl := hidp hpl
          clear hyi hp hpl
          by_cases hgt : t.prio < ti.prio
          · have HY2 : Hid (∀ y ∈ (isort (itsN tasks k)).drop p, t.prio < y.1) := hidp (fun y hy => by
              rw [List.drop_eq_getElem_cons Hpl.out] at hy
              rcases List.mem_cons.1 hy with e | hy
              · have e2 : (isort (itsN tasks k))[p]'Hpl.out = (isort (itsN tasks k)).getD p (0, 0) := by simp [List.getD, Hpl.out]
                rw [e, e2, HYI.out, HTi.out]; exact hgt
              · exact Hy.out y (by rw [Hpm.out]; exact hy))
            go_wp2
            go_quiet (fail)
            go_wp2
            go_roundg p
            case measure => have := Hpm.out; have := HMG.out; omega
            case rel => exact ⟨p, rfl, by have := Hpm.out; go_num, by have := Hpm.out; omega, HY2, HQ.out.add _⟩
          · have Hput : Hid ((isort (itsN tasks (k + 1))).map (·.2) = ((isort (itsN tasks k)).map (·.2)).take m ++ (k : Int) :: ((isort (itsN tasks k)).map (·.2)).drop m) := hidp (ord_put hmk (by
              rw [Hpm.out]
              exact srt_take (isort_srt _) Hpl.out (by rw [HYI.out, HTi.out, HT.out]; dsimp only; omega)) (by rw [HT.out]; exact Hy.out))
            have hgf : decide (t.prio < ti.prio) = false := by simpa using hgt
            go_wp2
            go_quiet (fail)
            go_wp2_with fail
            have o3 : OwnN v.heap.size (wr.drewN nq).drew (some ⟨gd, 0, none⟩) k d ((isort (itsN tasks k)).map (·.2)) := o.turned ((Turned.refl [] wr).drewN nq).drew (by simp)
            have hb3 : Below v.heap.size v (wr.drewN nq).drew := below_drewN (below_drewN hb nq) 1
            obtain ⟨Zs, HZs⟩ : ∃ Zs, (isort (itsN tasks k)).map (·.2) = Zs := ⟨_, rfl⟩
            rw [HZs] at o3 HL Hput
            obtain ⟨u, hu⟩ : ∃ u, (wr.drewN nq).drew = u := ⟨_, rfl⟩
            have ll := Lies.of_own o3.own
            rw [hu] at o3 hb3 ll
            have HUE := hidp hu
            have O1 := hidp (fun w (h : w ∈ (Zs.take m).map (Value.int .i64)) => ints_oneI _ w h)
            have O3 := hidp (fun w (h : w ∈ (Zs.drop m).map (Value.int .i64)) => ints_oneI _ w h)
            have O2 := hidp (ints_oneI [(k : Int)])
            have L1 : Hid (((Zs.take m).map (Value.int .i64)).length = m * 1) := hidp (by have := HL.out; simp; try omega)
            have L3 : Hid (((Zs.drop m).map (Value.int .i64)).length = (k - m) * 1) := hidp (by have := HL.out; simp; try omega)
            have S1 : Hid (Lies u.heap.size u (some ⟨gd, 0, none⟩) ((Zs.take m).map (Value.int .i64))) := hidp (by rw [List.map_take]; exact ll.take _)
            obtain ⟨A1, hA1, S3, P3⟩ : ∃ A1, (if d = m then (some ⟨gd, 0, none⟩ : Option Addr) else some ⟨gd, m, none⟩) = A1 ∧ Hid (Lies u.heap.size u A1 ((Zs.drop m).map (Value.int .i64))) ∧ Hid (A1 = none → k - m = 0 ∧ d - m = 0) := ⟨_, rfl, hidp (by
              rw [List.map_drop]
              split
              · rename_i e
                left
                have h1 := HL.out
                have h2 := o3.cap.1
                apply List.drop_eq_nil_of_le; simp; omega
              · have := ll.drop m
                rwa [Nat.zero_add] at this), hidp (by intro e; split at e <;> cases e)⟩
            have M1 : Hid (0 + m ≤ maxLen) := hidp (by unfold maxLen; omega)
            have M2 : Hid (m + 1 ≤ maxLen) := hidp (by unfold maxLen; omega)
            have M3 : Hid (m + 1 + (k - m) ≤ maxLen) := hidp (by unfold maxLen; omega)
            have N1 : Hid ((0 + m) * 8 ≤ 140737488355328) := hidp (by omega)
            have N2 : Hid ((m + 1) * 8 ≤ 140737488355328) := hidp (by omega)
            have N3 : Hid ((m + 1 + (k - m)) * 8 ≤ 140737488355328) := hidp (by omega)
            have hcp := o3.cap.1
            have hmd : m ≤ d := by omega
            have hmk2 : m ≤ k := hmk
            have Hcap := hidp o3.cap
            have Hb3 := hidp hb3
            clear o3 ll hb3 HZs hb o
            refine wp_region_held_drew (S := fun _ => True) (by kernel_rfl) ?_ (fun hHeld => ?_)
            · trivial
            rw [hu]
            clear hu
            refine wpAnyH_take (i := 0) (v := ?_) rfl (by kernel_rfl) (by kernel_rfl) (by kernel_rfl) (fun _ _ _ h => h) (Or.inl ⟨by rfl, ?_⟩) (by assumption) ?_
            rotate_left 1
            · ((intro w hSw; (try dsimp only at hSw); go_simp); (try with_reducible rfl))
            simp only [Act.put, List.setIfInBounds_toArray, List.set_cons_zero, List.set_cons_succ, List.getElem_toArray, List.getElem_cons_zero, List.getElem_cons_succ]
            refine wpAnyH_take (i := 1) (v := ?_) rfl (by kernel_rfl) (by kernel_rfl) (by kernel_rfl) (fun _ _ _ h => h) (Or.inl ⟨by rfl, ?_⟩) (by assumption) ?_
            rotate_left 1
            · ((intro w hSw; (try dsimp only at hSw); go_simp); (try with_reducible rfl))
            simp only [Act.put, List.setIfInBounds_toArray, List.set_cons_zero, List.set_cons_succ, List.getElem_toArray, List.getElem_cons_zero, List.getElem_cons_succ]
            refine wpAnyH_take (i := 4) (v := ?_) rfl (by kernel_rfl) (by kernel_rfl) (by kernel_rfl) (fun _ _ _ h => h) (Or.inl ⟨by rfl, ?_⟩) (by assumption) ?_
            rotate_left 1
            · ((intro w hSw; (try dsimp only at hSw); go_simp); (try with_reducible rfl))
            simp only [Act.put, List.setIfInBounds_toArray, List.set_cons_zero, List.set_cons_succ, List.getElem_toArray, List.getElem_cons_zero, List.getElem_cons_succ]
            refine wpAnyH_take (i := 7) (v := ?_) rfl (by kernel_rfl) (by kernel_rfl) (by kernel_rfl) (fun _ _ _ h => h) (Or.inl ⟨by rfl, ?_⟩) (by assumption) ?_
            rotate_left 1
            · ((intro w hSw; (try dsimp only at hSw); go_simp); (try with_reducible rfl))
            simp only [Act.put, List.setIfInBounds_toArray, List.set_cons_zero, List.set_cons_succ, List.getElem_toArray, List.getElem_cons_zero, List.getElem_cons_succ]
            refine wpAnyH_take (i := 8) (v := ?_) rfl (by kernel_rfl) (by kernel_rfl) (by kernel_rfl) (fun _ _ _ h => h) (Or.inl ⟨by rfl, ?_⟩) (by assumption) ?_
            rotate_left 1
            · ((intro w hSw; (try dsimp only at hSw); go_simp); (try with_reducible rfl))
            simp only [Act.put, List.setIfInBounds_toArray, List.set_cons_zero, List.set_cons_succ, List.getElem_toArray, List.getElem_cons_zero, List.getElem_cons_succ]
            refine wpAnyH_take (i := 2) (v := ?_) rfl (by kernel_rfl) (by kernel_rfl) (by kernel_rfl) (fun _ _ _ h => h) (Or.inl ⟨by rfl, ?_⟩) (by assumption) ?_
            rotate_left 1
            · ((intro w hSw; (try dsimp only at hSw); go_simp); (try with_reducible rfl))
            simp only [Act.put, List.setIfInBounds_toArray, List.set_cons_zero, List.set_cons_succ, List.getElem_toArray, List.getElem_cons_zero, List.getElem_cons_succ]
            refine wpAnyH_take (i := 9) (v := ?_) rfl (by kernel_rfl) (by kernel_rfl) (by kernel_rfl) (fun _ _ _ h => h) (Or.inl ⟨by rfl, ?_⟩) (by assumption) ?_
            rotate_left 1
            · ((intro w hSw; (try dsimp only at hSw); go_simp); (try with_reducible rfl))
            simp only [Act.put, List.setIfInBounds_toArray, List.set_cons_zero, List.set_cons_succ, List.getElem_toArray, List.getElem_cons_zero, List.getElem_cons_succ]
            refine wpAnyH_ready (rs := [3, 5]) (by kernel_rfl) (by simp) ?_
            refine AllReadyH.cons rfl (fun K hK => ?_) (AllReadyH.cons rfl (fun K hK => ?_) AllReadyH.nil)
            · refine step_app2 _ rfl (.const (.slice none 0 0)) (.tmp 40) 22 rfl u.heap.size 3 j0 _ 1 8 Try.underlying22 hj0 hk0 hk1 hk2 rfl (by decide) none 0 0 _ rfl (World.ownsRow_nil _ _ _ _) _ (some ⟨gd, 0, none⟩) m d ((Zs.take m).map (Value.int .i64)) rfl (by simp) L1.out S1.out O1.out M1.out N1.out (Nat.le_refl _) ?_
              intro B1 k1 u2 h1
              rw [Nat.zero_add, List.nil_append] at h1
              simp only [Nat.zero_add]
              have hbu2 : Below u.heap.size u u2 := h1.turned.below (Nat.le_refl _) (by simp [fp])
              have hF1 := hidp (own_fp h1.own)
              refine hK.out _ _ ?_ (fun hHeld => ?_)
              · exact trivial
              clear hK K
              try simp only [Act.put, List.setIfInBounds_toArray, List.set_cons_zero, List.set_cons_succ, List.getElem_toArray, List.getElem_cons_zero, List.getElem_cons_succ]
              refine wpAnyH_ready (rs := [5]) (by kernel_rfl) (by simp) ?_
              refine AllReadyH.cons rfl (fun K hK => ?_) AllReadyH.nil
              go_simp
              refine hK.out _ _ ?_ (fun hHeld => ?_)
              · exact trivial
              clear hK K
              try simp only [Act.put, List.setIfInBounds_toArray, List.set_cons_zero, List.set_cons_succ, List.getElem_toArray, List.getElem_cons_zero, List.getElem_cons_succ]
              have hown2 := World.ownsRow.alloc h1.own (.cells #[.int .i64 (k : Int)] 3)
              have S2 := hidp (Lies.new1 u2 (.int .i64 (k : Int)) 3)
              have hbu2a := hbu2.alloc hbu2.size (.cells #[.int .i64 (k : Int)] 3)
              refine wpAnyH_ready (rs := [6]) (by kernel_rfl) (by simp) ?_
              refine AllReadyH.cons rfl (fun K hK => ?_) AllReadyH.nil
              refine step_app2 _ rfl (.tmp 41) (.tmp 43) 22 rfl u.heap.size 3 j0 _ 1 8 Try.underlying22 hj0 hk0 hk1 hk2 rfl (by decide) B1 m k1 _ rfl hown2 _ (some ⟨u2.heap.size, 0, none⟩) 1 1 ([.int .i64 (k : Int)]) rfl (by simp) rfl S2.out O2.out M2.out N2.out hbu2a.size ?_
              intro B2 k2 u3 h2
              have hbu3 := hbu2a.trans (h2.turned.below hbu2a.size (fun j hj => (hF1.out j hj).1))
              have hF2 := hidp (own_fp h2.own)
              have S3b := hidp (S3.out.below hbu3)
              refine hK.out _ _ ?_ (fun hHeld => ?_)
              · exact trivial
              clear hK K
              try simp only [Act.put, List.setIfInBounds_toArray, List.set_cons_zero, List.set_cons_succ, List.getElem_toArray, List.getElem_cons_zero, List.getElem_cons_succ]
              refine wpAnyH_ready (rs := [10]) (by kernel_rfl) (by simp) ?_
              refine AllReadyH.cons rfl (fun K hK => ?_) AllReadyH.nil
              refine step_app2 _ rfl (.tmp 44) (.tmp 47) 22 rfl u.heap.size 3 j0 _ 1 8 Try.underlying22 hj0 hk0 hk1 hk2 rfl (by decide) B2 (m + 1) k2 _ rfl h2.own _ (A1) (k - m) (d - m) ((Zs.drop m).map (Value.int .i64)) rfl P3.out L3.out S3b.out O3.out M3.out N3.out hbu3.size ?_
              intro B3 k3 u4 h3
              have hbu4 := hbu3.trans (h3.turned.below hbu3.size (fun j hj => (hF2.out j hj).1))
              refine hK.out _ _ ?_ (fun hHeld => ?_)
              · exact trivial
              clear hK K
              try simp only [Act.put, List.setIfInBounds_toArray, List.set_cons_zero, List.set_cons_succ, List.getElem_toArray, List.getElem_cons_zero, List.getElem_cons_succ]
              refine wpAnyH_take (i := 11) (v := ?_) rfl (by kernel_rfl) (by kernel_rfl) (by kernel_rfl) (fun _ _ _ h => h) (Or.inl ⟨by rfl, ?_⟩) (by assumption) ?_
              rotate_left 1
              · ((intro w hSw; (try dsimp only at hSw); go_simp); (try with_reducible rfl))
              simp only [Act.put, List.setIfInBounds_toArray, List.set_cons_zero, List.set_cons_succ, List.getElem_toArray, List.getElem_cons_zero, List.getElem_cons_succ]
              refine wpAnyH_done (by kernel_rfl) ?_ _
              have own3 := h3.own
              rw [show (Zs.take m).map (Value.int .i64) ++ [Value.int .i64 (k : Int)] ++ (Zs.drop m).map (Value.int .i64) = (Zs.take m ++ (k : Int) :: Zs.drop m).map (Value.int .i64) by simp, ← Hput.out] at own3
              have HE : Hid (m + 1 + (k - m) = k + 1) := hidp (by omega)
              rw [HE.out] at own3
              have cap3 := h3.cap
              rw [HE.out] at cap3
              have o5 : OwnN v.heap.size u4 B3 (k + 1) k3 ((isort (itsN tasks (k + 1))).map (·.2)) := OwnN.low ⟨own3, by rw [List.length_map, isort_len, itsN_len], cap3, fun e => by have := h3.nil e; omega⟩ Hb3.out.size
              have hb5 : Below v.heap.size v u4 := Hb3.out.trans (hbu4.mono Hb3.out.size)
              clear own3 h1 h2 h3 hbu2 hbu3 hbu4 hHeld
              go_wp2_with fail
              go_roundg (tasks.length - k - 1)
              case measure => omega
              case rel => exact ⟨k + 1, B3, k3, by omega, by go_num, by rw [HE.out], o5, hb5, fun e => by omega⟩
            · go_simp
              refine hK.out _ _ ?_ (fun hHeld => ?_)
              · exact trivial
              clear hK K
              try simp only [Act.put, List.setIfInBounds_toArray, List.set_cons_zero, List.set_cons_succ, List.getElem_toArray, List.getElem_cons_zero, List.getElem_cons_succ]
              have hbu0 := (Below.refl u.heap.size u).alloc (Nat.le_refl _) (.cells #[.int .i64 (k : Int)] 3)
              have S1b := hidp (S1.out.below hbu0)
              have S2 := Lies.new1 u (.int .i64 (k : Int)) 3
              refine wpAnyH_ready (rs := [3]) (by kernel_rfl) (by simp) ?_
              refine AllReadyH.cons rfl (fun K hK => ?_) AllReadyH.nil
              refine step_app2 _ rfl (.const (.slice none 0 0)) (.tmp 40) 22 rfl u.heap.size 3 j0 _ 1 8 Try.underlying22 hj0 hk0 hk1 hk2 rfl (by decide) none 0 0 _ rfl (World.ownsRow_nil _ _ _ _) _ (some ⟨gd, 0, none⟩) m d ((Zs.take m).map (Value.int .i64)) rfl (by simp) L1.out S1b.out O1.out M1.out N1.out hbu0.size ?_
              intro B1 k1 u2 h1
              rw [Nat.zero_add, List.nil_append] at h1
              simp only [Nat.zero_add]
              have hbu2 := hbu0.trans (h1.turned.below hbu0.size (by simp [fp]))
              have hF1 := hidp (own_fp h1.own)
              have S2b := hidp (S2.turned h1.turned (by simp [fp]))
              refine hK.out _ _ ?_ (fun hHeld => ?_)
              · exact trivial
              clear hK K
              try simp only [Act.put, List.setIfInBounds_toArray, List.set_cons_zero, List.set_cons_succ, List.getElem_toArray, List.getElem_cons_zero, List.getElem_cons_succ]
              refine wpAnyH_ready (rs := [6]) (by kernel_rfl) (by simp) ?_
              refine AllReadyH.cons rfl (fun K hK => ?_) AllReadyH.nil
              refine step_app2 _ rfl (.tmp 41) (.tmp 43) 22 rfl u.heap.size 3 j0 _ 1 8 Try.underlying22 hj0 hk0 hk1 hk2 rfl (by decide) B1 m k1 _ rfl h1.own _ (some ⟨u.heap.size, 0, none⟩) 1 1 ([.int .i64 (k : Int)]) rfl (by simp) rfl S2b.out O2.out M2.out N2.out hbu2.size ?_
              intro B2 k2 u3 h2
              have hbu3 := hbu2.trans (h2.turned.below hbu2.size (fun j hj => (hF1.out j hj).1))
              have hF2 := hidp (own_fp h2.own)
              have S3b := hidp (S3.out.below hbu3)
              refine hK.out _ _ ?_ (fun hHeld => ?_)
              · exact trivial
              clear hK K
              try simp only [Act.put, List.setIfInBounds_toArray, List.set_cons_zero, List.set_cons_succ, List.getElem_toArray, List.getElem_cons_zero, List.getElem_cons_succ]
              refine wpAnyH_ready (rs := [10]) (by kernel_rfl) (by simp) ?_
              refine AllReadyH.cons rfl (fun K hK => ?_) AllReadyH.nil
              refine step_app2 _ rfl (.tmp 44) (.tmp 47) 22 rfl u.heap.size 3 j0 _ 1 8 Try.underlying22 hj0 hk0 hk1 hk2 rfl (by decide) B2 (m + 1) k2 _ rfl h2.own _ (A1) (k - m) (d - m) ((Zs.drop m).map (Value.int .i64)) rfl P3.out L3.out S3b.out O3.out M3.out N3.out hbu3.size ?_
              intro B3 k3 u4 h3
              have hbu4 := hbu3.trans (h3.turned.below hbu3.size (fun j hj => (hF2.out j hj).1))
              refine hK.out _ _ ?_ (fun hHeld => ?_)
              · exact trivial
              clear hK K
              try simp only [Act.put, List.setIfInBounds_toArray, List.set_cons_zero, List.set_cons_succ, List.getElem_toArray, List.getElem_cons_zero, List.getElem_cons_succ]
              refine wpAnyH_take (i := 11) (v := ?_) rfl (by kernel_rfl) (by kernel_rfl) (by kernel_rfl) (fun _ _ _ h => h) (Or.inl ⟨by rfl, ?_⟩) (by assumption) ?_
              rotate_left 1
              · ((intro w hSw; (try dsimp only at hSw); go_simp); (try with_reducible rfl))
              simp only [Act.put, List.setIfInBounds_toArray, List.set_cons_zero, List.set_cons_succ, List.getElem_toArray, List.getElem_cons_zero, List.getElem_cons_succ]
              refine wpAnyH_done (by kernel_rfl) ?_ _
              have own3 := h3.own
              rw [show (Zs.take m).map (Value.int .i64) ++ [Value.int .i64 (k : Int)] ++ (Zs.drop m).map (Value.int .i64) = (Zs.take m ++ (k : Int) :: Zs.drop m).map (Value.int .i64) by simp, ← Hput.out] at own3
              have HE : Hid (m + 1 + (k - m) = k + 1) := hidp (by omega)
              rw [HE.out] at own3
              have cap3 := h3.cap
              rw [HE.out] at cap3
              have o5 : OwnN v.heap.size u4 B3 (k + 1) k3 ((isort (itsN tasks (k + 1))).map (·.2)) := OwnN.low ⟨own3, by rw [List.length_map, isort_len, itsN_len], cap3, fun e => by have := h3.nil e; omega⟩ Hb3.out.size
              have hb5 : Below v.heap.size v u4 := Hb3.out.trans (hbu4.mono Hb3.out.size)
              clear own3 h1 h2 h3 hbu2 hbu3 hbu4 hHeld
              go_wp2_with fail
              go_roundg (tasks.length - k - 1)
              case measure => omega
              case rel => exact ⟨k + 1, B3, k3, by omega, by go_num, by rw [HE.out], o5, hb5, fun e => by omega⟩
    · obtain rfl : k = tasks.length := by omega
      go_wp2_with fail
      go_ret
      have HE : ((isort (itsN tasks tasks.length)).map (·.2)) = ordL tasks := rfl
      rw [HE] at o
      exact ⟨D, d, rfl, o.low (by have := HSV.out; omega), hbw.trans (hb.mono hbw.size)⟩
end Go.Proofs.Ytnfkebdbfflhdaa
