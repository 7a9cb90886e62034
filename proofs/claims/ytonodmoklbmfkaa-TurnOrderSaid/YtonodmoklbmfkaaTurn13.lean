/- turn: the reference's First. Printed by tools/turn/turn13.py. -/
import Derived.Test.YtonodmoklbmfkaaTurn12
import Derived.Test.YtonodmoklbmfkaaTurn5
import Derived.Deep.RegionHeld3
namespace Go.Proofs.Ytonodmoklbmfkaa
open Go.ChangeShapes Go.WideShapes Go.ChangeAt Go.RowKit
set_option linter.unusedVariables false
set_option linter.unusedSimpArgs false
theorem sortW_take (l : List WhoM) {m : Nat} (h : m < l.length) : sortW (l.take (m + 1)) = insW (sortW (l.take m)) (l.getD m default) := by
  rw [List.take_succ_eq_append_getElem h, sortW_snoc]; simp [List.getD, h]
theorem lies_own {w : World} {B : Nat} {A : Option Addr} {n c : Nat} {S : List WhoM} (h : OwnW B w A n c S) : Lies w.heap.size w A (wtc S) := by
  have := h.own
  have e := h.len
  subst e
  exact Lies.of_own this
theorem lies_tk {B : Nat} {w : World} {A : Option Addr} {S : List WhoM} (h : Lies B w A (wtc S)) (t : Nat) : Lies B w A (wtc (S.take t)) := by
  have e : wtc (S.take t) = (wtc S).take (wtc (S.take t)).length := by
    have h2 : wtc S = wtc (S.take t) ++ wtc (S.drop t) := by rw [← wtc_append, List.take_append_drop]
    rw [h2]; simp
  rw [e]; exact h.take _
theorem lies_dp0 {B : Nat} {w : World} {A : Option Addr} {S : List WhoM} (h : S.length = 0) : Lies B w A (wtc (S.drop 0)) := by
  rw [List.eq_nil_of_length_eq_zero h]; exact .inl rfl
theorem lies_dp {B g c t : Nat} {w : World} {S : List WhoM} (h : Lies B w (some ⟨g, 0, none⟩) (wtc S)) (ht : t ≤ S.length) (hc : S.length ≤ c) : Lies B w (if c = t then some ⟨g, 0, none⟩ else some ⟨g, t * 3, none⟩) (wtc (S.drop t)) := by
  split
  · rw [List.drop_eq_nil_of_le (by omega)]; exact .inl rfl
  · have := h.drop (t * 3)
    rw [wtc_drop, Nat.zero_add] at this
    exact this
theorem who_lit (w : World) (x : WhoM) : Lies (w.alloc (.cells #[.int .i64 x.task, .int .i64 x.prio, .int .i64 x.boost] 23)).heap.size (w.alloc (.cells #[.int .i64 x.task, .int .i64 x.prio, .int .i64 x.boost] 23)) (some ⟨w.heap.size, 0, none⟩) (wtc [x]) := by
  have := who_new w (wtc [x]) 23
  simpa [wtc] using this
theorem Lies.turned0 {w w' : World} {A : Option Addr} {cs : List Value} (h : Lies w.heap.size w A cs) (ht : Turned (fp none) w w') : Lies w'.heap.size w' A cs :=
  (h.below (ht.below (Nat.le_refl _) (by simp [fp]))).mono ht.size
theorem own_low {w : World} {B B' : Nat} {e : TypeId} {size n c : Nat} {A : Option Addr} {xs : List Value} (h : w.ownsRow B e size (.slice A n c) n xs) (hB : B' ≤ B) : w.ownsRow B' e size (.slice A n c) n xs := by
  refine ⟨h.1, ?_⟩
  rcases h.2 with ⟨hv, hx⟩ | ⟨g, cap, cur, hv, hb, hr⟩
  · exact .inl ⟨hv, hx⟩
  · exact .inr ⟨g, cap, cur, hv, Nat.le_trans hB hb, hr⟩
theorem fit_put {zs : List WhoM} : ∀ u ∈ wtc zs, u.oneCell' = true := wtc_one zs
set_option maxHeartbeats 8000000 in
set_option maxRecDepth 100000 in
theorem rfirst_any (A0 : Option Addr) (c0 : Nat) (l : List WhoM) (k : Int) (w : World) (h : WhosOk w A0 c0 l) (hl : l.length ≤ 40) : Calls Try.prog 10 #[.slice A0 l.length c0, .int .i64 k] w (FirstPost w (firstV l k)) := by
  obtain ⟨i0, hi0, hy0, hy1, hy2⟩ := info_parts infoWho
  obtain ⟨i1, hi1, hz0, hz1, hz2⟩ := info_parts infoNum
  have HW := hidp h.wf
  have HA := hidp (whos_lie h.lies)
  obtain ⟨n, hn⟩ : ∃ n, l.length = n := ⟨_, rfl⟩
  have Hn := hidp hn
  rw [hn] at hl ⊢
  have e0 : OwnW w.heap.size w none 0 0 (sortW (l.take 0)) := by simpa [sortW] using OwnW.empty w.heap.size w
  have hb0 := Below.refl w.heap.size w
  clear h hn
  go_enter Try.func10, Try.ntmps10
  go_wp2
  go_loopg [5, 6] n (fun gg a i wr => ∃ (m c : Nat) (A : Option Addr), m + gg = n ∧ i = .int .i64 m ∧ a = .slice A m c ∧ (m = 0 → A = none ∧ c = 0) ∧ OwnW w.heap.size wr A m c (sortW (l.take m)) ∧ Below w.heap.size w wr)
  case atStart => exact ⟨0, 0, none, by omega, rfl, rfl, fun _ => ⟨rfl, rfl⟩, e0, hb0⟩
  case round =>
    clear e0 hb0
    obtain ⟨m, c, A, hm, rfl, rfl, hz, ho, hbr⟩ := hrel
    obtain ⟨wo, rfl⟩ : ∃ x, x = wr := ⟨_, rfl⟩
    have Hm := hidp hm
    have wm : IntKind.i64.wrap ((m : Int) + 1) = (m : Int) + 1 := IntWalk.i64_in _ (by omega)
    have HO := hidp ho
    have HBR := hidp hbr
    have HZ := hidp hz
    by_cases hlt : m < n
    · obtain ⟨b0, o0, rfl, hcx⟩ := HA.out.resolve_left (by intro e; have := Hn.out; rw [e] at this; simp at this; omega)
      obtain ⟨x, Hx⟩ : ∃ x, Hid (l.getD m default = x) := ⟨_, hidp rfl⟩
      have hml : m < l.length := by rw [Hn.out]; exact hlt
      have cx := hcx m hml
      rw [Hx.out] at cx
      have k2 := Keeps2 hbr
      have HC : Hid (WhoCells wo b0 (o0 + m * 3) x) := hidp ⟨k2 _ _ cx.1, k2 _ _ cx.2.1, k2 _ _ cx.2.2⟩
      have hwx : x.wf := HW.out x (by rw [← Hx.out]; simp [List.getD, hml])
      obtain ⟨S, HS⟩ : ∃ S, Hid (sortW (l.take m) = S) := ⟨_, hidp rfl⟩
      rw [HS.out] at HO
      have HSl : Hid (S.length = m) := hidp (by rw [← HS.out, sortW_len, List.length_take]; omega)
      have HwS : Hid (∀ y ∈ S, y.wf) := hidp (fun y hy => HW.out y (by rw [← HS.out] at hy; exact List.mem_of_mem_take ((sortW_perm _).mem_iff.1 hy)))
      have HN : Hid (sortW (l.take (m + 1)) = insW S x) := hidp (by rw [sortW_take l hml, HS.out, Hx.out])
      have mI : (m : Int) < (n : Int) := by omega
      have m0 : (0 : Int) ≤ (m : Int) := by omega
      have hmn : m < 40 := by omega
      have hbq := Below.refl wo.heap.size wo
      have Hq0 : Hid (∀ y ∈ S.drop m, aheadB x y = true) := hidp (by rw [List.drop_eq_nil_of_le (by rw [HSl.out]; exact Nat.le_refl _)]; simp)
      clear hcx hml cx k2 hz ho hbr hm hlt
      go_wp2
      go_loopg [7] m (fun g2 a w5 => ∃ t : Nat, a = .int .i64 (t : Int) ∧ t = g2 ∧ t ≤ m ∧ Hid (∀ y ∈ S.drop t, aheadB x y = true) ∧ Below wo.heap.size wo w5)
      case atStart => exact ⟨m, rfl, rfl, Nat.le_refl _, Hq0, hbq⟩
      case round =>
        clear hbq Hq0
        obtain ⟨t, rfl, htg, htm, Hq, hb5⟩ := hrel
        have HB5 := hidp hb5
        by_cases hm0 : m = 0
        · obtain ⟨rfl, rfl⟩ := HZ.out hm0
          have ht0 : t = 0 := by omega
          subst hm0
          subst ht0
          have hI : ¬ (0 : Int) < 0 := by omega
          have hn0 : 0 < n := by omega
          have HIN : Hid (insW S x = S.take 0 ++ [x] ++ S.drop 0) := hidp (by
            have e := List.eq_nil_of_length_eq_zero HSl.out
            rw [e]; rfl)
          clear hb5 htg htm
          go_wp2
          go_quiet (fail)
          have hz5 := below_drewN HB5.out nq
          generalize wr.drewN nq = wz at *
          have X5 : Hid (wz.cell? ⟨b0, o0, none⟩ = some (.int .i64 x.task) ∧ wz.cell? ⟨b0, o0 + 1, none⟩ = some (.int .i64 x.prio) ∧ wz.cell? ⟨b0, o0 + 2, none⟩ = some (.int .i64 x.boost)) := by
            have h1 := Keeps2 hz5 _ _ HC.out.1
            have h2 := Keeps2 hz5 _ _ HC.out.2.1
            have h3 := Keeps2 hz5 _ _ HC.out.2.2
            simp only [Nat.zero_mul, Nat.add_zero] at h1 h2 h3
            exact hidp ⟨h1, h2, h3⟩
          have HBW : Hid (Below w.heap.size w wz) := hidp (HBR.out.trans (hz5.mono HBR.out.size))
          have HSZ : Hid (w.heap.size ≤ wz.heap.size) := hidp HBW.out.size
          have HLI : Hid (Lies wz.heap.size wz none (wtc S)) := hidp (by rw [List.eq_nil_of_length_eq_zero HSl.out]; exact .inl rfl)
          clear hz5
          go_wp2
          have sx : wz.cell? ⟨b0, o0, none⟩ = some (.int .i64 x.task) ∧ wz.cell? ⟨b0, o0 + 1, none⟩ = some (.int .i64 x.prio) ∧ wz.cell? ⟨b0, o0 + 2, none⟩ = some (.int .i64 x.boost) := X5.out
          have sxd : wz.drew.cell? ⟨b0, o0, none⟩ = some (.int .i64 x.task) ∧ wz.drew.cell? ⟨b0, o0 + 1, none⟩ = some (.int .i64 x.prio) ∧ wz.drew.cell? ⟨b0, o0 + 2, none⟩ = some (.int .i64 x.boost) := sx
          have bd : Below wz.heap.size wz wz.drew := below_drewN (Below.refl _ _) 1
          have Q1 : Hid ((none : Option Addr) = none → 0 = 0 ∧ 0 = 0) := hidp (by simp)
          have L1 : Hid ((wtc (S.take 0)).length = 0 * 3) := hidp (by rw [wtc_len, List.length_take]; have := HSl.out; omega)
          have S1 : Hid (Lies wz.heap.size wz none (wtc (S.take 0))) := hidp (lies_tk HLI.out _)
          have O1 := hidp (wtc_one (S.take 0))
          have N1 : Hid (0 + 0 ≤ maxLen) := hidp (by unfold maxLen; omega)
          have T1 : Hid ((0 + 0) * 24 ≤ 140737488355328) := hidp (by omega)
          have N2 : Hid (0 + 1 ≤ maxLen) := hidp (by unfold maxLen; omega)
          have T2 : Hid ((0 + 1) * 24 ≤ 140737488355328) := hidp (by omega)
          have L2 : Hid ((wtc [x]).length = 1 * 3) := hidp (by rw [wtc_len]; rfl)
          have O2 := hidp (wtc_one [x])
          have L3 : Hid ((wtc (S.drop 0)).length = 0 * 3) := hidp (by rw [wtc_len, List.length_drop]; have := HSl.out; omega)
          have S3 : Hid (Lies wz.heap.size wz none (wtc (S.drop 0))) := hidp (lies_dp0 (by have := HSl.out; simpa using this))
          have O3 := hidp (wtc_one (S.drop 0))
          have Q3 : Hid ((none : Option Addr) = none → 0 = 0 ∧ 0 = 0) := hidp (by simp)
          have N3 : Hid (0 + 1 + 0 ≤ maxLen) := hidp (by unfold maxLen; omega)
          have T3 : Hid ((0 + 1 + 0) * 24 ≤ 140737488355328) := hidp (by omega)
          have BD := hidp bd
          clear bd
          refine wp_region_held_drew (S := fun w' => w'.cell? ⟨b0, o0, none⟩ = some (.int .i64 x.task) ∧ w'.cell? ⟨b0, o0 + 1, none⟩ = some (.int .i64 x.prio) ∧ w'.cell? ⟨b0, o0 + 2, none⟩ = some (.int .i64 x.boost)) (by kernel_rfl) ?_ (fun hHeld => ?_)
          · exact sxd
          refine wpAnyH_take (i := 0) (v := ?_) rfl (by kernel_rfl) (by kernel_rfl) (by kernel_rfl) (fun _ _ _ h => h) (Or.inl ⟨by rfl, ?_⟩) (by assumption) ?_
          rotate_left 1
          · ((intro w hSw; (try dsimp only at hSw); go_simp); (try with_reducible rfl))
          simp only [Act.put, List.setIfInBounds_toArray, List.set_cons_zero, List.set_cons_succ, List.getElem_toArray, List.getElem_cons_zero, List.getElem_cons_succ]
          refine wpAnyH_take (i := 1) (v := ?_) rfl (by kernel_rfl) (by kernel_rfl) (by kernel_rfl) (fun _ _ _ h => h) (Or.inl ⟨by rfl, ?_⟩) (by assumption) ?_
          rotate_left 1
          · ((intro w hSw; (try dsimp only at hSw); go_simp); (try with_reducible rfl))
          simp only [Act.put, List.setIfInBounds_toArray, List.set_cons_zero, List.set_cons_succ, List.getElem_toArray, List.getElem_cons_zero, List.getElem_cons_succ]
          refine wpAnyH_take (i := 2) (v := ?_) rfl (by kernel_rfl) (by kernel_rfl) (by kernel_rfl) (fun _ _ _ h => h) (Or.inl ⟨by rfl, ?_⟩) (by assumption) ?_
          rotate_left 1
          · ((intro w hSw; (try dsimp only at hSw); go_simp); (try with_reducible rfl))
          simp only [Act.put, List.setIfInBounds_toArray, List.set_cons_zero, List.set_cons_succ, List.getElem_toArray, List.getElem_cons_zero, List.getElem_cons_succ]
          refine wpAnyH_take (i := 4) (v := ?_) rfl (by kernel_rfl) (by kernel_rfl) (by kernel_rfl) (fun _ _ _ h => h) (Or.inl ⟨by rfl, ?_⟩) (by assumption) ?_
          rotate_left 1
          · ((intro w hSw; (try dsimp only at hSw); go_simp); (try with_reducible rfl))
          simp only [Act.put, List.setIfInBounds_toArray, List.set_cons_zero, List.set_cons_succ, List.getElem_toArray, List.getElem_cons_zero, List.getElem_cons_succ]
          refine wpAnyH_take (i := 5) (v := ?_) rfl (by kernel_rfl) (by kernel_rfl) (by kernel_rfl) (fun _ _ _ h => h) (Or.inl ⟨by rfl, ?_⟩) (by assumption) ?_
          rotate_left 1
          · ((intro w hSw; (try dsimp only at hSw); go_simp); (try with_reducible rfl))
          simp only [Act.put, List.setIfInBounds_toArray, List.set_cons_zero, List.set_cons_succ, List.getElem_toArray, List.getElem_cons_zero, List.getElem_cons_succ]
          refine wpAnyH_take (i := 6) (v := ?_) rfl (by kernel_rfl) (by kernel_rfl) (by kernel_rfl) (fun _ _ _ h => h) (Or.inl ⟨by rfl, ?_⟩) (by assumption) ?_
          rotate_left 1
          · ((intro w hSw; (try dsimp only at hSw); go_simp); (try with_reducible rfl))
          simp only [Act.put, List.setIfInBounds_toArray, List.set_cons_zero, List.set_cons_succ, List.getElem_toArray, List.getElem_cons_zero, List.getElem_cons_succ]
          refine wpAnyH_take (i := 7) (v := ?_) rfl (by kernel_rfl) (by kernel_rfl) (by kernel_rfl) (fun _ _ _ h => h) (Or.inl ⟨by rfl, ?_⟩) (by assumption) ?_
          rotate_left 1
          · ((intro w hSw; (try dsimp only at hSw); go_simp); (try with_reducible rfl))
          simp only [Act.put, List.setIfInBounds_toArray, List.set_cons_zero, List.set_cons_succ, List.getElem_toArray, List.getElem_cons_zero, List.getElem_cons_succ]
          refine wpAnyH_take (i := 10) (v := ?_) rfl (by kernel_rfl) (by kernel_rfl) (by kernel_rfl) (fun _ _ _ h => h) (Or.inl ⟨by rfl, ?_⟩) (by assumption) ?_
          rotate_left 1
          · ((intro w hSw; (try dsimp only at hSw); go_simp); (try with_reducible rfl))
          simp only [Act.put, List.setIfInBounds_toArray, List.set_cons_zero, List.set_cons_succ, List.getElem_toArray, List.getElem_cons_zero, List.getElem_cons_succ]
          refine wpAnyH_take (i := 11) (v := ?_) rfl (by kernel_rfl) (by kernel_rfl) (by kernel_rfl) (fun _ _ _ h => h) (Or.inl ⟨by rfl, ?_⟩) (by assumption) ?_
          rotate_left 1
          · ((intro w hSw; (try dsimp only at hSw); go_simp); (try with_reducible rfl))
          simp only [Act.put, List.setIfInBounds_toArray, List.set_cons_zero, List.set_cons_succ, List.getElem_toArray, List.getElem_cons_zero, List.getElem_cons_succ]
          refine wpAnyH_take (i := 12) (v := ?_) rfl (by kernel_rfl) (by kernel_rfl) (by kernel_rfl) (fun _ _ _ h => h) (Or.inl ⟨by rfl, ?_⟩) (by assumption) ?_
          rotate_left 1
          · ((intro w hSw; (try dsimp only at hSw); go_simp); (try with_reducible rfl))
          simp only [Act.put, List.setIfInBounds_toArray, List.set_cons_zero, List.set_cons_succ, List.getElem_toArray, List.getElem_cons_zero, List.getElem_cons_succ]
          refine wpAnyH_ready (rs := [3, 8]) (by kernel_rfl) (by simp) ?_
          refine AllReadyH.cons rfl (fun K hK => ?_) (AllReadyH.cons rfl (fun K hK => ?_) AllReadyH.nil)
          · have q0 := BD.out
            have Z1 : wz.heap.size ≤ (wz.drew).heap.size := (q0).size
            refine step_app2 (wz.drew) rfl (.const (.slice none 0 0)) (.tmp 36) 24 rfl wz.heap.size 23 i0 _ 3 24 Try.underlying24 hi0 hy0 hy1 hy2 rfl (by decide) none 0 0 [] rfl (World.ownsRow_nil _ _ _ _) wz.heap.size none 0 0 (wtc (S.take 0)) rfl Q1.out L1.out (S1.out.below (q0)) O1.out N1.out T1.out Z1 ?_
            intro B1 k1 v1 happ
            rw [Nat.zero_add, List.nil_append] at happ
            simp only [Nat.zero_add]
            have q1 : Below wz.heap.size wz v1 := (q0).trans (happ.turned.below Z1 (by simp [fp]))
            refine hK.out _ _ ?_ (fun hHeld => ?_)
            · exact (And.intro ((Keeps2 q1) _ _ sx.1) (And.intro ((Keeps2 q1) _ _ sx.2.1) ((Keeps2 q1) _ _ sx.2.2)))
            clear hK K
            try simp only [Act.put, List.setIfInBounds_toArray, List.set_cons_zero, List.set_cons_succ, List.getElem_toArray, List.getElem_cons_zero, List.getElem_cons_succ]
            refine wpAnyH_ready (rs := [8]) (by kernel_rfl) (by simp) ?_
            refine AllReadyH.cons rfl (fun K hK => ?_) AllReadyH.nil
            go_simp
            have q1a : Below wz.heap.size wz (v1.alloc (.cells #[.int .i64 x.task, .int .i64 x.prio, .int .i64 x.boost] 23)) := q1.alloc q1.size _
            refine hK.out _ _ ?_ (fun hHeld => ?_)
            · exact (And.intro ((Keeps2 q1a) _ _ sx.1) (And.intro ((Keeps2 q1a) _ _ sx.2.1) ((Keeps2 q1a) _ _ sx.2.2)))
            clear hK K
            try simp only [Act.put, List.setIfInBounds_toArray, List.set_cons_zero, List.set_cons_succ, List.getElem_toArray, List.getElem_cons_zero, List.getElem_cons_succ]
            have TL := (Turned.refl [] v1).alloc (.cells #[.int .i64 x.task, .int .i64 x.prio, .int .i64 x.boost] 23)
            have own1 : (v1.alloc (.cells #[.int .i64 x.task, .int .i64 x.prio, .int .i64 x.boost] 23)).ownsRow wz.heap.size 23 3 (.slice B1 0 k1) 0 (wtc (S.take 0)) := own_turned happ.own TL (by simp)
            have F1 := own_fp own1
            have Z2 : wz.heap.size ≤ (v1.alloc (.cells #[.int .i64 x.task, .int .i64 x.prio, .int .i64 x.boost] 23)).heap.size := (q1a).size
            refine wpAnyH_ready (rs := [9]) (by kernel_rfl) (by simp) ?_
            refine AllReadyH.cons rfl (fun K hK => ?_) AllReadyH.nil
            refine step_app2 (v1.alloc (.cells #[.int .i64 x.task, .int .i64 x.prio, .int .i64 x.boost] 23)) rfl (.tmp 37) (.tmp 42) 24 rfl wz.heap.size 23 i0 _ 3 24 Try.underlying24 hi0 hy0 hy1 hy2 rfl (by decide) B1 0 k1 (wtc (S.take 0)) rfl own1 (v1.alloc (.cells #[.int .i64 x.task, .int .i64 x.prio, .int .i64 x.boost] 23)).heap.size (some ⟨v1.heap.size, 0, none⟩) 1 1 (wtc [x]) rfl (by simp) L2.out (who_lit v1 x) O2.out N2.out T2.out Z2 ?_
            intro B2 k2 v2 happ2
            have q2 : Below wz.heap.size wz v2 := (q1a).trans (happ2.turned.below Z2 (fun k hk => (F1 k hk).1))
            refine hK.out _ _ ?_ (fun hHeld => ?_)
            · exact (And.intro ((Keeps2 q2) _ _ sx.1) (And.intro ((Keeps2 q2) _ _ sx.2.1) ((Keeps2 q2) _ _ sx.2.2)))
            clear hK K
            try simp only [Act.put, List.setIfInBounds_toArray, List.set_cons_zero, List.set_cons_succ, List.getElem_toArray, List.getElem_cons_zero, List.getElem_cons_succ]
            have Z3 : wz.heap.size ≤ v2.heap.size := q2.size
            have F2 := own_fp happ2.own
            refine wpAnyH_ready (rs := [13]) (by kernel_rfl) (by simp) ?_
            refine AllReadyH.cons rfl (fun K hK => ?_) AllReadyH.nil
            refine step_app2 v2 rfl (.tmp 43) (.tmp 46) 24 rfl wz.heap.size 23 i0 _ 3 24 Try.underlying24 hi0 hy0 hy1 hy2 rfl (by decide) B2 (0 + 1) k2 (wtc (S.take 0) ++ wtc [x]) rfl happ2.own wz.heap.size none 0 0 (wtc (S.drop 0)) rfl Q3.out L3.out (S3.out.below q2) O3.out N3.out T3.out Z3 ?_
            intro B3 k3 v3 happ3
            have q3 : Below wz.heap.size wz v3 := q2.trans (happ3.turned.below Z3 (fun k hk => (F2 k hk).1))
            refine hK.out _ _ ?_ (fun hHeld => ?_)
            · exact (And.intro ((Keeps2 q3) _ _ sx.1) (And.intro ((Keeps2 q3) _ _ sx.2.1) ((Keeps2 q3) _ _ sx.2.2)))
            clear hK K
            try simp only [Act.put, List.setIfInBounds_toArray, List.set_cons_zero, List.set_cons_succ, List.getElem_toArray, List.getElem_cons_zero, List.getElem_cons_succ]
            refine wpAnyH_take (i := 14) (v := ?_) rfl (by kernel_rfl) (by kernel_rfl) (by kernel_rfl) (fun _ _ _ h => h) (Or.inl ⟨by rfl, ?_⟩) (by assumption) ?_
            rotate_left 1
            · ((intro w hSw; (try dsimp only at hSw); go_simp); (try with_reducible rfl))
            simp only [Act.put, List.setIfInBounds_toArray, List.set_cons_zero, List.set_cons_succ, List.getElem_toArray, List.getElem_cons_zero, List.getElem_cons_succ]
            refine wpAnyH_done (by kernel_rfl) ?_ _
            have hfin : 0 + 1 + 0 = 0 + 1 := by omega
            have HF : Hid (OwnW w.heap.size v3 B3 (0 + 1) k3 (sortW (l.take (0 + 1))) ∧ Below w.heap.size w v3) := hidp (by
              have hs : sortW (l.take (0 + 1)) = S.take 0 ++ [x] ++ S.drop 0 := by rw [HN.out]; exact HIN.out
              have hc := happ3.cap
              have hO := happ3.own
              have hni := happ3.nil
              rw [hfin] at hc hO hni
              refine ⟨⟨?_, ?_, hc, hni⟩, ?_⟩
              · rw [hs, wtc_append, wtc_append]; exact own_low hO HSZ.out
              · rw [sortW_len, List.length_take]; have := Hn.out; have := Hm.out; omega
              · exact HBW.out.trans (q3.mono HSZ.out))
            try simp only [hfin]
            clear happ happ2 happ3 own1 F1 F2 q1 q2 q3 Z1 Z2 Z3 hHeld sx sxd
            go_wp2
            go_roundg (n - (0 + 1))
            case measure => have := Hm.out; omega
            case rel => exact ⟨0 + 1, k3, B3, by have := Hm.out; omega, by go_num, rfl, by intro h; omega, HF.out.1, HF.out.2⟩
          · have q0 : Below wz.heap.size wz (wz.drew.alloc (.cells #[.int .i64 x.task, .int .i64 x.prio, .int .i64 x.boost] 23)) := BD.out.alloc BD.out.size _
            go_simp
            refine hK.out _ _ ?_ (fun hHeld => ?_)
            · exact (And.intro ((Keeps2 q0) _ _ sx.1) (And.intro ((Keeps2 q0) _ _ sx.2.1) ((Keeps2 q0) _ _ sx.2.2)))
            clear hK K
            try simp only [Act.put, List.setIfInBounds_toArray, List.set_cons_zero, List.set_cons_succ, List.getElem_toArray, List.getElem_cons_zero, List.getElem_cons_succ]
            refine wpAnyH_ready (rs := [3]) (by kernel_rfl) (by simp) ?_
            refine AllReadyH.cons rfl (fun K hK => ?_) AllReadyH.nil
            have Z1 : wz.heap.size ≤ (wz.drew.alloc (.cells #[.int .i64 x.task, .int .i64 x.prio, .int .i64 x.boost] 23)).heap.size := (q0).size
            refine step_app2 (wz.drew.alloc (.cells #[.int .i64 x.task, .int .i64 x.prio, .int .i64 x.boost] 23)) rfl (.const (.slice none 0 0)) (.tmp 36) 24 rfl wz.heap.size 23 i0 _ 3 24 Try.underlying24 hi0 hy0 hy1 hy2 rfl (by decide) none 0 0 [] rfl (World.ownsRow_nil _ _ _ _) wz.heap.size none 0 0 (wtc (S.take 0)) rfl Q1.out L1.out (S1.out.below (q0)) O1.out N1.out T1.out Z1 ?_
            intro B1 k1 v1 happ
            rw [Nat.zero_add, List.nil_append] at happ
            simp only [Nat.zero_add]
            have q1 : Below wz.heap.size wz v1 := (q0).trans (happ.turned.below Z1 (by simp [fp]))
            refine hK.out _ _ ?_ (fun hHeld => ?_)
            · exact (And.intro ((Keeps2 q1) _ _ sx.1) (And.intro ((Keeps2 q1) _ _ sx.2.1) ((Keeps2 q1) _ _ sx.2.2)))
            clear hK K
            try simp only [Act.put, List.setIfInBounds_toArray, List.set_cons_zero, List.set_cons_succ, List.getElem_toArray, List.getElem_cons_zero, List.getElem_cons_succ]
            have own1 : (v1).ownsRow wz.heap.size 23 3 (.slice B1 0 k1) 0 (wtc (S.take 0)) := happ.own
            have F1 := own_fp own1
            have Z2 : wz.heap.size ≤ (v1).heap.size := (q1).size
            refine wpAnyH_ready (rs := [9]) (by kernel_rfl) (by simp) ?_
            refine AllReadyH.cons rfl (fun K hK => ?_) AllReadyH.nil
            refine step_app2 (v1) rfl (.tmp 37) (.tmp 42) 24 rfl wz.heap.size 23 i0 _ 3 24 Try.underlying24 hi0 hy0 hy1 hy2 rfl (by decide) B1 0 k1 (wtc (S.take 0)) rfl own1 (v1).heap.size (some ⟨wz.heap.size, 0, none⟩) 1 1 (wtc [x]) rfl (by simp) L2.out ((who_lit wz.drew x).turned0 happ.turned) O2.out N2.out T2.out Z2 ?_
            intro B2 k2 v2 happ2
            have q2 : Below wz.heap.size wz v2 := (q1).trans (happ2.turned.below Z2 (fun k hk => (F1 k hk).1))
            refine hK.out _ _ ?_ (fun hHeld => ?_)
            · exact (And.intro ((Keeps2 q2) _ _ sx.1) (And.intro ((Keeps2 q2) _ _ sx.2.1) ((Keeps2 q2) _ _ sx.2.2)))
            clear hK K
            try simp only [Act.put, List.setIfInBounds_toArray, List.set_cons_zero, List.set_cons_succ, List.getElem_toArray, List.getElem_cons_zero, List.getElem_cons_succ]
            have Z3 : wz.heap.size ≤ v2.heap.size := q2.size
            have F2 := own_fp happ2.own
            refine wpAnyH_ready (rs := [13]) (by kernel_rfl) (by simp) ?_
            refine AllReadyH.cons rfl (fun K hK => ?_) AllReadyH.nil
            refine step_app2 v2 rfl (.tmp 43) (.tmp 46) 24 rfl wz.heap.size 23 i0 _ 3 24 Try.underlying24 hi0 hy0 hy1 hy2 rfl (by decide) B2 (0 + 1) k2 (wtc (S.take 0) ++ wtc [x]) rfl happ2.own wz.heap.size none 0 0 (wtc (S.drop 0)) rfl Q3.out L3.out (S3.out.below q2) O3.out N3.out T3.out Z3 ?_
            intro B3 k3 v3 happ3
            have q3 : Below wz.heap.size wz v3 := q2.trans (happ3.turned.below Z3 (fun k hk => (F2 k hk).1))
            refine hK.out _ _ ?_ (fun hHeld => ?_)
            · exact (And.intro ((Keeps2 q3) _ _ sx.1) (And.intro ((Keeps2 q3) _ _ sx.2.1) ((Keeps2 q3) _ _ sx.2.2)))
            clear hK K
            try simp only [Act.put, List.setIfInBounds_toArray, List.set_cons_zero, List.set_cons_succ, List.getElem_toArray, List.getElem_cons_zero, List.getElem_cons_succ]
            refine wpAnyH_take (i := 14) (v := ?_) rfl (by kernel_rfl) (by kernel_rfl) (by kernel_rfl) (fun _ _ _ h => h) (Or.inl ⟨by rfl, ?_⟩) (by assumption) ?_
            rotate_left 1
            · ((intro w hSw; (try dsimp only at hSw); go_simp); (try with_reducible rfl))
            simp only [Act.put, List.setIfInBounds_toArray, List.set_cons_zero, List.set_cons_succ, List.getElem_toArray, List.getElem_cons_zero, List.getElem_cons_succ]
            refine wpAnyH_done (by kernel_rfl) ?_ _
            have hfin : 0 + 1 + 0 = 0 + 1 := by omega
            have HF : Hid (OwnW w.heap.size v3 B3 (0 + 1) k3 (sortW (l.take (0 + 1))) ∧ Below w.heap.size w v3) := hidp (by
              have hs : sortW (l.take (0 + 1)) = S.take 0 ++ [x] ++ S.drop 0 := by rw [HN.out]; exact HIN.out
              have hc := happ3.cap
              have hO := happ3.own
              have hni := happ3.nil
              rw [hfin] at hc hO hni
              refine ⟨⟨?_, ?_, hc, hni⟩, ?_⟩
              · rw [hs, wtc_append, wtc_append]; exact own_low hO HSZ.out
              · rw [sortW_len, List.length_take]; have := Hn.out; have := Hm.out; omega
              · exact HBW.out.trans (q3.mono HSZ.out))
            try simp only [hfin]
            clear happ happ2 happ3 own1 F1 F2 q1 q2 q3 Z1 Z2 Z3 hHeld sx sxd
            go_wp2
            go_roundg (n - (0 + 1))
            case measure => have := Hm.out; omega
            case rel => exact ⟨0 + 1, k3, B3, by have := Hm.out; omega, by go_num, rfl, by intro h; omega, HF.out.1, HF.out.2⟩
        · obtain ⟨g, rfl, hg1, hg2⟩ := who_own HO.out.own (by omega)
          have hcap := HO.out.cap
          unfold maxLen at hcap
          obtain ⟨hcm, hcM⟩ := hcap
          have htmI : (t : Int) ≤ (m : Int) := by omega
          have ht0I : (0 : Int) ≤ (t : Int) := by omega
          have htc : t ≤ c := by omega
          have htcI : (t : Int) ≤ (c : Int) := by omega
          have hmcI : (m : Int) ≤ (c : Int) := by omega
          have hn0 : m < n := by omega
          by_cases ht0 : t = 0
          · have hI : ¬ (0 : Int) < (t : Int) := by omega
            have hI1 : ¬ 0 < t := by omega
            have hI2 : decide (0 < t) = false := by simpa using ht0
            have hI3 : decide ((0 : Int) < (t : Int)) = false := by simpa using ht0
            have HIN : Hid (insW S x = S.take t ++ [x] ++ S.drop t) := hidp (by
              have := insW_at (x := x) (p := S.take t) (q := S.drop t) Hq.out (by rw [ht0]; simp)
              rw [List.take_append_drop] at this
              rw [this]; simp)
            have HT0 := hidp ht0
            have HTM := hidp htm
            clear hb5 htg ht0 hm0 hg1 hg2
            go_wp2
            go_quiet (fail)
            have hz5 := below_drewN HB5.out nq
            generalize wr.drewN nq = wz at *
            have X5 : Hid (wz.cell? ⟨b0, o0 + m * 3, none⟩ = some (.int .i64 x.task) ∧ wz.cell? ⟨b0, o0 + m * 3 + 1, none⟩ = some (.int .i64 x.prio) ∧ wz.cell? ⟨b0, o0 + m * 3 + 2, none⟩ = some (.int .i64 x.boost)) := hidp ⟨Keeps2 hz5 _ _ HC.out.1, Keeps2 hz5 _ _ HC.out.2.1, Keeps2 hz5 _ _ HC.out.2.2⟩
            have HBW : Hid (Below w.heap.size w wz) := hidp (HBR.out.trans (hz5.mono HBR.out.size))
            have HSZ : Hid (w.heap.size ≤ wz.heap.size) := hidp HBW.out.size
            have HLI : Hid (Lies wz.heap.size wz (some ⟨g, 0, none⟩) (wtc S)) := hidp (lies_own (HO.out.turned (Turned.of_below hz5 []) (by simp)))
            clear hz5
            go_wp2
            have sx : wz.cell? ⟨b0, o0 + m * 3, none⟩ = some (.int .i64 x.task) ∧ wz.cell? ⟨b0, o0 + m * 3 + 1, none⟩ = some (.int .i64 x.prio) ∧ wz.cell? ⟨b0, o0 + m * 3 + 2, none⟩ = some (.int .i64 x.boost) := X5.out
            have sxd : wz.drew.cell? ⟨b0, o0 + m * 3, none⟩ = some (.int .i64 x.task) ∧ wz.drew.cell? ⟨b0, o0 + m * 3 + 1, none⟩ = some (.int .i64 x.prio) ∧ wz.drew.cell? ⟨b0, o0 + m * 3 + 2, none⟩ = some (.int .i64 x.boost) := sx
            have bd : Below wz.heap.size wz wz.drew := below_drewN (Below.refl _ _) 1
            have Q1 : Hid (((some ⟨g, 0, none⟩) : Option Addr) = none → t = 0 ∧ c = 0) := hidp (by simp)
            have L1 : Hid ((wtc (S.take t)).length = t * 3) := hidp (by rw [wtc_len, List.length_take]; have := HSl.out; omega)
            have S1 : Hid (Lies wz.heap.size wz (some ⟨g, 0, none⟩) (wtc (S.take t))) := hidp (lies_tk HLI.out _)
            have O1 := hidp (wtc_one (S.take t))
            have N1 : Hid (0 + t ≤ maxLen) := hidp (by unfold maxLen; omega)
            have T1 : Hid ((0 + t) * 24 ≤ 140737488355328) := hidp (by omega)
            have N2 : Hid (t + 1 ≤ maxLen) := hidp (by unfold maxLen; omega)
            have T2 : Hid ((t + 1) * 24 ≤ 140737488355328) := hidp (by omega)
            have L2 : Hid ((wtc [x]).length = 1 * 3) := hidp (by rw [wtc_len]; rfl)
            have O2 := hidp (wtc_one [x])
            have L3 : Hid ((wtc (S.drop t)).length = (m - t) * 3) := hidp (by rw [wtc_len, List.length_drop]; have := HSl.out; omega)
            have S3 : Hid (Lies wz.heap.size wz (if c = t then some ⟨g, 0, none⟩ else some ⟨g, t * 3, none⟩) (wtc (S.drop t))) := hidp (lies_dp HLI.out (by have := HSl.out; omega) (by have := HSl.out; have := HO.out.cap; omega))
            have O3 := hidp (wtc_one (S.drop t))
            have Q3 : Hid (((if c = t then some ⟨g, 0, none⟩ else some ⟨g, t * 3, none⟩) : Option Addr) = none → (m - t) = 0 ∧ (c - t) = 0) := hidp (by split <;> simp)
            have N3 : Hid (t + 1 + (m - t) ≤ maxLen) := hidp (by unfold maxLen; omega)
            have T3 : Hid ((t + 1 + (m - t)) * 24 ≤ 140737488355328) := hidp (by omega)
            have BD := hidp bd
            clear bd
            refine wp_region_held_drew (S := fun w' => w'.cell? ⟨b0, o0 + m * 3, none⟩ = some (.int .i64 x.task) ∧ w'.cell? ⟨b0, o0 + m * 3 + 1, none⟩ = some (.int .i64 x.prio) ∧ w'.cell? ⟨b0, o0 + m * 3 + 2, none⟩ = some (.int .i64 x.boost)) (by kernel_rfl) ?_ (fun hHeld => ?_)
            · exact sxd
            refine wpAnyH_take (i := 0) (v := ?_) rfl (by kernel_rfl) (by kernel_rfl) (by kernel_rfl) (fun _ _ _ h => h) (Or.inl ⟨by rfl, ?_⟩) (by assumption) ?_
            rotate_left 1
            · ((intro w hSw; (try dsimp only at hSw); go_simp); (try with_reducible rfl))
            simp only [Act.put, List.setIfInBounds_toArray, List.set_cons_zero, List.set_cons_succ, List.getElem_toArray, List.getElem_cons_zero, List.getElem_cons_succ]
            refine wpAnyH_take (i := 1) (v := ?_) rfl (by kernel_rfl) (by kernel_rfl) (by kernel_rfl) (fun _ _ _ h => h) (Or.inl ⟨by rfl, ?_⟩) (by assumption) ?_
            rotate_left 1
            · ((intro w hSw; (try dsimp only at hSw); go_simp); (try with_reducible rfl))
            simp only [Act.put, List.setIfInBounds_toArray, List.set_cons_zero, List.set_cons_succ, List.getElem_toArray, List.getElem_cons_zero, List.getElem_cons_succ]
            refine wpAnyH_take (i := 2) (v := ?_) rfl (by kernel_rfl) (by kernel_rfl) (by kernel_rfl) (fun _ _ _ h => h) (Or.inl ⟨by rfl, ?_⟩) (by assumption) ?_
            rotate_left 1
            · ((intro w hSw; (try dsimp only at hSw); go_simp); (try with_reducible rfl))
            simp only [Act.put, List.setIfInBounds_toArray, List.set_cons_zero, List.set_cons_succ, List.getElem_toArray, List.getElem_cons_zero, List.getElem_cons_succ]
            refine wpAnyH_take (i := 4) (v := ?_) rfl (by kernel_rfl) (by kernel_rfl) (by kernel_rfl) (fun _ _ _ h => h) (Or.inl ⟨by rfl, ?_⟩) (by assumption) ?_
            rotate_left 1
            · ((intro w hSw; (try dsimp only at hSw); go_simp); (try with_reducible rfl))
            simp only [Act.put, List.setIfInBounds_toArray, List.set_cons_zero, List.set_cons_succ, List.getElem_toArray, List.getElem_cons_zero, List.getElem_cons_succ]
            refine wpAnyH_take (i := 5) (v := ?_) rfl (by kernel_rfl) (by kernel_rfl) (by kernel_rfl) (fun _ _ _ h => h) (Or.inl ⟨by rfl, ?_⟩) (by assumption) ?_
            rotate_left 1
            · ((intro w hSw; (try dsimp only at hSw); go_simp); (try with_reducible rfl))
            simp only [Act.put, List.setIfInBounds_toArray, List.set_cons_zero, List.set_cons_succ, List.getElem_toArray, List.getElem_cons_zero, List.getElem_cons_succ]
            refine wpAnyH_take (i := 6) (v := ?_) rfl (by kernel_rfl) (by kernel_rfl) (by kernel_rfl) (fun _ _ _ h => h) (Or.inl ⟨by rfl, ?_⟩) (by assumption) ?_
            rotate_left 1
            · ((intro w hSw; (try dsimp only at hSw); go_simp); (try with_reducible rfl))
            simp only [Act.put, List.setIfInBounds_toArray, List.set_cons_zero, List.set_cons_succ, List.getElem_toArray, List.getElem_cons_zero, List.getElem_cons_succ]
            refine wpAnyH_take (i := 7) (v := ?_) rfl (by kernel_rfl) (by kernel_rfl) (by kernel_rfl) (fun _ _ _ h => h) (Or.inl ⟨by rfl, ?_⟩) (by assumption) ?_
            rotate_left 1
            · ((intro w hSw; (try dsimp only at hSw); go_simp); (try with_reducible rfl))
            simp only [Act.put, List.setIfInBounds_toArray, List.set_cons_zero, List.set_cons_succ, List.getElem_toArray, List.getElem_cons_zero, List.getElem_cons_succ]
            refine wpAnyH_take (i := 10) (v := ?_) rfl (by kernel_rfl) (by kernel_rfl) (by kernel_rfl) (fun _ _ _ h => h) (Or.inl ⟨by rfl, ?_⟩) (by assumption) ?_
            rotate_left 1
            · ((intro w hSw; (try dsimp only at hSw); go_simp); (try with_reducible rfl))
            simp only [Act.put, List.setIfInBounds_toArray, List.set_cons_zero, List.set_cons_succ, List.getElem_toArray, List.getElem_cons_zero, List.getElem_cons_succ]
            refine wpAnyH_take (i := 11) (v := ?_) rfl (by kernel_rfl) (by kernel_rfl) (by kernel_rfl) (fun _ _ _ h => h) (Or.inl ⟨by rfl, ?_⟩) (by assumption) ?_
            rotate_left 1
            · ((intro w hSw; (try dsimp only at hSw); go_simp); (try with_reducible rfl))
            simp only [Act.put, List.setIfInBounds_toArray, List.set_cons_zero, List.set_cons_succ, List.getElem_toArray, List.getElem_cons_zero, List.getElem_cons_succ]
            refine wpAnyH_take (i := 12) (v := ?_) rfl (by kernel_rfl) (by kernel_rfl) (by kernel_rfl) (fun _ _ _ h => h) (Or.inl ⟨by rfl, ?_⟩) (by assumption) ?_
            rotate_left 1
            · ((intro w hSw; (try dsimp only at hSw); go_simp); (try with_reducible rfl))
            simp only [Act.put, List.setIfInBounds_toArray, List.set_cons_zero, List.set_cons_succ, List.getElem_toArray, List.getElem_cons_zero, List.getElem_cons_succ]
            refine wpAnyH_ready (rs := [3, 8]) (by kernel_rfl) (by simp) ?_
            refine AllReadyH.cons rfl (fun K hK => ?_) (AllReadyH.cons rfl (fun K hK => ?_) AllReadyH.nil)
            · have q0 := BD.out
              have Z1 : wz.heap.size ≤ (wz.drew).heap.size := (q0).size
              refine step_app2 (wz.drew) rfl (.const (.slice none 0 0)) (.tmp 36) 24 rfl wz.heap.size 23 i0 _ 3 24 Try.underlying24 hi0 hy0 hy1 hy2 rfl (by decide) none 0 0 [] rfl (World.ownsRow_nil _ _ _ _) wz.heap.size (some ⟨g, 0, none⟩) t c (wtc (S.take t)) rfl Q1.out L1.out (S1.out.below (q0)) O1.out N1.out T1.out Z1 ?_
              intro B1 k1 v1 happ
              rw [Nat.zero_add, List.nil_append] at happ
              simp only [Nat.zero_add]
              have q1 : Below wz.heap.size wz v1 := (q0).trans (happ.turned.below Z1 (by simp [fp]))
              refine hK.out _ _ ?_ (fun hHeld => ?_)
              · exact (And.intro ((Keeps2 q1) _ _ sx.1) (And.intro ((Keeps2 q1) _ _ sx.2.1) ((Keeps2 q1) _ _ sx.2.2)))
              clear hK K
              try simp only [Act.put, List.setIfInBounds_toArray, List.set_cons_zero, List.set_cons_succ, List.getElem_toArray, List.getElem_cons_zero, List.getElem_cons_succ]
              refine wpAnyH_ready (rs := [8]) (by kernel_rfl) (by simp) ?_
              refine AllReadyH.cons rfl (fun K hK => ?_) AllReadyH.nil
              go_simp
              have q1a : Below wz.heap.size wz (v1.alloc (.cells #[.int .i64 x.task, .int .i64 x.prio, .int .i64 x.boost] 23)) := q1.alloc q1.size _
              refine hK.out _ _ ?_ (fun hHeld => ?_)
              · exact (And.intro ((Keeps2 q1a) _ _ sx.1) (And.intro ((Keeps2 q1a) _ _ sx.2.1) ((Keeps2 q1a) _ _ sx.2.2)))
              clear hK K
              try simp only [Act.put, List.setIfInBounds_toArray, List.set_cons_zero, List.set_cons_succ, List.getElem_toArray, List.getElem_cons_zero, List.getElem_cons_succ]
              have TL := (Turned.refl [] v1).alloc (.cells #[.int .i64 x.task, .int .i64 x.prio, .int .i64 x.boost] 23)
              have own1 : (v1.alloc (.cells #[.int .i64 x.task, .int .i64 x.prio, .int .i64 x.boost] 23)).ownsRow wz.heap.size 23 3 (.slice B1 t k1) t (wtc (S.take t)) := own_turned happ.own TL (by simp)
              have F1 := own_fp own1
              have Z2 : wz.heap.size ≤ (v1.alloc (.cells #[.int .i64 x.task, .int .i64 x.prio, .int .i64 x.boost] 23)).heap.size := (q1a).size
              refine wpAnyH_ready (rs := [9]) (by kernel_rfl) (by simp) ?_
              refine AllReadyH.cons rfl (fun K hK => ?_) AllReadyH.nil
              refine step_app2 (v1.alloc (.cells #[.int .i64 x.task, .int .i64 x.prio, .int .i64 x.boost] 23)) rfl (.tmp 37) (.tmp 42) 24 rfl wz.heap.size 23 i0 _ 3 24 Try.underlying24 hi0 hy0 hy1 hy2 rfl (by decide) B1 t k1 (wtc (S.take t)) rfl own1 (v1.alloc (.cells #[.int .i64 x.task, .int .i64 x.prio, .int .i64 x.boost] 23)).heap.size (some ⟨v1.heap.size, 0, none⟩) 1 1 (wtc [x]) rfl (by simp) L2.out (who_lit v1 x) O2.out N2.out T2.out Z2 ?_
              intro B2 k2 v2 happ2
              have q2 : Below wz.heap.size wz v2 := (q1a).trans (happ2.turned.below Z2 (fun k hk => (F1 k hk).1))
              refine hK.out _ _ ?_ (fun hHeld => ?_)
              · exact (And.intro ((Keeps2 q2) _ _ sx.1) (And.intro ((Keeps2 q2) _ _ sx.2.1) ((Keeps2 q2) _ _ sx.2.2)))
              clear hK K
              try simp only [Act.put, List.setIfInBounds_toArray, List.set_cons_zero, List.set_cons_succ, List.getElem_toArray, List.getElem_cons_zero, List.getElem_cons_succ]
              have Z3 : wz.heap.size ≤ v2.heap.size := q2.size
              have F2 := own_fp happ2.own
              refine wpAnyH_ready (rs := [13]) (by kernel_rfl) (by simp) ?_
              refine AllReadyH.cons rfl (fun K hK => ?_) AllReadyH.nil
              refine step_app2 v2 rfl (.tmp 43) (.tmp 46) 24 rfl wz.heap.size 23 i0 _ 3 24 Try.underlying24 hi0 hy0 hy1 hy2 rfl (by decide) B2 (t + 1) k2 (wtc (S.take t) ++ wtc [x]) rfl happ2.own wz.heap.size (if c = t then some ⟨g, 0, none⟩ else some ⟨g, t * 3, none⟩) (m - t) (c - t) (wtc (S.drop t)) rfl Q3.out L3.out (S3.out.below q2) O3.out N3.out T3.out Z3 ?_
              intro B3 k3 v3 happ3
              have q3 : Below wz.heap.size wz v3 := q2.trans (happ3.turned.below Z3 (fun k hk => (F2 k hk).1))
              refine hK.out _ _ ?_ (fun hHeld => ?_)
              · exact (And.intro ((Keeps2 q3) _ _ sx.1) (And.intro ((Keeps2 q3) _ _ sx.2.1) ((Keeps2 q3) _ _ sx.2.2)))
              clear hK K
              try simp only [Act.put, List.setIfInBounds_toArray, List.set_cons_zero, List.set_cons_succ, List.getElem_toArray, List.getElem_cons_zero, List.getElem_cons_succ]
              refine wpAnyH_take (i := 14) (v := ?_) rfl (by kernel_rfl) (by kernel_rfl) (by kernel_rfl) (fun _ _ _ h => h) (Or.inl ⟨by rfl, ?_⟩) (by assumption) ?_
              rotate_left 1
              · ((intro w hSw; (try dsimp only at hSw); go_simp); (try with_reducible rfl))
              simp only [Act.put, List.setIfInBounds_toArray, List.set_cons_zero, List.set_cons_succ, List.getElem_toArray, List.getElem_cons_zero, List.getElem_cons_succ]
              refine wpAnyH_done (by kernel_rfl) ?_ _
              have hfin : t + 1 + (m - t) = m + 1 := by omega
              have HF : Hid (OwnW w.heap.size v3 B3 (m + 1) k3 (sortW (l.take (m + 1))) ∧ Below w.heap.size w v3) := hidp (by
                have hs : sortW (l.take (m + 1)) = S.take t ++ [x] ++ S.drop t := by rw [HN.out]; exact HIN.out
                have hc := happ3.cap
                have hO := happ3.own
                have hni := happ3.nil
                rw [hfin] at hc hO hni
                refine ⟨⟨?_, ?_, hc, hni⟩, ?_⟩
                · rw [hs, wtc_append, wtc_append]; exact own_low hO HSZ.out
                · rw [sortW_len, List.length_take]; have := Hn.out; have := Hm.out; omega
                · exact HBW.out.trans (q3.mono HSZ.out))
              try simp only [hfin]
              clear happ happ2 happ3 own1 F1 F2 q1 q2 q3 Z1 Z2 Z3 hHeld sx sxd
              generalize (if c = t then some (⟨g, 0, none⟩ : Addr) else some ⟨g, t * 3, none⟩) = A2
              go_wp2
              go_roundg (n - (m + 1))
              case measure => have := Hm.out; omega
              case rel => exact ⟨m + 1, k3, B3, by have := Hm.out; omega, by go_num, rfl, by intro h; omega, HF.out.1, HF.out.2⟩
            · have q0 : Below wz.heap.size wz (wz.drew.alloc (.cells #[.int .i64 x.task, .int .i64 x.prio, .int .i64 x.boost] 23)) := BD.out.alloc BD.out.size _
              go_simp
              refine hK.out _ _ ?_ (fun hHeld => ?_)
              · exact (And.intro ((Keeps2 q0) _ _ sx.1) (And.intro ((Keeps2 q0) _ _ sx.2.1) ((Keeps2 q0) _ _ sx.2.2)))
              clear hK K
              try simp only [Act.put, List.setIfInBounds_toArray, List.set_cons_zero, List.set_cons_succ, List.getElem_toArray, List.getElem_cons_zero, List.getElem_cons_succ]
              refine wpAnyH_ready (rs := [3]) (by kernel_rfl) (by simp) ?_
              refine AllReadyH.cons rfl (fun K hK => ?_) AllReadyH.nil
              have Z1 : wz.heap.size ≤ (wz.drew.alloc (.cells #[.int .i64 x.task, .int .i64 x.prio, .int .i64 x.boost] 23)).heap.size := (q0).size
              refine step_app2 (wz.drew.alloc (.cells #[.int .i64 x.task, .int .i64 x.prio, .int .i64 x.boost] 23)) rfl (.const (.slice none 0 0)) (.tmp 36) 24 rfl wz.heap.size 23 i0 _ 3 24 Try.underlying24 hi0 hy0 hy1 hy2 rfl (by decide) none 0 0 [] rfl (World.ownsRow_nil _ _ _ _) wz.heap.size (some ⟨g, 0, none⟩) t c (wtc (S.take t)) rfl Q1.out L1.out (S1.out.below (q0)) O1.out N1.out T1.out Z1 ?_
              intro B1 k1 v1 happ
              rw [Nat.zero_add, List.nil_append] at happ
              simp only [Nat.zero_add]
              have q1 : Below wz.heap.size wz v1 := (q0).trans (happ.turned.below Z1 (by simp [fp]))
              refine hK.out _ _ ?_ (fun hHeld => ?_)
              · exact (And.intro ((Keeps2 q1) _ _ sx.1) (And.intro ((Keeps2 q1) _ _ sx.2.1) ((Keeps2 q1) _ _ sx.2.2)))
              clear hK K
              try simp only [Act.put, List.setIfInBounds_toArray, List.set_cons_zero, List.set_cons_succ, List.getElem_toArray, List.getElem_cons_zero, List.getElem_cons_succ]
              have own1 : (v1).ownsRow wz.heap.size 23 3 (.slice B1 t k1) t (wtc (S.take t)) := happ.own
              have F1 := own_fp own1
              have Z2 : wz.heap.size ≤ (v1).heap.size := (q1).size
              refine wpAnyH_ready (rs := [9]) (by kernel_rfl) (by simp) ?_
              refine AllReadyH.cons rfl (fun K hK => ?_) AllReadyH.nil
              refine step_app2 (v1) rfl (.tmp 37) (.tmp 42) 24 rfl wz.heap.size 23 i0 _ 3 24 Try.underlying24 hi0 hy0 hy1 hy2 rfl (by decide) B1 t k1 (wtc (S.take t)) rfl own1 (v1).heap.size (some ⟨wz.heap.size, 0, none⟩) 1 1 (wtc [x]) rfl (by simp) L2.out ((who_lit wz.drew x).turned0 happ.turned) O2.out N2.out T2.out Z2 ?_
              intro B2 k2 v2 happ2
              have q2 : Below wz.heap.size wz v2 := (q1).trans (happ2.turned.below Z2 (fun k hk => (F1 k hk).1))
              refine hK.out _ _ ?_ (fun hHeld => ?_)
              · exact (And.intro ((Keeps2 q2) _ _ sx.1) (And.intro ((Keeps2 q2) _ _ sx.2.1) ((Keeps2 q2) _ _ sx.2.2)))
              clear hK K
              try simp only [Act.put, List.setIfInBounds_toArray, List.set_cons_zero, List.set_cons_succ, List.getElem_toArray, List.getElem_cons_zero, List.getElem_cons_succ]
              have Z3 : wz.heap.size ≤ v2.heap.size := q2.size
              have F2 := own_fp happ2.own
              refine wpAnyH_ready (rs := [13]) (by kernel_rfl) (by simp) ?_
              refine AllReadyH.cons rfl (fun K hK => ?_) AllReadyH.nil
              refine step_app2 v2 rfl (.tmp 43) (.tmp 46) 24 rfl wz.heap.size 23 i0 _ 3 24 Try.underlying24 hi0 hy0 hy1 hy2 rfl (by decide) B2 (t + 1) k2 (wtc (S.take t) ++ wtc [x]) rfl happ2.own wz.heap.size (if c = t then some ⟨g, 0, none⟩ else some ⟨g, t * 3, none⟩) (m - t) (c - t) (wtc (S.drop t)) rfl Q3.out L3.out (S3.out.below q2) O3.out N3.out T3.out Z3 ?_
              intro B3 k3 v3 happ3
              have q3 : Below wz.heap.size wz v3 := q2.trans (happ3.turned.below Z3 (fun k hk => (F2 k hk).1))
              refine hK.out _ _ ?_ (fun hHeld => ?_)
              · exact (And.intro ((Keeps2 q3) _ _ sx.1) (And.intro ((Keeps2 q3) _ _ sx.2.1) ((Keeps2 q3) _ _ sx.2.2)))
              clear hK K
              try simp only [Act.put, List.setIfInBounds_toArray, List.set_cons_zero, List.set_cons_succ, List.getElem_toArray, List.getElem_cons_zero, List.getElem_cons_succ]
              refine wpAnyH_take (i := 14) (v := ?_) rfl (by kernel_rfl) (by kernel_rfl) (by kernel_rfl) (fun _ _ _ h => h) (Or.inl ⟨by rfl, ?_⟩) (by assumption) ?_
              rotate_left 1
              · ((intro w hSw; (try dsimp only at hSw); go_simp); (try with_reducible rfl))
              simp only [Act.put, List.setIfInBounds_toArray, List.set_cons_zero, List.set_cons_succ, List.getElem_toArray, List.getElem_cons_zero, List.getElem_cons_succ]
              refine wpAnyH_done (by kernel_rfl) ?_ _
              have hfin : t + 1 + (m - t) = m + 1 := by omega
              have HF : Hid (OwnW w.heap.size v3 B3 (m + 1) k3 (sortW (l.take (m + 1))) ∧ Below w.heap.size w v3) := hidp (by
                have hs : sortW (l.take (m + 1)) = S.take t ++ [x] ++ S.drop t := by rw [HN.out]; exact HIN.out
                have hc := happ3.cap
                have hO := happ3.own
                have hni := happ3.nil
                rw [hfin] at hc hO hni
                refine ⟨⟨?_, ?_, hc, hni⟩, ?_⟩
                · rw [hs, wtc_append, wtc_append]; exact own_low hO HSZ.out
                · rw [sortW_len, List.length_take]; have := Hn.out; have := Hm.out; omega
                · exact HBW.out.trans (q3.mono HSZ.out))
              try simp only [hfin]
              clear happ happ2 happ3 own1 F1 F2 q1 q2 q3 Z1 Z2 Z3 hHeld sx sxd
              generalize (if c = t then some (⟨g, 0, none⟩ : Addr) else some ⟨g, t * 3, none⟩) = A2
              go_wp2
              go_roundg (n - (m + 1))
              case measure => have := Hm.out; omega
              case rel => exact ⟨m + 1, k3, B3, by have := Hm.out; omega, by go_num, rfl, by intro h; omega, HF.out.1, HF.out.2⟩
          · obtain ⟨t', ht'⟩ : ∃ t', t = t' + 1 := ⟨t - 1, by omega⟩
            have Ht' := hidp ht'
            have hI : (0 : Int) < (t : Int) := by omega
            have hI1 : 0 < t := by omega
            have hI2 : decide (0 < t) = true := by simpa using hI1
            have hI3 : decide ((0 : Int) < (t : Int)) = true := by simpa using hI1
            have hw1 : IntKind.i64.wrap ((t : Int) - 1) = (t' : Int) := by rw [IntWalk.i64_in _ (by omega)]; omega
            have hk0 : (0 : Int) ≤ (t' : Int) := by omega
            have hk1 : (t' : Int) < (m : Int) := by omega
            have htS : t' < S.length := by rw [HSl.out]; omega
            obtain ⟨y, Hy⟩ : ∃ y, Hid (S.getD t' default = y) := ⟨_, hidp rfl⟩
            have hwy : y.wf := HwS.out y (by rw [← Hy.out]; simp [List.getD, htS])
            have cy := (HO.out.turned (Turned.of_below hb5 []) (by simp)).at_ htS
            rw [Hy.out] at cy
            obtain ⟨bv, Hbv⟩ : ∃ bv, Hid (aheadB x y = bv) := ⟨_, hidp rfl⟩
            have hz5 := below_drewN hb5 1
            have HTM := hidp htm
            have hmn2 : m < n := hn0
            have hS : wr.drew.cell? ⟨b0, o0 + m * 3, none⟩ = some (.int .i64 x.task) ∧ wr.drew.cell? ⟨b0, o0 + m * 3 + 1, none⟩ = some (.int .i64 x.prio) ∧ wr.drew.cell? ⟨b0, o0 + m * 3 + 2, none⟩ = some (.int .i64 x.boost) ∧ wr.drew.cell? ⟨g, t' * 3, none⟩ = some (.int .i64 y.task) ∧ wr.drew.cell? ⟨g, t' * 3 + 1, none⟩ = some (.int .i64 y.prio) ∧ wr.drew.cell? ⟨g, t' * 3 + 2, none⟩ = some (.int .i64 y.boost) := ⟨Keeps2 hb5 _ _ HC.out.1, Keeps2 hb5 _ _ HC.out.2.1, Keeps2 hb5 _ _ HC.out.2.2, cy.1, cy.2.1, cy.2.2⟩
            have HTG := hidp htg
            clear hb5 htg ht' hm0 hg1 hg2 ht0 cy htS
            go_wp2
            go_region_held3 (fun w' => w'.cell? ⟨b0, o0 + m * 3, none⟩ = some (.int .i64 x.task) ∧ w'.cell? ⟨b0, o0 + m * 3 + 1, none⟩ = some (.int .i64 x.prio) ∧ w'.cell? ⟨b0, o0 + m * 3 + 2, none⟩ = some (.int .i64 x.boost) ∧ w'.cell? ⟨g, t' * 3, none⟩ = some (.int .i64 y.task) ∧ w'.cell? ⟨g, t' * 3 + 1, none⟩ = some (.int .i64 y.prio) ∧ w'.cell? ⟨g, t' * 3 + 2, none⟩ = some (.int .i64 y.boost)) (exact hS)
              (first
                | (go_at_call 7; refine (rahead_any x y _ hwx hwy).mono ?_; rintro e wz ⟨rfl, hb3⟩; have k3 := Keeps2 hb3; have hS := And.intro (k3 _ _ hS.1) (And.intro (k3 _ _ hS.2.1) (And.intro (k3 _ _ hS.2.2.1) (And.intro (k3 _ _ hS.2.2.2.1) (And.intro (k3 _ _ hS.2.2.2.2.1) (k3 _ _ hS.2.2.2.2.2))))); have hz5 := hz5.trans (hb3.mono hz5.size); clear k3; rw [Hbv.out]))
            clear hS
            cases bv
            · have HIN : Hid (insW S x = S.take t ++ [x] ++ S.drop t) := hidp (by
                have hlt : t' < S.length := by have := HSl.out; have := HTM.out; have := Ht'.out; omega
                have := insW_at (x := x) (p := S.take t) (q := S.drop t) Hq.out (by
                  intro z hz
                  rw [Ht'.out, List.take_succ_eq_append_getElem hlt, List.getLast?_append] at hz
                  simp at hz
                  have hy := Hy.out
                  rw [List.getD_eq_getElem?_getD, List.getElem?_eq_getElem hlt, Option.getD_some] at hy
                  rw [← hz, hy]
                  exact Hbv.out)
                rw [List.take_append_drop] at this
                rw [this]; simp)
              have X5 : Hid (wz.cell? ⟨b0, o0 + m * 3, none⟩ = some (.int .i64 x.task) ∧ wz.cell? ⟨b0, o0 + m * 3 + 1, none⟩ = some (.int .i64 x.prio) ∧ wz.cell? ⟨b0, o0 + m * 3 + 2, none⟩ = some (.int .i64 x.boost)) := hidp ⟨Keeps2 hz5 _ _ HC.out.1, Keeps2 hz5 _ _ HC.out.2.1, Keeps2 hz5 _ _ HC.out.2.2⟩
              have HBW : Hid (Below w.heap.size w wz) := hidp (HBR.out.trans (hz5.mono HBR.out.size))
              have HSZ : Hid (w.heap.size ≤ wz.heap.size) := hidp HBW.out.size
              have HLI : Hid (Lies wz.heap.size wz (some ⟨g, 0, none⟩) (wtc S)) := hidp (lies_own (HO.out.turned (Turned.of_below hz5 []) (by simp)))
              clear hz5
              go_wp2
              have sx : wz.cell? ⟨b0, o0 + m * 3, none⟩ = some (.int .i64 x.task) ∧ wz.cell? ⟨b0, o0 + m * 3 + 1, none⟩ = some (.int .i64 x.prio) ∧ wz.cell? ⟨b0, o0 + m * 3 + 2, none⟩ = some (.int .i64 x.boost) := X5.out
              have sxd : wz.drew.cell? ⟨b0, o0 + m * 3, none⟩ = some (.int .i64 x.task) ∧ wz.drew.cell? ⟨b0, o0 + m * 3 + 1, none⟩ = some (.int .i64 x.prio) ∧ wz.drew.cell? ⟨b0, o0 + m * 3 + 2, none⟩ = some (.int .i64 x.boost) := sx
              have bd : Below wz.heap.size wz wz.drew := below_drewN (Below.refl _ _) 1
              have Q1 : Hid (((some ⟨g, 0, none⟩) : Option Addr) = none → t = 0 ∧ c = 0) := hidp (by simp)
              have L1 : Hid ((wtc (S.take t)).length = t * 3) := hidp (by rw [wtc_len, List.length_take]; have := HSl.out; omega)
              have S1 : Hid (Lies wz.heap.size wz (some ⟨g, 0, none⟩) (wtc (S.take t))) := hidp (lies_tk HLI.out _)
              have O1 := hidp (wtc_one (S.take t))
              have N1 : Hid (0 + t ≤ maxLen) := hidp (by unfold maxLen; omega)
              have T1 : Hid ((0 + t) * 24 ≤ 140737488355328) := hidp (by omega)
              have N2 : Hid (t + 1 ≤ maxLen) := hidp (by unfold maxLen; omega)
              have T2 : Hid ((t + 1) * 24 ≤ 140737488355328) := hidp (by omega)
              have L2 : Hid ((wtc [x]).length = 1 * 3) := hidp (by rw [wtc_len]; rfl)
              have O2 := hidp (wtc_one [x])
              have L3 : Hid ((wtc (S.drop t)).length = (m - t) * 3) := hidp (by rw [wtc_len, List.length_drop]; have := HSl.out; omega)
              have S3 : Hid (Lies wz.heap.size wz (if c = t then some ⟨g, 0, none⟩ else some ⟨g, t * 3, none⟩) (wtc (S.drop t))) := hidp (lies_dp HLI.out (by have := HSl.out; omega) (by have := HSl.out; have := HO.out.cap; omega))
              have O3 := hidp (wtc_one (S.drop t))
              have Q3 : Hid (((if c = t then some ⟨g, 0, none⟩ else some ⟨g, t * 3, none⟩) : Option Addr) = none → (m - t) = 0 ∧ (c - t) = 0) := hidp (by split <;> simp)
              have N3 : Hid (t + 1 + (m - t) ≤ maxLen) := hidp (by unfold maxLen; omega)
              have T3 : Hid ((t + 1 + (m - t)) * 24 ≤ 140737488355328) := hidp (by omega)
              have BD := hidp bd
              clear bd
              refine wp_region_held_drew (S := fun w' => w'.cell? ⟨b0, o0 + m * 3, none⟩ = some (.int .i64 x.task) ∧ w'.cell? ⟨b0, o0 + m * 3 + 1, none⟩ = some (.int .i64 x.prio) ∧ w'.cell? ⟨b0, o0 + m * 3 + 2, none⟩ = some (.int .i64 x.boost)) (by kernel_rfl) ?_ (fun hHeld => ?_)
              · exact sxd
              refine wpAnyH_take (i := 0) (v := ?_) rfl (by kernel_rfl) (by kernel_rfl) (by kernel_rfl) (fun _ _ _ h => h) (Or.inl ⟨by rfl, ?_⟩) (by assumption) ?_
              rotate_left 1
              · ((intro w hSw; (try dsimp only at hSw); go_simp); (try with_reducible rfl))
              simp only [Act.put, List.setIfInBounds_toArray, List.set_cons_zero, List.set_cons_succ, List.getElem_toArray, List.getElem_cons_zero, List.getElem_cons_succ]
              refine wpAnyH_take (i := 1) (v := ?_) rfl (by kernel_rfl) (by kernel_rfl) (by kernel_rfl) (fun _ _ _ h => h) (Or.inl ⟨by rfl, ?_⟩) (by assumption) ?_
              rotate_left 1
              · ((intro w hSw; (try dsimp only at hSw); go_simp); (try with_reducible rfl))
              simp only [Act.put, List.setIfInBounds_toArray, List.set_cons_zero, List.set_cons_succ, List.getElem_toArray, List.getElem_cons_zero, List.getElem_cons_succ]
              refine wpAnyH_take (i := 2) (v := ?_) rfl (by kernel_rfl) (by kernel_rfl) (by kernel_rfl) (fun _ _ _ h => h) (Or.inl ⟨by rfl, ?_⟩) (by assumption) ?_
              rotate_left 1
              · ((intro w hSw; (try dsimp only at hSw); go_simp); (try with_reducible rfl))
              simp only [Act.put, List.setIfInBounds_toArray, List.set_cons_zero, List.set_cons_succ, List.getElem_toArray, List.getElem_cons_zero, List.getElem_cons_succ]
              refine wpAnyH_take (i := 4) (v := ?_) rfl (by kernel_rfl) (by kernel_rfl) (by kernel_rfl) (fun _ _ _ h => h) (Or.inl ⟨by rfl, ?_⟩) (by assumption) ?_
              rotate_left 1
              · ((intro w hSw; (try dsimp only at hSw); go_simp); (try with_reducible rfl))
              simp only [Act.put, List.setIfInBounds_toArray, List.set_cons_zero, List.set_cons_succ, List.getElem_toArray, List.getElem_cons_zero, List.getElem_cons_succ]
              refine wpAnyH_take (i := 5) (v := ?_) rfl (by kernel_rfl) (by kernel_rfl) (by kernel_rfl) (fun _ _ _ h => h) (Or.inl ⟨by rfl, ?_⟩) (by assumption) ?_
              rotate_left 1
              · ((intro w hSw; (try dsimp only at hSw); go_simp); (try with_reducible rfl))
              simp only [Act.put, List.setIfInBounds_toArray, List.set_cons_zero, List.set_cons_succ, List.getElem_toArray, List.getElem_cons_zero, List.getElem_cons_succ]
              refine wpAnyH_take (i := 6) (v := ?_) rfl (by kernel_rfl) (by kernel_rfl) (by kernel_rfl) (fun _ _ _ h => h) (Or.inl ⟨by rfl, ?_⟩) (by assumption) ?_
              rotate_left 1
              · ((intro w hSw; (try dsimp only at hSw); go_simp); (try with_reducible rfl))
              simp only [Act.put, List.setIfInBounds_toArray, List.set_cons_zero, List.set_cons_succ, List.getElem_toArray, List.getElem_cons_zero, List.getElem_cons_succ]
              refine wpAnyH_take (i := 7) (v := ?_) rfl (by kernel_rfl) (by kernel_rfl) (by kernel_rfl) (fun _ _ _ h => h) (Or.inl ⟨by rfl, ?_⟩) (by assumption) ?_
              rotate_left 1
              · ((intro w hSw; (try dsimp only at hSw); go_simp); (try with_reducible rfl))
              simp only [Act.put, List.setIfInBounds_toArray, List.set_cons_zero, List.set_cons_succ, List.getElem_toArray, List.getElem_cons_zero, List.getElem_cons_succ]
              refine wpAnyH_take (i := 10) (v := ?_) rfl (by kernel_rfl) (by kernel_rfl) (by kernel_rfl) (fun _ _ _ h => h) (Or.inl ⟨by rfl, ?_⟩) (by assumption) ?_
              rotate_left 1
              · ((intro w hSw; (try dsimp only at hSw); go_simp); (try with_reducible rfl))
              simp only [Act.put, List.setIfInBounds_toArray, List.set_cons_zero, List.set_cons_succ, List.getElem_toArray, List.getElem_cons_zero, List.getElem_cons_succ]
              refine wpAnyH_take (i := 11) (v := ?_) rfl (by kernel_rfl) (by kernel_rfl) (by kernel_rfl) (fun _ _ _ h => h) (Or.inl ⟨by rfl, ?_⟩) (by assumption) ?_
              rotate_left 1
              · ((intro w hSw; (try dsimp only at hSw); go_simp); (try with_reducible rfl))
              simp only [Act.put, List.setIfInBounds_toArray, List.set_cons_zero, List.set_cons_succ, List.getElem_toArray, List.getElem_cons_zero, List.getElem_cons_succ]
              refine wpAnyH_take (i := 12) (v := ?_) rfl (by kernel_rfl) (by kernel_rfl) (by kernel_rfl) (fun _ _ _ h => h) (Or.inl ⟨by rfl, ?_⟩) (by assumption) ?_
              rotate_left 1
              · ((intro w hSw; (try dsimp only at hSw); go_simp); (try with_reducible rfl))
              simp only [Act.put, List.setIfInBounds_toArray, List.set_cons_zero, List.set_cons_succ, List.getElem_toArray, List.getElem_cons_zero, List.getElem_cons_succ]
              refine wpAnyH_ready (rs := [3, 8]) (by kernel_rfl) (by simp) ?_
              refine AllReadyH.cons rfl (fun K hK => ?_) (AllReadyH.cons rfl (fun K hK => ?_) AllReadyH.nil)
              · have q0 := BD.out
                have Z1 : wz.heap.size ≤ (wz.drew).heap.size := (q0).size
                refine step_app2 (wz.drew) rfl (.const (.slice none 0 0)) (.tmp 36) 24 rfl wz.heap.size 23 i0 _ 3 24 Try.underlying24 hi0 hy0 hy1 hy2 rfl (by decide) none 0 0 [] rfl (World.ownsRow_nil _ _ _ _) wz.heap.size (some ⟨g, 0, none⟩) t c (wtc (S.take t)) rfl Q1.out L1.out (S1.out.below (q0)) O1.out N1.out T1.out Z1 ?_
                intro B1 k1 v1 happ
                rw [Nat.zero_add, List.nil_append] at happ
                simp only [Nat.zero_add]
                have q1 : Below wz.heap.size wz v1 := (q0).trans (happ.turned.below Z1 (by simp [fp]))
                refine hK.out _ _ ?_ (fun hHeld => ?_)
                · exact (And.intro ((Keeps2 q1) _ _ sx.1) (And.intro ((Keeps2 q1) _ _ sx.2.1) ((Keeps2 q1) _ _ sx.2.2)))
                clear hK K
                try simp only [Act.put, List.setIfInBounds_toArray, List.set_cons_zero, List.set_cons_succ, List.getElem_toArray, List.getElem_cons_zero, List.getElem_cons_succ]
                refine wpAnyH_ready (rs := [8]) (by kernel_rfl) (by simp) ?_
                refine AllReadyH.cons rfl (fun K hK => ?_) AllReadyH.nil
                go_simp
                have q1a : Below wz.heap.size wz (v1.alloc (.cells #[.int .i64 x.task, .int .i64 x.prio, .int .i64 x.boost] 23)) := q1.alloc q1.size _
                refine hK.out _ _ ?_ (fun hHeld => ?_)
                · exact (And.intro ((Keeps2 q1a) _ _ sx.1) (And.intro ((Keeps2 q1a) _ _ sx.2.1) ((Keeps2 q1a) _ _ sx.2.2)))
                clear hK K
                try simp only [Act.put, List.setIfInBounds_toArray, List.set_cons_zero, List.set_cons_succ, List.getElem_toArray, List.getElem_cons_zero, List.getElem_cons_succ]
                have TL := (Turned.refl [] v1).alloc (.cells #[.int .i64 x.task, .int .i64 x.prio, .int .i64 x.boost] 23)
                have own1 : (v1.alloc (.cells #[.int .i64 x.task, .int .i64 x.prio, .int .i64 x.boost] 23)).ownsRow wz.heap.size 23 3 (.slice B1 t k1) t (wtc (S.take t)) := own_turned happ.own TL (by simp)
                have F1 := own_fp own1
                have Z2 : wz.heap.size ≤ (v1.alloc (.cells #[.int .i64 x.task, .int .i64 x.prio, .int .i64 x.boost] 23)).heap.size := (q1a).size
                refine wpAnyH_ready (rs := [9]) (by kernel_rfl) (by simp) ?_
                refine AllReadyH.cons rfl (fun K hK => ?_) AllReadyH.nil
                refine step_app2 (v1.alloc (.cells #[.int .i64 x.task, .int .i64 x.prio, .int .i64 x.boost] 23)) rfl (.tmp 37) (.tmp 42) 24 rfl wz.heap.size 23 i0 _ 3 24 Try.underlying24 hi0 hy0 hy1 hy2 rfl (by decide) B1 t k1 (wtc (S.take t)) rfl own1 (v1.alloc (.cells #[.int .i64 x.task, .int .i64 x.prio, .int .i64 x.boost] 23)).heap.size (some ⟨v1.heap.size, 0, none⟩) 1 1 (wtc [x]) rfl (by simp) L2.out (who_lit v1 x) O2.out N2.out T2.out Z2 ?_
                intro B2 k2 v2 happ2
                have q2 : Below wz.heap.size wz v2 := (q1a).trans (happ2.turned.below Z2 (fun k hk => (F1 k hk).1))
                refine hK.out _ _ ?_ (fun hHeld => ?_)
                · exact (And.intro ((Keeps2 q2) _ _ sx.1) (And.intro ((Keeps2 q2) _ _ sx.2.1) ((Keeps2 q2) _ _ sx.2.2)))
                clear hK K
                try simp only [Act.put, List.setIfInBounds_toArray, List.set_cons_zero, List.set_cons_succ, List.getElem_toArray, List.getElem_cons_zero, List.getElem_cons_succ]
                have Z3 : wz.heap.size ≤ v2.heap.size := q2.size
                have F2 := own_fp happ2.own
                refine wpAnyH_ready (rs := [13]) (by kernel_rfl) (by simp) ?_
                refine AllReadyH.cons rfl (fun K hK => ?_) AllReadyH.nil
                refine step_app2 v2 rfl (.tmp 43) (.tmp 46) 24 rfl wz.heap.size 23 i0 _ 3 24 Try.underlying24 hi0 hy0 hy1 hy2 rfl (by decide) B2 (t + 1) k2 (wtc (S.take t) ++ wtc [x]) rfl happ2.own wz.heap.size (if c = t then some ⟨g, 0, none⟩ else some ⟨g, t * 3, none⟩) (m - t) (c - t) (wtc (S.drop t)) rfl Q3.out L3.out (S3.out.below q2) O3.out N3.out T3.out Z3 ?_
                intro B3 k3 v3 happ3
                have q3 : Below wz.heap.size wz v3 := q2.trans (happ3.turned.below Z3 (fun k hk => (F2 k hk).1))
                refine hK.out _ _ ?_ (fun hHeld => ?_)
                · exact (And.intro ((Keeps2 q3) _ _ sx.1) (And.intro ((Keeps2 q3) _ _ sx.2.1) ((Keeps2 q3) _ _ sx.2.2)))
                clear hK K
                try simp only [Act.put, List.setIfInBounds_toArray, List.set_cons_zero, List.set_cons_succ, List.getElem_toArray, List.getElem_cons_zero, List.getElem_cons_succ]
                refine wpAnyH_take (i := 14) (v := ?_) rfl (by kernel_rfl) (by kernel_rfl) (by kernel_rfl) (fun _ _ _ h => h) (Or.inl ⟨by rfl, ?_⟩) (by assumption) ?_
                rotate_left 1
                · ((intro w hSw; (try dsimp only at hSw); go_simp); (try with_reducible rfl))
                simp only [Act.put, List.setIfInBounds_toArray, List.set_cons_zero, List.set_cons_succ, List.getElem_toArray, List.getElem_cons_zero, List.getElem_cons_succ]
                refine wpAnyH_done (by kernel_rfl) ?_ _
                have hfin : t + 1 + (m - t) = m + 1 := by omega
                have HF : Hid (OwnW w.heap.size v3 B3 (m + 1) k3 (sortW (l.take (m + 1))) ∧ Below w.heap.size w v3) := hidp (by
                  have hs : sortW (l.take (m + 1)) = S.take t ++ [x] ++ S.drop t := by rw [HN.out]; exact HIN.out
                  have hc := happ3.cap
                  have hO := happ3.own
                  have hni := happ3.nil
                  rw [hfin] at hc hO hni
                  refine ⟨⟨?_, ?_, hc, hni⟩, ?_⟩
                  · rw [hs, wtc_append, wtc_append]; exact own_low hO HSZ.out
                  · rw [sortW_len, List.length_take]; have := Hn.out; have := Hm.out; omega
                  · exact HBW.out.trans (q3.mono HSZ.out))
                try simp only [hfin]
                clear happ happ2 happ3 own1 F1 F2 q1 q2 q3 Z1 Z2 Z3 hHeld sx sxd
                generalize (if c = t then some (⟨g, 0, none⟩ : Addr) else some ⟨g, t * 3, none⟩) = A2
                go_wp2
                go_roundg (n - (m + 1))
                case measure => have := Hm.out; omega
                case rel => exact ⟨m + 1, k3, B3, by have := Hm.out; omega, by go_num, rfl, by intro h; omega, HF.out.1, HF.out.2⟩
              · have q0 : Below wz.heap.size wz (wz.drew.alloc (.cells #[.int .i64 x.task, .int .i64 x.prio, .int .i64 x.boost] 23)) := BD.out.alloc BD.out.size _
                go_simp
                refine hK.out _ _ ?_ (fun hHeld => ?_)
                · exact (And.intro ((Keeps2 q0) _ _ sx.1) (And.intro ((Keeps2 q0) _ _ sx.2.1) ((Keeps2 q0) _ _ sx.2.2)))
                clear hK K
                try simp only [Act.put, List.setIfInBounds_toArray, List.set_cons_zero, List.set_cons_succ, List.getElem_toArray, List.getElem_cons_zero, List.getElem_cons_succ]
                refine wpAnyH_ready (rs := [3]) (by kernel_rfl) (by simp) ?_
                refine AllReadyH.cons rfl (fun K hK => ?_) AllReadyH.nil
                have Z1 : wz.heap.size ≤ (wz.drew.alloc (.cells #[.int .i64 x.task, .int .i64 x.prio, .int .i64 x.boost] 23)).heap.size := (q0).size
                refine step_app2 (wz.drew.alloc (.cells #[.int .i64 x.task, .int .i64 x.prio, .int .i64 x.boost] 23)) rfl (.const (.slice none 0 0)) (.tmp 36) 24 rfl wz.heap.size 23 i0 _ 3 24 Try.underlying24 hi0 hy0 hy1 hy2 rfl (by decide) none 0 0 [] rfl (World.ownsRow_nil _ _ _ _) wz.heap.size (some ⟨g, 0, none⟩) t c (wtc (S.take t)) rfl Q1.out L1.out (S1.out.below (q0)) O1.out N1.out T1.out Z1 ?_
                intro B1 k1 v1 happ
                rw [Nat.zero_add, List.nil_append] at happ
                simp only [Nat.zero_add]
                have q1 : Below wz.heap.size wz v1 := (q0).trans (happ.turned.below Z1 (by simp [fp]))
                refine hK.out _ _ ?_ (fun hHeld => ?_)
                · exact (And.intro ((Keeps2 q1) _ _ sx.1) (And.intro ((Keeps2 q1) _ _ sx.2.1) ((Keeps2 q1) _ _ sx.2.2)))
                clear hK K
                try simp only [Act.put, List.setIfInBounds_toArray, List.set_cons_zero, List.set_cons_succ, List.getElem_toArray, List.getElem_cons_zero, List.getElem_cons_succ]
                have own1 : (v1).ownsRow wz.heap.size 23 3 (.slice B1 t k1) t (wtc (S.take t)) := happ.own
                have F1 := own_fp own1
                have Z2 : wz.heap.size ≤ (v1).heap.size := (q1).size
                refine wpAnyH_ready (rs := [9]) (by kernel_rfl) (by simp) ?_
                refine AllReadyH.cons rfl (fun K hK => ?_) AllReadyH.nil
                refine step_app2 (v1) rfl (.tmp 37) (.tmp 42) 24 rfl wz.heap.size 23 i0 _ 3 24 Try.underlying24 hi0 hy0 hy1 hy2 rfl (by decide) B1 t k1 (wtc (S.take t)) rfl own1 (v1).heap.size (some ⟨wz.heap.size, 0, none⟩) 1 1 (wtc [x]) rfl (by simp) L2.out ((who_lit wz.drew x).turned0 happ.turned) O2.out N2.out T2.out Z2 ?_
                intro B2 k2 v2 happ2
                have q2 : Below wz.heap.size wz v2 := (q1).trans (happ2.turned.below Z2 (fun k hk => (F1 k hk).1))
                refine hK.out _ _ ?_ (fun hHeld => ?_)
                · exact (And.intro ((Keeps2 q2) _ _ sx.1) (And.intro ((Keeps2 q2) _ _ sx.2.1) ((Keeps2 q2) _ _ sx.2.2)))
                clear hK K
                try simp only [Act.put, List.setIfInBounds_toArray, List.set_cons_zero, List.set_cons_succ, List.getElem_toArray, List.getElem_cons_zero, List.getElem_cons_succ]
                have Z3 : wz.heap.size ≤ v2.heap.size := q2.size
                have F2 := own_fp happ2.own
                refine wpAnyH_ready (rs := [13]) (by kernel_rfl) (by simp) ?_
                refine AllReadyH.cons rfl (fun K hK => ?_) AllReadyH.nil
                refine step_app2 v2 rfl (.tmp 43) (.tmp 46) 24 rfl wz.heap.size 23 i0 _ 3 24 Try.underlying24 hi0 hy0 hy1 hy2 rfl (by decide) B2 (t + 1) k2 (wtc (S.take t) ++ wtc [x]) rfl happ2.own wz.heap.size (if c = t then some ⟨g, 0, none⟩ else some ⟨g, t * 3, none⟩) (m - t) (c - t) (wtc (S.drop t)) rfl Q3.out L3.out (S3.out.below q2) O3.out N3.out T3.out Z3 ?_
                intro B3 k3 v3 happ3
                have q3 : Below wz.heap.size wz v3 := q2.trans (happ3.turned.below Z3 (fun k hk => (F2 k hk).1))
                refine hK.out _ _ ?_ (fun hHeld => ?_)
                · exact (And.intro ((Keeps2 q3) _ _ sx.1) (And.intro ((Keeps2 q3) _ _ sx.2.1) ((Keeps2 q3) _ _ sx.2.2)))
                clear hK K
                try simp only [Act.put, List.setIfInBounds_toArray, List.set_cons_zero, List.set_cons_succ, List.getElem_toArray, List.getElem_cons_zero, List.getElem_cons_succ]
                refine wpAnyH_take (i := 14) (v := ?_) rfl (by kernel_rfl) (by kernel_rfl) (by kernel_rfl) (fun _ _ _ h => h) (Or.inl ⟨by rfl, ?_⟩) (by assumption) ?_
                rotate_left 1
                · ((intro w hSw; (try dsimp only at hSw); go_simp); (try with_reducible rfl))
                simp only [Act.put, List.setIfInBounds_toArray, List.set_cons_zero, List.set_cons_succ, List.getElem_toArray, List.getElem_cons_zero, List.getElem_cons_succ]
                refine wpAnyH_done (by kernel_rfl) ?_ _
                have hfin : t + 1 + (m - t) = m + 1 := by omega
                have HF : Hid (OwnW w.heap.size v3 B3 (m + 1) k3 (sortW (l.take (m + 1))) ∧ Below w.heap.size w v3) := hidp (by
                  have hs : sortW (l.take (m + 1)) = S.take t ++ [x] ++ S.drop t := by rw [HN.out]; exact HIN.out
                  have hc := happ3.cap
                  have hO := happ3.own
                  have hni := happ3.nil
                  rw [hfin] at hc hO hni
                  refine ⟨⟨?_, ?_, hc, hni⟩, ?_⟩
                  · rw [hs, wtc_append, wtc_append]; exact own_low hO HSZ.out
                  · rw [sortW_len, List.length_take]; have := Hn.out; have := Hm.out; omega
                  · exact HBW.out.trans (q3.mono HSZ.out))
                try simp only [hfin]
                clear happ happ2 happ3 own1 F1 F2 q1 q2 q3 Z1 Z2 Z3 hHeld sx sxd
                generalize (if c = t then some (⟨g, 0, none⟩ : Addr) else some ⟨g, t * 3, none⟩) = A2
                go_wp2
                go_roundg (n - (m + 1))
                case measure => have := Hm.out; omega
                case rel => exact ⟨m + 1, k3, B3, by have := Hm.out; omega, by go_num, rfl, by intro h; omega, HF.out.1, HF.out.2⟩
            · have hn2 : Hid (∀ z ∈ S.drop t', aheadB x z = true) := hidp (fun z hz => by
                have hlt : t' < S.length := by have := HSl.out; have := HTM.out; have := Ht'.out; omega
                rw [List.drop_eq_getElem_cons hlt] at hz
                rcases List.mem_cons.1 hz with e | e
                · have hy := Hy.out
                  rw [List.getD_eq_getElem?_getD, List.getElem?_eq_getElem hlt, Option.getD_some] at hy
                  rw [e, hy]; exact Hbv.out
                · exact Hq.out z (by rw [Ht'.out]; exact e))
              have HZ5 := hidp hz5
              clear hz5
              go_wp2
              go_roundg t'
              case measure => have := HTG.out; have := Ht'.out; omega
              case rel => exact ⟨t', by first | rfl | go_num, rfl, by have := HTM.out; have := Ht'.out; omega, hn2, HZ5.out⟩
    · obtain rfl : m = n := by omega
      have hs : sortW (l.take m) = sortW l := by rw [List.take_of_length_le (by rw [Hn.out]; exact Nat.le_refl _)]
      rw [hs] at HO
      have HL : Hid ((sortW l).length = m) := hidp (by rw [sortW_len, Hn.out])
      obtain ⟨S, HS⟩ : ∃ S, Hid (sortW l = S) := ⟨_, hidp rfl⟩
      have hE : Hid (firstV l k = (S.take k.toNat).map WhoM.task) := hidp (by unfold firstV; rw [HS.out])
      rw [HS.out] at HO HL
      rw [hE.out]
      have mI : ¬ (m : Int) < (m : Int) := by omega
      have own0 : wo.ownsRow wo.heap.size 3 1 (.slice none 0 0) 0 (((S.take 0).map WhoM.task).map (Value.int .i64)) := World.ownsRow_nil _ _ _ _
      have hbz := Below.refl wo.heap.size wo
      clear hs hlt hz ho hbr hm
      go_wp2
      go_loopg [8, 9] m (fun gg a i wr => ∃ (j c' : Nat) (A' : Option Addr), j + gg = m ∧ i = .int .i64 j ∧ a = .slice A' j c' ∧ (j : Int) ≤ max k 0 ∧ wr.ownsRow wo.heap.size 3 1 (.slice A' j c') j (((S.take j).map WhoM.task).map (Value.int .i64)) ∧ Hid ((A' = none → j = 0 ∧ c' = 0) ∧ j ≤ c' ∧ c' ≤ maxLen) ∧ Below wo.heap.size wo wr)
      case atStart => exact ⟨0, 0, none, by omega, rfl, rfl, by omega, own0, hidp ⟨fun _ => ⟨rfl, rfl⟩, Nat.le_refl _, by decide⟩, hbz⟩
      case round =>
        clear own0 hbz
        obtain ⟨j, c', A', hj, rfl, rfl, hjk, own, Hcap, hbr⟩ := hrel
        have Hfin : Hid ((j : Int) = max k 0 ∨ (j = m ∧ (j : Int) ≤ max k 0) → FirstPost w ((S.take k.toNat).map WhoM.task) (.returned (.slice A' j c')) wr) := hidp (fun hf => by
          have e1 : S.take k.toNat = S.take j := by
            rcases hf with h | ⟨h, h2⟩
            · rw [show k.toNat = j by omega]
            · rw [List.take_of_length_le (by rw [HL.out]; omega), List.take_of_length_le (by rw [HL.out]; omega)]
          have e2 : ((S.take j).map WhoM.task).length = j := by rw [List.length_map, List.length_take, HL.out]; omega
          rw [e1]
          exact ⟨A', c', by rw [e2], Lies.row (B := wr.heap.size) (Lies.of_own own), by rw [e2]; exact Hcap.out.1, by rw [e2]; exact Hcap.out.2, HBR.out.trans (hbr.mono HBR.out.size), fun x hx => Nat.le_trans HBR.out.size (own_fp own x hx).1⟩)
        by_cases hlt : j < m
        · obtain ⟨g, rfl, hg1, hg2⟩ := who_own HO.out.own (by omega)
          have hjS : j < S.length := by rw [HL.out]; exact hlt
          obtain ⟨x, Hx⟩ : ∃ x, Hid (S.getD j default = x) := ⟨_, rfl⟩
          have cx := HO.out.at_ hjS
          rw [Hx.out] at cx
          have x0 := Keeps2 hbr _ _ cx.1
          have jI : (j : Int) < (m : Int) := by omega
          have j0 : (0 : Int) ≤ (j : Int) := by omega
          have j40 : j ≤ 40 := by omega
          have wj : IntKind.i64.wrap ((j : Int) + 1) = (j : Int) + 1 := IntWalk.i64_in _ (by omega)
          clear cx hg1 hg2
          by_cases hkj : k ≤ (j : Int)
          · have hf := hidp (Hfin.out (.inl (by omega)))
            have hkj2 : ¬ (j : Int) < k := by omega
            have hkj3 : decide ((j : Int) < k) = false := by simpa using hkj2
            clear hjk
            go_wp2
            go_ret
            exact hf.out.eq hE.out.symm
          · have Hs : Hid ((S.take (j + 1)).map WhoM.task = (S.take j).map WhoM.task ++ [x.task]) := hidp (by rw [first_step S j hjS, Hx.out])
            have hkj2 : (j : Int) < k := by omega
            have hkj3 : decide ((j : Int) < k) = true := by simpa using hkj2
            have N2 : Hid (j + 1 ≤ maxLen) := hidp (by unfold maxLen; omega)
            have T2 : Hid ((j + 1) * 8 ≤ 140737488355328) := hidp (by omega)
            have W1 : Below wo.heap.size wo (wr.alloc (.cells #[.int .i64 x.task] 3)) := hbr.alloc hbr.size _
            have own4 := own_turned own ((Turned.refl [] wr).alloc (.cells #[.int .i64 x.task] 3)) (by simp)
            have S2 := hidp (who_new wr [.int .i64 x.task] 3)
            have Z2 : Hid (wo.heap.size ≤ (wr.alloc (.cells #[.int .i64 x.task] 3)).heap.size) := hidp W1.size
            have O2 := hidp (num_one x.task)
            have Hfp := hidp (own_fp own4)
            have hW := hidp W1
            have hjk2 : ((j + 1 : Nat) : Int) ≤ max k 0 := by omega
            have Hjk2 := hidp hjk2
            have Hj := hidp hj
            clear own hbr hjk hjk2 W1 Hcap Hfin
            go_wp2_with (at_builtin; refine wpList_app2 _ rfl (.tmp 59) (.tmp 65) 28 rfl wo.heap.size 3 i1 _ 1 8 Try.underlying28 hi1 hz0 hz1 hz2 rfl (by decide) A' j c' _ rfl own4 _ _ 1 1 [.int .i64 x.task] rfl (by simp) rfl S2.out O2.out N2.out T2.out Z2.out ?_; intro A9 c9 w6 happ)
            go_roundg (gk - 1)
            case measure => omega
            case rel => exact ⟨j + 1, c9, A9, by omega, by go_num, rfl, Hjk2.out, by rw [Hs.out, List.map_append]; exact happ.own, hidp ⟨happ.nil, happ.cap⟩, hW.out.trans (happ.turned.below hW.out.size (fun i hi => (Hfp.out i hi).1))⟩
        · have hjn : j = m := by omega
          have hf := hidp (Hfin.out (.inr ⟨hjn, hjk⟩))
          have hjI : ¬ (j : Int) < (m : Int) := by omega
          have hjI2 : decide (j < m) = false := by simpa using hlt
          clear hjn
          go_wp2
          go_ret
          exact hf.out.eq hE.out.symm
end Go.Proofs.Ytonodmoklbmfkaa
