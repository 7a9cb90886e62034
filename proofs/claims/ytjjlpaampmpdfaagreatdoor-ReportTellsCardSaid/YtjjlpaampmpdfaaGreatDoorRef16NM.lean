/- swingbridgeref11: Waits: its row is new. -/
import Derived.Test.YtjjlpaampmpdfaaGreatDoorRefCanonM
import Derived.Test.YtjjlpaampmpdfaaGreatDoorKnown19M
import Derived.Test.YtjjlpaampmpdfaaGreatDoorSumTop
import Derived.IntWalk
import Derived.Test.YtjjlpaampmpdfaaGreatDoorOwnP
import Derived.Deep.RegionLaw
import Derived.Test.YtjjlpaampmpdfaaGreatDoorRef11a
import Derived.Test.YtjjlpaampmpdfaaGreatDoorOwnT
import Derived.Test.YtjjlpaampmpdfaaGreatDoorAgent3
import Derived.Test.YtjjlpaampmpdfaaGreatDoorToken3
import Derived.Test.YtjjlpaampmpdfaaGreatDoorRef7d
namespace Go.Proofs.YtjjlpaampmpdfaaGreatDoor
open Go.ChangeShapes Go.WideShapes Go.ChangeAt Go.RowKit
set_option linter.unusedVariables false
def OwnInts (B : Nat) (w : World) (A : Option Addr) (n c : Nat) (zs : List Int) : Prop := w.ownsRow B 3 1 (.slice A n c) n (zs.map (Value.int .i64)) ∧ n = zs.length ∧ n ≤ c ∧ c ≤ maxLen ∧ (A = none → n = 0 ∧ c = 0)
/-- a slice of numbers somewhere, that is only read -/
structure Rd (w : World) (A : Option Addr) (n c : Nat) (zs : List Int) : Prop where
  row : Lies w.heap.size w A (zs.map (Value.int .i64))
  len : n = zs.length
  cap : zs.length ≤ c ∧ c ≤ maxLen
  nil : A = none → zs = [] ∧ c = 0
  fit : ∀ n ∈ zs, I64 n
  fps : ∀ k ∈ fp A, k < w.heap.size
  spot : ∀ a, A = some a → a.spot = none
section
variable {w w' : World} {A : Option Addr} {n c : Nat} {zs : List Int} {F : List Nat}
theorem Rd.turned (h : Rd w A n c zs) (ht : Turned F w w') (hF : ∀ k ∈ fp A, k ∉ F) : Rd w' A n c zs :=
  ⟨(h.row.turned ht hF).mono ht.size, h.len, h.cap, h.nil, h.fit, fun k hk => Nat.lt_of_lt_of_le (h.fps k hk) ht.size, h.spot⟩
theorem Rd.r (h : Rd w A n c zs) : Row w .i64 A zs := h.row.row
theorem Rd.of_own {B : Nat} (h : OwnInts B w A n c zs) (hf : ∀ n ∈ zs, I64 n) : Rd w A n c zs := by
  obtain ⟨h1, rfl, h2, h3, h4⟩ := h
  refine ⟨Lies.of_own h1, rfl, ⟨h2, h3⟩, fun e => ⟨List.eq_nil_of_length_eq_zero (h4 e).1, (h4 e).2⟩, hf, fun k hk => (own_fp h1 k hk).2, fun a ha => ?_⟩
  subst ha
  rcases h1.2 with ⟨hv, _⟩ | ⟨g, cap, cur, hv, _⟩
  · cases hv
  · injection hv with e; injection e with e; rw [e]
theorem Rd.one (h : ∀ u ∈ zs.map (Value.int .i64), True) : ∀ u ∈ zs.map (Value.int .i64), u.oneCell' = true := fun u hu => by obtain ⟨n, _, rfl⟩ := List.mem_map.1 hu; rfl
/-- what s[k:] is -/
theorem Rd.cut {g off : Nat} (h : Rd w (some ⟨g, off, none⟩) n c zs) (k : Nat) (hk : k ≤ zs.length) :
    Rd w (if c = k then some ⟨g, off, none⟩ else some ⟨g, off + k, none⟩) (n - k) (c - k) (zs.drop k) := by
  have hl := h.len
  have hc := h.cap
  subst hl
  refine ⟨?_, by simp, by simp; omega, (fun e => by split at e <;> cases e), fun n hn => h.fit n (List.mem_of_mem_drop hn), ?_, ?_⟩
  · rw [List.map_drop]
    by_cases e : c = k
    · rw [if_pos e, List.drop_eq_nil_of_le (by simp; omega)]; exact .inl rfl
    · rw [if_neg e]; exact h.row.drop k
  · intro i hi
    refine h.fps i ?_
    split at hi <;> simpa [fp] using hi
  · intro a ha
    split at ha <;> (injection ha with ha; subst ha; rfl)
end

theorem new_ne {w : World} {b : Nat} {T : TypeId} {cs : Array Value} (hb : Bk w b T cs) {A : Option Addr} (h : ∀ k ∈ fp A, k ∈ fp none ∨ w.heap.size ≤ k) : b ∉ fp A := fun hk => by
  rcases h b hk with h1 | h1
  · simp [fp] at h1
  · have := hb.lt; omega
theorem top_step {zs ls : List Int} {q a : Nat} {x : Int} (hp : ls.Perm ((desc zs).drop q)) (ha : a < ls.length) (hx : ls.getD a 0 = x) (hmax : ∀ t, t < ls.length → ls.getD t 0 ≤ x) :
    (desc zs).take (q + 1) = (desc zs).take q ++ [x] ∧ (ls.eraseIdx a).Perm ((desc zs).drop (q + 1)) := by
  have hq : q < (desc zs).length := by have := hp.length_eq; simp at this; omega
  have hd := List.drop_eq_getElem_cons hq
  have hxa : ls[a] = x := by simpa [List.getD, ha] using hx
  have hs : ((desc zs).drop q).Pairwise fun a b => b ≤ a := (desc_srt zs).sublist (List.drop_sublist _ _)
  rw [hd] at hs hp
  have e : (desc zs)[q] = x := by
    have h1 : x ∈ (desc zs)[q] :: (desc zs).drop (q + 1) := hp.mem_iff.1 (hxa ▸ List.getElem_mem ha)
    have h2 : x ≤ (desc zs)[q] := by
      rcases List.mem_cons.1 h1 with h | h
      · omega
      · exact (List.pairwise_cons.1 hs).1 x h
    obtain ⟨t, ht, e2⟩ := List.mem_iff_getElem.1 (hp.mem_iff.2 (List.mem_cons_self ..))
    have h3 := hmax t ht
    simp [List.getD, ht, e2] at h3
    omega
  refine ⟨by rw [List.take_succ_eq_append_getElem hq, e], ?_⟩
  have h5 : (x :: ls.eraseIdx a).Perm ls := by
    have h6 : ls = ls.take a ++ x :: ls.drop (a + 1) := by rw [← hxa, ← List.drop_eq_getElem_cons ha, List.take_append_drop]
    rw [List.eraseIdx_eq_take_drop_succ]
    exact List.perm_middle.symm.trans (by rw [← h6])
  rw [e] at hp
  exact (h5.trans hp).cons_inv
theorem OwnInts.turned {B : Nat} {w w' : World} {A : Option Addr} {n c : Nat} {zs : List Int} {F : List Nat} (h : OwnInts B w A n c zs) (ht : Turned F w w') (hF : ∀ k ∈ fp A, k ∉ F) : OwnInts B w' A n c zs := ⟨own_turned h.1 ht hF, h.2⟩
theorem OwnInts.row {B : Nat} {w : World} {A : Option Addr} {n c : Nat} {zs : List Int} (h : OwnInts B w A n c zs) : Row w .i64 A zs := Lies.row (B := w.heap.size) (Lies.of_own h.1)

set_option maxHeartbeats 2000000
theorem rtop_any {w : World} {A : Option Addr} {n c : Nat} {zs : List Int} {k : Int} (hr : Row w .i64 A zs) (hn : n = zs.length) (hnil : A = none → n = 0 ∧ c = 0) (hl : n ≤ 800) (hk : I64 k) (hf : ∀ n ∈ zs, I64 n) :
    Calls Tryz.prog 125 #[.slice A n c, .int .i64 k] w (TopPost w (clampN k n) (tops zs k)) := by
  have Hn := hidp hn
  clear hn
  have H1 := hidp hnil
  have H2 : Hid ((zs.map (Value.int .i64)).length = n * 1) := hidp (by simp [Hn.out])
  have H3 := hidp hr.lies
  have H4 : Hid (∀ u ∈ zs.map (Value.int .i64), u.oneCell' = true) := hidp fun u hu => by obtain ⟨n, _, rfl⟩ := List.mem_map.1 hu; rfl
  have H5 : Hid (0 + n ≤ maxLen) := hidp (by unfold maxLen; omega)
  have H6 : Hid ((0 + n) * 8 ≤ 140737488355328) := hidp (by omega)
  obtain ⟨i0, hi0, hz0, hz1, hz2⟩ := info_parts infoI64
  obtain ⟨m, Hm⟩ : ∃ m, Hid (clampN k n = m) := ⟨_, rfl⟩
  have hmn : m ≤ n := Hm.out ▸ clampN_le k n
  have hcl : (m : Int) = max 0 (min k (n : Int)) := by have := Hm.out; unfold clampN at this; omega
  have Hcl := hidp hcl
  clear hcl
  rw [Hm.out]
  have Htop : Hid (tops zs k = (desc zs).take m) := hidp (by unfold tops; rw [← Hn.out, Hm.out])
  have Hf := hidp hf
  clear hnil hr hf
  go_enter Tryz.func125, Tryz.ntmps125
  go_wp2_with (at_builtin; refine wpList_app2 _ rfl (.const (.slice none 0 0)) (.tmp 9) 22 rfl w.heap.size 3 i0 (.int .i64 0) 1 8 Tryz.underlying22 hi0 hz0 hz1 hz2 rfl (by decide) none 0 0 [] rfl (World.ownsRow_nil _ _ _ _) w.heap.size A n c (zs.map (Value.int .i64)) rfl H1.out H2.out H3.out H4.out H5.out H6.out (Nat.le_refl _) ?_; intro A1 c1 w1 happ; simp only [Nat.zero_add, List.nil_append] at happ)
  have o1 : OwnInts w.heap.size w1 A1 n c1 zs := ⟨happ.own, Hn.out, happ.cap.1, happ.cap.2, happ.nil⟩
  have hb1 : Below w.heap.size w w1 := happ.turned.below (Nat.le_refl _) (by simp [fp])
  go_loopg [5, 6] m (fun g l o wr => ∃ (q p : Nat) (L O : Option Addr) (lc oc : Nat) (ls : List Int), q + g = m ∧ p + q = n ∧ l = .slice L p lc ∧ o = .slice O q oc ∧ OwnInts w.heap.size wr L p lc ls ∧ OwnInts w.heap.size wr O q oc ((desc zs).take q) ∧ Hid (ls.Perm ((desc zs).drop q)) ∧ (∀ i ∈ fp L, i ∉ fp O) ∧ Below w.heap.size w wr)
  case atStart => exact ⟨0, n, A1, none, c1, 0, zs, by omega, rfl, rfl, rfl, o1, ⟨World.ownsRow_nil _ _ _ _, rfl, Nat.le_refl _, Nat.zero_le _, fun _ => ⟨rfl, rfl⟩⟩, hidp (desc_perm zs).symm, by simp [fp], hb1⟩
  case round =>
    obtain ⟨q, p, L, O, lc, oc, ls, hq, hp, rfl, rfl, oL, oO, hpm, hdis, hbe⟩ := hrel
    clear o1 happ hb1
    have HLs := hidp oL.2.1
    by_cases hlt : q < m
    · have hqk : (q : Int) < k := by have := Hcl.out; omega
      have hp0 : (0 : Int) < (p : Int) := by omega
      have hp1 : 0 < p := by omega
      have hpl : 0 < ls.length := by rw [← HLs.out]; exact hp1
      have HR := hidp oL.row
      obtain ⟨g, off, rfl, hcel⟩ := HR.out.resolve_left (by intro e; rw [e] at hpl; simp at hpl)
      have Hcel := hidp hcel
      clear hcel
      go_wp2_with fail
      go_loopg [7, 8] p (fun g at_ i wr2 => ∃ a j : Nat, j + g = p + 1 ∧ 1 ≤ j ∧ a < p ∧ at_ = .int .i64 a ∧ i = .int .i64 j ∧ Hid (∀ t, t < j → t < p → ls.getD t 0 ≤ ls.getD a 0) ∧ Qt wr wr2)
      case atStart => exact ⟨0, 1, by omega, by omega, hp1, rfl, rfl, hidp (fun t h1 _ => (by have h : t = 0 := (by omega); subst h; exact Int.le_refl _)), Qt.refl _⟩
      case round =>
        obtain ⟨a, j, hj, hj1, hap, rfl, rfl, HM, hq2⟩ := hrel
        obtain ⟨x, HX⟩ : ∃ x, Hid (ls.getD a 0 = x) := ⟨_, rfl⟩
        have cx := hq2.cell (HX.out ▸ Hcel.out a (by rw [← HLs.out]; exact hap))
        by_cases hjp : j < p
        · obtain ⟨y, HY⟩ : ∃ y, Hid (ls.getD j 0 = y) := ⟨_, rfl⟩
          have cy := hq2.cell (HY.out ▸ Hcel.out j (by rw [← HLs.out]; exact hjp))
          by_cases hxy : x < y
          · go_wp2_with fail
            go_quiet (fail)
            go_wp2_with fail
            go_roundg (p - j)
            case measure => omega
            case rel => exact ⟨j, j + 1, by omega, by omega, hjp, rfl, by go_num, hidp (fun t h1 h2 => by
              by_cases e : t = j
              · subst e; exact Int.le_refl _
              · have := HM.out t (by omega) h2; rw [HX.out] at this; rw [HY.out]; omega), hq2.add _⟩
          · have hd : decide (x < y) = false := by simpa using hxy
            go_wp2_with fail
            go_quiet (fail)
            go_wp2_with fail
            go_roundg (p - j)
            case measure => omega
            case rel => exact ⟨a, j + 1, by omega, by omega, hap, rfl, by go_num, hidp (fun t h1 h2 => by
              by_cases e : t = j
              · subst e; rw [HX.out, HY.out]; omega
              · exact HM.out t (by omega) h2), hq2.add _⟩
        · have hx := HX.out
          have hstep := top_step hpm.out (by rw [← HLs.out]; exact hap) HX.out (fun t ht => by have := HM.out t (by have := HLs.out; omega) (by rw [HLs.out]; exact ht); rw [HX.out] at this; exact this)
          have Hstep := hidp hstep
          have hfl := hidp (fun n (hn : n ∈ ls) => Hf.out n ((desc_perm zs).mem_iff.1 (List.mem_of_mem_drop (hpm.out.mem_iff.1 hn))))
          clear hstep hx
          have oL2 := oL.turned (hq2.turned []) (by simp)
          have oO2 := oO.turned (hq2.turned []) (by simp)
          have hbe2 := hq2.below hbe
          have hownO := World.ownsRow.alloc (w := wr) oO2.1 (.cells #[.int .i64 x] 3)
          have S0 := hidp (Lies.newCells' wr [Value.int .i64 x] 3)
          have Z0 : Hid (w.heap.size ≤ (wr.alloc (.cells #[.int .i64 x] 3)).heap.size) := hidp (Nat.le_trans hbe2.size (by simp))
          have O0 : Hid (∀ u ∈ [Value.int .i64 x], u.oneCell' = true) := hidp (by simp [Value.oneCell'])
          have N0 : Hid (q + 1 ≤ maxLen) := hidp (by unfold maxLen; omega)
          have T0 : Hid ((q + 1) * 8 ≤ 140737488355328) := hidp (by omega)
          go_wp2_with (at_builtin; go_loud (refine wpList_app2 _ rfl (.tmp 36) (.tmp 41) 22 rfl w.heap.size 3 i0 (.int .i64 0) 1 8 Tryz.underlying22 hi0 hz0 hz1 hz2 rfl (by decide) O q oc _ rfl hownO _ _ 1 1 [Value.int .i64 x] rfl (by simp) rfl S0.out O0.out N0.out T0.out Z0.out ?_); intro O3 oc3 w2 happ)
          have T1 : Turned [] wr (wr.alloc (.cells #[.int .i64 x] 3)) := (Turned.refl _ _).alloc _
          have oL3 := (oL2.turned T1 (by simp)).turned happ.turned hdis
          have oO3 : OwnInts w.heap.size w2 O3 (q + 1) oc3 ((desc zs).take (q + 1)) := ⟨by rw [Hstep.out.1, List.map_append]; exact happ.own, by rw [Hstep.out.1, List.length_append, ← oO.2.1]; rfl, happ.cap.1, happ.cap.2, happ.nil⟩
          have hbe3 : Below w.heap.size w w2 := (hbe2.alloc hbe2.size _).trans (happ.turned.below Z0.out (fun i hi => (own_fp hownO i hi).1))
          have h := Rd.of_own oL3 hfl.out
          clear oL oL2 oO oO2 hownO S0 Z0 O0 N0 T0 T1 happ cx hq2 hbe2
          have hcap := h.cap
          have hlc := oL3.2.2.1
          have hmx := hcap.2
          unfold maxLen at hmx
          have hcut := h.cut (a + 1) (by rw [← HLs.out]; omega)
          have hlies := h.row
          obtain ⟨C1, hC1, Hcut⟩ : ∃ C1, (if lc = a + 1 then some (⟨g, off, none⟩ : Addr) else some ⟨g, off + (a + 1), none⟩) = C1 ∧ Hid (Rd w2 C1 (p - (a + 1)) (lc - (a + 1)) (ls.drop (a + 1))) := ⟨_, rfl, hidp hcut⟩
          clear hcut
          have S1 := hidp (hlies.take a).drew
          have L1 : Hid (((ls.map (Value.int .i64)).take a).length = a * 1) := hidp (by simp; have := HLs.out; omega)
          have O1 : Hid (∀ u ∈ (ls.map (Value.int .i64)).take a, u.oneCell' = true) := hidp fun u hu => by obtain ⟨n, _, rfl⟩ := List.mem_map.1 (List.mem_of_mem_take hu); rfl
          have M1 : Hid (0 + a ≤ maxLen) := hidp (by unfold maxLen; omega)
          have N1 : Hid ((0 + a) * 8 ≤ 140737488355328) := hidp (by omega)
          have S2 := hidp Hcut.out.row.drew
          have hwr : IntKind.i64.wrap ((a : Int) + 1) = (a : Int) + 1 := IntWalk.i64_in _ (by omega)
          have hw0 : (0 : Int) ≤ (a : Int) + 1 := by omega
          have hw1 : ((a : Int) + 1).toNat = a + 1 := by omega
          have hw2 : (a : Int) + 1 ≤ (p : Int) := by omega
          have P2 : Hid (C1 = none → p - (a + 1) = 0 ∧ lc - (a + 1) = 0) := hidp fun e => ⟨by have := (Hcut.out.nil e).1; have h2 := congrArg List.length this; have := HLs.out; simp at h2; omega, (Hcut.out.nil e).2⟩
          have L2 : Hid (((ls.drop (a + 1)).map (Value.int .i64)).length = (p - (a + 1)) * 1) := hidp (by simp; have := HLs.out; omega)
          have O2 : Hid (∀ u ∈ (ls.drop (a + 1)).map (Value.int .i64), u.oneCell' = true) := hidp fun u hu => by obtain ⟨n, _, rfl⟩ := List.mem_map.1 hu; rfl
          have M2 : Hid (a + (p - (a + 1)) ≤ maxLen) := hidp (by unfold maxLen; omega)
          have N2 : Hid ((a + (p - (a + 1))) * 8 ≤ 140737488355328) := hidp (by omega)
          have hn0 := World.ownsRow_nil w2.drew w.heap.size 3 1
          have hkc : a ≤ lc := by omega
          have hkc1 : a + 1 ≤ lc := by omega
          have hkn : a + 1 ≤ p := by omega
          have Z1 : Hid (w.heap.size ≤ w2.drew.heap.size) := hidp hbe3.size
          have hfin : Hid (ls.eraseIdx a = ls.take a ++ ls.drop (a + 1)) := hidp (List.eraseIdx_eq_take_drop_succ ..)
          clear h hlies
          go_region_law (first | ((with_reducible refine step_app2 _ rfl (.const (.slice none 0 0)) (.tmp 45) 22 rfl w.heap.size 3 i0 (.int .i64 0) 1 8 Tryz.underlying22 hi0 hz0 hz1 hz2 rfl (by decide) none 0 0 [] (by simp [Act.eval]) hn0 _ _ a lc _ ?_ (by simp) L1.out S1.out O1.out M1.out N1.out Z1.out ?_); (simp [Act.eval, Act.put]); intro B1 k1 w3 happ; simp only [Nat.zero_add, List.nil_append] at happ; have S3 := hidp (S2.out.turned (w' := w3) happ.turned (by simp [fp])); have Sz : Hid (w.heap.size ≤ w3.heap.size) := hidp (Nat.le_trans Z1.out happ.turned.size)) | ((with_reducible refine step_app2 _ rfl (.tmp 46) (.tmp 50) 22 rfl w.heap.size 3 i0 (.int .i64 0) 1 8 Tryz.underlying22 hi0 hz0 hz1 hz2 rfl (by decide) B1 a k1 _ ?_ happ.own _ _ (p - (a + 1)) (lc - (a + 1)) _ ?_ P2.out L2.out S3.out O2.out M2.out N2.out Sz.out ?_); (simp [Act.eval]); (simp [Act.eval]); intro B2 k2 w4 happ2))
          all_goals
            go_wp2
            go_roundg (m - q - 1)
            case measure => omega
            case rel =>
              have hB1 : ∀ i ∈ fp B1, w2.heap.size ≤ i := fun i hi => (happ.fps i hi).elim (fun h => by simp [fp] at h) (fun h => by simpa using h)
              have hB2 : ∀ i ∈ fp B2, w2.heap.size ≤ i := fun i hi => (happ2.fps i hi).elim (hB1 i) (fun h => by have := happ.turned.size; simp at this; omega)
              have hO3 : ∀ i ∈ fp O3, i < w2.heap.size := fun i hi => (own_fp oO3.1 i hi).2
              refine ⟨q + 1, a + (p - (a + 1)), B2, O3, k2, oc3, ls.eraseIdx a, by omega, by omega, rfl, rfl, ⟨?_, ?_, happ2.cap.1, happ2.cap.2, happ2.nil⟩, ?_, hidp Hstep.out.2, fun i h1 h2 => ?_, ?_⟩
              · rw [hfin.out]; simpa using happ2.own
              · rw [hfin.out]; simp; have := HLs.out; omega
              · exact ((oO3.turned (Turned.refl [] w2).drew (by simp)).turned happ.turned (by simp [fp])).turned happ2.turned (fun i h1 h2 => by have := hB1 i h2; have := hO3 i h1; omega)
              · have := hB2 i h1; have := hO3 i h2; omega
              · exact (hbe3.drew.trans (happ.turned.below Z1.out (by simp [fp]))).trans (happ2.turned.below Sz.out (fun i hi => by have := hB1 i hi; have := hbe3.size; omega))
    · obtain rfl : q = m := by omega
      by_cases hqk : (q : Int) < k
      · obtain rfl : p = 0 := by have := Hcl.out; omega
        go_wp2_with fail
        go_ret
        exact ⟨O, oc, rfl, by rw [Htop.out]; exact oO.row, hbe⟩
      · have hd : decide ((q : Int) < k) = false := by simpa using hqk
        go_wp2_with fail
        go_ret
        exact ⟨O, oc, rfl, by rw [Htop.out]; exact oO.row, hbe⟩
theorem rsum_any {w : World} {A : Option Addr} {n c : Nat} {zs : List Int} {k : Int} (hr : Row w .i64 A zs) (hn : n = zs.length) (hc : n ≤ c) (hnil : A = none → n = 0 ∧ c = 0) (hl : n ≤ 800) (hk : I64 k) (hf : ∀ n ∈ zs, I64 n) :
    Calls Tryz.prog 96 #[.slice A n c, .int .i64 k] w fun e w' => e = .returned (.int .i64 (sumW (tops zs k))) ∧ Below w.heap.size w w' := by
  have hfit := hidp (fun x (hx : x ∈ tops zs k) => hf x ((desc_perm zs).mem_iff.1 (List.mem_of_mem_take hx)))
  have Ht := hidp (tops_len zs k)
  rw [← hn] at Ht
  have Hn := hidp hn
  clear hn
  have Hnil := hidp hnil
  clear hnil
  have Hf := hidp hf
  clear hf
  go_enter Tryz.func96, Tryz.ntmps96
  go_wp2_with fail
  refine (rtop_any hr Hn.out Hnil.out hl hk Hf.out).mono ?_
  rintro e w1 ⟨A1, c1, rfl, hr1, hb1⟩
  obtain ⟨ts, Hts⟩ : ∃ ts, Hid (tops zs k = ts) := ⟨_, rfl⟩
  obtain ⟨m, Hm⟩ : ∃ m, Hid (clampN k n = m) := ⟨_, rfl⟩
  have hm1000 : m ≤ 1000 := by have := Hm.out; have := clampN_le k n; omega
  rw [Hts.out] at hr1 hfit Ht
  rw [Hm.out] at Ht ⊢
  clear hr hc hk
  go_wp2_with fail
  go_loopg [6, 7] m (fun g s i wr => ∃ k : Nat, k + g = m ∧ i = .int .i64 k ∧ s = .int .i64 (sumW (ts.take k)) ∧ w1 = wr)
  case atStart => exact ⟨0, by omega, rfl, by simp [sumW], rfl⟩
  case round =>
    obtain ⟨k, hk, rfl, rfl, rfl⟩ := hrel
    by_cases hlt : k < m
    · have hkt : k < ts.length := by rw [Ht.out]; exact hlt
      obtain ⟨g, off, rfl, hcl⟩ := hr1.resolve_left (by intro e; subst e; simp at hkt)
      obtain ⟨x, HX⟩ : ∃ x, Hid (ts.getD k 0 = x) := ⟨_, rfl⟩
      have ck : w1.cell? ⟨g, off + k, none⟩ = some (.int .i64 x) := HX.out ▸ hcl k hkt
      have H1 := hidp (sumW_snoc ts k hkt)
      rw [HX.out] at H1
      obtain ⟨s, Hs⟩ : ∃ s, Hid (sumW (ts.take k) = s) := ⟨_, rfl⟩
      rw [Hs.out] at H1 ⊢
      clear hcl hr1
      go_wp2
      go_roundg (gk - 1)
      case measure => omega
      case rel => exact ⟨k + 1, by omega, by go_num, by rw [H1.out], rfl⟩
    · obtain rfl : k = m := by omega
      have H1 : Hid (ts.take k = ts) := hidp (List.take_of_length_le (by rw [Ht.out]; exact Nat.le_refl _))
      rw [H1.out]
      go_wp2
      go_ret
      exact ⟨ret_int (by rw [Hts.out]), hb1⟩
end Go.Proofs.YtjjlpaampmpdfaaGreatDoor

namespace Go.Proofs.YtjjlpaampmpdfaaGreatDoor
open Go.ChangeShapes Go.WideShapes Go.ChangeAt Go.RowKit
set_option linter.unusedVariables false

theorem sum_most {zs : List Int} {k : Nat} (h : ∀ n ∈ zs, 0 ≤ n ∧ n ≤ 60) (hl : zs.length ≤ k) (hk : k ≤ 1000) : sumW (tops zs k) = tot zs := by
  rw [← sum_all h (by omega)]
  unfold tops clampN
  rw [show (max 0 (min (k : Int) (zs.length : Int))).toNat = (max 0 (min (zs.length : Int) (zs.length : Int))).toNat by omega]


/-- a part that is a Lock, if it is one; else none -/
def lockP (s : SetR) (of part : Int) : PartM := if fairK s of part = true then partAt s of part else ⟨0, 0, 0⟩
def LockPost (w : World) (p : PartM) (b : Bool) (e : Ending) (w' : World) : Prop := e = .returned (.tuple #[.agg #[.int .i64 p.kind, .int .i64 p.len, .int .i64 p.res], .bool b]) ∧ Below w.heap.size w w'
theorem put3_turned (w : World) (g : Nat) (v0 v1 v2 : Value) : Turned [g] w (((w.setCell ⟨g, 0, none⟩ v0).setCell ⟨g, 1, none⟩ v1).setCell ⟨g, 2, none⟩ v2) :=
  (((Turned.refl [g] w).setCell (.inl (by simp)) _).setCell (.inl (by simp)) _).setCell (.inl (by simp)) _
theorem put3_bk {w : World} {g : Nat} {t : TypeId} {c0 c1 c2 v0 v1 v2 : Value} (h : Bk w g t #[c0, c1, c2]) : Bk (((w.setCell ⟨g, 0, none⟩ v0).setCell ⟨g, 1, none⟩ v1).setCell ⟨g, 2, none⟩ v2) g t #[v0, v1, v2] := by
  have := ((h.put 0 v0).put 1 v1).put 2 v2
  simpa using this
theorem Z3 {w : World} {g : Nat} {t : TypeId} {c0 c1 c2 : Value} (h : Bk w g t #[c0, c1, c2]) : w.cell? ⟨g, 0, none⟩ = some c0 ∧ w.cell? ⟨g, 1, none⟩ = some c1 ∧ w.cell? ⟨g, 2, none⟩ = some c2 := ⟨h.cell 0, h.cell 1, h.cell 2⟩
theorem ZF3 {w : World} {g : Nat} {t : TypeId} {cs : Array Value} (h : Bk w g t cs) : w.frozen? ⟨g, 0, none⟩ = false ∧ w.frozen? ⟨g, 1, none⟩ = false ∧ w.frozen? ⟨g, 2, none⟩ = false := ⟨h.frozen 0, h.frozen 1, h.frozen 2⟩

set_option maxHeartbeats 8000000 in
set_option maxRecDepth 100000 in
theorem rlock_any (s : SetR) (of part : Int) (w : World) (hs : SetOk w s) : Calls Tryz.prog 95 #[.agg #[.int .i64 s.proto, .slice s.ca s.cores.length s.cc, .slice s.ha s.homes.length s.hc, .slice s.ta s.tasks.length s.tc], .int .i64 of, .int .i64 part] w (LockPost w (lockP s of part) (fairK s of part)) := by
  have hb := ((Below.refl w.heap.size w).alloc (Nat.le_refl _) (.cells #[.int .i64 s.proto, .slice s.ca s.cores.length s.cc, .slice s.ha s.homes.length s.hc, .slice s.ta s.tasks.length s.tc] 25)).alloc (by simp) (.cells #[.int .i64 0, .int .i64 0, .int .i64 0] 38)
  have sc := (SetCells.new w s 25).keep (Keeps.alloc _ (.cells #[.int .i64 0, .int .i64 0, .int .i64 0] 38))
  have bk := Bk.at_ (w := w.alloc (.cells #[.int .i64 s.proto, .slice s.ca s.cores.length s.cc, .slice s.ha s.homes.length s.hc, .slice s.ta s.tasks.length s.tc] 25)) (g := w.heap.size + 1) (t := 38) (cs := #[.int .i64 0, .int .i64 0, .int .i64 0]) (by simp) rfl
  have H := hs.keep (Keeps.of_below hb)
  have l3 : s.tasks.length ≤ maxLen := Nat.le_trans hs.tasks.sl.2.1 hs.tasks.sl.2.2
  unfold maxLen at l3
  have NO : Hid (fairK s of part = false → lockP s of part = ⟨0, 0, 0⟩) := hidp (fun h => by unfold lockP; rw [h]; rfl)
  have hz0 : w.heap.size + 1 < ((w.alloc (.cells #[.int .i64 s.proto, .slice s.ca s.cores.length s.cc, .slice s.ha s.homes.length s.hc, .slice s.ta s.tasks.length s.tc] 25)).alloc (.cells #[.int .i64 0, .int .i64 0, .int .i64 0] 38)).heap.size := by simp
  by_cases e : thereB s of = true
  · obtain ⟨ho, r1, r2⟩ := thereB_true.1 e
    obtain ⟨n, rfl⟩ : ∃ n : Nat, of = n := ⟨of.toNat, by omega⟩
    have hn : n < s.tasks.length := by omega
    have hg := Good.of ho
    obtain ⟨t, HT⟩ : ∃ t, Hid (s.tasks.getD n default = t) := ⟨_, rfl⟩
    have hm : t ∈ s.tasks := HT.out ▸ getD_mem hn
    have Tok := hs.tasks.ok t hm
    have Tg := hg.parts t hm
    have HK : Hid (fairK s n part = true ↔ 0 ≤ part ∧ part < t.parts.length ∧ (t.parts.getD part.toNat default).kind = 3) := hidp (by
      rw [fairK_iff]; unfold partAt; simp only [Int.toNat_natCast]; rw [HT.out]; exact ⟨fun h => h.2, fun h => ⟨e, h⟩⟩)
    have HV : Hid (fairK s n part = true → lockP s n part = t.parts.getD part.toNat default) := hidp (fun h => by
      unfold lockP partAt; rw [if_pos h]; simp only [Int.toNat_natCast]; rw [HT.out])
    obtain ⟨g, off, hA, hcl⟩ := hs.tasks.at_.resolve_left (by intro e; rw [e] at hn; simp at hn)
    have tcl := (HT.out ▸ hcl n hn).2.2.2.2.2
    have Ht5 := hidp tcl
    have hpl := Tg.len
    obtain ⟨gp, op, hP, hpc⟩ := Tok.at_.resolve_left (by intro e; rw [e] at hpl; simp at hpl)
    have Hpc := hidp hpc
    obtain ⟨parts, hparts⟩ : ∃ parts, t.parts = parts := ⟨_, rfl⟩
    rw [hP, hparts] at Ht5
    rw [hparts] at HK HV Hpc hpl
    clear hcl hm Tok Tg hpc tcl hP hparts hg ho hs HT
    obtain ⟨proto, ca, cc, cores, ha, hc, homes, ta, tc, tasks⟩ := s
    dsimp only at hA hn l3 r2 hb sc H e bk hz0 ⊢
    subst hA
    have dn : decide (tasks.length ≤ n) = false := by simp; omega
    have hcase : part < 0 ∨ (0 ≤ part ∧ (parts.length : Int) ≤ part) ∨ (0 ≤ part ∧ part < (parts.length : Int)) := by omega
    rcases hcase with p | ⟨p, p2⟩ | ⟨p, p2⟩
    · have Hk := hidp (show fairK _ _ _ = false from by rw [Bool.eq_false_iff]; intro h; have := HK.out.1 h; omega)
      go_enter Tryz.func95, Tryz.ntmps95
      go_wp2_with (first | (go_at_call 52; (with_reducible refine (rthere_any _ _ _ H).mono ?_); rintro e w2 ⟨rfl, hb2⟩; have sc2 := sc.keep (Keeps.of_below hb2); obtain ⟨c0, c1, c2, c3⟩ := sc2; dsimp only at c0 c1 c2 c3; have d5 := Keeps.of_below (hb.trans (hb2.mono hb.size)) _ _ Ht5.out; have bk2 := bk.below hb2; obtain ⟨z0, z1, z2⟩ := Z3 bk2; obtain ⟨f0, f1, f2⟩ := ZF3 bk2; replace hb := hb.trans (hb2.mono hb.size)))
      have PB := put3_bk bk2 (v0 := .int .i64 0) (v1 := .int .i64 0) (v2 := .int .i64 0)
      have PT := put3_turned w2 (w.heap.size + 1) (.int .i64 0) (.int .i64 0) (.int .i64 0)
      obtain ⟨y0, y1, y2⟩ := Z3 PB
      have hbe := hb.trans (PT.below hb.size (by simp))
      rw [NO.out Hk.out, Hk.out]
      exact bodyPost_ret (v := .tuple #[.agg #[.int .i64 0, .int .i64 0, .int .i64 0], .bool false]) (by simp [results, Tryz.results95, go_sem, y0, y1, y2]) rfl ⟨rfl, hbe⟩
    · have Hk := hidp (show fairK _ _ _ = false from by rw [Bool.eq_false_iff]; intro h; have := HK.out.1 h; omega)
      have dp : decide ((parts.length : Int) ≤ part) = true := by simpa using p2
      go_enter Tryz.func95, Tryz.ntmps95
      go_wp2_with (first | (go_at_call 52; (with_reducible refine (rthere_any _ _ _ H).mono ?_); rintro e w2 ⟨rfl, hb2⟩; have sc2 := sc.keep (Keeps.of_below hb2); obtain ⟨c0, c1, c2, c3⟩ := sc2; dsimp only at c0 c1 c2 c3; have d5 := Keeps.of_below (hb.trans (hb2.mono hb.size)) _ _ Ht5.out; have bk2 := bk.below hb2; obtain ⟨z0, z1, z2⟩ := Z3 bk2; obtain ⟨f0, f1, f2⟩ := ZF3 bk2; replace hb := hb.trans (hb2.mono hb.size)))
      have PB := put3_bk bk2 (v0 := .int .i64 0) (v1 := .int .i64 0) (v2 := .int .i64 0)
      have PT := put3_turned w2 (w.heap.size + 1) (.int .i64 0) (.int .i64 0) (.int .i64 0)
      obtain ⟨y0, y1, y2⟩ := Z3 PB
      have hbe := hb.trans (PT.below hb.size (by simp))
      rw [NO.out Hk.out, Hk.out]
      exact bodyPost_ret (v := .tuple #[.agg #[.int .i64 0, .int .i64 0, .int .i64 0], .bool false]) (by simp [results, Tryz.results95, go_sem, y0, y1, y2]) rfl ⟨rfl, hbe⟩
    · obtain ⟨m, rfl⟩ : ∃ m : Nat, part = m := ⟨part.toNat, by omega⟩
      have hml : m < parts.length := by omega
      obtain ⟨q, HQ⟩ : ∃ q, Hid (parts.getD m default = q) := ⟨_, rfl⟩
      have dm : decide (parts.length ≤ m) = false := by simp; omega
      by_cases k : q.kind = 3
      · have Hk := hidp (HK.out.2 ⟨p, p2, by simp only [Int.toNat_natCast]; rw [HQ.out]; exact k⟩)
        have Hv : Hid (lockP ⟨proto, ca, cc, cores, ha, hc, homes, some ⟨g, off, none⟩, tc, tasks⟩ n m = q) := hidp (by rw [HV.out Hk.out]; simp only [Int.toNat_natCast]; rw [HQ.out])
        have k2 : (q.kind != 3) = false := by simpa using k
        clear k
        go_enter Tryz.func95, Tryz.ntmps95
        go_wp2_with (first | (go_at_call 52; (with_reducible refine (rthere_any _ _ _ H).mono ?_); rintro e w2 ⟨rfl, hb2⟩; have sc2 := sc.keep (Keeps.of_below hb2); obtain ⟨c0, c1, c2, c3⟩ := sc2; dsimp only at c0 c1 c2 c3; have d5 := Keeps.of_below (hb.trans (hb2.mono hb.size)) _ _ Ht5.out; have pcl := (HQ.out ▸ Hpc.out m hml).keep (Keeps.of_below (hb.trans (hb2.mono hb.size))); obtain ⟨x0, x1, x2⟩ := pcl; have bk2 := bk.below hb2; obtain ⟨z0, z1, z2⟩ := Z3 bk2; obtain ⟨f0, f1, f2⟩ := ZF3 bk2; replace hb := hb.trans (hb2.mono hb.size)))
        have PB := put3_bk bk2 (v0 := .int .i64 q.kind) (v1 := .int .i64 q.len) (v2 := .int .i64 q.res)
        have PT := put3_turned w2 (w.heap.size + 1) (.int .i64 q.kind) (.int .i64 q.len) (.int .i64 q.res)
        obtain ⟨y0, y1, y2⟩ := Z3 PB
        have hbe := hb.trans (PT.below hb.size (by simp))
        rw [Hv.out, Hk.out]
        exact bodyPost_ret (v := .tuple #[.agg #[.int .i64 q.kind, .int .i64 q.len, .int .i64 q.res], .bool true]) (by simp [results, Tryz.results95, go_sem, y0, y1, y2]) rfl ⟨rfl, hbe⟩
      · have Hk := hidp (show fairK _ _ _ = false from by rw [Bool.eq_false_iff]; intro h; have h := (HK.out.1 h).2.2; simp only [Int.toNat_natCast] at h; rw [HQ.out] at h; exact k h)
        have k2 : (q.kind != 3) = true := by simpa using k
        clear k
        go_enter Tryz.func95, Tryz.ntmps95
        go_wp2_with (first | (go_at_call 52; (with_reducible refine (rthere_any _ _ _ H).mono ?_); rintro e w2 ⟨rfl, hb2⟩; have sc2 := sc.keep (Keeps.of_below hb2); obtain ⟨c0, c1, c2, c3⟩ := sc2; dsimp only at c0 c1 c2 c3; have d5 := Keeps.of_below (hb.trans (hb2.mono hb.size)) _ _ Ht5.out; have pcl := (HQ.out ▸ Hpc.out m hml).keep (Keeps.of_below (hb.trans (hb2.mono hb.size))); obtain ⟨x0, x1, x2⟩ := pcl; have bk2 := bk.below hb2; obtain ⟨z0, z1, z2⟩ := Z3 bk2; obtain ⟨f0, f1, f2⟩ := ZF3 bk2; replace hb := hb.trans (hb2.mono hb.size)))
        have PB := put3_bk bk2 (v0 := .int .i64 0) (v1 := .int .i64 0) (v2 := .int .i64 0)
        have PT := put3_turned w2 (w.heap.size + 1) (.int .i64 0) (.int .i64 0) (.int .i64 0)
        obtain ⟨y0, y1, y2⟩ := Z3 PB
        have hbe := hb.trans (PT.below hb.size (by simp))
        rw [NO.out Hk.out, Hk.out]
        exact bodyPost_ret (v := .tuple #[.agg #[.int .i64 0, .int .i64 0, .int .i64 0], .bool false]) (by simp [results, Tryz.results95, go_sem, y0, y1, y2]) rfl ⟨rfl, hbe⟩
  · have e : thereB s of = false := by simpa using e
    have Hk : Hid (fairK s of part = false) := hidp (by refine fairK_not (fun h => ?_); rw [e] at h; exact absurd h.1 (by decide))
    go_enter Tryz.func95, Tryz.ntmps95
    go_wp2_with (first | (go_at_call 52; (with_reducible refine (rthere_any _ _ _ H).mono ?_); rintro e w2 ⟨rfl, hb2⟩; have sc2 := sc.keep (Keeps.of_below hb2); obtain ⟨c0, c1, c2, c3⟩ := sc2; have bk2 := bk.below hb2; obtain ⟨z0, z1, z2⟩ := Z3 bk2; obtain ⟨f0, f1, f2⟩ := ZF3 bk2; replace hb := hb.trans (hb2.mono hb.size)))
    have PB := put3_bk bk2 (v0 := .int .i64 0) (v1 := .int .i64 0) (v2 := .int .i64 0)
    have PT := put3_turned w2 (w.heap.size + 1) (.int .i64 0) (.int .i64 0) (.int .i64 0)
    obtain ⟨y0, y1, y2⟩ := Z3 PB
    have hbe := hb.trans (PT.below hb.size (by simp))
    rw [NO.out Hk.out, Hk.out]
    exact bodyPost_ret (v := .tuple #[.agg #[.int .i64 0, .int .i64 0, .int .i64 0], .bool false]) (by simp [results, Tryz.results95, go_sem, y0, y1, y2]) rfl ⟨rfl, hbe⟩
end Go.Proofs.YtjjlpaampmpdfaaGreatDoor

namespace Go.Proofs.YtjjlpaampmpdfaaGreatDoor
open Go.ChangeShapes Go.WideShapes Go.ChangeAt Go.RowKit
set_option linter.unusedVariables false

set_option maxHeartbeats 4000000 in
set_option maxRecDepth 100000 in
theorem rfair_any (s : SetR) (of part : Int) (w : World) (hs : SetOk w s) : Calls Tryz.prog 70 #[.agg #[.int .i64 s.proto, .slice s.ca s.cores.length s.cc, .slice s.ha s.homes.length s.hc, .slice s.ta s.tasks.length s.tc], .int .i64 of, .int .i64 part] w fun e w' => e = .returned (.tuple #[.int .i64 (fairV s of part), .bool (fairK s of part)]) ∧ Below w.heap.size w w' := by
  have hb := ((Below.refl w.heap.size w).alloc (Nat.le_refl _) (.cells #[.int .i64 s.proto, .slice s.ca s.cores.length s.cc, .slice s.ha s.homes.length s.hc, .slice s.ta s.tasks.length s.tc] 25))
  have sc := SetCells.new w s 25
  have H := hs.keep (Keeps.of_below hb)
  clear hs
  by_cases k : fairK s of part = true
  · have hth := (fairK_iff.1 k).1
    have Ho := hidp (thereB_true.1 hth).1
    have HG := hidp (Good.of Ho.out)
    obtain ⟨p, HP⟩ : ∃ p, Hid (lockP s of part = p) := ⟨_, rfl⟩
    have hpp : partAt s of part = p := by rw [← HP.out]; unfold lockP; rw [if_pos k]
    have hin : of.toNat < s.tasks.length := by have := (thereB_true.1 hth).2; omega
    have hg := HG.out.parts _ (getD_mem hin)
    have hk := fairK_iff.1 k
    have hpm : p ∈ (s.tasks.getD of.toNat default).parts := by
      rw [← hpp]; unfold partAt; exact getD_mem (by omega)
    have hq := hg.lens p hpm
    obtain ⟨q1, q2⟩ := hq
    have Hbd := hidp (fun x (hx : x ∈ rothL of 0 s.tasks) => rothL_bd (fun q hq => (HG.out.parts q hq).lens) x hx)
    have Hlen := hidp (Nat.le_trans (rothL_len of 0 s.tasks) HG.out.ntasks.2)
    have Hv : Hid (fairV s of part = p.len + tot (rothL of 0 s.tasks)) := hidp (by unfold fairV; rw [if_pos k, hpp, (roth_is of 0 s.tasks).1])
    have Htot := hidp (tot_small Hbd.out)
    have Hsum : Hid (sumW (tops (rothL of 0 s.tasks) 6) = tot (rothL of 0 s.tasks)) := hidp (sum_most (k := 6) Hbd.out Hlen.out (by decide))
    obtain ⟨zs, hzs⟩ : ∃ zs, rothL of 0 s.tasks = zs := ⟨_, rfl⟩
    rw [hzs] at Hv Hbd Hlen Htot Hsum
    have Hzs := hidp hzs
    have hl6 := Hlen.out
    have Hi := hidp (fun x (hx : x ∈ zs) => (show I64 x by have := Hbd.out x hx; unfold I64; omega))
    obtain ⟨T, HT⟩ : ∃ T, Hid (tot zs = T) := ⟨_, rfl⟩
    have tb := Htot.out
    rw [HT.out] at tb
    obtain ⟨t0, t1⟩ := tb
    have t2 : T ≤ 360 := by omega
    have hwr : IntKind.i64.wrap (p.len + T) = p.len + T := IntWalk.i64_in _ (by omega)
    have Hwr := hidp hwr
    have Hk := hidp k
    clear hwr t1 hzs hpm hk hg hin hpp hth k
    go_enter Tryz.func70, Tryz.ntmps70
    go_wp2_with fail
    refine (rlock_any _ _ _ _ H).mono ?_
    rintro e w2 ⟨rfl, hb2⟩
    rw [HP.out, Hk.out]
    replace hb := hb.trans (hb2.mono hb.size)
    replace sc := sc.keep (Keeps.of_below hb2)
    replace H := H.keep (Keeps.of_below hb2)
    clear hb2
    have pb : (w2.alloc (.cells #[.int .i64 p.kind, .int .i64 p.len, .int .i64 p.res] 38)).cell? ⟨w2.heap.size, 1, none⟩ = some (.int .i64 p.len) := by simp
    replace hb := hb.alloc hb.size (.cells #[.int .i64 p.kind, .int .i64 p.len, .int .i64 p.res] 38)
    replace sc := sc.keep (Keeps.alloc _ (.cells #[.int .i64 p.kind, .int .i64 p.len, .int .i64 p.res] 38))
    replace H := H.keep (Keeps.alloc _ (.cells #[.int .i64 p.kind, .int .i64 p.len, .int .i64 p.res] 38))
    obtain ⟨w4, hw4⟩ : ∃ w4, w2.alloc (.cells #[.int .i64 p.kind, .int .i64 p.len, .int .i64 p.res] 38) = w4 := ⟨_, rfl⟩
    go_wp2_with fail
    rw [hw4] at pb hb sc H
    clear hw4
    have pb' : w4.drew.cell? ⟨w2.heap.size, 1, none⟩ = some (.int .i64 p.len) := pb
    have sc' := sc.keep (Keeps.drew w4)
    have H' := H.keep (Keeps.drew w4)
    have hb := hb.drew
    have hwr := Hwr.out
    clear pb sc H
    go_region_held3 (fun w' => w'.cell? ⟨w2.heap.size, 1, none⟩ = some (.int .i64 p.len) ∧ w'.cell? ⟨w.heap.size, 0, none⟩ = some (.int .i64 s.proto) ∧ w'.cell? ⟨w.heap.size, 1, none⟩ = some (.slice s.ca s.cores.length s.cc) ∧ w'.cell? ⟨w.heap.size, 2, none⟩ = some (.slice s.ha s.homes.length s.hc) ∧ w'.cell? ⟨w.heap.size, 3, none⟩ = some (.slice s.ta s.tasks.length s.tc)) (exact ⟨pb', sc'⟩)
      (first
        | (go_at_call 97; refine (rothers_any s of _ H' Ho.out).mono ?_; rintro e u ⟨A, c, rfl, hrow, hsl, hb3⟩; rw [Hzs.out] at hrow hsl ⊢; have HA := hidp hrow; have HB := hidp hsl; have pb' := Keeps.of_below hb3 _ _ pb'; have sc' := sc'.keep (Keeps.of_below hb3); have H' := H'.keep (Keeps.of_below hb3); have hb := hb.trans (hb3.mono hb.size))
        | (go_at_call 96; refine (rsum_any (zs := zs) (k := 6) (HA.out.mono (fun _ _ h => h)) rfl HB.out.2.1 HB.out.1 (by omega) (by decide) Hi.out).mono ?_; rintro e u2 ⟨rfl, hb3⟩; rw [Hsum.out, HT.out]; have pb' := Keeps.of_below hb3 _ _ pb'; have sc' := sc'.keep (Keeps.of_below hb3); have hb := hb.trans (hb3.mono hb.size)))
    clear hwr
    go_wp2_with fail
    go_ret2
    exact ⟨ret_ib (by rw [Hv.out, HT.out]) Hk.out.symm, hb⟩
  · have k : fairK s of part = false := by simpa using k
    have Hv := hidp (fair_no k)
    have HP : Hid (lockP s of part = ⟨0, 0, 0⟩) := hidp (by unfold lockP; rw [k]; rfl)
    go_enter Tryz.func70, Tryz.ntmps70
    go_wp2_with fail
    refine (rlock_any _ _ _ _ H).mono ?_
    rintro e w2 ⟨rfl, hb2⟩
    rw [HP.out]
    replace hb := hb.trans (hb2.mono hb.size)
    go_wp2_with fail
    go_ret2
    exact ⟨ret_ib Hv.out.symm k.symm, hb.alloc hb.size _⟩
end Go.Proofs.YtjjlpaampmpdfaaGreatDoor

namespace Go.Proofs.YtjjlpaampmpdfaaGreatDoor
open Go.ChangeShapes Go.WideShapes Go.ChangeAt Go.RowKit
set_option linter.unusedVariables false
set_option linter.unusedSimpArgs false

set_option maxHeartbeats 1000000 in
theorem rjobs_any (w0 b p : Int) (w : World) (i0 : I64 w0) (i1 : I64 b) (i2 : I64 p) :
    Calls Tryz.prog 123 #[.int .i64 w0, .int .i64 b, .int .i64 p] w fun e w' => e = .returned (.int .i64 (jobV w0 b p)) ∧ Qt w w' := by
  by_cases h : w0 < 1 ∨ b < 0 ∨ p < 1
  · have H := hidp (jobV_out h)
    have h' : w0 < 1 ∨ ¬ w0 < 1 ∧ b < 0 ∨ ¬ w0 < 1 ∧ ¬ b < 0 ∧ p < 1 := by omega
    clear h
    rcases h' with h | ⟨h, g⟩ | ⟨h, g, f⟩
    · go_enter Tryz.func123, Tryz.ntmps123
      go_wp2
      go_ret
      exact ⟨ret_int H.out.symm, Qt.refl _⟩
    · go_enter Tryz.func123, Tryz.ntmps123
      go_wp2
      go_ret
      exact ⟨ret_int H.out.symm, Qt.refl _⟩
    · go_enter Tryz.func123, Tryz.ntmps123
      go_wp2
      go_ret
      exact ⟨ret_int H.out.symm, Qt.refl _⟩
  · have a1 : ¬ w0 < 1 := by omega
    have a2 : ¬ b < 0 := by omega
    have a3 : ¬ p < 1 := by omega
    have b1 : 1 ≤ w0 := by omega
    have b2 : 0 ≤ b := by omega
    have b3 : 1 ≤ p := by omega
    have u1 : w0 ≤ 9223372036854775807 := i0.2
    have u2 : b ≤ 9223372036854775807 := i1.2
    have u3 : p ≤ 9223372036854775807 := i2.2
    have H := hidp h
    clear h i0 i1 i2
    have c0 : (p == 0) = false := by simp; omega
    have c1 : (p == -1) = false := by simp; omega
    obtain ⟨q, Hq⟩ : ∃ q, Hid (w0 / p = q) := ⟨_, rfl⟩
    obtain ⟨r, Hr⟩ : ∃ r, Hid (w0 % p = r) := ⟨_, rfl⟩
    obtain ⟨q1, q2⟩ := Hq.out ▸ quot_bd (w := w0) (p := p) (by omega) (by omega)
    obtain ⟨r1, r2⟩ := Hr.out ▸ mod_bd w0 (show 0 < p by omega)
    obtain ⟨q', Hq'⟩ : ∃ q, Hid (b / p = q) := ⟨_, rfl⟩
    obtain ⟨r', Hr'⟩ : ∃ r, Hid (b % p = r) := ⟨_, rfl⟩
    obtain ⟨q1', q2'⟩ := Hq'.out ▸ quot_bd (w := b) (p := p) (by omega) (by omega)
    obtain ⟨r1', r2'⟩ := Hr'.out ▸ mod_bd b (show 0 < p by omega)
    have d1 : w0.tdiv p = q := by rw [Int.tdiv_eq_ediv_of_nonneg (by omega), Hq.out]
    have d2 : w0.tmod p = r := by rw [Int.tmod_eq_emod_of_nonneg (by omega), Hr.out]
    have d1' : b.tdiv p = q' := by rw [Int.tdiv_eq_ediv_of_nonneg (by omega), Hq'.out]
    have d2' : b.tmod p = r' := by rw [Int.tmod_eq_emod_of_nonneg (by omega), Hr'.out]
    by_cases hc : p - r' < r
    · obtain ⟨x, hx⟩ : ∃ x, min (min q 1000000 + min q' 1000000 + 2) 1000000 = x := ⟨_, rfl⟩
      have Hx : Hid (x = jobV w0 b p) := hidp (by
        rw [jobs_carry H.out (by rw [Hr.out, Hr'.out]; omega), Hq.out, Hq'.out, Hr.out, Hr'.out, ← hx, show oneMore (r + r' - p) = 1 by unfold oneMore; rw [if_pos (by omega)]]
        omega)
      go_enter Tryz.func123, Tryz.ntmps123
      go_wp2
      go_quiet (fail)
      go_wp2
      go_quiet (fail)
      go_wp2
      go_ret
      exact ⟨ret_int Hx.out, (Qt.refl _).add _⟩
    · by_cases h0 : 0 < r ∨ 0 < r'
      · obtain ⟨x, hx⟩ : ∃ x, min (min q 1000000 + min q' 1000000 + 1) 1000000 = x := ⟨_, rfl⟩
        have Hx : Hid (x = jobV w0 b p) := hidp (by
          rw [jobs_plain H.out (by rw [Hr.out, Hr'.out]; omega), Hq.out, Hq'.out, Hr.out, Hr'.out, ← hx, show oneMore (r + r') = 1 by unfold oneMore; rw [if_pos (by omega)]]
          omega)
        have h0' : 0 < r ∨ ¬ 0 < r ∧ 0 < r' := by omega
        clear h0
        rcases h0' with h0 | ⟨h0, g0⟩
        · go_enter Tryz.func123, Tryz.ntmps123
          go_wp2
          go_quiet (fail)
          go_wp2
          go_quiet (fail)
          go_wp2
          go_ret
          exact ⟨ret_int Hx.out, (Qt.refl _).add _⟩
        · go_enter Tryz.func123, Tryz.ntmps123
          go_wp2
          go_quiet (fail)
          go_wp2
          go_quiet (fail)
          go_wp2
          go_ret
          exact ⟨ret_int Hx.out, (Qt.refl _).add _⟩
      · obtain ⟨x, hx⟩ : ∃ x, min (min q 1000000 + min q' 1000000) 1000000 = x := ⟨_, rfl⟩
        have Hx : Hid (x = jobV w0 b p) := hidp (by
          rw [jobs_plain H.out (by rw [Hr.out, Hr'.out]; omega), Hq.out, Hq'.out, Hr.out, Hr'.out, ← hx, show oneMore (r + r') = 0 by unfold oneMore; rw [if_neg (by omega)]]
          omega)
        have h1 : ¬ 0 < r := by omega
        have h2 : ¬ 0 < r' := by omega
        clear h0
        go_enter Tryz.func123, Tryz.ntmps123
        go_wp2
        go_quiet (fail)
        go_wp2
        go_quiet (fail)
        go_wp2
        go_ret
        exact ⟨ret_int Hx.out, (Qt.refl _).add _⟩

theorem rwork_any (w0 b p e : Int) (w : World) (i0 : I64 w0) (i1 : I64 b) (i2 : I64 p) (i3 : I64 e) :
    Calls Tryz.prog 93 #[.int .i64 w0, .int .i64 b, .int .i64 p, .int .i64 e] w fun r w' => r = .returned (.int .i64 (workV w0 b p e)) ∧ Qt w w' := by
  have hj := jobV_bd w0 b p
  obtain ⟨j, Hj⟩ : ∃ j, Hid (jobV w0 b p = j) := ⟨_, rfl⟩
  rw [Hj.out] at hj
  obtain ⟨j0, j1⟩ := hj
  obtain ⟨v, hv⟩ : ∃ v, max 0 (min e 1073741824) = v := ⟨_, rfl⟩
  have v0 : 0 ≤ v := by rw [← hv]; omega
  have v1 : v ≤ 1073741824 := by rw [← hv]; omega
  have p0 : 0 ≤ j * v := Int.mul_nonneg j0 v0
  have p1 : j * v ≤ 1000000 * 1073741824 := Int.mul_le_mul j1 v1 v0 (by omega)
  obtain ⟨x, hx⟩ : ∃ x, min (j * v) 1000000 = x := ⟨_, rfl⟩
  have Hx : Hid (x = workV w0 b p e) := hidp (by
    unfold workV
    rw [Hj.out, ← hx]
    have hve : v = max e 0 ∨ (e > 1073741824 ∧ v = 1073741824) := by rw [← hv]; omega
    rcases hve with hve | ⟨he, hve⟩
    · rw [hve]
    · have hm : max e 0 = e := by omega
      rw [hve, hm]
      by_cases hj0 : j = 0
      · subst hj0; simp only [Int.zero_mul]
      · have h1 : 1 * 1073741824 ≤ j * 1073741824 := Int.mul_le_mul_of_nonneg_right (by omega) (by omega)
        have h2 : 1 * e ≤ j * e := Int.mul_le_mul_of_nonneg_right (by omega) (by omega)
        omega)
  go_enter Tryz.func93, Tryz.ntmps93
  go_wp2_with fail
  refine (rjobs_any _ _ _ _ i0 i1 i2).mono ?_
  rintro e2 w' ⟨rfl, hq⟩
  rw [Hj.out]
  go_wp2_with fail
  go_ret
  exact ⟨ret_int Hx.out, hq⟩
end Go.Proofs.YtjjlpaampmpdfaaGreatDoor

namespace Go.Proofs.YtjjlpaampmpdfaaGreatDoor
open Go.ChangeShapes Go.WideShapes Go.ChangeAt Go.RowKit
set_option linter.unusedVariables false
set_option linter.unusedSimpArgs false

theorem srv_out {s : SetR} {of cl : Int} (h : thereB s of = false) : srv s of cl = [] := by
  unfold srv
  rw [if_neg]
  intro h2
  have := thereB_true.2 h2
  rw [h] at this; cases this
set_option maxHeartbeats 4000000 in
set_option maxRecDepth 100000 in
theorem rat_any (s : SetR) (of cl : Int) (w : World) (hs : SetOk w s) : Calls Tryz.prog 124 #[.agg #[.int .i64 s.proto, .slice s.ca s.cores.length s.cc, .slice s.ha s.homes.length s.hc, .slice s.ta s.tasks.length s.tc], .int .i64 of, .int .i64 cl] w fun e w' => e = .returned (.tuple #[.int .i64 (atV s of cl), .int .i64 (mostV s of cl)]) ∧ Below w.heap.size w w' := by
  have hb := (Below.refl w.heap.size w).alloc (Nat.le_refl _) (.cells #[.int .i64 s.proto, .slice s.ca s.cores.length s.cc, .slice s.ha s.homes.length s.hc, .slice s.ta s.tasks.length s.tc] 25)
  have sc := SetCells.new w s 25
  have H := hs.keep (Keeps.of_below hb)
  by_cases e : thereB s of = true
  · obtain ⟨ho, r1, r2⟩ := thereB_true.1 e
    obtain ⟨n, rfl⟩ : ∃ n : Nat, of = n := ⟨of.toNat, by omega⟩
    have hn : n < s.tasks.length := by omega
    have hg := Good.of ho
    have Hth := hidp e
    obtain ⟨t, HT⟩ : ∃ t, Hid (s.tasks.getD n default = t) := ⟨_, rfl⟩
    have hm : t ∈ s.tasks := HT.out ▸ getD_mem hn
    have Tok := hidp (hs.tasks.ok t hm)
    have Tg := hidp (hg.parts t hm)
    have Hsrv : Hid (srv s n cl = t.parts.filter (srvB s.homes cl)) := hidp (by unfold srv; rw [if_pos ⟨ho, r1, r2⟩]; simp only [Int.toNat_natCast]; rw [HT.out])
    have HhA := hidp hs.homes.at_
    have Hhl := hidp hg.nhomes
    obtain ⟨g, off, hA, hcl⟩ := hs.tasks.at_.resolve_left (by intro e; rw [e] at hn; simp at hn)
    have HC := hidp (HT.out ▸ hcl n hn)
    have lp := Tg.out.len
    obtain ⟨gp, op, hP, hpl⟩ := Tok.out.at_.resolve_left (by intro e; rw [e] at lp; simp at lp)
    have Hpl := hidp hpl
    obtain ⟨hom, Hhom⟩ : ∃ hom, Hid (s.homes = hom) := ⟨_, rfl⟩
    have Ha : Hid (atV s n cl = sumK 3 (t.parts.filter (srvB hom cl))) := hidp (by unfold atV; rw [Hsrv.out, Hhom.out])
    have Hmx : Hid (mostV s n cl = maxL (t.parts.filter (srvB hom cl))) := hidp (by unfold mostV; rw [Hsrv.out, Hhom.out])
    rw [Hhom.out] at HhA Hhl
    clear hcl hpl hm hg hs ho e r1
    obtain ⟨nm, per, dl, prio, tcls, pa, pc, parts⟩ := t
    obtain ⟨proto, ca, cc, cores, ha, hc, homes, ta, tc, tasks⟩ := s
    dsimp only at hA hP HC Hpl lp hn r2 hb sc H HhA Hhl Ha Hmx Tg ⊢
    subst hA
    subst hP
    have Hhl2 : Hid (homes.length = hom.length) := hidp (by rw [← Hhom.out])
    go_enter Tryz.func124, Tryz.ntmps124
    go_wp2_with fail
    refine (rthere_any _ _ _ H).mono ?_
    rintro e w2 ⟨rfl, hb2⟩
    replace hb := hb.trans (hb2.mono hb.size)
    replace sc := sc.keep (Keeps.of_below hb2)
    clear hb2
    try clear sc_0 sc_1 sc_2 sc_3
    have scx := sc
    obtain ⟨sc_0, sc_1, sc_2, sc_3⟩ := scx
    try dsimp only at sc_0 sc_1 sc_2 sc_3
    rw [Hth.out]
    have tcl := HC.out.keep (Keeps.of_below hb)
    obtain ⟨d0, d1, d2, d3, d4, d5⟩ := tcl
    dsimp only at d0 d1 d2 d3 d4 d5
    have hb1 := hb.alloc hb.size (.cells #[.string nm, .int .i64 per, .int .i64 dl, .int .i64 prio, .int .i64 tcls, .slice (some ⟨gp, op, none⟩) parts.length pc] 41)
    have tb := TaskBox.new w2 ⟨nm, per, dl, prio, tcls, some ⟨gp, op, none⟩, pc, parts⟩ 41
    have sc1 := sc.keep (Keeps.alloc w2 (.cells #[.string nm, .int .i64 per, .int .i64 dl, .int .i64 prio, .int .i64 tcls, .slice (some ⟨gp, op, none⟩) parts.length pc] 41))
    have Htb := hidp tb
    have Hsc := hidp sc1
    go_wp2
    go_loopg [8, 9, 11] parts.length (fun gg s8 s9 i wr => ∃ (k : Nat) (x y : Int), k + gg = parts.length ∧ i = .int .i64 k ∧ s8 = .int .i64 x ∧ s9 = .int .i64 y ∧ Hid (sumK 3 ((parts.take k).filter (srvB hom cl)) = x) ∧ Hid (maxL ((parts.take k).filter (srvB hom cl)) = y) ∧ Qt (w2.alloc (.cells #[.string nm, .int .i64 per, .int .i64 dl, .int .i64 prio, .int .i64 tcls, .slice (some ⟨gp, op, none⟩) parts.length pc] 41)) wr)
    case atStart => exact ⟨0, 0, 0, by omega, rfl, rfl, rfl, hidp (by simp [sumK]), hidp (by simp [maxL]), Qt.refl _⟩
    case round =>
      obtain ⟨k, x, y, hk, rfl, rfl, rfl, Hx, Hy, hq⟩ := hrel
      clear sc_0 sc_1 sc_2 sc_3 d0 d1 d2 d3 d4 d5 tb sc1
      have lf : LenOk ((parts.take k).filter (srvB hom cl)) := fun p hp => Tg.out.lens p (List.mem_of_mem_take (List.mem_filter.1 hp).1)
      have x0 := (sumK_bd 3 lf)
      have x1 : ((parts.take k).filter (srvB hom cl)).length ≤ 6 := Nat.le_trans (List.length_filter_le _ _) (by simp; omega)
      have y0 := maxL_nn ((parts.take k).filter (srvB hom cl))
      rw [Hx.out] at x0
      rw [Hy.out] at y0
      obtain ⟨x2, x3⟩ := x0
      have x4 : x ≤ 360 := by omega
      clear lf x1 x3
      obtain ⟨_, _, _, _, _, b5⟩ := Htb.out.keep (Keeps.of_qt hq)
      dsimp only at b5
      by_cases hlt : k < parts.length
      · obtain ⟨p, HN⟩ : ∃ p, Hid (parts.getD k default = p) := ⟨_, rfl⟩
        have pcl := (HN.out ▸ Hpl.out k hlt).keep (Keeps.of_below (hq.below hb1))
        have pg := Tg.out.good p (HN.out ▸ getD_mem hlt)
        have Hs : Hid ((parts.take (k + 1)).filter (srvB hom cl) = (parts.take k).filter (srvB hom cl) ++ (if srvB hom cl p then [p] else [])) := hidp (by
          rw [take_snocD _ _ hlt, List.filter_append, HN.out]
          congr 1
          by_cases e : srvB hom cl p = true
          · simp [e]
          · simp [e])
        obtain ⟨kd, ln, rs⟩ := p
        obtain ⟨p0, p1, p2⟩ := pcl
        dsimp only at p0 p1 p2
        obtain ⟨_, _, q2, _⟩ := Hsc.out.keep (Keeps.of_qt hq)
        dsimp only at q2
        by_cases e : kd = 3
        · subst e
          obtain ⟨pg0, pg1, pg2, pg3⟩ := pg
          dsimp only at pg1 pg2 pg3
          have g3 := pg3 rfl
          obtain ⟨r, hr0⟩ : ∃ r : Nat, rs = r := ⟨rs.toNat, by have := g3.1; omega⟩
          subst hr0
          have hrl : r < homes.length := by have := g3.2; omega
          have hrl' : r < hom.length := by rw [← Hhl2.out]; exact hrl
          obtain ⟨gh, oh, hHA, hhc⟩ := HhA.out.resolve_left (by intro e; rw [e] at hrl'; simp at hrl')
          subst hHA
          obtain ⟨h, HH⟩ : ∃ h, Hid (hom.getD r 0 = h) := ⟨_, rfl⟩
          have ch := Keeps.of_below (hq.below hb1) _ _ (HH.out ▸ hhc r hrl')
          clear hhc g3 pg0 pg3
          by_cases e : h = cl
          · subst e
            have Hy2 : Hid (srvB hom h ⟨3, ln, r⟩ = true) := hidp (by simp [srvB]; exact HH.out)
            have Hz : Hid ((parts.take (k + 1)).filter (srvB hom h) = (parts.take k).filter (srvB hom h) ++ [⟨3, ln, r⟩]) := hidp (by rw [Hs.out, Hy2.out]; simp)
            obtain ⟨m, hm⟩ : ∃ m, max y ln = m := ⟨_, rfl⟩
            have Hm : Hid (m = max y ln) := hidp hm.symm
            have hg1 : ((h : Int) == h) = true := by simp
            go_wp2
            go_quiet (fail)
            go_wp2
            go_quiet (fail)
            go_wp2
            go_roundg (gk - 1)
            case measure => omega
            case rel => exact ⟨k + 1, x + ln, m, by omega, by go_num, rfl, rfl, hidp (by rw [Hz.out, sumK_append, Hx.out]; simp [sumK]), hidp (by rw [Hz.out, maxL_append, Hy.out, Hm.out]; simp [maxL]; omega), by first | exact hq.add _ | exact (hq.add _).add _⟩
          · have hg1 : ((h : Int) == cl) = false := by simpa using e
            have Hy2 : Hid (srvB hom cl ⟨3, ln, r⟩ = false) := hidp (by simp [srvB]; intro h2; exact e (HH.out ▸ h2))
            have Hz : Hid ((parts.take (k + 1)).filter (srvB hom cl) = (parts.take k).filter (srvB hom cl)) := hidp (by rw [Hs.out, Hy2.out]; simp)
            clear e
            go_wp2
            go_quiet (fail)
            go_wp2
            go_roundg (gk - 1)
            case measure => omega
            case rel => exact ⟨k + 1, x, y, by omega, by go_num, rfl, rfl, hidp (by rw [Hz.out, Hx.out]), hidp (by rw [Hz.out, Hy.out]), hq.add _⟩
        · have e' : (kd == 3) = false := by simpa using e
          have Hz : Hid ((parts.take (k + 1)).filter (srvB hom cl) = (parts.take k).filter (srvB hom cl)) := hidp (by
            rw [Hs.out, show srvB hom cl ⟨kd, ln, rs⟩ = false by simp [srvB, e]]; simp)
          clear e
          go_wp2
          go_quiet (fail)
          go_wp2
          go_roundg (gk - 1)
          case measure => omega
          case rel => exact ⟨k + 1, x, y, by omega, by go_num, rfl, rfl, hidp (by rw [Hz.out, Hx.out]), hidp (by rw [Hz.out, Hy.out]), hq.add _⟩
      · obtain rfl : k = parts.length := by omega
        have Hx2 : Hid (x = sumK 3 (parts.filter (srvB hom cl))) := hidp (by have := Hx.out; rw [List.take_length] at this; exact this.symm)
        have Hy2 : Hid (y = maxL (parts.filter (srvB hom cl))) := hidp (by have := Hy.out; rw [List.take_length] at this; exact this.symm)
        go_wp2
        go_ret2
        exact ⟨by rw [Ha.out, Hmx.out, ← Hx2.out, ← Hy2.out]; rfl, hq.below hb1⟩
  · have e : thereB s of = false := by simpa using e
    have Ha : Hid (atV s of cl = 0) := hidp (by unfold atV; rw [srv_out e]; rfl)
    have Hm : Hid (mostV s of cl = 0) := hidp (by unfold mostV; rw [srv_out e]; rfl)
    have Hth := hidp e
    clear e
    go_enter Tryz.func124, Tryz.ntmps124
    go_wp2_with fail
    refine (rthere_any _ _ _ H).mono ?_
    rintro e w2 ⟨rfl, hb2⟩
    replace hb := hb.trans (hb2.mono hb.size)
    replace sc := sc.keep (Keeps.of_below hb2)
    clear hb2
    rw [Hth.out]
    go_wp2
    go_ret2
    exact ⟨by rw [Ha.out, Hm.out]; rfl, hb⟩
end Go.Proofs.YtjjlpaampmpdfaaGreatDoor

namespace Go.Proofs.YtjjlpaampmpdfaaGreatDoor
open Go.ChangeShapes Go.WideShapes Go.ChangeAt Go.RowKit
set_option linter.unusedVariables false
set_option linter.unusedSimpArgs false

set_option maxHeartbeats 4000000 in
set_option maxRecDepth 100000 in
theorem rlower_any (s : SetR) (of cl : Int) (w : World) (hs : SetOk w s) : Calls Tryz.prog 98 #[.agg #[.int .i64 s.proto, .slice s.ca s.cores.length s.cc, .slice s.ha s.homes.length s.hc, .slice s.ta s.tasks.length s.tc], .int .i64 of, .int .i64 cl] w fun e w' => e = .returned (.int .i64 (lowerV s of cl)) ∧ Below w.heap.size w w' := by
  have hb := (Below.refl w.heap.size w).alloc (Nat.le_refl _) (.cells #[.int .i64 s.proto, .slice s.ca s.cores.length s.cc, .slice s.ha s.homes.length s.hc, .slice s.ta s.tasks.length s.tc] 25)
  have sc := SetCells.new w s 25
  have HS := hidp hs
  have l3 : s.tasks.length ≤ maxLen := Nat.le_trans hs.tasks.sl.2.1 hs.tasks.sl.2.2
  unfold maxLen at l3
  by_cases e : thereB s of = true
  · obtain ⟨ho, r1, r2⟩ := thereB_true.1 e
    obtain ⟨o, rfl⟩ : ∃ o : Nat, of = o := ⟨of.toNat, by omega⟩
    have hof : o < s.tasks.length := by omega
    have hg := Good.of ho
    have n6 := hg.ntasks.2
    obtain ⟨P, HP⟩ : ∃ P, Hid (prioOf s o = P) := ⟨_, rfl⟩
    obtain ⟨Lv, HLv⟩ : ∃ Lv : Nat → Int, Hid (∀ k, lowL s P cl 0 (s.tasks.take k) = Lv k) := ⟨fun k => lowL s P cl 0 (s.tasks.take k), hidp (fun _ => rfl)⟩
    obtain ⟨Mt, HMt⟩ : ∃ Mt : Nat → Int, Hid (∀ k : Nat, mostV s k cl = Mt k) := ⟨fun k => mostV s k cl, hidp (fun _ => rfl)⟩
    have HMb : Hid (∀ k, 0 ≤ Mt k ∧ Mt k ≤ 60) := hidp (fun k => by rw [← HMt.out]; exact mostV_bd s k cl)
    have HL0 : Hid (Lv 0 = 0) := hidp (by rw [← HLv.out]; simp [lowL])
    have HLb : Hid (∀ k, 0 ≤ Lv k ∧ Lv k ≤ 60) := hidp (fun k => by rw [← HLv.out]; exact lowL_bd s P cl 0 _)
    have HLs : Hid (∀ k, k < s.tasks.length → Lv (k + 1) = max (Lv k) (if P < (s.tasks.getD k default).prio then Mt k else 0)) := hidp (fun k hk => by rw [← HLv.out, ← HLv.out, ← HMt.out]; exact lowL_snoc s P cl s.tasks k hk)
    have HLe : Hid (lowerV s o cl = Lv s.tasks.length) := hidp (by unfold lowerV; rw [if_pos e, HP.out, ← HLv.out, List.take_length])
    rw [HLe.out]
    have HPr : Hid ((s.tasks.getD o default).prio = P) := hidp (by rw [← HP.out]; simp [prioOf])
    have HR := hidp hs.tasks.at_
    have Hth := hidp e
    clear hs ho hg HP HLv HLe e r1 r2
    obtain ⟨proto, ca, cc, cores, ha, hc, homes, ta, tc, tasks⟩ := s
    dsimp only at HR hof n6 hb HLs HPr l3 ⊢
    obtain ⟨g, off, hA, hcl⟩ := HR.out.resolve_left (by intro e; rw [e] at hof; simp at hof)
    subst hA
    have Hcl := hidp hcl
    have Hown : Hid (∀ wr, Below w.heap.size w wr → wr.cell? ⟨g, off + o * 6 + 3, none⟩ = some (.int .i64 P)) := hidp (fun wr h => by
      rw [((hcl o hof).keep (Keeps.of_below h)).2.2.2.1, HPr.out])
    clear hcl HR
    go_enter Tryz.func98, Tryz.ntmps98
    go_wp2
    go_loopg [7, 8] tasks.length (fun gg a i wr => ∃ (k : Nat) (x : Int), k + gg = tasks.length ∧ i = .int .i64 k ∧ a = .int .i64 x ∧ Hid (Lv k = x) ∧ SetCells wr w.heap.size ⟨proto, ca, cc, cores, ha, hc, homes, some ⟨g, off, none⟩, tc, tasks⟩ ∧ Below w.heap.size w wr)
    case atStart => exact ⟨0, 0, by omega, rfl, rfl, hidp HL0.out, sc, hb⟩
    case round =>
      clear sc hb
      obtain ⟨k, x, hk, rfl, rfl, Hx, sc, hb⟩ := hrel
      obtain ⟨sc_0, sc_1, sc_2, sc_3⟩ := id sc
      dsimp only at sc_0 sc_1 sc_2 sc_3
      have hx := HLb.out k
      rw [Hx.out] at hx
      obtain ⟨x0, x1⟩ := hx
      by_cases hlt : k < tasks.length
      · obtain ⟨t, HT⟩ : ∃ t, Hid (tasks.getD k default = t) := ⟨_, rfl⟩
        go_wp2_with fail
        refine (rthere_any _ o _ (HS.out.keep (Keeps.of_below hb))).mono ?_
        rintro e w2 ⟨rfl, hb2⟩
        replace hb := hb.trans (hb2.mono hb.size)
        replace sc := sc.keep (Keeps.of_below hb2)
        clear hb2
        try clear sc_0 sc_1 sc_2 sc_3
        have scx := sc
        obtain ⟨sc_0, sc_1, sc_2, sc_3⟩ := scx
        try dsimp only at sc_0 sc_1 sc_2 sc_3
        rw [Hth.out]
        have tcl := (HT.out ▸ Hcl.out k hlt).keep (Keeps.of_below hb)
        obtain ⟨d0, d1, d2, d3, d4, d5⟩ := tcl
        have hP := Hown.out _ hb
        obtain ⟨y, Hy⟩ : ∃ y, Hid (Mt k = y) := ⟨_, rfl⟩
        have hy := HMb.out k
        rw [Hy.out] at hy
        obtain ⟨y0, y1⟩ := hy
        have Hs : Hid (Lv (k + 1) = max x (if P < t.prio then y else 0)) := hidp (by rw [HLs.out k hlt, HT.out, Hx.out, Hy.out])
        by_cases e : P < t.prio
        · have Hz : Hid (Lv (k + 1) = max x y) := hidp (by rw [Hs.out, if_pos e])
          go_wp2
          go_quiet (fail)
          replace hb := below_drewN hb nq
          replace sc := sc.keep (Keeps.drewN _ nq)
          go_wp2_with fail
          refine (rat_any _ k cl _ (HS.out.keep (Keeps.of_below hb))).mono ?_
          rintro e w3 ⟨rfl, hb2⟩
          replace hb := hb.trans (hb2.mono hb.size)
          replace sc := sc.keep (Keeps.of_below hb2)
          clear hb2
          rw [HMt.out, Hy.out]
          go_wp2_with fail
          go_roundg (gk - 1)
          case measure => omega
          case rel => exact ⟨k + 1, max x y, by omega, by go_num, rfl, Hz, sc, hb⟩
        · have Hz : Hid (Lv (k + 1) = x) := hidp (by rw [Hs.out, if_neg e]; omega)
          go_wp2
          go_quiet (fail)
          go_wp2
          go_roundg (gk - 1)
          case measure => omega
          case rel => exact ⟨k + 1, x, by omega, by go_num, rfl, Hz, sc, below_drewN hb _⟩
      · obtain rfl : k = tasks.length := by omega
        go_wp2
        go_ret
        exact ⟨ret_int Hx.out.symm, hb⟩
  · have Hv : Hid (lowerV s of cl = 0) := hidp (by unfold lowerV; rw [if_neg e])
    have Hth : Hid (thereB s of = false) := hidp (by simpa using e)
    clear e hs
    go_enter Tryz.func98, Tryz.ntmps98
    go_wp2
    go_loopg [7, 8] 1 (fun gg a i wr => gg = 1 ∧ i = .int .i64 0 ∧ a = .int .i64 0 ∧ SetCells wr w.heap.size s ∧ Below w.heap.size w wr)
    case atStart => exact ⟨rfl, rfl, rfl, sc, hb⟩
    case round =>
      clear sc hb
      obtain ⟨hk, rfl, rfl, sc, hb⟩ := hrel
      obtain ⟨sc_0, sc_1, sc_2, sc_3⟩ := id sc
      by_cases h0 : 0 < s.tasks.length
      · go_wp2_with fail
        refine (rthere_any _ of _ (HS.out.keep (Keeps.of_below hb))).mono ?_
        rintro e w2 ⟨rfl, hb2⟩
        replace hb := hb.trans (hb2.mono hb.size)
        replace sc := sc.keep (Keeps.of_below hb2)
        clear hb2
        try clear sc_0 sc_1 sc_2 sc_3
        have scx := sc
        obtain ⟨sc_0, sc_1, sc_2, sc_3⟩ := scx
        try dsimp only at sc_0 sc_1 sc_2 sc_3
        rw [Hth.out]
        go_wp2
        go_ret
        exact ⟨ret_int Hv.out.symm, hb⟩
      · have h0' : s.tasks.length = 0 := by omega
        go_wp2
        go_ret
        exact ⟨ret_int Hv.out.symm, hb⟩

set_option maxHeartbeats 4000000 in
set_option maxRecDepth 100000 in
theorem rhigher_any (s : SetR) (bs : List Int) (ba : Option Addr) (bc : Nat) (of cl wd : Int) (w : World) (hs : SetOk w s) (hB : IntsOk w ba bc bs) (hwd : I64 wd) : Calls Tryz.prog 99 #[.agg #[.int .i64 s.proto, .slice s.ca s.cores.length s.cc, .slice s.ha s.homes.length s.hc, .slice s.ta s.tasks.length s.tc], .slice ba bs.length bc, .int .i64 of, .int .i64 cl, .int .i64 wd] w fun e w' => e = .returned (.int .i64 (higherV s bs of cl wd)) ∧ Below w.heap.size w w' := by
  have hb := (Below.refl w.heap.size w).alloc (Nat.le_refl _) (.cells #[.int .i64 s.proto, .slice s.ca s.cores.length s.cc, .slice s.ha s.homes.length s.hc, .slice s.ta s.tasks.length s.tc] 25)
  have sc := SetCells.new w s 25
  have H := hs.keep (Keeps.of_below hb)
  have HS := hidp hs
  have HB := hidp hB
  have l3 : s.tasks.length ≤ maxLen := Nat.le_trans hs.tasks.sl.2.1 hs.tasks.sl.2.2
  have l4 : bs.length ≤ maxLen := Nat.le_trans hB.sl.2.1 hB.sl.2.2
  unfold maxLen at l3 l4
  have Hwd := hidp hwd
  clear hwd
  by_cases e : thereB s of = true
  · have Hth := hidp e
    by_cases e2 : bs.length = s.tasks.length
    · obtain ⟨ho, r1, r2⟩ := thereB_true.1 e
      obtain ⟨o, rfl⟩ : ∃ o : Nat, of = o := ⟨of.toNat, by omega⟩
      have hof : o < s.tasks.length := by omega
      have HL := hidp e2
      have n6 := (Good.of ho).ntasks.2
      have d1 : ((bs.length : Int) != (s.tasks.length : Int)) = false := by simp [e2]
      obtain ⟨P, HP⟩ : ∃ P, Hid (prioOf s o = P) := ⟨_, rfl⟩
      obtain ⟨Wv, HWv⟩ : ∃ Wv : Nat → Int, Hid (∀ k, capV (workS wd (rivL s bs P cl 0 (s.tasks.take k))) = Wv k) := ⟨fun k => capV (workS wd (rivL s bs P cl 0 (s.tasks.take k))), hidp (fun _ => rfl)⟩
      obtain ⟨At, HAt⟩ : ∃ At : Nat → Int, Hid (∀ k : Nat, atV s k cl = At k) := ⟨fun k => atV s k cl, hidp (fun _ => rfl)⟩
      have HAb : Hid (∀ k, 0 ≤ At k ∧ At k ≤ 360) := hidp (fun k => by rw [← HAt.out]; exact atV_bd s k cl)
      have HW0 : Hid (Wv 0 = 0) := hidp (by rw [← HWv.out, List.take_zero]; rfl)
      have HWb : Hid (∀ k, 0 ≤ Wv k ∧ Wv k ≤ 1000000) := hidp (fun k => by
        rw [← HWv.out]
        have := workS_bd wd (rivL s bs P cl 0 (s.tasks.take k))
        unfold capV; omega)
      have HWs : Hid (∀ k, k < s.tasks.length → Wv (k + 1) = min (Wv k + (if (s.tasks.getD k default).prio < P then workV wd (bs.getD k 0) (s.tasks.getD k default).per (At k) else 0)) 1000000) := hidp (fun k hk => by
        rw [← HWv.out, ← HWv.out, ← HAt.out, rivL_snoc s bs P cl s.tasks k hk, workS_append]
        have := workS_bd wd (rivL s bs P cl 0 (s.tasks.take k))
        unfold capV
        split
        · have := workV_bd wd (bs.getD k 0) (s.tasks.getD k default).per (atV s k cl)
          simp only [workS]; omega
        · simp only [workS]; omega)
      have HWe : Hid (higherV s bs o cl wd = Wv s.tasks.length) := hidp (by unfold higherV; rw [if_pos (higherB_true.2 ⟨e, e2⟩), HP.out, ← HWv.out, List.take_length])
      rw [HWe.out]
      have HPr : Hid ((s.tasks.getD o default).prio = P) := hidp (by rw [← HP.out]; simp [prioOf])
      have HR := hidp hs.tasks.at_
      have Hok := hidp hs.tasks.ok
      have HBR := hidp hB.at_
      clear hs hB ho HP HWv HWe e r1 r2
      have hlen := e2
      clear e2
      obtain ⟨proto, ca, cc, cores, ha, hc, homes, ta, tc, tasks⟩ := s
      dsimp only at HR hof n6 hb HWs HPr H l3 d1 hlen Hok ⊢
      obtain ⟨g, off, hA, hcl⟩ := HR.out.resolve_left (by intro e; rw [e] at hof; simp at hof)
      subst hA
      obtain ⟨gb, ob, hBA, hbl⟩ := HBR.out.resolve_left (by intro e; rw [e] at hlen; simp at hlen; omega)
      subst hBA
      have Hcl := hidp hcl
      have Hbl := hidp hbl
      have Hown : Hid (∀ wr, Below w.heap.size w wr → wr.cell? ⟨g, off + o * 6 + 3, none⟩ = some (.int .i64 P)) := hidp (fun wr h => by
        rw [((hcl o hof).keep (Keeps.of_below h)).2.2.2.1, HPr.out])
      clear hcl HR hbl HBR hlen
      go_enter Tryz.func99, Tryz.ntmps99
      go_wp2_with fail
      refine (rthere_any _ _ _ H).mono ?_
      rintro e w2 ⟨rfl, hb2⟩
      replace hb := hb.trans (hb2.mono hb.size)
      replace sc := sc.keep (Keeps.of_below hb2)
      clear hb2
      try clear sc_0 sc_1 sc_2 sc_3
      have scx := sc
      obtain ⟨sc_0, sc_1, sc_2, sc_3⟩ := scx
      try dsimp only at sc_0 sc_1 sc_2 sc_3
      rw [Hth.out]
      go_wp2
      go_loopg [11, 12] tasks.length (fun gg a i wr => ∃ (k : Nat) (x : Int), k + gg = tasks.length ∧ i = .int .i64 k ∧ a = .int .i64 x ∧ Hid (Wv k = x) ∧ SetCells wr w.heap.size ⟨proto, ca, cc, cores, ha, hc, homes, some ⟨g, off, none⟩, tc, tasks⟩ ∧ Below w.heap.size w wr)
      case atStart => exact ⟨0, 0, by omega, rfl, rfl, hidp HW0.out, sc, hb⟩
      case round =>
        clear sc hb sc_0 sc_1 sc_2 sc_3
        obtain ⟨k, x, hk, rfl, rfl, Hx, sc, hb⟩ := hrel
        obtain ⟨sc_0, sc_1, sc_2, sc_3⟩ := id sc
        dsimp only at sc_0 sc_1 sc_2 sc_3
        have hx := HWb.out k
        rw [Hx.out] at hx
        obtain ⟨x0, x1⟩ := hx
        by_cases hlt : k < tasks.length
        · obtain ⟨t, HT⟩ : ∃ t, Hid (tasks.getD k default = t) := ⟨_, rfl⟩
          have hkb : k < bs.length := by rw [HL.out]; exact hlt
          have tcl := (HT.out ▸ Hcl.out k hlt).keep (Keeps.of_below hb)
          obtain ⟨d0, d1', d2, d3, d4, d5⟩ := tcl
          have hP := Hown.out _ hb
          obtain ⟨b, Hb⟩ : ∃ b, Hid (bs.getD k 0 = b) := ⟨_, rfl⟩
          obtain ⟨a, Ha⟩ : ∃ a, Hid (At k = a) := ⟨_, rfl⟩
          have ha2 := HAb.out k
          rw [Ha.out] at ha2
          have ib : I64 b := by rw [← Hb.out]; exact getD_i64 HB.out.wf k
          have it : I64 t.per := (Hok.out t (HT.out ▸ getD_mem hlt)).per
          have ia : I64 a := by unfold I64; omega
          obtain ⟨v, HV⟩ : ∃ v, Hid (workV wd b t.per a = v) := ⟨_, rfl⟩
          have hv := workV_bd wd b t.per a
          rw [HV.out] at hv
          obtain ⟨v0, v1⟩ := hv
          have HWk : Hid (∀ u, Calls Tryz.prog 93 #[.int .i64 wd, .int .i64 b, .int .i64 t.per, .int .i64 a] u fun e w' => e = .returned (.int .i64 v) ∧ Qt u w') := hidp (fun u => by rw [← HV.out]; exact rwork_any wd b t.per a u Hwd.out ib it ia)
          have Hs : Hid (Wv (k + 1) = min (x + (if t.prio < P then v else 0)) 1000000) := hidp (by rw [HWs.out k hlt, HT.out, Hx.out, Hb.out, Ha.out, HV.out])
          clear ib it ia ha2
          by_cases e : t.prio < P
          · have Hz : Hid (Wv (k + 1) = min (x + v) 1000000) := hidp (by rw [Hs.out, if_pos e])
            go_wp2
            go_quiet (fail)
            replace hb := below_drewN hb nq
            replace sc := sc.keep (Keeps.drewN _ nq)
            clear d0 d1' d2 d3 d4 d5 hP
            go_wp2_with fail
            refine (rat_any _ k cl _ (HS.out.keep (Keeps.of_below hb))).mono ?_
            rintro e w3 ⟨rfl, hb2⟩
            replace hb := hb.trans (hb2.mono hb.size)
            replace sc := sc.keep (Keeps.of_below hb2)
            clear hb2
            try clear sc_0 sc_1 sc_2 sc_3
            have scx := sc
            obtain ⟨sc_0, sc_1, sc_2, sc_3⟩ := scx
            try dsimp only at sc_0 sc_1 sc_2 sc_3
            rw [HAt.out, Ha.out]
            have tcl := (HT.out ▸ Hcl.out k hlt).keep (Keeps.of_below hb)
            have d1' := tcl.2.1
            have hbc := Keeps.of_below hb _ _ (Hb.out ▸ Hbl.out k hkb)
            clear tcl
            go_wp2_with fail
            go_quiet ((go_at_call 93; exact Calls.quiet_of (HWk.out _)))
            go_wp2_with fail
            go_roundg (gk - 1)
            case measure => omega
            case rel => exact ⟨k + 1, min (x + v) 1000000, by omega, by go_num, rfl, Hz, sc, below_drewN hb _⟩
          · have Hz : Hid (Wv (k + 1) = x) := hidp (by rw [Hs.out, if_neg e]; omega)
            go_wp2
            go_quiet (fail)
            go_wp2
            go_roundg (gk - 1)
            case measure => omega
            case rel => exact ⟨k + 1, x, by omega, by go_num, rfl, Hz, sc, below_drewN hb _⟩
        · obtain rfl : k = tasks.length := by omega
          go_wp2
          go_ret
          exact ⟨ret_int Hx.out.symm, hb⟩
    · have Hv : Hid (higherV s bs of cl wd = 0) := hidp (by unfold higherV; rw [if_neg (fun h => e2 (higherB_true.1 h).2)])
      have d1 : ((bs.length : Int) != (s.tasks.length : Int)) = true := by simp; omega
      clear e e2
      go_enter Tryz.func99, Tryz.ntmps99
      go_wp2_with fail
      refine (rthere_any _ _ _ H).mono ?_
      rintro e w2 ⟨rfl, hb2⟩
      replace hb := hb.trans (hb2.mono hb.size)
      replace sc := sc.keep (Keeps.of_below hb2)
      clear hb2
      try clear sc_0 sc_1 sc_2 sc_3
      have scx := sc
      obtain ⟨sc_0, sc_1, sc_2, sc_3⟩ := scx
      try dsimp only at sc_0 sc_1 sc_2 sc_3
      rw [Hth.out]
      go_wp2
      go_ret
      exact ⟨ret_int Hv.out.symm, hb⟩
  · have Hv : Hid (higherV s bs of cl wd = 0) := hidp (by unfold higherV; rw [if_neg (fun h => e (higherB_true.1 h).1)])
    have Hth : Hid (thereB s of = false) := hidp (by simpa using e)
    clear e
    go_enter Tryz.func99, Tryz.ntmps99
    go_wp2_with fail
    refine (rthere_any _ _ _ H).mono ?_
    rintro e w2 ⟨rfl, hb2⟩
    replace hb := hb.trans (hb2.mono hb.size)
    replace sc := sc.keep (Keeps.of_below hb2)
    clear hb2
    try clear sc_0 sc_1 sc_2 sc_3
    have scx := sc
    obtain ⟨sc_0, sc_1, sc_2, sc_3⟩ := scx
    try dsimp only at sc_0 sc_1 sc_2 sc_3
    rw [Hth.out]
    go_wp2
    go_ret
    exact ⟨ret_int Hv.out.symm, hb⟩
end Go.Proofs.YtjjlpaampmpdfaaGreatDoor

namespace Go.Proofs.YtjjlpaampmpdfaaGreatDoor
open Go.ChangeShapes Go.WideShapes Go.ChangeAt Go.RowKit
set_option linter.unusedVariables false
set_option linter.unusedSimpArgs false

set_option maxHeartbeats 4000000 in
set_option maxRecDepth 100000 in
theorem ragent_any (s : SetR) (bs : List Int) (ba : Option Addr) (bc : Nat) (of part : Int) (w : World) (hs : SetOk w s) (hB : IntsOk w ba bc bs) : Calls Tryz.prog 71 #[.agg #[.int .i64 s.proto, .slice s.ca s.cores.length s.cc, .slice s.ha s.homes.length s.hc, .slice s.ta s.tasks.length s.tc], .slice ba bs.length bc, .int .i64 of, .int .i64 part] w fun e w' => e = .returned (.tuple #[.int .i64 (agentV s bs of part), .bool (agentK s bs of part)]) ∧ Below w.heap.size w w' := by
  have hb := (Below.refl w.heap.size w).alloc (Nat.le_refl _) (.cells #[.int .i64 s.proto, .slice s.ca s.cores.length s.cc, .slice s.ha s.homes.length s.hc, .slice s.ta s.tasks.length s.tc] 25)
  have sc := SetCells.new w s 25
  have H := hs.keep (Keeps.of_below hb)
  have HS := hidp hs
  have HB := hidp hB
  have l3 : s.tasks.length ≤ maxLen := Nat.le_trans hs.tasks.sl.2.1 hs.tasks.sl.2.2
  have l4 : bs.length ≤ maxLen := Nat.le_trans hB.sl.2.1 hB.sl.2.2
  unfold maxLen at l3 l4
  by_cases k : fairK s of part = true
  · have hk := fairK_iff.1 k
    have Hk := hidp k
    obtain ⟨p, HP⟩ : ∃ p, Hid (lockP s of part = p) := ⟨_, rfl⟩
    have hpp : partAt s of part = p := by rw [← HP.out]; unfold lockP; rw [if_pos k]
    by_cases e2 : bs.length = s.tasks.length
    · have d1 : ((bs.length : Int) != (s.tasks.length : Int)) = false := by simp [e2]
      obtain ⟨v1, v2⟩ := agent_yes hk.1 e2 hk.2.1 hk.2.2.1 hk.2.2.2
      obtain ⟨ho, r1, r2⟩ := thereB_true.1 hk.1
      have hg := Good.of ho
      have hin : of.toNat < s.tasks.length := by omega
      have hpm : p ∈ (s.tasks.getD of.toNat default).parts := by rw [← hpp]; unfold partAt; exact getD_mem (by omega)
      have hq := (hg.parts _ (getD_mem hin)).good p hpm
      obtain ⟨q0, q1, q2, q3⟩ := hq
      have k3 : p.kind = 3 := by rw [← hpp]; exact hk.2.2.2
      obtain ⟨q31, q32⟩ := q3 k3
      obtain ⟨r, hr⟩ : ∃ r : Nat, p.res = r := ⟨p.res.toNat, by omega⟩
      have hrl2 : r < s.homes.length := by omega
      have HhA := hs.homes.at_
      obtain ⟨gh, oh, hHA, hhc⟩ := HhA.resolve_left (by intro e; rw [e] at hrl2; simp at hrl2)
      obtain ⟨h, HH⟩ : ∃ h, Hid (s.homes.getD r 0 = h) := ⟨_, rfl⟩
      have Hhc := hidp (HH.out ▸ hhc r hrl2)
      have hhome : homeV s of part = h := by unfold homeV; rw [hpp, hr]; simpa using HH.out
      obtain ⟨L, HLo⟩ : ∃ L, Hid (lowerV s of h = L) := ⟨_, rfl⟩
      have hLb := lowerV_bd s of h
      rw [HLo.out] at hLb
      obtain ⟨L0, L1⟩ := hLb
      have hleast : leastV s of part = p.len + L := by unfold leastV; rw [hpp, hhome, HLo.out]
      obtain ⟨rs, Hrs⟩ : ∃ rs, Hid (rivL s bs (prioOf s of) h 0 s.tasks = rs) := ⟨_, rfl⟩
      obtain ⟨own, hown⟩ : ∃ own, p.len + L = own := ⟨_, rfl⟩
      obtain ⟨F, HF⟩ : ∃ F, Hid (winF own rs = F) := ⟨_, rfl⟩
      have Hv : Hid (agentV s bs of part = (fixO F own).getD 0) := hidp (by rw [v1, hleast, hhome, Hrs.out, hown, ← HF.out]; rfl)
      have HvK : Hid (agentK s bs of part = (fixO F own).isSome) := hidp (by rw [v2, hleast, hhome, Hrs.out, hown, ← HF.out]; rfl)
      have Hhi : Hid (∀ wd, higherV s bs of h wd = capV (workS wd rs)) := hidp (fun wd => by unfold higherV; rw [if_pos (higherB_true.2 ⟨hk.1, e2⟩), Hrs.out])
      have Hm : Hid (∀ x y, x ≤ y → F x ≤ F y) := hidp (fun x y h => by rw [← HF.out]; exact winF_mono own rs h)
      have HW : Hid (∀ x, F x = own + capV (workS x rs)) := hidp (fun x => by rw [← HF.out]; rfl)
      have Ho : Hid (∀ x, own ≤ F x ∧ F x ≤ own + 1000000) := hidp (fun x => by rw [← HF.out]; exact winF_own own rs x)
      have o1 : 1 ≤ own := by omega
      have o2 : own ≤ 120 := by omega
      have Hown := hidp hown
      clear v1 v2 ho r1 r2 hg hin hpm q0 q3 k3 q31 q32 hhome hleast hhc HhA hk hpp hs hB e2 k
      obtain ⟨kd, ln, rsx⟩ := p
      dsimp only at *
      subst hr
      obtain ⟨proto, ca, cc, cores, ha, hc, homes, ta, tc, tasks⟩ := s
      dsimp only at hHA hrl2 l3 hb sc H d1 ⊢
      subst hHA
      go_enter Tryz.func71, Tryz.ntmps71
      go_wp2_with fail
      refine (rlock_any _ _ _ _ H).mono ?_
      rintro e w2 ⟨rfl, hb2⟩
      replace hb := hb.trans (hb2.mono hb.size)
      replace sc := sc.keep (Keeps.of_below hb2)
      replace H := H.keep (Keeps.of_below hb2)
      clear hb2
      try clear sc_0 sc_1 sc_2 sc_3
      have scx := sc
      obtain ⟨sc_0, sc_1, sc_2, sc_3⟩ := scx
      try dsimp only at sc_0 sc_1 sc_2 sc_3
      rw [HP.out, Hk.out]
      have ch := Keeps.of_below hb _ _ Hhc.out
      have kk := Keeps.alloc w2 (.cells #[.int .i64 kd, .int .i64 ln, .int .i64 r] 38)
      have sc' := sc.keep kk
      have H' := H.keep kk
      have ch' := kk _ _ ch
      have pb : (w2.alloc (.cells #[.int .i64 kd, .int .i64 ln, .int .i64 r] 38)).cell? ⟨w2.heap.size, 1, none⟩ = some (.int .i64 ln) := by simp
      replace hb := hb.alloc hb.size (.cells #[.int .i64 kd, .int .i64 ln, .int .i64 r] 38)
      obtain ⟨e0, e1, e2, e3⟩ := id sc'
      dsimp only at e0 e1 e2 e3
      clear sc_0 sc_1 sc_2 sc_3 ch kk H sc
      go_wp2_with fail
      have pb := Keeps.drew _ _ _ pb
      have s0 := Keeps.drew _ _ _ e0
      have s1 := Keeps.drew _ _ _ e1
      have s2 := Keeps.drew _ _ _ e2
      have s3 := Keeps.drew _ _ _ e3
      have H' := H'.keep (Keeps.drew _)
      have hb := hb.drew
      have hwr : IntKind.i64.wrap (ln + L) = own := by rw [Hown.out]; exact IntWalk.i64_in _ (by omega)
      clear e0 e1 e2 e3 ch' sc' hown
      go_region_held3 (fun w' => w'.cell? ⟨w2.heap.size, 1, none⟩ = some (.int .i64 ln) ∧ w'.cell? ⟨w.heap.size, 0, none⟩ = some (.int .i64 proto) ∧ w'.cell? ⟨w.heap.size, 1, none⟩ = some (.slice ca cores.length cc) ∧ w'.cell? ⟨w.heap.size, 2, none⟩ = some (.slice (some ⟨gh, oh, none⟩) homes.length hc) ∧ w'.cell? ⟨w.heap.size, 3, none⟩ = some (.slice ta tasks.length tc)) (exact ⟨pb, s0, s1, s2, s3⟩)
        (first
          | (go_at_call 98; refine (rlower_any _ of h _ H').mono ?_; rintro e u ⟨rfl, hb3⟩; have pb := Keeps.of_below hb3 _ _ pb; have s0 := Keeps.of_below hb3 _ _ s0; have s1 := Keeps.of_below hb3 _ _ s1; have s2 := Keeps.of_below hb3 _ _ s2; have s3 := Keeps.of_below hb3 _ _ s3; have H' := H'.keep (Keeps.of_below hb3); have hb := hb.trans (hb3.mono hb.size); rw [HLo.out]))
      have sc : SetCells u w.heap.size ⟨proto, ca, cc, cores, some ⟨gh, oh, none⟩, hc, homes, ta, tc, tasks⟩ := ⟨s0, s1, s2, s3⟩
      clear pb s0 s1 s2 s3 hwr Hown L0 L1 q1 q2 HLo H'
      go_wp2_with fail
      go_loopg [14] (2000000 - own).toNat (fun g s14 wr => ∃ x : Int, x + g = 2000000 ∧ own ≤ x ∧ x ≤ own + 1000000 ∧ s14 = .int .i64 x ∧ Hid (∀ u, own ≤ u → u < x → F u ≠ u) ∧ Hid (x ≤ F x) ∧ SetCells wr w.heap.size ⟨proto, ca, cc, cores, some ⟨gh, oh, none⟩, hc, homes, ta, tc, tasks⟩ ∧ Below w.heap.size w wr)
      case atStart => exact ⟨own, by omega, Int.le_refl _, by omega, rfl, hidp (fun u a b => by omega), hidp (Ho.out own).1, sc, hb⟩
      case round =>
        clear sc hb
        obtain ⟨x, hx, hox, hx1, rfl, Hn, Hle, sc, hb⟩ := hrel
        obtain ⟨sc_0, sc_1, sc_2, sc_3⟩ := id sc
        dsimp only at sc_0 sc_1 sc_2 sc_3
        by_cases hlt : x ≤ 3000
        · obtain ⟨y, HY⟩ : ∃ y, Hid (F x = y) := ⟨_, rfl⟩
          obtain ⟨v, HV⟩ : ∃ v, Hid (capV (workS x rs) = v) := ⟨_, rfl⟩
          have hy : own + v = y := by rw [← HV.out, ← HY.out]; exact (HW.out x).symm
          have hv0 : own ≤ y ∧ y ≤ own + 1000000 := by rw [← HY.out]; exact Ho.out x
          have hxy : x ≤ y := by rw [← HY.out]; exact Hle.out
          obtain ⟨y0, y1⟩ := hv0
          have hv1 : 0 ≤ v := by omega
          have hv2 : v ≤ 1000000 := by omega
          have Hy := hidp hy
          clear hy
          have H2 := HS.out.keep (Keeps.of_below hb)
          have HB2 := HB.out.keep (Keeps.of_below hb)
          go_wp2_with fail
          refine (rhigher_any _ bs ba bc of h x _ H2 HB2 (by unfold I64; omega)).mono ?_
          rintro e w3 ⟨rfl, hb2⟩
          replace hb := hb.trans (hb2.mono hb.size)
          replace sc := sc.keep (Keeps.of_below hb2)
          clear hb2
          try clear sc_0 sc_1 sc_2 sc_3
          have scx := sc
          obtain ⟨sc_0, sc_1, sc_2, sc_3⟩ := scx
          try dsimp only at sc_0 sc_1 sc_2 sc_3
          rw [Hhi.out, HV.out]
          clear H2 HB2
          by_cases he : y = x
          · have Hz : Hid (fixO F own = some x) := hidp (fixO_at hox hlt (by rw [HY.out]; exact he) Hn.out)
            have heq : (own + v == x) = true := by have := Hy.out; simp; omega
            clear he
            go_wp2
            go_ret2
            exact ⟨by rw [Hv.out, HvK.out, Hz.out]; rfl, hb⟩
          · have Hp : Hid (∀ u, own ≤ u → u < y → F u ≠ u) := hidp (by rw [← HY.out]; exact fix_pass Hm.out Hn.out)
            have Hl : Hid (y ≤ F y) := hidp (by have := Hm.out x y hxy; rw [HY.out] at this; exact this)
            have heq : (own + v == x) = false := by have := Hy.out; simp; omega
            have hlt2 : x < y := by omega
            clear he
            go_wp2
            go_roundg (2000000 - y).toNat
            case measure => omega
            case rel => exact ⟨y, by omega, y0, y1, by rw [← Hy.out], Hp, Hl, sc, hb⟩
        · have Hz : Hid (fixO F own = none) := hidp (fixO_not (by omega) (fun u a b => Hn.out u a (by omega)))
          go_wp2
          go_ret2
          exact ⟨by rw [Hv.out, HvK.out, Hz.out]; rfl, hb⟩
    · obtain ⟨k1, k2⟩ := agent_not (s := s) (bs := bs) (of := of) (part := part) (fun h => e2 h.2.1)
      have Hv := hidp k1
      have Hk2 := hidp k2
      have d1 : ((bs.length : Int) != (s.tasks.length : Int)) = true := by simp; omega
      clear k1 k2 e2 hk k hpp
      go_enter Tryz.func71, Tryz.ntmps71
      go_wp2_with fail
      refine (rlock_any _ _ _ _ H).mono ?_
      rintro e w2 ⟨rfl, hb2⟩
      replace hb := hb.trans (hb2.mono hb.size)
      replace sc := sc.keep (Keeps.of_below hb2)
      clear hb2
      rw [HP.out, Hk.out]
      obtain ⟨e0, e1, e2, e3⟩ := sc.keep (Keeps.alloc w2 (.cells #[.int .i64 p.kind, .int .i64 p.len, .int .i64 p.res] 38))
      go_wp2_with fail
      go_ret2
      exact ⟨ret_ib Hv.out.symm Hk2.out.symm, hb.alloc hb.size _⟩
  · obtain ⟨k1, k2⟩ := agent_not (s := s) (bs := bs) (of := of) (part := part) (fun h => k (fairK_iff.2 ⟨h.1, h.2.2⟩))
    have Hv := hidp k1
    have Hk2 := hidp k2
    have Hk : Hid (fairK s of part = false) := hidp (by simpa using k)
    have HP : Hid (lockP s of part = ⟨0, 0, 0⟩) := hidp (by unfold lockP; rw [if_neg k])
    clear k1 k2 k
    go_enter Tryz.func71, Tryz.ntmps71
    go_wp2_with fail
    refine (rlock_any _ _ _ _ H).mono ?_
    rintro e w2 ⟨rfl, hb2⟩
    replace hb := hb.trans (hb2.mono hb.size)
    replace sc := sc.keep (Keeps.of_below hb2)
    replace H := H.keep (Keeps.of_below hb2)
    clear hb2
    try clear sc_0 sc_1 sc_2 sc_3
    have scx := sc
    obtain ⟨sc_0, sc_1, sc_2, sc_3⟩ := scx
    try dsimp only at sc_0 sc_1 sc_2 sc_3
    rw [HP.out, Hk.out]
    go_wp2_with fail
    go_ret2
    exact ⟨ret_ib Hv.out.symm Hk2.out.symm, hb.alloc hb.size _⟩
end Go.Proofs.YtjjlpaampmpdfaaGreatDoor

namespace Go.Proofs.YtjjlpaampmpdfaaGreatDoor
open Go.ChangeShapes Go.WideShapes Go.ChangeAt Go.RowKit
set_option linter.unusedVariables false
set_option linter.unusedSimpArgs false

theorem rup_any (a b : Int) (w : World) (h0 : 0 ≤ a) (h1 : a ≤ 100) (h2 : 1 ≤ b) (h3 : b ≤ 3) : Calls Tryz.prog 127 #[.int .i64 a, .int .i64 b] w fun e w' => e = .returned (.int .i64 ((a + b - 1) / b)) ∧ w = w' := by
  have c0 : (b == 0) = false := by simp; omega
  have c1 : (b == -1) = false := by simp; omega
  have d1 : (a + b - 1).tdiv b = (a + b - 1) / b := Int.tdiv_eq_ediv_of_nonneg (by omega)
  obtain ⟨q, hq⟩ : ∃ q, (a + b - 1) / b = q := ⟨_, rfl⟩
  rw [hq] at d1 ⊢
  have q0 : 0 ≤ q ∧ q ≤ 103 := by
    rw [← hq]
    have hb : b = 1 ∨ b = 2 ∨ b = 3 := by omega
    rcases hb with rfl | rfl | rfl <;> omega
  obtain ⟨q1, q2⟩ := q0
  clear hq
  go_enter Tryz.func127, Tryz.ntmps127
  go_wp2
  go_ret
  exact ⟨rfl, rfl⟩

set_option maxHeartbeats 2000000 in
set_option maxRecDepth 100000 in
theorem rcores_any (s : SetR) (w : World) (hs : SetOk w s) (ho : okS s = true) : Calls Tryz.prog 146 #[.agg #[.int .i64 s.proto, .slice s.ca s.cores.length s.cc, .slice s.ha s.homes.length s.hc, .slice s.ta s.tasks.length s.tc]] w fun e w' => e = .returned (.int .i64 (coresV s)) ∧ Below w.heap.size w w' := by
  have hb := (Below.refl w.heap.size w).alloc (Nat.le_refl _) (.cells #[.int .i64 s.proto, .slice s.ca s.cores.length s.cc, .slice s.ha s.homes.length s.hc, .slice s.ta s.tasks.length s.tc] 25)
  have sc := SetCells.new w s 25
  have HS := hidp hs
  have Hv : Hid (coresV s = tot s.cores) := hidp (by unfold coresV; rw [if_pos ho])
  have hg := Good.of ho
  have Hc := hidp hg.cores
  have hl3 := hg.ncores.2
  have HR := hidp hs.cores.at_
  have Ho := hidp ho
  rw [Hv.out]
  clear hg hs ho Hv
  obtain ⟨proto, ca, cc, cores, ha, hc, homes, ta, tc, tasks⟩ := s
  dsimp only at HR Hc hl3 hb ⊢
  go_enter Tryz.func146, Tryz.ntmps146
  go_wp2
  go_loopg [3, 4] cores.length (fun g t i wr => ∃ (k : Nat) (x : Int), k + g = cores.length ∧ i = .int .i64 k ∧ t = .int .i64 x ∧ Hid (tot (cores.take k) = x) ∧ SetCells wr w.heap.size ⟨proto, ca, cc, cores, ha, hc, homes, ta, tc, tasks⟩ ∧ Below w.heap.size w wr)
  case atStart => exact ⟨0, 0, by omega, rfl, rfl, hidp (by simp [tot]), sc, hb⟩
  case round =>
    clear sc hb
    obtain ⟨k, x, hk, rfl, rfl, Hx, sc, hb⟩ := hrel
    obtain ⟨sc_0, sc_1, sc_2, sc_3⟩ := id sc
    dsimp only at sc_0 sc_1 sc_2 sc_3
    have hx := tot_bd3 (l := cores.take k) (fun n hn => Hc.out n (List.mem_of_mem_take hn))
    rw [Hx.out, List.length_take] at hx
    obtain ⟨x0, x1⟩ := hx
    have x2 : x ≤ 9 := by omega
    have x3 : 0 ≤ x := by omega
    clear x0 x1
    by_cases hlt : k < cores.length
    · obtain ⟨g, off, hA, hcl⟩ := HR.out.resolve_left (by intro e; rw [e] at hlt; simp at hlt)
      subst hA
      obtain ⟨n, HN⟩ : ∃ n, Hid (cores.getD k 0 = n) := ⟨_, rfl⟩
      have hn := Hc.out n (by rw [← HN.out]; simp [List.getD, hlt])
      obtain ⟨n0, n1⟩ := hn
      have Hs : Hid (tot (cores.take (k + 1)) = x + n) := hidp (by rw [tot_snoc _ _ hlt, Hx.out, HN.out])
      have Hcn := hidp (HN.out ▸ hcl k hlt)
      clear hcl
      go_wp2_with fail
      refine (rok_any _ _ (HS.out.keep (Keeps.of_below hb))).mono ?_
      rintro e w2 ⟨rfl, hb2⟩
      replace hb := hb.trans (hb2.mono hb.size)
      replace sc := sc.keep (Keeps.of_below hb2)
      clear hb2
      try clear sc_0 sc_1 sc_2 sc_3
      have scx := sc
      obtain ⟨sc_0, sc_1, sc_2, sc_3⟩ := scx
      try dsimp only at sc_0 sc_1 sc_2 sc_3
      rw [Ho.out]
      have cn := Keeps.of_below hb _ _ Hcn.out
      go_wp2
      go_roundg (gk - 1)
      case measure => omega
      case rel => exact ⟨k + 1, x + n, by omega, by go_num, rfl, Hs, sc, hb⟩
    · have Hz : Hid (tot cores = x) := hidp (by rw [← Hx.out, List.take_of_length_le (by omega)])
      go_wp2
      go_ret
      exact ⟨ret_int Hz.out.symm, hb⟩

theorem lock_pos {ps : List PartM} (h : LenOk ps) : (0 < maxL ps) ↔ sumK 3 ps ≠ 0 := by
  have h1 := maxL_le_sum h
  have h2 := maxL_nn ps
  constructor
  · intro h3; omega
  · intro h3
    by_cases e : maxL ps = 0
    · exact absurd (sum_le_maxL h e) h3
    · omega
set_option maxHeartbeats 2000000 in
set_option maxRecDepth 100000 in
theorem raskers_any (s : SetR) (cl : Int) (w : World) (hs : SetOk w s) (ho : okS s = true) : Calls Tryz.prog 128 #[.agg #[.int .i64 s.proto, .slice s.ca s.cores.length s.cc, .slice s.ha s.homes.length s.hc, .slice s.ta s.tasks.length s.tc], .int .i64 cl] w fun e w' => e = .returned (.int .i64 (askersV s cl)) ∧ Below w.heap.size w w' := by
  have hb := (Below.refl w.heap.size w).alloc (Nat.le_refl _) (.cells #[.int .i64 s.proto, .slice s.ca s.cores.length s.cc, .slice s.ha s.homes.length s.hc, .slice s.ta s.tasks.length s.tc] 25)
  have sc := SetCells.new w s 25
  have HS := hidp hs
  have Hv : Hid (askersV s cl = askN cl s.tasks) := hidp (by unfold askersV; rw [if_pos ho])
  have hg := Good.of ho
  have HG := hidp hg.parts
  have n6 := hg.ntasks.2
  have HR := hidp hs.tasks.at_
  have Hok := hidp hs.tasks.ok
  have Ho := hidp ho
  rw [Hv.out]
  clear hg hs ho Hv
  obtain ⟨proto, ca, cc, cores, ha, hc, homes, ta, tc, tasks⟩ := s
  dsimp only at HR HG n6 hb Hok ⊢
  go_enter Tryz.func128, Tryz.ntmps128
  go_wp2
  go_loopg [5, 6] tasks.length (fun g t i wr => ∃ (k : Nat) (x : Int), k + g = tasks.length ∧ i = .int .i64 k ∧ t = .int .i64 x ∧ Hid (askN cl (tasks.take k) = x) ∧ SetCells wr w.heap.size ⟨proto, ca, cc, cores, ha, hc, homes, ta, tc, tasks⟩ ∧ Below w.heap.size w wr)
  case atStart => exact ⟨0, 0, by omega, rfl, rfl, hidp (by simp [askN]), sc, hb⟩
  case round =>
    clear sc hb
    obtain ⟨k, x, hk, rfl, rfl, Hx, sc, hb⟩ := hrel
    obtain ⟨sc_0, sc_1, sc_2, sc_3⟩ := id sc
    dsimp only at sc_0 sc_1 sc_2 sc_3
    have hx := askN_bd cl (tasks.take k)
    rw [Hx.out, List.length_take] at hx
    obtain ⟨x0, x1⟩ := hx
    have x2 : x ≤ 6 := by omega
    clear x1
    by_cases hlt : k < tasks.length
    · obtain ⟨g, off, hA, hcl⟩ := HR.out.resolve_left (by intro e; rw [e] at hlt; simp at hlt)
      subst hA
      obtain ⟨t, HT⟩ : ∃ t, Hid (tasks.getD k default = t) := ⟨_, rfl⟩
      have hm : t ∈ tasks := HT.out ▸ getD_mem hlt
      have TL : Hid (TaskLen w t) := hidp ⟨(Hok.out t hm).at_, (HG.out t hm).lens, by have := (HG.out t hm).len; omega⟩
      obtain ⟨m, HM⟩ : ∃ m, Hid (maxL t.parts = m) := ⟨_, rfl⟩
      have Hp := hidp (lock_pos (HG.out t hm).lens)
      have Hs : Hid (askN cl (tasks.take (k + 1)) = x + if t.cl = cl ∧ 0 < m then 1 else 0) := hidp (by
        rw [askN_snoc _ _ _ hlt, Hx.out, HT.out, ← HM.out]
        congr 1
        by_cases e1 : t.cl = cl
        · by_cases e2 : 0 < maxL t.parts
          · rw [if_pos ⟨e1, Hp.out.1 e2⟩, if_pos ⟨e1, e2⟩]
          · rw [if_neg (fun h => e2 (Hp.out.2 h.2)), if_neg (fun h => e2 h.2)]
        · rw [if_neg (fun h => e1 h.1), if_neg (fun h => e1 h.1)])
      have Htc := hidp (HT.out ▸ hcl k hlt)
      clear hcl hm
      go_wp2_with fail
      refine (rok_any _ _ (HS.out.keep (Keeps.of_below hb))).mono ?_
      rintro e w2 ⟨rfl, hb2⟩
      replace hb := hb.trans (hb2.mono hb.size)
      replace sc := sc.keep (Keeps.of_below hb2)
      clear hb2
      try clear sc_0 sc_1 sc_2 sc_3
      have scx := sc
      obtain ⟨sc_0, sc_1, sc_2, sc_3⟩ := scx
      try dsimp only at sc_0 sc_1 sc_2 sc_3
      rw [Ho.out]
      obtain ⟨d0, d1, d2, d3, d4, d5⟩ := Htc.out.keep (Keeps.of_below hb)
      by_cases e1 : t.cl = cl
      · have e2 : (t.cl == cl) = true := by simpa using e1
        have E1 := hidp e1
        clear e1
        go_wp2_with fail
        refine (rlongest_any t _ (TL.out.keep (Keeps.of_below hb))).mono ?_
        rintro e w3 ⟨rfl, hb2⟩
        replace hb := hb.trans (hb2.mono hb.size)
        replace sc := sc.keep (Keeps.of_below hb2)
        clear hb2
        try clear sc_0 sc_1 sc_2 sc_3
        have scx := sc
        obtain ⟨sc_0, sc_1, sc_2, sc_3⟩ := scx
        try dsimp only at sc_0 sc_1 sc_2 sc_3
        rw [HM.out]
        clear d0 d1 d2 d3 d4 d5
        by_cases e3 : 0 < m
        · have Hz : Hid (askN cl (tasks.take (k + 1)) = x + 1) := hidp (by rw [Hs.out, if_pos ⟨E1.out, e3⟩])
          go_wp2
          go_roundg (gk - 1)
          case measure => omega
          case rel => exact ⟨k + 1, x + 1, by omega, by go_num, rfl, Hz, sc, hb⟩
        · have Hz : Hid (askN cl (tasks.take (k + 1)) = x) := hidp (by rw [Hs.out, if_neg (fun h => e3 h.2)]; omega)
          go_wp2
          go_roundg (gk - 1)
          case measure => omega
          case rel => exact ⟨k + 1, x, by omega, by go_num, rfl, Hz, sc, hb⟩
      · have e2 : (t.cl == cl) = false := by simpa using e1
        have Hz : Hid (askN cl (tasks.take (k + 1)) = x) := hidp (by rw [Hs.out, if_neg (fun h => e1 h.1)]; omega)
        clear e1
        go_wp2
        go_roundg (gk - 1)
        case measure => omega
        case rel => exact ⟨k + 1, x, by omega, by go_num, rfl, Hz, sc, hb⟩
    · have Hz : Hid (askN cl tasks = x) := hidp (by rw [← Hx.out, List.take_of_length_le (by omega)])
      go_wp2
      go_ret
      exact ⟨ret_int Hz.out.symm, hb⟩


set_option maxHeartbeats 2000000 in
set_option maxRecDepth 100000 in
theorem rinside_any (s : SetR) (of : Int) (w : World) (hs : SetOk w s) (ho : okS s = true) : Calls Tryz.prog 126 #[.agg #[.int .i64 s.proto, .slice s.ca s.cores.length s.cc, .slice s.ha s.homes.length s.hc, .slice s.ta s.tasks.length s.tc], .int .i64 of] w fun e w' => e = .returned (.int .i64 (besV s of)) ∧ Below w.heap.size w w' := by
  have hb := (Below.refl w.heap.size w).alloc (Nat.le_refl _) (.cells #[.int .i64 s.proto, .slice s.ca s.cores.length s.cc, .slice s.ha s.homes.length s.hc, .slice s.ta s.tasks.length s.tc] 25)
  have sc := SetCells.new w s 25
  have H := hs.keep (Keeps.of_below hb)
  have hg := Good.of ho
  have Ho := hidp ho
  obtain ⟨cv, Hcv⟩ : ∃ cv, Hid (coresV s = cv) := ⟨_, rfl⟩
  have hcv : 0 ≤ cv ∧ cv ≤ 9 := by
    rw [← Hcv.out]; unfold coresV; rw [if_pos ho]
    have h1 := tot_bd3 hg.cores
    have h2 := hg.ncores
    omega
  obtain ⟨q1, q2⟩ := hcv
  have Hlen := hidp (Nat.le_trans (rothL_len of 0 s.tasks) hg.ntasks.2)
  have Hi := hidp (fun x (hx : x ∈ rothL of 0 s.tasks) => (show I64 x by have := rothL_bd (of := of) (k := 0) (ts := s.tasks) (fun q hq => (hg.parts q hq).lens) x hx; unfold I64; omega))
  have HV : Hid (besV s of = sumW (tops (rothL of 0 s.tasks) (cv - 1))) := hidp (by unfold besV; rw [Hcv.out])
  obtain ⟨zs, hzs⟩ : ∃ zs, rothL of 0 s.tasks = zs := ⟨_, rfl⟩
  rw [hzs] at HV Hlen Hi
  have Hzs := hidp hzs
  have hl6 := Hlen.out
  have hwr : IntKind.i64.wrap (cv - 1) = cv - 1 := IntWalk.i64_in _ (by omega)
  clear hzs hg ho hs
  obtain ⟨e0, e1, e2, e3⟩ := sc
  have s0 := Keeps.drew _ _ _ e0
  have s1 := Keeps.drew _ _ _ e1
  have s2 := Keeps.drew _ _ _ e2
  have s3 := Keeps.drew _ _ _ e3
  have H' := H.keep (Keeps.drew _)
  have hb := hb.drew
  clear e0 e1 e2 e3 H
  go_enter Tryz.func126, Tryz.ntmps126
  go_wp2_with fail
  go_region_held3 (fun w' => w'.cell? ⟨w.heap.size, 0, none⟩ = some (.int .i64 s.proto) ∧ w'.cell? ⟨w.heap.size, 1, none⟩ = some (.slice s.ca s.cores.length s.cc) ∧ w'.cell? ⟨w.heap.size, 2, none⟩ = some (.slice s.ha s.homes.length s.hc) ∧ w'.cell? ⟨w.heap.size, 3, none⟩ = some (.slice s.ta s.tasks.length s.tc)) (exact ⟨s0, s1, s2, s3⟩)
    (first
      | (go_at_call 97; refine (rothers_any s of _ H' Ho.out).mono ?_; rintro e u ⟨A, c, rfl, hrow0, hsl0, hb3⟩; have s0 := Keeps.of_below hb3 _ _ s0; have s1 := Keeps.of_below hb3 _ _ s1; have s2 := Keeps.of_below hb3 _ _ s2; have s3 := Keeps.of_below hb3 _ _ s3; have H' := H'.keep (Keeps.of_below hb3); have hb := hb.trans (hb3.mono hb.size); rw [Hzs.out] at hrow0 hsl0 ⊢; have hrow := hrow0; have HB := hidp hsl0)
      | (go_at_call 146; refine (rcores_any s _ H' Ho.out).mono ?_; rintro e u ⟨rfl, hb3⟩; have s0 := Keeps.of_below hb3 _ _ s0; have s1 := Keeps.of_below hb3 _ _ s1; have s2 := Keeps.of_below hb3 _ _ s2; have s3 := Keeps.of_below hb3 _ _ s3; have H' := H'.keep (Keeps.of_below hb3); have hb := hb.trans (hb3.mono hb.size); rw [Hcv.out]; (try have hrow := hrow.keep (Keeps.of_below hb3)))
      | (go_at_call 96; refine (rsum_any (zs := zs) (k := cv - 1) hrow rfl HB.out.2.1 HB.out.1 (by omega) (by unfold I64; omega) Hi.out).mono ?_; rintro e u ⟨rfl, hb3⟩; have s0 := Keeps.of_below hb3 _ _ s0; have s1 := Keeps.of_below hb3 _ _ s1; have s2 := Keeps.of_below hb3 _ _ s2; have s3 := Keeps.of_below hb3 _ _ s3; have hb := hb.trans (hb3.mono hb.size); skip))
  clear hwr
  go_wp2_with fail
  go_ret
  exact ⟨ret_int HV.out.symm, hb⟩

set_option maxHeartbeats 4000000 in
set_option maxRecDepth 100000 in
theorem rInside_any (s : SetR) (of part : Int) (w : World) (hs : SetOk w s) : Calls Tryz.prog 100 #[.agg #[.int .i64 s.proto, .slice s.ca s.cores.length s.cc, .slice s.ha s.homes.length s.hc, .slice s.ta s.tasks.length s.tc], .int .i64 of, .int .i64 part] w fun e w' => e = .returned (.tuple #[.int .i64 (insV s of part), .bool (fairK s of part)]) ∧ Below w.heap.size w w' := by
  have hb := (Below.refl w.heap.size w).alloc (Nat.le_refl _) (.cells #[.int .i64 s.proto, .slice s.ca s.cores.length s.cc, .slice s.ha s.homes.length s.hc, .slice s.ta s.tasks.length s.tc] 25)
  have sc := SetCells.new w s 25
  have H := hs.keep (Keeps.of_below hb)
  clear hs
  by_cases k : fairK s of part = true
  · obtain ⟨f1, f2, f3, f4⟩ := fairK_iff.1 k
    obtain ⟨ho, r1, r2⟩ := thereB_true.1 f1
    have Ho := hidp ho
    obtain ⟨p, HP⟩ : ∃ p, Hid (lockP s of part = p) := ⟨_, rfl⟩
    have hpp : partAt s of part = p := by rw [← HP.out]; unfold lockP; rw [if_pos k]
    have hp : p ∈ (s.tasks.getD of.toNat default).parts := by rw [← hpp]; unfold partAt; exact getD_mem (by omega)
    have hq := ((Good.of ho).parts _ (getD_mem (by omega : of.toNat < s.tasks.length))).lens _ hp
    obtain ⟨q1, q2⟩ := hq
    obtain ⟨B, HB⟩ : ∃ B, Hid (besV s of = B) := ⟨_, rfl⟩
    have hBb := besV_bd ho of
    rw [HB.out] at hBb
    obtain ⟨B0, B1⟩ := hBb
    have Hk := hidp k
    have Hv : Hid (insV s of part = p.len + B) := hidp (by unfold insV; rw [if_pos k, hpp, HB.out])
    have hwr : IntKind.i64.wrap (p.len + B) = p.len + B := IntWalk.i64_in _ (by omega)
    clear k f1 f2 f3 f4 ho r1 r2 hpp hp
    go_enter Tryz.func100, Tryz.ntmps100
    go_wp2_with fail
    refine (rlock_any _ _ _ _ H).mono ?_
    rintro e w2 ⟨rfl, hb2⟩
    replace hb := hb.trans (hb2.mono hb.size)
    replace sc := sc.keep (Keeps.of_below hb2)
    replace H := H.keep (Keeps.of_below hb2)
    clear hb2
    rw [HP.out, Hk.out]
    have kk := Keeps.alloc w2 (.cells #[.int .i64 p.kind, .int .i64 p.len, .int .i64 p.res] 38)
    obtain ⟨e0, e1, e2, e3⟩ := sc.keep kk
    have pb : (w2.alloc (.cells #[.int .i64 p.kind, .int .i64 p.len, .int .i64 p.res] 38)).cell? ⟨w2.heap.size, 1, none⟩ = some (.int .i64 p.len) := by simp
    have pb := Keeps.drew _ _ _ pb
    have s0 := Keeps.drew _ _ _ e0
    have s1 := Keeps.drew _ _ _ e1
    have s2 := Keeps.drew _ _ _ e2
    have s3 := Keeps.drew _ _ _ e3
    have H' := (H.keep kk).keep (Keeps.drew _)
    have hb := (hb.alloc hb.size (.cells #[.int .i64 p.kind, .int .i64 p.len, .int .i64 p.res] 38)).drew
    clear H sc e0 e1 e2 e3 kk
    go_wp2_with fail
    go_region_held3 (fun w' => w'.cell? ⟨w2.heap.size, 1, none⟩ = some (.int .i64 p.len) ∧ w'.cell? ⟨w.heap.size, 0, none⟩ = some (.int .i64 s.proto) ∧ w'.cell? ⟨w.heap.size, 1, none⟩ = some (.slice s.ca s.cores.length s.cc) ∧ w'.cell? ⟨w.heap.size, 2, none⟩ = some (.slice s.ha s.homes.length s.hc) ∧ w'.cell? ⟨w.heap.size, 3, none⟩ = some (.slice s.ta s.tasks.length s.tc)) (exact ⟨pb, s0, s1, s2, s3⟩)
      (first
        | (go_at_call 126; refine (rinside_any s of _ H' Ho.out).mono ?_; rintro e u ⟨rfl, hb3⟩; have pb := Keeps.of_below hb3 _ _ pb; have s0 := Keeps.of_below hb3 _ _ s0; have s1 := Keeps.of_below hb3 _ _ s1; have s2 := Keeps.of_below hb3 _ _ s2; have s3 := Keeps.of_below hb3 _ _ s3; have H' := H'.keep (Keeps.of_below hb3); have hb := hb.trans (hb3.mono hb.size); rw [HB.out]))
    clear hwr
    go_wp2_with fail
    go_ret2
    exact ⟨ret_ib Hv.out.symm Hk.out.symm, hb⟩
  · have k : fairK s of part = false := by simpa using k
    have Hk := hidp k
    have Hv := hidp (ins_no k)
    have HP : Hid (lockP s of part = ⟨0, 0, 0⟩) := hidp (by unfold lockP; rw [k]; rfl)
    clear k
    go_enter Tryz.func100, Tryz.ntmps100
    go_wp2_with fail
    refine (rlock_any _ _ _ _ H).mono ?_
    rintro e w2 ⟨rfl, hb2⟩
    replace hb := hb.trans (hb2.mono hb.size)
    clear hb2
    rw [HP.out, Hk.out]
    go_wp2_with fail
    go_ret2
    exact ⟨ret_ib Hv.out.symm Hk.out.symm, hb.alloc hb.size _⟩
end Go.Proofs.YtjjlpaampmpdfaaGreatDoor

namespace Go.Proofs.YtjjlpaampmpdfaaGreatDoor
open Go.ChangeShapes Go.WideShapes Go.ChangeAt Go.RowKit
set_option linter.unusedVariables false
set_option linter.unusedSimpArgs false

set_option maxHeartbeats 4000000 in
set_option maxRecDepth 100000 in
theorem rOutside_any (s : SetR) (of : Int) (w : World) (hs : SetOk w s) : Calls Tryz.prog 101 #[.agg #[.int .i64 s.proto, .slice s.ca s.cores.length s.cc, .slice s.ha s.homes.length s.hc, .slice s.ta s.tasks.length s.tc], .int .i64 of] w fun e w' => e = .returned (.int .i64 (outV s of)) ∧ Below w.heap.size w w' := by
  have hb := (Below.refl w.heap.size w).alloc (Nat.le_refl _) (.cells #[.int .i64 s.proto, .slice s.ca s.cores.length s.cc, .slice s.ha s.homes.length s.hc, .slice s.ta s.tasks.length s.tc] 25)
  have sc := SetCells.new w s 25
  have H := hs.keep (Keeps.of_below hb)
  have HS := hidp hs
  by_cases e : thereB s of = true
  · have Hth := hidp e
    obtain ⟨ho, r1, r2⟩ := thereB_true.1 e
    obtain ⟨n, rfl⟩ : ∃ n : Nat, of = n := ⟨of.toNat, by omega⟩
    have hn : n < s.tasks.length := by omega
    have hg := Good.of ho
    obtain ⟨t, HT⟩ : ∃ t, Hid (s.tasks.getD n default = t) := ⟨_, rfl⟩
    have hm : t ∈ s.tasks := HT.out ▸ getD_mem hn
    have TLa : Hid (∀ q ∈ s.tasks, TaskLen w q) := hidp (fun q hq => ⟨(hs.tasks.ok q hq).at_, (hg.parts q hq).lens, by have := (hg.parts q hq).len; omega⟩)
    have TL := hidp (TLa.out t hm)
    have Ho := hidp ho
    have HR := hidp hs.tasks.at_
    have HRc := hidp hs.cores.at_
    have hpl := hg.place t hm
    obtain ⟨cn, hcn⟩ : ∃ cn : Nat, t.cl = cn := ⟨t.cl.toNat, by omega⟩
    have hcl2 : cn < s.cores.length := by omega
    obtain ⟨nc, HNC⟩ : ∃ nc, Hid (s.cores.getD cn 0 = nc) := ⟨_, rfl⟩
    have hnc := hg.cores nc (by rw [← HNC.out]; simp [List.getD, hcl2])
    obtain ⟨k, HK⟩ : ∃ k, Hid (askersV s cn = k) := ⟨_, rfl⟩
    have hka : 0 ≤ askersV s cn ∧ askersV s cn ≤ 6 := by
      unfold askersV; rw [if_pos ho]
      have := askN_bd cn s.tasks
      have := hg.ntasks
      omega
    rw [HK.out] at hka
    obtain ⟨k0, k1⟩ := hka
    obtain ⟨nc0, nc1⟩ := hnc
    obtain ⟨m, HM⟩ : ∃ m, Hid (maxL t.parts = m) := ⟨_, rfl⟩
    have hm0 := maxL_nn t.parts
    rw [HM.out] at hm0
    have HRd : Hid (rndV s cn = (max 0 (k - nc) + nc - 1) / nc) := hidp (by
      have e1 : coreAt s cn = nc := by unfold coreAt; simpa using HNC.out
      unfold rndV; rw [HK.out, e1])
    have hRb := rndV_bd ho (cl := cn) (by omega)
    rw [HRd.out] at hRb
    obtain ⟨Sv, HSv⟩ : ∃ Sv : Nat → Int, Hid (∀ k, slowL s cn 0 (s.tasks.take k) = Sv k) := ⟨fun k => slowL s cn 0 (s.tasks.take k), hidp (fun _ => rfl)⟩
    obtain ⟨Bt, HBt⟩ : ∃ Bt : Nat → Int, Hid (∀ k : Nat, besV s k = Bt k) := ⟨fun k => besV s k, hidp (fun _ => rfl)⟩
    have HBb : Hid (∀ k, 0 ≤ Bt k ∧ Bt k ≤ 360) := hidp (fun k => by rw [← HBt.out]; exact besV_bd ho k)
    have HS0 : Hid (Sv 0 = 0) := hidp (by rw [← HSv.out, List.take_zero]; rfl)
    have HSb : Hid (∀ k, 0 ≤ Sv k ∧ Sv k ≤ 420) := hidp (fun k => by rw [← HSv.out]; exact slowL_bd ho cn 0 (fun t ht => (hg.parts t (List.mem_of_mem_take ht)).lens))
    have HSs : Hid (∀ k, k < s.tasks.length → Sv (k + 1) = max (Sv k) (if (s.tasks.getD k default).cl = cn ∧ maxL (s.tasks.getD k default).parts ≠ 0 then maxL (s.tasks.getD k default).parts + Bt k else 0)) := hidp (fun k hk => by rw [← HSv.out, ← HSv.out, ← HBt.out]; exact slowL_snoc ho cn (fun t ht => (hg.parts t ht).lens) k hk)
    have HV : Hid (outV s n = if m ≠ 0 then (max 0 (k - nc) + nc - 1) / nc * Sv s.tasks.length else 0) := hidp (by
      unfold outV; simp only [Int.toNat_natCast]; rw [HT.out, HM.out, hcn, HRd.out, ← HSv.out, List.take_length]
      by_cases e0 : m ≠ 0
      · rw [if_pos ⟨e, e0⟩, if_pos e0]
      · rw [if_neg (fun h => e0 h.2), if_neg e0])
    have Hlens : Hid (∀ q ∈ s.tasks, 0 ≤ maxL q.parts ∧ maxL q.parts ≤ 60) := hidp (fun q hq => ⟨maxL_nn _, maxL_bd (hg.parts q hq).lens⟩)
    have l3 : s.tasks.length ≤ 6 := hg.ntasks.2
    clear hm hg ho e hs r1 HSv hpl
    obtain ⟨q, hq⟩ : ∃ q, (max 0 (k - nc) + nc - 1) / nc = q := ⟨_, rfl⟩
    rw [hq] at HV hRb HRd
    obtain ⟨qb0, qb1⟩ := hRb
    have Hq := hidp hq
    have Hcn := hidp hcn
    clear hq hcn
    obtain ⟨proto, ca, cc, cores, ha, hc, homes, ta, tc, tasks⟩ := s
    dsimp only at hn l3 r2 hb sc H hcl2 HR HRc HSs HV HNC HT TLa Hlens ⊢
    obtain ⟨g, off, hA, hcl⟩ := HR.out.resolve_left (by intro e; rw [e] at hn; simp at hn)
    subst hA
    have Hcl := hidp hcl
    have Htc := hidp (HT.out ▸ hcl n hn)
    obtain ⟨gc, oc, hCA, hcc⟩ := HRc.out.resolve_left (by intro e; rw [e] at hcl2; simp at hcl2)
    subst hCA
    have Hcc := hidp (HNC.out ▸ hcc cn hcl2)
    clear hcl hcc
    have dn : decide (tasks.length ≤ n) = false := by simp; omega
    go_enter Tryz.func101, Tryz.ntmps101
    go_wp2_with fail
    refine (rthere_any _ _ _ H).mono ?_
    rintro e w2 ⟨rfl, hb2⟩
    replace hb := hb.trans (hb2.mono hb.size)
    replace sc := sc.keep (Keeps.of_below hb2)
    replace H := H.keep (Keeps.of_below hb2)
    clear hb2
    try clear sc_0 sc_1 sc_2 sc_3
    have scx := sc
    obtain ⟨sc_0, sc_1, sc_2, sc_3⟩ := scx
    try dsimp only at sc_0 sc_1 sc_2 sc_3
    rw [Hth.out]
    obtain ⟨d0, d1, d2, d3, d4, d5⟩ := Htc.out.keep (Keeps.of_below hb)
    go_wp2_with fail
    refine (rlongest_any t _ (TL.out.keep (Keeps.of_below hb))).mono ?_
    rintro e w3 ⟨rfl, hb2⟩
    replace hb := hb.trans (hb2.mono hb.size)
    replace sc := sc.keep (Keeps.of_below hb2)
    clear hb2
    try clear sc_0 sc_1 sc_2 sc_3
    have scx := sc
    obtain ⟨sc_0, sc_1, sc_2, sc_3⟩ := scx
    try dsimp only at sc_0 sc_1 sc_2 sc_3
    rw [HM.out]
    clear d0 d1 d2 d3 d4 d5 H
    obtain ⟨d0, d1, d2, d3, d4, d5⟩ := Htc.out.keep (Keeps.of_below hb)
    rw [Hcn.out] at d4
    by_cases e2 : m = 0
    · have e3 : (m == 0) = true := by simpa using e2
      have Hv : Hid (outV _ n = 0) := hidp (by rw [HV.out, if_neg (fun h => h e2)])
      clear e2
      go_wp2
      go_ret
      exact ⟨ret_int Hv.out.symm, hb⟩
    · have e3 : (m == 0) = false := by simpa using e2
      have Hv : Hid (outV _ n = q * Sv tasks.length) := hidp (by rw [HV.out, if_pos e2])
      clear e2
      go_wp2
      clear d0 d1 d2 d3 d4 d5
      go_loopg [6, 7] tasks.length (fun gg a i wr => ∃ (j : Nat) (x : Int), j + gg = tasks.length ∧ i = .int .i64 j ∧ a = .int .i64 x ∧ Hid (Sv j = x) ∧ SetCells wr w.heap.size ⟨proto, some ⟨gc, oc, none⟩, cc, cores, ha, hc, homes, some ⟨g, off, none⟩, tc, tasks⟩ ∧ Below w.heap.size w wr)
      case atStart => exact ⟨0, 0, by omega, rfl, rfl, hidp HS0.out, sc, hb⟩
      case round =>
        clear sc hb sc_0 sc_1 sc_2 sc_3
        obtain ⟨j, x, hj, rfl, rfl, Hx, sc, hb⟩ := hrel
        obtain ⟨sc_0, sc_1, sc_2, sc_3⟩ := id sc
        dsimp only at sc_0 sc_1 sc_2 sc_3
        have hx := HSb.out j
        rw [Hx.out] at hx
        obtain ⟨x0, x1⟩ := hx
        by_cases hlt : j < tasks.length
        · obtain ⟨u, HU⟩ : ∃ u, Hid (tasks.getD j default = u) := ⟨_, rfl⟩
          have hum : u ∈ tasks := HU.out ▸ getD_mem hlt
          have TU := hidp (TLa.out u hum)
          obtain ⟨mu, HMU⟩ : ∃ mu, Hid (maxL u.parts = mu) := ⟨_, rfl⟩
          have hmu := Hlens.out u hum
          rw [HMU.out] at hmu
          obtain ⟨mu0, mu1⟩ := hmu
          obtain ⟨y, Hy⟩ : ∃ y, Hid (Bt j = y) := ⟨_, rfl⟩
          have hy := HBb.out j
          rw [Hy.out] at hy
          obtain ⟨y0, y1⟩ := hy
          have Huc := hidp (HU.out ▸ Hcl.out j hlt)
          have Hs : Hid (Sv (j + 1) = max x (if u.cl = cn ∧ mu ≠ 0 then mu + y else 0)) := hidp (by rw [HSs.out j hlt, HU.out, HMU.out, Hx.out, Hy.out])
          clear hum
          obtain ⟨d0, d1, d2, d3, d4, d5⟩ := Huc.out.keep (Keeps.of_below hb)
          go_wp2_with fail
          refine (rlongest_any u _ (TU.out.keep (Keeps.of_below hb))).mono ?_
          rintro e w4 ⟨rfl, hb2⟩
          replace hb := hb.trans (hb2.mono hb.size)
          replace sc := sc.keep (Keeps.of_below hb2)
          clear hb2
          try clear sc_0 sc_1 sc_2 sc_3
          have scx := sc
          obtain ⟨sc_0, sc_1, sc_2, sc_3⟩ := scx
          try dsimp only at sc_0 sc_1 sc_2 sc_3
          rw [HMU.out]
          clear d0 d1 d2 d3 d4 d5
          obtain ⟨_, _, _, _, d4, _⟩ := Huc.out.keep (Keeps.of_below hb)
          by_cases e : u.cl = cn
          · have e1 : (u.cl == (cn : Int)) = true := by simpa using e
            by_cases e2 : 0 < mu
            · have Hz : Hid (Sv (j + 1) = max x (mu + y)) := hidp (by rw [Hs.out, if_pos ⟨e, by omega⟩])
              clear e
              go_wp2_with fail
              refine (rinside_any _ j _ (HS.out.keep (Keeps.of_below hb)) Ho.out).mono ?_
              rintro e w5 ⟨rfl, hb2⟩
              replace hb := hb.trans (hb2.mono hb.size)
              replace sc := sc.keep (Keeps.of_below hb2)
              clear hb2
              rw [HBt.out, Hy.out]
              clear sc_0 sc_1 sc_2 sc_3 d4
              go_wp2_with fail
              go_roundg (gk - 1)
              case measure => omega
              case rel => exact ⟨j + 1, max x (mu + y), by omega, by go_num, rfl, Hz, sc, hb⟩
            · have Hz : Hid (Sv (j + 1) = x) := hidp (by rw [Hs.out, if_neg (fun h => h.2 (by omega))]; omega)
              clear e
              go_wp2
              go_roundg (gk - 1)
              case measure => omega
              case rel => exact ⟨j + 1, x, by omega, by go_num, rfl, Hz, sc, hb⟩
          · have e1 : (u.cl == (cn : Int)) = false := by simpa using e
            have Hz : Hid (Sv (j + 1) = x) := hidp (by rw [Hs.out, if_neg (fun h => e h.1)]; omega)
            clear e
            go_wp2
            go_roundg (gk - 1)
            case measure => omega
            case rel => exact ⟨j + 1, x, by omega, by go_num, rfl, Hz, sc, hb⟩
        · obtain rfl : j = tasks.length := by omega
          obtain ⟨p, hp⟩ : ∃ p, q * x = p := ⟨_, rfl⟩
          have hp0 : 0 ≤ q * x := Int.mul_nonneg qb0 x0
          have hp1 : q * x ≤ 6 * 420 := Int.mul_le_mul qb1 x1 x0 (by omega)
          have Hvp : Hid (outV _ n = p) := hidp (by rw [Hv.out, Hx.out, hp])
          have hwr : IntKind.i64.wrap (q * x) = p := by rw [IntWalk.i64_in _ (by omega), hp]
          have hws : IntKind.i64.wrap (k - nc) = k - nc := IntWalk.i64_in _ (by omega)
          have Hup : Hid (∀ u, Calls Tryz.prog 127 #[.int .i64 (max 0 (k - nc)), .int .i64 nc] u fun e w' => e = .returned (.int .i64 q) ∧ u = w') := hidp (fun u => by rw [← Hq.out]; exact rup_any _ _ u (by omega) (by omega) nc0 nc1)
          have cb := Keeps.of_below hb _ _ Hcc.out
          clear hp hp0 hp1
          go_wp2_with fail
          have s0 := Keeps.drew _ _ _ sc_0
          have s1 := Keeps.drew _ _ _ sc_1
          have s2 := Keeps.drew _ _ _ sc_2
          have s3 := Keeps.drew _ _ _ sc_3
          have s4 := Keeps.drew _ _ _ cb
          have H' := HS.out.keep (Keeps.of_below hb.drew)
          have hb := hb.drew
          clear sc sc_0 sc_1 sc_2 sc_3 cb
          go_region_held3 (fun w' => w'.cell? ⟨w.heap.size, 0, none⟩ = some (.int .i64 proto) ∧ w'.cell? ⟨w.heap.size, 1, none⟩ = some (.slice (some ⟨gc, oc, none⟩) cores.length cc) ∧ w'.cell? ⟨w.heap.size, 2, none⟩ = some (.slice ha homes.length hc) ∧ w'.cell? ⟨w.heap.size, 3, none⟩ = some (.slice (some ⟨g, off, none⟩) tasks.length tc) ∧ w'.cell? ⟨gc, oc + cn, none⟩ = some (.int .i64 nc)) (exact ⟨s0, s1, s2, s3, s4⟩)
            (first
              | (go_at_call 128; refine (raskers_any _ cn _ H' Ho.out).mono ?_; rintro e u ⟨rfl, hb3⟩; have s0 := Keeps.of_below hb3 _ _ s0; have s1 := Keeps.of_below hb3 _ _ s1; have s2 := Keeps.of_below hb3 _ _ s2; have s3 := Keeps.of_below hb3 _ _ s3; have s4 := Keeps.of_below hb3 _ _ s4; have H' := H'.keep (Keeps.of_below hb3); have hb := hb.trans (hb3.mono hb.size); rw [HK.out])
              | (go_at_call 127; refine (Hup.out _).mono ?_; rintro e u ⟨rfl, rfl⟩))
          clear hwr hws
          go_wp2_with fail
          go_ret
          exact ⟨ret_int Hvp.out.symm, hb⟩
  · have Hth : Hid (thereB s of = false) := hidp (by simpa using e)
    have Hv : Hid (outV s of = 0) := hidp (by unfold outV; rw [if_neg (fun h => e h.1)])
    clear e
    go_enter Tryz.func101, Tryz.ntmps101
    go_wp2_with fail
    refine (rthere_any _ _ _ H).mono ?_
    rintro e w2 ⟨rfl, hb2⟩
    replace hb := hb.trans (hb2.mono hb.size)
    replace sc := sc.keep (Keeps.of_below hb2)
    clear hb2
    try clear sc_0 sc_1 sc_2 sc_3
    have scx := sc
    obtain ⟨sc_0, sc_1, sc_2, sc_3⟩ := scx
    try dsimp only at sc_0 sc_1 sc_2 sc_3
    rw [Hth.out]
    go_wp2
    go_ret
    exact ⟨ret_int Hv.out.symm, hb⟩

set_option maxHeartbeats 1000000 in
theorem rtoken_any (s : SetR) (of part : Int) (w : World) (hs : SetOk w s) : Calls Tryz.prog 72 #[.agg #[.int .i64 s.proto, .slice s.ca s.cores.length s.cc, .slice s.ha s.homes.length s.hc, .slice s.ta s.tasks.length s.tc], .int .i64 of, .int .i64 part] w fun e w' => e = .returned (.tuple #[.int .i64 (tokV s of part), .bool (fairK s of part)]) ∧ Below w.heap.size w w' := by
  have hb := (Below.refl w.heap.size w).alloc (Nat.le_refl _) (.cells #[.int .i64 s.proto, .slice s.ca s.cores.length s.cc, .slice s.ha s.homes.length s.hc, .slice s.ta s.tasks.length s.tc] 25)
  have sc := SetCells.new w s 25
  have H := hs.keep (Keeps.of_below hb)
  obtain ⟨I, HI⟩ : ∃ I, Hid (insV s of part = I) := ⟨_, rfl⟩
  obtain ⟨O, HO⟩ : ∃ O, Hid (outV s of = O) := ⟨_, rfl⟩
  have h1 := insV_bd s of part
  have h2 := outV_bd s of
  rw [HI.out] at h1
  rw [HO.out] at h2
  obtain ⟨i0, i1⟩ := h1
  obtain ⟨o0, o1⟩ := h2
  clear hs
  by_cases k : fairK s of part = true
  · have Hk := hidp k
    have Hv : Hid (tokV s of part = I + O) := hidp (by unfold tokV; rw [if_pos k, HI.out, HO.out])
    clear k
    go_enter Tryz.func72, Tryz.ntmps72
    go_wp2_with fail
    refine (rInside_any _ _ _ _ H).mono ?_
    rintro e w2 ⟨rfl, hb2⟩
    replace hb := hb.trans (hb2.mono hb.size)
    replace sc := sc.keep (Keeps.of_below hb2)
    replace H := H.keep (Keeps.of_below hb2)
    clear hb2
    try clear sc_0 sc_1 sc_2 sc_3
    have scx := sc
    obtain ⟨sc_0, sc_1, sc_2, sc_3⟩ := scx
    try dsimp only at sc_0 sc_1 sc_2 sc_3
    rw [HI.out, Hk.out]
    go_wp2_with fail
    refine (rOutside_any _ _ _ H).mono ?_
    rintro e w3 ⟨rfl, hb2⟩
    replace hb := hb.trans (hb2.mono hb.size)
    clear hb2
    rw [HO.out]
    go_wp2
    go_ret2
    exact ⟨ret_ib Hv.out.symm Hk.out.symm, hb⟩
  · have k : fairK s of part = false := by simpa using k
    have Hk := hidp k
    have Hv : Hid (tokV s of part = 0) := hidp (by unfold tokV; rw [k]; rfl)
    clear k
    go_enter Tryz.func72, Tryz.ntmps72
    go_wp2_with fail
    refine (rInside_any _ _ _ _ H).mono ?_
    rintro e w2 ⟨rfl, hb2⟩
    replace hb := hb.trans (hb2.mono hb.size)
    replace sc := sc.keep (Keeps.of_below hb2)
    replace H := H.keep (Keeps.of_below hb2)
    clear hb2
    try clear sc_0 sc_1 sc_2 sc_3
    have scx := sc
    obtain ⟨sc_0, sc_1, sc_2, sc_3⟩ := scx
    try dsimp only at sc_0 sc_1 sc_2 sc_3
    rw [HI.out, Hk.out]
    go_wp2
    go_ret2
    exact ⟨ret_ib Hv.out.symm Hk.out.symm, hb⟩
end Go.Proofs.YtjjlpaampmpdfaaGreatDoor

namespace Go.Proofs.YtjjlpaampmpdfaaGreatDoor
open Go.ChangeShapes Go.WideShapes Go.ChangeAt Go.RowKit
set_option linter.unusedVariables false
set_option linter.unusedSimpArgs false

set_option maxHeartbeats 1000000 in
theorem rwpart_any (s : SetR) (bs : List Int) (ba : Option Addr) (bc : Nat) (of part : Int) (w : World) (hs : SetOk w s) (hB : IntsOk w ba bc bs) : Calls Tryz.prog 54 #[.agg #[.int .i64 s.proto, .slice s.ca s.cores.length s.cc, .slice s.ha s.homes.length s.hc, .slice s.ta s.tasks.length s.tc], .slice ba bs.length bc, .int .i64 of, .int .i64 part] w fun e w' => e = .returned (.tuple #[.int .i64 (waitV s bs of part), .bool (waitK s bs of part)]) ∧ Below w.heap.size w w' := by
  have hb := (Below.refl w.heap.size w).alloc (Nat.le_refl _) (.cells #[.int .i64 s.proto, .slice s.ca s.cores.length s.cc, .slice s.ha s.homes.length s.hc, .slice s.ta s.tasks.length s.tc] 25)
  have sc := SetCells.new w s 25
  have H := hs.keep (Keeps.of_below hb)
  have HB := hB.keep (Keeps.of_below hb)
  have l3 : s.tasks.length ≤ maxLen := Nat.le_trans hs.tasks.sl.2.1 hs.tasks.sl.2.2
  have l4 : bs.length ≤ maxLen := Nat.le_trans hB.sl.2.1 hB.sl.2.2
  unfold maxLen at l3 l4
  by_cases e2 : bs.length = s.tasks.length
  · have d1 : ((bs.length : Int) != (s.tasks.length : Int)) = false := by simp [e2]
    by_cases p1 : s.proto = 1
    · have HV : Hid (waitV s bs of part = fairV s of part) := hidp (by unfold waitV; rw [if_pos e2, if_pos p1])
      have HK : Hid (waitK s bs of part = fairK s of part) := hidp (by unfold waitK; rw [if_pos e2, if_neg (by omega)])
      have q1 : (s.proto == 1) = true := by simpa using p1
      clear p1 e2
      go_enter Tryz.func54, Tryz.ntmps54
      go_wp2_with fail
      refine (rfair_any s of part _ H).mono ?_
      rintro e w2 ⟨rfl, hb2⟩
      replace hb := hb.trans (hb2.mono hb.size)
      clear hb2
      go_wp2
      go_ret2
      exact ⟨ret_ib HV.out.symm HK.out.symm, hb⟩
    · have q1 : (s.proto == 1) = false := by simpa using p1
      by_cases p2 : s.proto = 2
      · have HV : Hid (waitV s bs of part = agentV s bs of part) := hidp (by unfold waitV; rw [if_pos e2, if_neg p1, if_pos p2])
        have HK : Hid (waitK s bs of part = agentK s bs of part) := hidp (by unfold waitK; rw [if_pos e2, if_pos p2])
        have q2 : (s.proto == 2) = true := by simpa using p2
        clear p1 p2 e2
        go_enter Tryz.func54, Tryz.ntmps54
        go_wp2_with fail
        refine (ragent_any s bs ba bc of part _ H HB).mono ?_
        rintro e w2 ⟨rfl, hb2⟩
        replace hb := hb.trans (hb2.mono hb.size)
        clear hb2
        go_wp2
        go_ret2
        exact ⟨ret_ib HV.out.symm HK.out.symm, hb⟩
      · have q2 : (s.proto == 2) = false := by simpa using p2
        have HV : Hid (waitV s bs of part = tokV s of part) := hidp (by unfold waitV; rw [if_pos e2, if_neg p1, if_neg p2])
        have HK : Hid (waitK s bs of part = fairK s of part) := hidp (by unfold waitK; rw [if_pos e2, if_neg p2])
        clear p1 p2 e2
        go_enter Tryz.func54, Tryz.ntmps54
        go_wp2_with fail
        refine (rtoken_any s of part _ H).mono ?_
        rintro e w2 ⟨rfl, hb2⟩
        replace hb := hb.trans (hb2.mono hb.size)
        clear hb2
        go_wp2
        go_ret2
        exact ⟨ret_ib HV.out.symm HK.out.symm, hb⟩
  · have d1 : ((bs.length : Int) != (s.tasks.length : Int)) = true := by simp; omega
    have HV : Hid (waitV s bs of part = 0) := hidp (by unfold waitV; rw [if_neg e2])
    have HK : Hid (waitK s bs of part = false) := hidp (by unfold waitK; rw [if_neg e2])
    clear e2
    go_enter Tryz.func54, Tryz.ntmps54
    go_wp2
    go_ret2
    exact ⟨ret_ib HV.out.symm HK.out.symm, hb⟩

theorem max_lock {ps : List PartM} (h : 0 < maxL ps) : ∃ k, k < ps.length ∧ (ps.getD k default).kind = 3 := by
  induction ps with
  | nil => simp [maxL] at h
  | cons p ps ih =>
    by_cases e : p.kind = 3
    · exact ⟨0, by simp, by simpa using e⟩
    · simp only [maxL, if_neg e] at h
      obtain ⟨k, hk, h2⟩ := ih (by have := maxL_nn ps; omega)
      exact ⟨k + 1, by simpa using hk, by simpa using h2⟩
theorem TaskBox.turned {F : List Nat} {w w' : World} {b : Nat} {t : TaskR} (h : TaskBox w b t) (ht : Turned F w w') (hb : b ∉ F) : TaskBox w' b t := ⟨ht.cell h.1 hb, ht.cell h.2.1 hb, ht.cell h.2.2.1 hb, ht.cell h.2.2.2.1 hb, ht.cell h.2.2.2.2.1 hb, ht.cell h.2.2.2.2.2 hb⟩
set_option maxHeartbeats 4000000 in
set_option maxRecDepth 100000 in
theorem rwaits_any (s : SetR) (bs : List Int) (ba : Option Addr) (bc : Nat) (of : Int) (w : World) (hs : SetOk w s) (hB : IntsOk w ba bc bs) : Calls Tryz.prog 33 #[.agg #[.int .i64 s.proto, .slice s.ca s.cores.length s.cc, .slice s.ha s.homes.length s.hc, .slice s.ta s.tasks.length s.tc], .slice ba bs.length bc, .int .i64 of] w (RowK w (waitsL s bs of) (waitsK s bs of)) := by
  have hb := (Below.refl w.heap.size w).alloc (Nat.le_refl _) (.cells #[.int .i64 s.proto, .slice s.ca s.cores.length s.cc, .slice s.ha s.homes.length s.hc, .slice s.ta s.tasks.length s.tc] 25)
  have sc := SetCells.new w s 25
  have H := hs.keep (Keeps.of_below hb)
  have l3 : s.tasks.length ≤ maxLen := Nat.le_trans hs.tasks.sl.2.1 hs.tasks.sl.2.2
  unfold maxLen at l3
  have l4 : bs.length ≤ maxLen := Nat.le_trans hB.sl.2.1 hB.sl.2.2
  unfold maxLen at l4
  by_cases e : thereB s of = true
  · have Hth := hidp e
    obtain ⟨ho, r1, r2⟩ := thereB_true.1 e
    obtain ⟨n, rfl⟩ : ∃ n : Nat, of = n := ⟨of.toNat, by omega⟩
    have hn : n < s.tasks.length := by omega
    have hg := Good.of ho
    obtain ⟨t, HT⟩ : ∃ t, Hid (s.tasks.getD n default = t) := ⟨_, rfl⟩
    have hm : t ∈ s.tasks := HT.out ▸ getD_mem hn
    have Tok := hs.tasks.ok t hm
    have Tg := hg.parts t hm
    obtain ⟨g, off, hA, hcl⟩ := hs.tasks.at_.resolve_left (by intro e; rw [e] at hn; simp at hn)
    have Ht5 := hidp ((HT.out ▸ hcl n hn).2.2.2.2.2)
    have hpl := Tg.len
    obtain ⟨gp, op, hP, hpc⟩ := Tok.at_.resolve_left (by intro e; rw [e] at hpl; simp at hpl)
    have Hpc := hidp hpc
    have HPA := hidp hP
    obtain ⟨parts, hparts⟩ : ∃ parts, t.parts = parts := ⟨_, rfl⟩
    have HPL := hidp hparts
    have Hpt : Hid (partsOf s n = parts) := hidp (by unfold partsOf; simp only [Int.toNat_natCast]; rw [HT.out, hparts])
    rw [hP, hparts] at Ht5
    rw [hparts] at Hpc hpl
    have TL : Hid (TaskLen w t) := hidp ⟨Tok.at_, Tg.lens, by have := Tg.len; omega⟩
    have Htc := hidp (HT.out ▸ hcl n hn)
    obtain ⟨mx, HM⟩ : ∃ m, Hid (maxL t.parts = m) := ⟨_, rfl⟩
    have HMp : Hid (0 < mx → ∃ k, k < t.parts.length ∧ (t.parts.getD k default).kind = 3) := hidp (fun h => by
      rw [← HM.out] at h; exact max_lock h)
    obtain ⟨V, HV⟩ : ∃ V : Nat → Int, Hid (∀ k : Nat, waitV s bs n k = V k) := ⟨fun k => waitV s bs n k, hidp (fun _ => rfl)⟩
    obtain ⟨K, HK⟩ : ∃ K : Nat → Bool, Hid (∀ k : Nat, waitK s bs n k = K k) := ⟨fun k => waitK s bs n k, hidp (fun _ => rfl)⟩
    have Hpa : Hid (∀ k : Nat, partAt s n k = parts.getD k default) := hidp (fun k => by unfold partAt; have := Hpt.out; unfold partsOf at this; rw [this]; simp)
    obtain ⟨PW, HPW⟩ : ∃ f : Nat → Int, Hid (pW s bs n = f) := ⟨_, hidp rfl⟩
    obtain ⟨PK, HPK⟩ : ∃ f : Nat → Bool, Hid (pK s bs n = f) := ⟨_, hidp rfl⟩
    have HPWl : Hid (∀ k, (parts.getD k default).kind = 3 → PW k = V k ∧ PK k = K k) := hidp (fun k h => by
      rw [← HPW.out, ← HPK.out]; unfold pW pK; rw [Hpa.out, if_pos h, if_pos h, HV.out, HK.out]; exact ⟨rfl, rfl⟩)
    have HPWn : Hid (∀ k, (parts.getD k default).kind ≠ 3 → PW k = 0 ∧ PK k = true) := hidp (fun k h => by
      rw [← HPW.out, ← HPK.out]; unfold pW pK; rw [Hpa.out, if_neg h, if_neg h]; exact ⟨rfl, rfl⟩)
    have HWb : Hid (∀ k, 0 ≤ PW k ∧ PW k ≤ 3000) := hidp (fun k => by rw [← HPW.out]; exact pW_bd s bs n k)
    have Hoff : Hid (∀ k, k < parts.length → PK k = false → waitsK s bs n = false ∧ waitsL s bs n = []) := hidp (fun k hk h => waits_off (by rw [Hpt.out]; exact hk) (by rw [HPK.out]; exact h))
    have Hyes : Hid ((∀ k, k < parts.length → PK k = true) → waitsK s bs n = true ∧ waitsL s bs n = (List.range parts.length).map PW) := hidp (fun h => by
      have := waits_yes (s := s) (bs := bs) (of := n) Hth.out (by rw [Hpt.out, HPK.out]; exact h)
      rw [Hpt.out, HPW.out] at this; exact this)
    obtain ⟨RL, HRL⟩ : ∃ L, Hid (waitsL s bs n = L) := ⟨_, hidp rfl⟩
    obtain ⟨RK, HRK⟩ : ∃ L, Hid (waitsK s bs n = L) := ⟨_, hidp rfl⟩
    rw [HRL.out, HRK.out] at Hoff Hyes ⊢
    have HS1 := hidp (fun u (h : Below w.heap.size w u) => hs.keep (Keeps.of_below h))
    have HB1 := hidp (fun u (h : Below w.heap.size w u) => hB.keep (Keeps.of_below h))
    obtain ⟨S, HSS⟩ : ∃ S : SetR, Hid (S = s) := ⟨s, rfl⟩
    obtain ⟨i0, hi0, hy0, hy1, hy2⟩ := info_parts infoZ
    have HMp2 : Hid (0 < mx → ∃ k, k < parts.length ∧ (parts.getD k default).kind = 3) := hidp (by rw [← Hpt.out]; unfold partsOf; simp only [Int.toNat_natCast]; rw [HT.out]; exact HMp.out)
    have Hkn : Hid (bs.length ≠ s.tasks.length → ∀ k : Nat, waitK s bs n k = false) := hidp (fun h k => by unfold waitK; rw [if_neg h])
    clear HMp
    clear hcl hm Tok Tg hpc hP hparts hg ho HT e hs hB r1
    have dn : decide (s.tasks.length ≤ n) = false := by simp; omega
    obtain ⟨proto, ca, cc, cores, ha, hc, homes, ta, tc, tasks⟩ := s
    dsimp only at hA hn l3 r2 hb sc H dn HS1 Hkn ⊢
    subst hA
    by_cases e2 : bs.length = tasks.length
    · have d1' : ((bs.length : Int) != (tasks.length : Int)) = false := by simp [e2]
      clear e2
      go_enter Tryz.func33, Tryz.ntmps33
      go_wp2_with fail
      refine (rthere_any _ _ _ H).mono ?_
      rintro e w2 ⟨rfl, hb2⟩
      replace hb := hb.trans (hb2.mono hb.size)
      replace sc := sc.keep (Keeps.of_below hb2)
      clear hb2
      try clear sc_0 sc_1 sc_2 sc_3
      have scx := sc
      obtain ⟨sc_0, sc_1, sc_2, sc_3⟩ := scx
      try dsimp only at sc_0 sc_1 sc_2 sc_3
      rw [Hth.out]
      have hz0 : w.heap.size + 1 ≤ w2.heap.size := cell_lt sc_0
      obtain ⟨d0, d1, d2, d3, d4, d5⟩ := Htc.out.keep (Keeps.of_below hb)
      go_wp2_with fail
      have tb := TaskBox.new w2 t 41
      replace hb := hb.alloc hb.size (.cells #[.string t.name, .int .i64 t.per, .int .i64 t.dl, .int .i64 t.prio, .int .i64 t.cl, .slice t.pa t.parts.length t.pc] 41)
      have hzs : w2.heap.size + 1 ≤ (w2.alloc (.cells #[.string t.name, .int .i64 t.per, .int .i64 t.dl, .int .i64 t.prio, .int .i64 t.cl, .slice t.pa t.parts.length t.pc] 41)).heap.size := by simp
      replace sc := sc.keep (Keeps.alloc w2 (.cells #[.string t.name, .int .i64 t.per, .int .i64 t.dl, .int .i64 t.prio, .int .i64 t.cl, .slice t.pa t.parts.length t.pc] 41))
      clear sc_0 sc_1 sc_2 sc_3 d0 d1 d2 d3 d4 d5
      go_loopg [8, 10] parts.length (fun gg a i wr => ∃ (k c : Nat) (A : Option Addr), k + gg = parts.length ∧ i = .int .i64 k ∧ a = .slice A k c ∧ Hid (∀ j, j < k → PK j = true) ∧ OwnN (w2.heap.size + 1) wr A k c ((List.range k).map PW) ∧ TaskBox wr w2.heap.size t ∧ SetCells wr w.heap.size ⟨proto, ca, cc, cores, ha, hc, homes, some ⟨g, off, none⟩, tc, tasks⟩ ∧ Below w.heap.size w wr ∧ w2.heap.size + 1 ≤ wr.heap.size)
      case atStart => exact ⟨0, 0, none, by omega, rfl, rfl, hidp (fun j hj => by omega), OwnN.none _ _, tb, sc, hb, hzs⟩
      case round =>
        clear tb sc hb
        obtain ⟨k, c, A, hk, rfl, rfl, Hk, ho, tb, sc, hw, hz⟩ := hrel
        obtain ⟨b0, b1, b2, b3, b4, b5⟩ := id tb
        rw [HPA.out, HPL.out] at b5
        by_cases hlt : k < parts.length
        · obtain ⟨p, HP⟩ : ∃ p, Hid (parts.getD k default = p) := ⟨_, rfl⟩
          have pcl := (HP.out ▸ Hpc.out k hlt).keep (Keeps.of_below hw)
          obtain ⟨x0, x1, x2⟩ := pcl
          have hw1 := hw
          have ho1 := ho
          have hz1 := hz
          have sc1 := sc
          obtain ⟨sc_0, sc_1, sc_2, sc_3⟩ := id sc1
          dsimp only at sc_0 sc_1 sc_2 sc_3
          have N2 : Hid (k + 1 ≤ maxLen) := hidp (by unfold maxLen; omega)
          have T2 : Hid ((k + 1) * 8 ≤ 140737488355328) := hidp (by omega)
          by_cases e : p.kind = 3
          · obtain ⟨v1, v2⟩ := HPWl.out k (by rw [HP.out]; exact e)
            have e' : (p.kind == 3) = true := by simpa using e
            obtain ⟨b, Hb⟩ : ∃ b, Hid (K k = b) := ⟨_, rfl⟩
            rw [Hb.out] at v2
            obtain ⟨v, Hv⟩ : ∃ v, Hid (PW k = v) := ⟨_, rfl⟩
            rw [Hv.out] at v1
            have Hvv := hidp v1.symm
            have Hpk := hidp v2
            clear v1 v2 e
            cases b with
            | false =>
              obtain ⟨f1, f2⟩ := Hoff.out k hlt Hpk.out
              have F1 := hidp f1
              have F2 := hidp f2
              clear f1 f2
              go_wp2_with fail
              refine (rwpart_any _ bs ba bc n k _ (HS1.out _ hw1) (HB1.out _ hw1)).mono ?_
              rintro e w3 ⟨rfl, hb3⟩
              rw [HV.out k, HK.out k, Hb.out]
              clear b0 b1 b2 b3 b4 b5
              go_wp2_with fail
              try rw [Exit.noGoto_ret]
              go_ret2
              exact RowK.eq ⟨none, 0, rfl, nil_ints _, hw1.trans (hb3.mono hw1.size)⟩ F2.out.symm F1.out.symm
            | true =>
              go_wp2_with fail
              refine (rwpart_any _ bs ba bc n k _ (HS1.out _ hw1) (HB1.out _ hw1)).mono ?_
              rintro e w3 ⟨rfl, hb3⟩
              rw [HV.out k, HK.out k, Hb.out, Hvv.out]
              have hw3 := hw1.trans (hb3.mono hw1.size)
              have hown4 := ((ho1.turned (Turned.of_below hb3 []) (by simp)).turned ((Turned.refl [] w3).alloc (.cells #[.int .i64 v] 3)) (by simp))
              have S2 := hidp (Lies.newCells' w3 [.int .i64 v] 3)
              have Z2 : Hid (w2.heap.size + 1 ≤ (w3.alloc (.cells #[.int .i64 v] 3)).heap.size) := hidp (Nat.le_trans hz1 (Nat.le_trans hb3.size (by simp)))
              have sc4 := (sc1.keep (Keeps.of_below hb3)).keep (Keeps.alloc _ (.cells #[.int .i64 v] 3))
              have tb4 := (tb.keep (Keeps.of_below hb3)).keep (Keeps.alloc _ (.cells #[.int .i64 v] 3))
              have hw4 := hw3.alloc hw3.size (.cells #[.int .i64 v] 3)
              have O2 := hidp (ints_one v)
              have Hfp := hidp (own_fp hown4.own)
              clear b0 b1 b2 b3 b4 b5 x0 x1 x2 sc_0 sc_1 sc_2 sc_3
              go_wp2_with (at_builtin; refine wpList_app2 _ rfl (.tmp 65) (.tmp 67) 22 rfl (w2.heap.size + 1) 3 i0 _ 1 8 Tryz.underlying22 hi0 hy0 hy1 hy2 rfl (by decide) A k c _ rfl hown4.own _ _ 1 1 [.int .i64 v] rfl (by simp) rfl S2.out O2.out N2.out T2.out Z2.out ?_; intro A' c' w5 happ)
              go_roundg (gk - 1)
              case measure => omega
              case rel => exact ⟨k + 1, c', A', by omega, by go_num, rfl, hidp (fun j hj => by
                by_cases ej : j = k
                · subst ej; exact Hpk.out
                · exact Hk.out j (by omega)), by rw [range_snoc, Hv.out]; exact hown4.app (ps := [v]) happ rfl, tb4.turned happ.turned (fun hf => by have := (Hfp.out _ hf).1; omega), sc4.turned happ.turned (fun hf => by have := (Hfp.out _ hf).1; omega), hw4.trans (happ.turned.below hw4.size (fun j hj => by have := (Hfp.out _ hj).1; omega)), Nat.le_trans Z2.out happ.turned.size⟩
          · obtain ⟨v1, v2⟩ := HPWn.out k (by rw [HP.out]; exact e)
            have e' : (p.kind == 3) = false := by simpa using e
            have Hv := hidp v1
            have Hpk := hidp v2
            clear v1 v2 e
            have hw3 := hw1
            have hown4 := ho1.turned ((Turned.refl [] wr).alloc (.cells #[.int .i64 0] 3)) (by simp)
            have S2' := Lies.newCells' wr [.int .i64 0] 3
            have S2 := hidp S2'
            clear S2'
            have Z2 : Hid (w2.heap.size + 1 ≤ (wr.alloc (.cells #[.int .i64 0] 3)).heap.size) := hidp (Nat.le_trans hz1 (by simp))
            have sc4 := sc1.keep (Keeps.alloc _ (.cells #[.int .i64 0] 3))
            have tb4 := tb.keep (Keeps.alloc _ (.cells #[.int .i64 0] 3))
            have hw4 := hw3.alloc hw3.size (.cells #[.int .i64 0] 3)
            have O2 := hidp (ints_one 0)
            have Hfp := hidp (own_fp hown4.own)
            go_wp2_with (at_builtin; refine wpList_app2 _ rfl (.tmp 65) (.tmp 67) 22 rfl (w2.heap.size + 1) 3 i0 _ 1 8 Tryz.underlying22 hi0 hy0 hy1 hy2 rfl (by decide) A k c _ rfl hown4.own _ _ 1 1 [.int .i64 0] rfl (by simp) rfl S2.out O2.out N2.out T2.out Z2.out ?_; intro A' c' w5 happ)
            go_roundg (gk - 1)
            case measure => omega
            case rel => exact ⟨k + 1, c', A', by omega, by go_num, rfl, hidp (fun j hj => by
                by_cases ej : j = k
                · subst ej; exact Hpk.out
                · exact Hk.out j (by omega)), by rw [range_snoc, Hv.out]; exact hown4.app (ps := [0]) happ rfl, tb4.turned happ.turned (fun hf => by have := (Hfp.out _ hf).1; omega), sc4.turned happ.turned (fun hf => by have := (Hfp.out _ hf).1; omega), hw4.trans (happ.turned.below hw4.size (fun j hj => by have := (Hfp.out _ hj).1; omega)), Nat.le_trans Z2.out happ.turned.size⟩
        · obtain rfl : k = parts.length := by omega
          obtain ⟨f1, f2⟩ := Hyes.out Hk.out
          have F1 := hidp f1
          have F2 := hidp f2
          have hrow := ho.ok (fun x hx => by obtain ⟨j, _, rfl⟩ := List.mem_map.1 hx; have := HWb.out j; unfold I64; omega)
          have Hr := hidp hrow
          clear f1 f2 hrow
          go_wp2
          try rw [Exit.noGoto_ret]
          go_ret2
          exact RowK.eq ⟨A, c, by simp, Hr.out, hw⟩ F2.out.symm F1.out.symm
    · have d1' : ((bs.length : Int) != (tasks.length : Int)) = true := by simp; omega
      by_cases e3 : 0 < mx
      · obtain ⟨k, hk1, hk2⟩ := HMp2.out e3
        obtain ⟨v1, v2⟩ := HPWl.out k hk2
        rw [← HK.out, Hkn.out e2] at v2
        obtain ⟨f1, f2⟩ := Hoff.out k hk1 v2
        have F1 := hidp f1
        have F2 := hidp f2
        clear f1 f2 v1 v2 hk1 hk2 e2
        go_enter Tryz.func33, Tryz.ntmps33
        go_wp2_with fail
        refine (rthere_any _ _ _ H).mono ?_
        rintro e w2 ⟨rfl, hb2⟩
        replace hb := hb.trans (hb2.mono hb.size)
        replace sc := sc.keep (Keeps.of_below hb2)
        clear hb2
        try clear sc_0 sc_1 sc_2 sc_3
        have scx := sc
        obtain ⟨sc_0, sc_1, sc_2, sc_3⟩ := scx
        try dsimp only at sc_0 sc_1 sc_2 sc_3
        rw [Hth.out]
        obtain ⟨d0, d1, d2, d3, d4, d5⟩ := Htc.out.keep (Keeps.of_below hb)
        go_wp2_with fail
        refine (rlongest_any t _ (TL.out.keep (Keeps.of_below hb))).mono ?_
        rintro e w3 ⟨rfl, hb2⟩
        replace hb := hb.trans (hb2.mono hb.size)
        clear hb2
        rw [HM.out]
        go_wp2_with fail
        go_ret2
        exact RowK.eq ⟨none, 0, rfl, nil_ints _, hb⟩ F2.out.symm F1.out.symm
      · clear e2
        go_enter Tryz.func33, Tryz.ntmps33
        go_wp2_with fail
        refine (rthere_any _ _ _ H).mono ?_
        rintro e w2 ⟨rfl, hb2⟩
        replace hb := hb.trans (hb2.mono hb.size)
        replace sc := sc.keep (Keeps.of_below hb2)
        clear hb2
        try clear sc_0 sc_1 sc_2 sc_3
        have scx := sc
        obtain ⟨sc_0, sc_1, sc_2, sc_3⟩ := scx
        try dsimp only at sc_0 sc_1 sc_2 sc_3
        rw [Hth.out]
        have hz0 : w.heap.size + 1 ≤ w2.heap.size := cell_lt sc_0
        obtain ⟨d0, d1, d2, d3, d4, d5⟩ := Htc.out.keep (Keeps.of_below hb)
        go_wp2_with fail
        refine (rlongest_any t _ (TL.out.keep (Keeps.of_below hb))).mono ?_
        rintro e w9 ⟨rfl, hb2⟩
        replace hb := hb.trans (hb2.mono hb.size)
        replace sc := sc.keep (Keeps.of_below hb2)
        clear hb2
        try clear sc_0 sc_1 sc_2 sc_3
        have scx := sc
        obtain ⟨sc_0, sc_1, sc_2, sc_3⟩ := scx
        try dsimp only at sc_0 sc_1 sc_2 sc_3
        rw [HM.out]
        clear d0 d1 d2 d3 d4 d5
        obtain ⟨d0, d1, d2, d3, d4, d5⟩ := Htc.out.keep (Keeps.of_below hb)
        have hz0 : w.heap.size + 1 ≤ w9.heap.size := cell_lt sc_0
        go_wp2_with fail
        have tb := TaskBox.new w9 t 41
        replace hb := hb.alloc hb.size (.cells #[.string t.name, .int .i64 t.per, .int .i64 t.dl, .int .i64 t.prio, .int .i64 t.cl, .slice t.pa t.parts.length t.pc] 41)
        have hzs : w9.heap.size + 1 ≤ (w9.alloc (.cells #[.string t.name, .int .i64 t.per, .int .i64 t.dl, .int .i64 t.prio, .int .i64 t.cl, .slice t.pa t.parts.length t.pc] 41)).heap.size := by simp
        replace sc := sc.keep (Keeps.alloc w9 (.cells #[.string t.name, .int .i64 t.per, .int .i64 t.dl, .int .i64 t.prio, .int .i64 t.cl, .slice t.pa t.parts.length t.pc] 41))
        clear sc_0 sc_1 sc_2 sc_3 d0 d1 d2 d3 d4 d5
        go_loopg [8, 10] parts.length (fun gg a i wr => ∃ (k c : Nat) (A : Option Addr), k + gg = parts.length ∧ i = .int .i64 k ∧ a = .slice A k c ∧ Hid (∀ j, j < k → PK j = true) ∧ OwnN (w9.heap.size + 1) wr A k c ((List.range k).map PW) ∧ TaskBox wr w9.heap.size t ∧ SetCells wr w.heap.size ⟨proto, ca, cc, cores, ha, hc, homes, some ⟨g, off, none⟩, tc, tasks⟩ ∧ Below w.heap.size w wr ∧ w9.heap.size + 1 ≤ wr.heap.size)
        case atStart => exact ⟨0, 0, none, by omega, rfl, rfl, hidp (fun j hj => by omega), OwnN.none _ _, tb, sc, hb, hzs⟩
        case round =>
          clear tb sc hb
          obtain ⟨k, c, A, hk, rfl, rfl, Hk, ho, tb, sc, hw, hz⟩ := hrel
          obtain ⟨b0, b1, b2, b3, b4, b5⟩ := id tb
          rw [HPA.out, HPL.out] at b5
          by_cases hlt : k < parts.length
          · obtain ⟨p, HP⟩ : ∃ p, Hid (parts.getD k default = p) := ⟨_, rfl⟩
            have pcl := (HP.out ▸ Hpc.out k hlt).keep (Keeps.of_below hw)
            obtain ⟨x0, x1, x2⟩ := pcl
            have hw1 := hw
            have ho1 := ho
            have hz1 := hz
            have sc1 := sc
            obtain ⟨sc_0, sc_1, sc_2, sc_3⟩ := id sc1
            dsimp only at sc_0 sc_1 sc_2 sc_3
            have N2 : Hid (k + 1 ≤ maxLen) := hidp (by unfold maxLen; omega)
            have T2 : Hid ((k + 1) * 8 ≤ 140737488355328) := hidp (by omega)
            by_cases e : p.kind = 3
            · obtain ⟨v1, v2⟩ := HPWl.out k (by rw [HP.out]; exact e)
              have e' : (p.kind == 3) = true := by simpa using e
              obtain ⟨b, Hb⟩ : ∃ b, Hid (K k = b) := ⟨_, rfl⟩
              rw [Hb.out] at v2
              obtain ⟨v, Hv⟩ : ∃ v, Hid (PW k = v) := ⟨_, rfl⟩
              rw [Hv.out] at v1
              have Hvv := hidp v1.symm
              have Hpk := hidp v2
              clear v1 v2 e
              cases b with
              | false =>
                obtain ⟨f1, f2⟩ := Hoff.out k hlt Hpk.out
                have F1 := hidp f1
                have F2 := hidp f2
                clear f1 f2
                go_wp2_with fail
                refine (rwpart_any _ bs ba bc n k _ (HS1.out _ hw1) (HB1.out _ hw1)).mono ?_
                rintro e w3 ⟨rfl, hb3⟩
                rw [HV.out k, HK.out k, Hb.out]
                clear b0 b1 b2 b3 b4 b5
                go_wp2_with fail
                try rw [Exit.noGoto_ret]
                go_ret2
                exact RowK.eq ⟨none, 0, rfl, nil_ints _, hw1.trans (hb3.mono hw1.size)⟩ F2.out.symm F1.out.symm
              | true =>
                go_wp2_with fail
                refine (rwpart_any _ bs ba bc n k _ (HS1.out _ hw1) (HB1.out _ hw1)).mono ?_
                rintro e w3 ⟨rfl, hb3⟩
                rw [HV.out k, HK.out k, Hb.out, Hvv.out]
                have hw3 := hw1.trans (hb3.mono hw1.size)
                have hown4 := ((ho1.turned (Turned.of_below hb3 []) (by simp)).turned ((Turned.refl [] w3).alloc (.cells #[.int .i64 v] 3)) (by simp))
                have S2 := hidp (Lies.newCells' w3 [.int .i64 v] 3)
                have Z2 : Hid (w9.heap.size + 1 ≤ (w3.alloc (.cells #[.int .i64 v] 3)).heap.size) := hidp (Nat.le_trans hz1 (Nat.le_trans hb3.size (by simp)))
                have sc4 := (sc1.keep (Keeps.of_below hb3)).keep (Keeps.alloc _ (.cells #[.int .i64 v] 3))
                have tb4 := (tb.keep (Keeps.of_below hb3)).keep (Keeps.alloc _ (.cells #[.int .i64 v] 3))
                have hw4 := hw3.alloc hw3.size (.cells #[.int .i64 v] 3)
                have O2 := hidp (ints_one v)
                have Hfp := hidp (own_fp hown4.own)
                clear b0 b1 b2 b3 b4 b5 x0 x1 x2 sc_0 sc_1 sc_2 sc_3
                go_wp2_with (at_builtin; refine wpList_app2 _ rfl (.tmp 65) (.tmp 67) 22 rfl (w9.heap.size + 1) 3 i0 _ 1 8 Tryz.underlying22 hi0 hy0 hy1 hy2 rfl (by decide) A k c _ rfl hown4.own _ _ 1 1 [.int .i64 v] rfl (by simp) rfl S2.out O2.out N2.out T2.out Z2.out ?_; intro A' c' w5 happ)
                go_roundg (gk - 1)
                case measure => omega
                case rel => exact ⟨k + 1, c', A', by omega, by go_num, rfl, hidp (fun j hj => by
                  by_cases ej : j = k
                  · subst ej; exact Hpk.out
                  · exact Hk.out j (by omega)), by rw [range_snoc, Hv.out]; exact hown4.app (ps := [v]) happ rfl, tb4.turned happ.turned (fun hf => by have := (Hfp.out _ hf).1; omega), sc4.turned happ.turned (fun hf => by have := (Hfp.out _ hf).1; omega), hw4.trans (happ.turned.below hw4.size (fun j hj => by have := (Hfp.out _ hj).1; omega)), Nat.le_trans Z2.out happ.turned.size⟩
            · obtain ⟨v1, v2⟩ := HPWn.out k (by rw [HP.out]; exact e)
              have e' : (p.kind == 3) = false := by simpa using e
              have Hv := hidp v1
              have Hpk := hidp v2
              clear v1 v2 e
              have hw3 := hw1
              have hown4 := ho1.turned ((Turned.refl [] wr).alloc (.cells #[.int .i64 0] 3)) (by simp)
              have S2' := Lies.newCells' wr [.int .i64 0] 3
              have S2 := hidp S2'
              clear S2'
              have Z2 : Hid (w9.heap.size + 1 ≤ (wr.alloc (.cells #[.int .i64 0] 3)).heap.size) := hidp (Nat.le_trans hz1 (by simp))
              have sc4 := sc1.keep (Keeps.alloc _ (.cells #[.int .i64 0] 3))
              have tb4 := tb.keep (Keeps.alloc _ (.cells #[.int .i64 0] 3))
              have hw4 := hw3.alloc hw3.size (.cells #[.int .i64 0] 3)
              have O2 := hidp (ints_one 0)
              have Hfp := hidp (own_fp hown4.own)
              go_wp2_with (at_builtin; refine wpList_app2 _ rfl (.tmp 65) (.tmp 67) 22 rfl (w9.heap.size + 1) 3 i0 _ 1 8 Tryz.underlying22 hi0 hy0 hy1 hy2 rfl (by decide) A k c _ rfl hown4.own _ _ 1 1 [.int .i64 0] rfl (by simp) rfl S2.out O2.out N2.out T2.out Z2.out ?_; intro A' c' w5 happ)
              go_roundg (gk - 1)
              case measure => omega
              case rel => exact ⟨k + 1, c', A', by omega, by go_num, rfl, hidp (fun j hj => by
                  by_cases ej : j = k
                  · subst ej; exact Hpk.out
                  · exact Hk.out j (by omega)), by rw [range_snoc, Hv.out]; exact hown4.app (ps := [0]) happ rfl, tb4.turned happ.turned (fun hf => by have := (Hfp.out _ hf).1; omega), sc4.turned happ.turned (fun hf => by have := (Hfp.out _ hf).1; omega), hw4.trans (happ.turned.below hw4.size (fun j hj => by have := (Hfp.out _ hj).1; omega)), Nat.le_trans Z2.out happ.turned.size⟩
          · obtain rfl : k = parts.length := by omega
            obtain ⟨f1, f2⟩ := Hyes.out Hk.out
            have F1 := hidp f1
            have F2 := hidp f2
            have hrow := ho.ok (fun x hx => by obtain ⟨j, _, rfl⟩ := List.mem_map.1 hx; have := HWb.out j; unfold I64; omega)
            have Hr := hidp hrow
            clear f1 f2 hrow
            go_wp2
            try rw [Exit.noGoto_ret]
            go_ret2
            exact RowK.eq ⟨A, c, by simp, Hr.out, hw⟩ F2.out.symm F1.out.symm
  · have e : thereB s of = false := by simpa using e
    obtain ⟨k1, k2⟩ := waits_no (bs := bs) e
    have Hth := hidp e
    have F1 := hidp k1
    have F2 := hidp k2
    clear e k1 k2 hs hB
    go_enter Tryz.func33, Tryz.ntmps33
    go_wp2_with fail
    refine (rthere_any _ _ _ H).mono ?_
    rintro e w2 ⟨rfl, hb2⟩
    replace hb := hb.trans (hb2.mono hb.size)
    replace sc := sc.keep (Keeps.of_below hb2)
    clear hb2
    rw [Hth.out]
    go_wp2
    go_ret2
    exact RowK.eq ⟨none, 0, rfl, nil_ints _, hb⟩ F2.out.symm F1.out.symm

set_option maxHeartbeats 1000000 in
set_option maxRecDepth 100000 in
theorem rwsum_any (s : SetR) (bs : List Int) (ba : Option Addr) (bc : Nat) (of : Int) (w : World) (hs : SetOk w s) (hB : IntsOk w ba bc bs) : Calls Tryz.prog 92 #[.agg #[.int .i64 s.proto, .slice s.ca s.cores.length s.cc, .slice s.ha s.homes.length s.hc, .slice s.ta s.tasks.length s.tc], .slice ba bs.length bc, .int .i64 of] w fun e w' => e = .returned (.tuple #[.int .i64 (tot (waitsL s bs of)), .bool (waitsK s bs of)]) ∧ Below w.heap.size w w' := by
  have hb := (Below.refl w.heap.size w).alloc (Nat.le_refl _) (.cells #[.int .i64 s.proto, .slice s.ca s.cores.length s.cc, .slice s.ha s.homes.length s.hc, .slice s.ta s.tasks.length s.tc] 25)
  have sc := SetCells.new w s 25
  have H := hs.keep (Keeps.of_below hb)
  have HB := hB.keep (Keeps.of_below hb)
  have h6 := waitsL_len s bs of
  obtain ⟨L, HL⟩ : ∃ L, Hid (waitsL s bs of = L) := ⟨_, hidp rfl⟩
  obtain ⟨K, HK⟩ : ∃ K, Hid (waitsK s bs of = K) := ⟨_, hidp rfl⟩
  rw [HL.out] at h6
  obtain ⟨l6, hb6⟩ := h6
  have HP := hidp hb6
  have HW := rwaits_any s bs ba bc of _ H HB
  rw [HL.out, HK.out] at HW ⊢
  clear hs hB H HB hb6
  go_enter Tryz.func92, Tryz.ntmps92
  go_wp2_with fail
  refine HW.mono ?_
  rintro e w2 ⟨A, c, rfl, hr, hb2⟩
  replace hb := hb.trans (hb2.mono hb.size)
  have HR := hidp hr.at_
  clear hr hb2 HW sc
  go_wp2
  go_loopg [10, 11] L.length (fun gg a i wr => ∃ (k : Nat) (x : Int), k + gg = L.length ∧ i = .int .i64 k ∧ a = .int .i64 x ∧ Hid (tot (L.take k) = x) ∧ w2 = wr)
  case atStart => exact ⟨0, 0, by omega, rfl, rfl, hidp rfl, rfl⟩
  case round =>
    obtain ⟨k, x, hk, rfl, rfl, Hx, rfl⟩ := hrel
    have hx := tot_cap (fun n (hn : n ∈ L.take k) => HP.out n (List.mem_of_mem_take hn))
    rw [Hx.out, List.length_take] at hx
    obtain ⟨x0, x1⟩ := hx
    have x2 : x ≤ 18000 := by omega
    clear x1
    by_cases hlt : k < L.length
    · obtain ⟨g, off, hA, hcl⟩ := HR.out.resolve_left (by intro e; rw [e] at hlt; simp at hlt)
      subst hA
      obtain ⟨v, Hv⟩ : ∃ v, Hid (L.getD k 0 = v) := ⟨_, rfl⟩
      have c1 := Hv.out ▸ hcl k hlt
      have hv := HP.out v (by rw [← Hv.out]; simp [List.getD, hlt])
      obtain ⟨v0, v1⟩ := hv
      have Hs : Hid (tot (L.take (k + 1)) = x + v) := hidp (by rw [tot_snoc _ _ hlt, Hx.out, Hv.out])
      clear hcl
      go_wp2
      go_roundg (gk - 1)
      case measure => omega
      case rel => exact ⟨k + 1, x + v, by omega, by go_num, rfl, Hs, rfl⟩
    · obtain rfl : k = L.length := by omega
      have Hz : Hid (tot L = x) := hidp (by have := Hx.out; rw [List.take_length] at this; exact this)
      go_wp2
      go_ret2
      exact ⟨ret_ib Hz.out.symm rfl, hb⟩
end Go.Proofs.YtjjlpaampmpdfaaGreatDoor

namespace Go.Proofs.YtjjlpaampmpdfaaGreatDoor
open Go.ChangeShapes Go.WideShapes Go.ChangeAt Go.RowKit
set_option linter.unusedVariables false
set_option linter.unusedSimpArgs false

theorem rall_any (t : TaskR) (kd : Int) (w : World) (h : TaskLen w t) : Calls Tryz.prog 31 #[.agg #[.string t.name, .int .i64 t.per, .int .i64 t.dl, .int .i64 t.prio, .int .i64 t.cl, .slice t.pa t.parts.length t.pc], .int .i64 kd] w fun e w' => e = .returned (.int .i64 (sumK kd t.parts)) ∧ Below w.heap.size w w' := by
  have HR := hidp h.at_
  have HL := hidp h.lens
  have hl := h.few
  clear h
  obtain ⟨nm, per, dl, prio, cl, pa, pc, parts⟩ := t
  dsimp only at HR HL hl ⊢
  have tb := TaskBox.new w ⟨nm, per, dl, prio, cl, pa, pc, parts⟩ 41
  have hb := (Below.refl w.heap.size w).alloc (Nat.le_refl _) (.cells #[.string nm, .int .i64 per, .int .i64 dl, .int .i64 prio, .int .i64 cl, .slice pa parts.length pc] 41)
  obtain ⟨b0, b1, b2, b3, b4, b5⟩ := tb
  dsimp only at b0 b1 b2 b3 b4 b5
  have Hb5 := hidp b5
  go_enter Tryz.func31, Tryz.ntmps31
  go_wp2
  go_loopg [5, 6] parts.length (fun g s i wr => ∃ (k : Nat) (x : Int), k + g = parts.length ∧ i = .int .i64 k ∧ s = .int .i64 x ∧ Hid (sumK kd (parts.take k) = x) ∧ (w.alloc (.cells #[.string nm, .int .i64 per, .int .i64 dl, .int .i64 prio, .int .i64 cl, .slice pa parts.length pc] 41)) = wr)
  case atStart => exact ⟨0, 0, by omega, rfl, rfl, hidp (by simp [sumK]), rfl⟩
  case round =>
    obtain ⟨k, x, hk, rfl, rfl, Hx, rfl⟩ := hrel
    by_cases hlt : k < parts.length
    · obtain ⟨g, off, hA, hc⟩ := HR.out.resolve_left (by intro e; rw [e] at hlt; simp at hlt)
      subst hA
      obtain ⟨p, HN⟩ : ∃ p, Hid (parts.getD k default = p) := ⟨_, rfl⟩
      have hc := HN.out ▸ hc k hlt
      obtain ⟨c0, c1, c2⟩ := hc.keep (Keeps.of_below hb)
      clear hc
      have Hs : Hid (sumK kd (parts.take (k + 1)) = x + (if p.kind = kd then p.len else 0)) := hidp (by rw [sumK_snoc kd _ _ hlt, Hx.out, HN.out])
      have xb := sumK_bd kd (HL.out.take k)
      rw [Hx.out, List.length_take] at xb
      obtain ⟨x0, x1⟩ := xb
      have x2 : x ≤ 60000 := by omega
      clear x1
      have hp := HL.out p (HN.out ▸ getD_mem hlt)
      obtain ⟨p1, p2⟩ := hp
      by_cases e : p.kind = kd
      · have e' : (p.kind == kd) = true := by simpa using e
        have Hz : Hid (sumK kd (parts.take (k + 1)) = x + p.len) := hidp (by rw [Hs.out, if_pos e])
        clear e
        go_wp2
        go_roundg (gk - 1)
        case measure => omega
        case rel => exact ⟨k + 1, x + p.len, by omega, by go_num, rfl, Hz, rfl⟩
      · have e' : (p.kind == kd) = false := by simpa using e
        have Hz : Hid (sumK kd (parts.take (k + 1)) = x) := hidp (by rw [Hs.out, if_neg e]; omega)
        clear e
        go_wp2
        go_roundg (gk - 1)
        case measure => omega
        case rel => exact ⟨k + 1, x, by omega, by go_num, rfl, Hz, rfl⟩
    · have Hz : Hid (sumK kd parts = x) := hidp (by rw [← Hx.out, List.take_of_length_le (by omega)])
      go_wp2
      go_ret
      exact ⟨ret_int Hz.out.symm, hb⟩

set_option maxHeartbeats 2000000 in
set_option maxRecDepth 100000 in
theorem rown_any (s : SetR) (bs : List Int) (ba : Option Addr) (bc : Nat) (of : Int) (w : World) (hs : SetOk w s) (hB : IntsOk w ba bc bs) : Calls Tryz.prog 68 #[.agg #[.int .i64 s.proto, .slice s.ca s.cores.length s.cc, .slice s.ha s.homes.length s.hc, .slice s.ta s.tasks.length s.tc], .slice ba bs.length bc, .int .i64 of] w fun e w' => e = .returned (.tuple #[.int .i64 (ownV s bs of), .bool (waitsK s bs of)]) ∧ Below w.heap.size w w' := by
  have hb := (Below.refl w.heap.size w).alloc (Nat.le_refl _) (.cells #[.int .i64 s.proto, .slice s.ca s.cores.length s.cc, .slice s.ha s.homes.length s.hc, .slice s.ta s.tasks.length s.tc] 25)
  have sc := SetCells.new w s 25
  have H := hs.keep (Keeps.of_below hb)
  have HB := hB.keep (Keeps.of_below hb)
  have l3 : s.tasks.length ≤ maxLen := Nat.le_trans hs.tasks.sl.2.1 hs.tasks.sl.2.2
  unfold maxLen at l3
  obtain ⟨T, HT0⟩ : ∃ T, Hid (tot (waitsL s bs of) = T) := ⟨_, hidp rfl⟩
  have hT := waitsT_bd s bs of
  rw [HT0.out] at hT
  obtain ⟨T0, T1⟩ := hT
  by_cases k : waitsK s bs of = true
  · have Hk := hidp k
    have hth := waitsK_there k
    obtain ⟨ho, r1, r2⟩ := thereB_true.1 hth
    obtain ⟨A, HA⟩ : ∃ A, Hid (sumK 1 (taskAt s of).parts = A) := ⟨_, hidp rfl⟩
    obtain ⟨B, HBb⟩ : ∃ B, Hid (sumK 2 (taskAt s of).parts = B) := ⟨_, hidp rfl⟩
    have hA := sum12_bd hth 1
    have hBb := sum12_bd hth 2
    rw [HA.out] at hA
    rw [HBb.out] at hBb
    obtain ⟨A0, A1⟩ := hA
    obtain ⟨B0, B1⟩ := hBb
    have Hv : Hid (ownV s bs of = T + A + B) := hidp (by unfold ownV; rw [if_pos k, HA.out, HBb.out, HT0.out]; omega)
    obtain ⟨n, rfl⟩ : ∃ n : Nat, of = n := ⟨of.toNat, by omega⟩
    have hn : n < s.tasks.length := by omega
    have hg := Good.of ho
    obtain ⟨t, HT⟩ : ∃ t, Hid (s.tasks.getD n default = t) := ⟨_, rfl⟩
    have hm : t ∈ s.tasks := HT.out ▸ getD_mem hn
    have TL : Hid (TaskLen w t) := hidp ⟨(hs.tasks.ok t hm).at_, (hg.parts t hm).lens, by have := (hg.parts t hm).len; omega⟩
    have e0 : taskAt s n = t := by unfold taskAt; simp only [Int.toNat_natCast]; exact HT.out
    rw [e0] at HA HBb
    obtain ⟨g, off, hA, hcl⟩ := hs.tasks.at_.resolve_left (by intro e; rw [e] at hn; simp at hn)
    have Htc := hidp (HT.out ▸ hcl n hn)
    have w1 : IntKind.i64.wrap (T + A) = T + A := IntWalk.i64_in _ (by omega)
    have w2 : IntKind.i64.wrap (T + A + B) = T + A + B := IntWalk.i64_in _ (by omega)
    clear hcl hm hg ho hs hB k hth e0 r1
    have dn : decide (s.tasks.length ≤ n) = false := by simp; omega
    obtain ⟨proto, ca, cc, cores, ha, hc, homes, ta, tc, tasks⟩ := s
    dsimp only at hA hn l3 r2 hb sc H dn ⊢
    subst hA
    go_enter Tryz.func68, Tryz.ntmps68
    go_wp2_with fail
    refine (rwsum_any _ bs ba bc n _ H HB).mono ?_
    rintro e w3 ⟨rfl, hb2⟩
    replace hb := hb.trans (hb2.mono hb.size)
    replace sc := sc.keep (Keeps.of_below hb2)
    clear hb2
    try clear sc_0 sc_1 sc_2 sc_3
    have scx := sc
    obtain ⟨sc_0, sc_1, sc_2, sc_3⟩ := scx
    try dsimp only at sc_0 sc_1 sc_2 sc_3
    rw [HT0.out, Hk.out]
    obtain ⟨d0, d1, d2, d3, d4, d5⟩ := Htc.out.keep (Keeps.of_below hb)
    go_wp2_with fail
    have tb := (TaskBox.new w3 t 41).keep (Keeps.drew _)
    replace hb := (hb.alloc hb.size (.cells #[.string t.name, .int .i64 t.per, .int .i64 t.dl, .int .i64 t.prio, .int .i64 t.cl, .slice t.pa t.parts.length t.pc] 41)).drew
    clear d0 d1 d2 d3 d4 d5 sc_0 sc_1 sc_2 sc_3 sc H
    go_region_held3 (fun w' => w'.cell? ⟨w3.heap.size, 0, none⟩ = some (.string t.name) ∧ w'.cell? ⟨w3.heap.size, 1, none⟩ = some (.int .i64 t.per) ∧ w'.cell? ⟨w3.heap.size, 2, none⟩ = some (.int .i64 t.dl) ∧ w'.cell? ⟨w3.heap.size, 3, none⟩ = some (.int .i64 t.prio) ∧ w'.cell? ⟨w3.heap.size, 4, none⟩ = some (.int .i64 t.cl) ∧ w'.cell? ⟨w3.heap.size, 5, none⟩ = some (.slice t.pa t.parts.length t.pc)) (exact tb)
      (first
        | (go_at_call 31; (with_reducible refine (rall_any t 1 _ (TL.out.keep (Keeps.of_below hb))).mono ?_); rintro e u ⟨rfl, hb3⟩; have tb := tb.keep (Keeps.of_below hb3); have hb := hb.trans (hb3.mono hb.size); rw [HA.out])
        | (go_at_call 31; (with_reducible refine (rall_any t 2 _ (TL.out.keep (Keeps.of_below hb))).mono ?_); rintro e u ⟨rfl, hb3⟩; have tb := tb.keep (Keeps.of_below hb3); have hb := hb.trans (hb3.mono hb.size); rw [HBb.out]))
    clear w1 w2
    go_wp2_with fail
    go_ret2
    exact ⟨ret_ib Hv.out.symm Hk.out.symm, hb⟩
  · have k : waitsK s bs of = false := by simpa using k
    have Hk := hidp k
    have Hv : Hid (ownV s bs of = 0) := hidp (by unfold ownV; rw [k]; rfl)
    clear k hs hB
    go_enter Tryz.func68, Tryz.ntmps68
    go_wp2_with fail
    refine (rwsum_any _ bs ba bc of _ H HB).mono ?_
    rintro e w3 ⟨rfl, hb2⟩
    replace hb := hb.trans (hb2.mono hb.size)
    replace sc := sc.keep (Keeps.of_below hb2)
    clear hb2
    rw [HT0.out, Hk.out]
    go_wp2
    go_ret2
    exact ⟨ret_ib Hv.out.symm Hk.out.symm, hb⟩

set_option maxHeartbeats 4000000 in
set_option maxRecDepth 100000 in
theorem reach_any (s : SetR) (a b : Nat) (w : World) (hs : SetOk w s) (ho : okS s = true) (ha : a < s.tasks.length) (hbl : b < s.tasks.length) : Calls Tryz.prog 94 #[.agg #[.int .i64 s.proto, .slice s.ca s.cores.length s.cc, .slice s.ha s.homes.length s.hc, .slice s.ta s.tasks.length s.tc], .int .i64 a, .int .i64 b] w fun e w' => e = .returned (.int .i64 (eachV s a b)) ∧ Below w.heap.size w w' := by
  have hb := (Below.refl w.heap.size w).alloc (Nat.le_refl _) (.cells #[.int .i64 s.proto, .slice s.ca s.cores.length s.cc, .slice s.ha s.homes.length s.hc, .slice s.ta s.tasks.length s.tc] 25)
  have sc := SetCells.new w s 25
  have H := hs.keep (Keeps.of_below hb)
  have l3 : s.tasks.length ≤ maxLen := Nat.le_trans hs.tasks.sl.2.1 hs.tasks.sl.2.2
  unfold maxLen at l3
  have hg := Good.of ho
  obtain ⟨t, HT⟩ : ∃ t, Hid (s.tasks.getD a default = t) := ⟨_, rfl⟩
  obtain ⟨o, HO⟩ : ∃ t, Hid (s.tasks.getD b default = t) := ⟨_, rfl⟩
  have hm : t ∈ s.tasks := HT.out ▸ getD_mem ha
  have TL : Hid (TaskLen w t) := hidp ⟨(hs.tasks.ok t hm).at_, (hg.parts t hm).lens, by have := (hg.parts t hm).len; omega⟩
  obtain ⟨g, off, hA, hcl⟩ := hs.tasks.at_.resolve_left (by intro e; rw [e] at ha; simp at ha)
  have Hta := hidp (HT.out ▸ hcl a ha)
  have Htb := hidp (HO.out ▸ hcl b hbl)
  obtain ⟨V, HV⟩ : ∃ V, Hid (atV s a o.cl = V) := ⟨_, hidp rfl⟩
  obtain ⟨L, HL⟩ : ∃ V, Hid (sumK 3 t.parts = V) := ⟨_, hidp rfl⟩
  obtain ⟨R, HR⟩ : ∃ V, Hid (sumK 1 t.parts = V) := ⟨_, hidp rfl⟩
  have HE : Hid (eachV s a b = (if s.proto = 2 then V else if t.cl = o.cl then L else 0) + (if t.cl = o.cl ∧ t.prio < o.prio then R else 0)) := hidp (by
    unfold eachV taskAt; simp only [Int.toNat_natCast]; rw [HT.out, HO.out, HV.out, HL.out, HR.out])
  have hV := atV_bd s a o.cl
  have hL := sumK_bd 3 (hg.parts t hm).lens
  have hR := sumK_bd 1 (hg.parts t hm).lens
  have h6 := (hg.parts t hm).len
  rw [HV.out] at hV
  rw [HL.out] at hL
  rw [HR.out] at hR
  obtain ⟨V0, V1⟩ := hV
  obtain ⟨L0, L1⟩ := hL
  obtain ⟨R0, R1⟩ := hR
  have L2 : L ≤ 360 := by omega
  have R2 : R ≤ 360 := by omega
  have HS1 : Hid (∀ u, Below w.heap.size w u → SetOk u s) := hidp (fun u h => hs.keep (Keeps.of_below h))
  clear L1 R1 h6 hcl hm hg ho hs
  obtain ⟨proto, ca, cc, cores, hha, hc, homes, ta, tc, tasks⟩ := s
  dsimp only at hA ha hbl l3 hb sc H HE HV HS1 ⊢
  subst hA
  have dn : decide (tasks.length ≤ a) = false := by simp; omega
  have dm : decide (tasks.length ≤ b) = false := by simp; omega
  obtain ⟨x0, x1, x2, x3, x4, x5⟩ := Hta.out.keep (Keeps.of_below hb)
  obtain ⟨y0, y1, y2, y3, y4, y5⟩ := Htb.out.keep (Keeps.of_below hb)
  go_enter Tryz.func94, Tryz.ntmps94
  go_upto_region 1 with fail
  go_cut [7, 8] from 14 to 23 (fun x y wx => ∃ g1 g2 : Nat, x = .pointer (some ⟨g1, 0, none⟩) ∧ y = .pointer (some ⟨g2, 0, none⟩) ∧ TaskBox wx g1 t ∧ TaskBox wx g2 o ∧ SetCells wx w.heap.size ⟨proto, ca, cc, cores, hha, hc, homes, some ⟨g, off, none⟩, tc, tasks⟩ ∧ Below w.heap.size w wx)
  case first =>
    have hs : (w.alloc (.cells #[.int .i64 proto, .slice ca cores.length cc, .slice hha homes.length hc, .slice (some ⟨g, off, none⟩) tasks.length tc] 25)).drew.cell? ⟨g, off + a * 6, none⟩ = some (.string t.name) ∧ (w.alloc (.cells #[.int .i64 proto, .slice ca cores.length cc, .slice hha homes.length hc, .slice (some ⟨g, off, none⟩) tasks.length tc] 25)).drew.cell? ⟨g, off + a * 6 + 1, none⟩ = some (.int .i64 t.per) ∧ (w.alloc (.cells #[.int .i64 proto, .slice ca cores.length cc, .slice hha homes.length hc, .slice (some ⟨g, off, none⟩) tasks.length tc] 25)).drew.cell? ⟨g, off + a * 6 + 2, none⟩ = some (.int .i64 t.dl) ∧ (w.alloc (.cells #[.int .i64 proto, .slice ca cores.length cc, .slice hha homes.length hc, .slice (some ⟨g, off, none⟩) tasks.length tc] 25)).drew.cell? ⟨g, off + a * 6 + 3, none⟩ = some (.int .i64 t.prio) ∧ (w.alloc (.cells #[.int .i64 proto, .slice ca cores.length cc, .slice hha homes.length hc, .slice (some ⟨g, off, none⟩) tasks.length tc] 25)).drew.cell? ⟨g, off + a * 6 + 4, none⟩ = some (.int .i64 t.cl) ∧ (w.alloc (.cells #[.int .i64 proto, .slice ca cores.length cc, .slice hha homes.length hc, .slice (some ⟨g, off, none⟩) tasks.length tc] 25)).drew.cell? ⟨g, off + a * 6 + 5, none⟩ = some (.slice t.pa t.parts.length t.pc) ∧ (w.alloc (.cells #[.int .i64 proto, .slice ca cores.length cc, .slice hha homes.length hc, .slice (some ⟨g, off, none⟩) tasks.length tc] 25)).drew.cell? ⟨g, off + b * 6, none⟩ = some (.string o.name) ∧ (w.alloc (.cells #[.int .i64 proto, .slice ca cores.length cc, .slice hha homes.length hc, .slice (some ⟨g, off, none⟩) tasks.length tc] 25)).drew.cell? ⟨g, off + b * 6 + 1, none⟩ = some (.int .i64 o.per) ∧ (w.alloc (.cells #[.int .i64 proto, .slice ca cores.length cc, .slice hha homes.length hc, .slice (some ⟨g, off, none⟩) tasks.length tc] 25)).drew.cell? ⟨g, off + b * 6 + 2, none⟩ = some (.int .i64 o.dl) ∧ (w.alloc (.cells #[.int .i64 proto, .slice ca cores.length cc, .slice hha homes.length hc, .slice (some ⟨g, off, none⟩) tasks.length tc] 25)).drew.cell? ⟨g, off + b * 6 + 3, none⟩ = some (.int .i64 o.prio) ∧ (w.alloc (.cells #[.int .i64 proto, .slice ca cores.length cc, .slice hha homes.length hc, .slice (some ⟨g, off, none⟩) tasks.length tc] 25)).drew.cell? ⟨g, off + b * 6 + 4, none⟩ = some (.int .i64 o.cl) ∧ (w.alloc (.cells #[.int .i64 proto, .slice ca cores.length cc, .slice hha homes.length hc, .slice (some ⟨g, off, none⟩) tasks.length tc] 25)).drew.cell? ⟨g, off + b * 6 + 5, none⟩ = some (.slice o.pa o.parts.length o.pc) ∧ (w.alloc (.cells #[.int .i64 proto, .slice ca cores.length cc, .slice hha homes.length hc, .slice (some ⟨g, off, none⟩) tasks.length tc] 25)).drew.cell? ⟨w.heap.size, 0, none⟩ = some (.int .i64 proto) ∧ (w.alloc (.cells #[.int .i64 proto, .slice ca cores.length cc, .slice hha homes.length hc, .slice (some ⟨g, off, none⟩) tasks.length tc] 25)).drew.cell? ⟨w.heap.size, 1, none⟩ = some (.slice ca cores.length cc) ∧ (w.alloc (.cells #[.int .i64 proto, .slice ca cores.length cc, .slice hha homes.length hc, .slice (some ⟨g, off, none⟩) tasks.length tc] 25)).drew.cell? ⟨w.heap.size, 2, none⟩ = some (.slice hha homes.length hc) ∧ (w.alloc (.cells #[.int .i64 proto, .slice ca cores.length cc, .slice hha homes.length hc, .slice (some ⟨g, off, none⟩) tasks.length tc] 25)).drew.cell? ⟨w.heap.size, 3, none⟩ = some (.slice (some ⟨g, off, none⟩) tasks.length tc) := And.intro x0 (And.intro x1 (And.intro x2 (And.intro x3 (And.intro x4 (And.intro x5 (And.intro y0 (And.intro y1 (And.intro y2 (And.intro y3 (And.intro y4 (And.intro y5 sc)))))))))))
    have hK16 : ∀ u v : World, Keeps u v → (u.cell? ⟨g, off + a * 6, none⟩ = some (.string t.name) ∧ u.cell? ⟨g, off + a * 6 + 1, none⟩ = some (.int .i64 t.per) ∧ u.cell? ⟨g, off + a * 6 + 2, none⟩ = some (.int .i64 t.dl) ∧ u.cell? ⟨g, off + a * 6 + 3, none⟩ = some (.int .i64 t.prio) ∧ u.cell? ⟨g, off + a * 6 + 4, none⟩ = some (.int .i64 t.cl) ∧ u.cell? ⟨g, off + a * 6 + 5, none⟩ = some (.slice t.pa t.parts.length t.pc) ∧ u.cell? ⟨g, off + b * 6, none⟩ = some (.string o.name) ∧ u.cell? ⟨g, off + b * 6 + 1, none⟩ = some (.int .i64 o.per) ∧ u.cell? ⟨g, off + b * 6 + 2, none⟩ = some (.int .i64 o.dl) ∧ u.cell? ⟨g, off + b * 6 + 3, none⟩ = some (.int .i64 o.prio) ∧ u.cell? ⟨g, off + b * 6 + 4, none⟩ = some (.int .i64 o.cl) ∧ u.cell? ⟨g, off + b * 6 + 5, none⟩ = some (.slice o.pa o.parts.length o.pc) ∧ u.cell? ⟨w.heap.size, 0, none⟩ = some (.int .i64 proto) ∧ u.cell? ⟨w.heap.size, 1, none⟩ = some (.slice ca cores.length cc) ∧ u.cell? ⟨w.heap.size, 2, none⟩ = some (.slice hha homes.length hc) ∧ u.cell? ⟨w.heap.size, 3, none⟩ = some (.slice (some ⟨g, off, none⟩) tasks.length tc)) → (v.cell? ⟨g, off + a * 6, none⟩ = some (.string t.name) ∧ v.cell? ⟨g, off + a * 6 + 1, none⟩ = some (.int .i64 t.per) ∧ v.cell? ⟨g, off + a * 6 + 2, none⟩ = some (.int .i64 t.dl) ∧ v.cell? ⟨g, off + a * 6 + 3, none⟩ = some (.int .i64 t.prio) ∧ v.cell? ⟨g, off + a * 6 + 4, none⟩ = some (.int .i64 t.cl) ∧ v.cell? ⟨g, off + a * 6 + 5, none⟩ = some (.slice t.pa t.parts.length t.pc) ∧ v.cell? ⟨g, off + b * 6, none⟩ = some (.string o.name) ∧ v.cell? ⟨g, off + b * 6 + 1, none⟩ = some (.int .i64 o.per) ∧ v.cell? ⟨g, off + b * 6 + 2, none⟩ = some (.int .i64 o.dl) ∧ v.cell? ⟨g, off + b * 6 + 3, none⟩ = some (.int .i64 o.prio) ∧ v.cell? ⟨g, off + b * 6 + 4, none⟩ = some (.int .i64 o.cl) ∧ v.cell? ⟨g, off + b * 6 + 5, none⟩ = some (.slice o.pa o.parts.length o.pc) ∧ v.cell? ⟨w.heap.size, 0, none⟩ = some (.int .i64 proto) ∧ v.cell? ⟨w.heap.size, 1, none⟩ = some (.slice ca cores.length cc) ∧ v.cell? ⟨w.heap.size, 2, none⟩ = some (.slice hha homes.length hc) ∧ v.cell? ⟨w.heap.size, 3, none⟩ = some (.slice (some ⟨g, off, none⟩) tasks.length tc)) := fun u v k h => And.intro (k _ _ h.1) (And.intro (k _ _ h.2.1) (And.intro (k _ _ h.2.2.1) (And.intro (k _ _ h.2.2.2.1) (And.intro (k _ _ h.2.2.2.2.1) (And.intro (k _ _ h.2.2.2.2.2.1) (And.intro (k _ _ h.2.2.2.2.2.2.1) (And.intro (k _ _ h.2.2.2.2.2.2.2.1) (And.intro (k _ _ h.2.2.2.2.2.2.2.2.1) (And.intro (k _ _ h.2.2.2.2.2.2.2.2.2.1) (And.intro (k _ _ h.2.2.2.2.2.2.2.2.2.2.1) (And.intro (k _ _ h.2.2.2.2.2.2.2.2.2.2.2.1) (And.intro (k _ _ h.2.2.2.2.2.2.2.2.2.2.2.2.1) (And.intro (k _ _ h.2.2.2.2.2.2.2.2.2.2.2.2.2.1) (And.intro (k _ _ h.2.2.2.2.2.2.2.2.2.2.2.2.2.2.1) (k _ _ h.2.2.2.2.2.2.2.2.2.2.2.2.2.2.2)))))))))))))))
    have HK := hidp hK16
    replace hb := hb.drew
    replace sc := sc.keep (Keeps.drew _)
    clear x0 x1 x2 x3 x4 x5 y0 y1 y2 y3 y4 y5 hK16 H
    refine wp_region_held_drew (S := fun w' => w'.cell? ⟨g, off + a * 6, none⟩ = some (.string t.name) ∧ w'.cell? ⟨g, off + a * 6 + 1, none⟩ = some (.int .i64 t.per) ∧ w'.cell? ⟨g, off + a * 6 + 2, none⟩ = some (.int .i64 t.dl) ∧ w'.cell? ⟨g, off + a * 6 + 3, none⟩ = some (.int .i64 t.prio) ∧ w'.cell? ⟨g, off + a * 6 + 4, none⟩ = some (.int .i64 t.cl) ∧ w'.cell? ⟨g, off + a * 6 + 5, none⟩ = some (.slice t.pa t.parts.length t.pc) ∧ w'.cell? ⟨g, off + b * 6, none⟩ = some (.string o.name) ∧ w'.cell? ⟨g, off + b * 6 + 1, none⟩ = some (.int .i64 o.per) ∧ w'.cell? ⟨g, off + b * 6 + 2, none⟩ = some (.int .i64 o.dl) ∧ w'.cell? ⟨g, off + b * 6 + 3, none⟩ = some (.int .i64 o.prio) ∧ w'.cell? ⟨g, off + b * 6 + 4, none⟩ = some (.int .i64 o.cl) ∧ w'.cell? ⟨g, off + b * 6 + 5, none⟩ = some (.slice o.pa o.parts.length o.pc) ∧ w'.cell? ⟨w.heap.size, 0, none⟩ = some (.int .i64 proto) ∧ w'.cell? ⟨w.heap.size, 1, none⟩ = some (.slice ca cores.length cc) ∧ w'.cell? ⟨w.heap.size, 2, none⟩ = some (.slice hha homes.length hc) ∧ w'.cell? ⟨w.heap.size, 3, none⟩ = some (.slice (some ⟨g, off, none⟩) tasks.length tc)) (by kernel_rfl) ?_ (fun hHeld => ?_)
    · exact hs
    generalize (w.alloc (.cells #[.int .i64 proto, .slice ca cores.length cc, .slice hha homes.length hc, .slice (some ⟨g, off, none⟩) tasks.length tc] 25)).drew = u1 at *
    refine wpAnyH_take (i := 0) (v := ?_) rfl (by kernel_rfl) (by kernel_rfl) (by kernel_rfl) (fun _ _ _ h => h) (Or.inl ⟨by rfl, ?_⟩) (by assumption) ?_
    rotate_left 1
    · ((intro w hSw; (try dsimp only at hSw); go_simp); (try with_reducible rfl))
    simp only [Act.put, List.setIfInBounds_toArray, List.set_cons_zero, List.set_cons_succ, List.getElem_toArray, List.getElem_cons_zero, List.getElem_cons_succ]
    refine wpAnyH_take (i := 1) (v := ?_) rfl (by kernel_rfl) (by kernel_rfl) (by kernel_rfl) (fun _ _ _ h => h) (Or.inl ⟨by rfl, ?_⟩) (by assumption) ?_
    rotate_left 1
    · ((intro w hSw; (try dsimp only at hSw); go_simp); (try with_reducible rfl))
    simp only [Act.put, List.setIfInBounds_toArray, List.set_cons_zero, List.set_cons_succ, List.getElem_toArray, List.getElem_cons_zero, List.getElem_cons_succ]
    refine wpAnyH_take (i := 2) (v := ?_) rfl (by kernel_rfl) (by kernel_rfl) (by kernel_rfl) (fun _ _ _ h => h) (Or.inl ⟨by rfl, ?_⟩) (by assumption) ?_
    rotate_left 1
    · ((intro w hSw; (try dsimp only at hSw); go_simp); (try with_reducible rfl))
    simp only [Act.put, List.setIfInBounds_toArray, List.set_cons_zero, List.set_cons_succ, List.getElem_toArray, List.getElem_cons_zero, List.getElem_cons_succ]
    refine wpAnyH_take (i := 3) (v := ?_) rfl (by kernel_rfl) (by kernel_rfl) (by kernel_rfl) (fun _ _ _ h => h) (Or.inl ⟨by rfl, ?_⟩) (by assumption) ?_
    rotate_left 1
    · ((intro w hSw; (try dsimp only at hSw); go_simp); (try with_reducible rfl))
    simp only [Act.put, List.setIfInBounds_toArray, List.set_cons_zero, List.set_cons_succ, List.getElem_toArray, List.getElem_cons_zero, List.getElem_cons_succ]
    refine wpAnyH_take (i := 4) (v := ?_) rfl (by kernel_rfl) (by kernel_rfl) (by kernel_rfl) (fun _ _ _ h => h) (Or.inl ⟨by rfl, ?_⟩) (by assumption) ?_
    rotate_left 1
    · ((intro w hSw; (try dsimp only at hSw); go_simp); (try with_reducible rfl))
    simp only [Act.put, List.setIfInBounds_toArray, List.set_cons_zero, List.set_cons_succ, List.getElem_toArray, List.getElem_cons_zero, List.getElem_cons_succ]
    refine wpAnyH_take (i := 5) (v := ?_) rfl (by kernel_rfl) (by kernel_rfl) (by kernel_rfl) (fun _ _ _ h => h) (Or.inl ⟨by rfl, ?_⟩) (by assumption) ?_
    rotate_left 1
    · ((intro w hSw; (try dsimp only at hSw); go_simp); (try with_reducible rfl))
    simp only [Act.put, List.setIfInBounds_toArray, List.set_cons_zero, List.set_cons_succ, List.getElem_toArray, List.getElem_cons_zero, List.getElem_cons_succ]
    refine wpAnyH_take (i := 6) (v := ?_) rfl (by kernel_rfl) (by kernel_rfl) (by kernel_rfl) (fun _ _ _ h => h) (Or.inl ⟨by rfl, ?_⟩) (by assumption) ?_
    rotate_left 1
    · ((intro w hSw; (try dsimp only at hSw); go_simp); (try with_reducible rfl))
    simp only [Act.put, List.setIfInBounds_toArray, List.set_cons_zero, List.set_cons_succ, List.getElem_toArray, List.getElem_cons_zero, List.getElem_cons_succ]
    refine wpAnyH_take (i := 7) (v := ?_) rfl (by kernel_rfl) (by kernel_rfl) (by kernel_rfl) (fun _ _ _ h => h) (Or.inl ⟨by rfl, ?_⟩) (by assumption) ?_
    rotate_left 1
    · ((intro w hSw; (try dsimp only at hSw); go_simp); (try with_reducible rfl))
    simp only [Act.put, List.setIfInBounds_toArray, List.set_cons_zero, List.set_cons_succ, List.getElem_toArray, List.getElem_cons_zero, List.getElem_cons_succ]
    refine wpAnyH_take (i := 8) (v := ?_) rfl (by kernel_rfl) (by kernel_rfl) (by kernel_rfl) (fun _ _ _ h => h) (Or.inl ⟨by rfl, ?_⟩) (by assumption) ?_
    rotate_left 1
    · ((intro w hSw; (try dsimp only at hSw); go_simp); (try with_reducible rfl))
    simp only [Act.put, List.setIfInBounds_toArray, List.set_cons_zero, List.set_cons_succ, List.getElem_toArray, List.getElem_cons_zero, List.getElem_cons_succ]
    refine wpAnyH_take (i := 9) (v := ?_) rfl (by kernel_rfl) (by kernel_rfl) (by kernel_rfl) (fun _ _ _ h => h) (Or.inl ⟨by rfl, ?_⟩) (by assumption) ?_
    rotate_left 1
    · ((intro w hSw; (try dsimp only at hSw); go_simp); (try with_reducible rfl))
    simp only [Act.put, List.setIfInBounds_toArray, List.set_cons_zero, List.set_cons_succ, List.getElem_toArray, List.getElem_cons_zero, List.getElem_cons_succ]
    refine wpAnyH_ready (rs := [10, 11]) (by kernel_rfl) (by simp) ?_
    refine AllReadyH.cons rfl (fun K hK => ?_) (AllReadyH.cons rfl (fun K hK => ?_) AllReadyH.nil)
    · go_simp
      refine hK.out _ _ ?_ (fun hHeld => ?_)
      · exact HK.out _ _ (Keeps.alloc u1 (.cells #[.string ⟨#[]⟩, .int .i64 0, .int .i64 0, .int .i64 0, .int .i64 0, .slice none 0 0] 41)) hs
      clear hK K
      try simp only [Act.put, List.setIfInBounds_toArray, List.set_cons_zero, List.set_cons_succ, List.getElem_toArray, List.getElem_cons_zero, List.getElem_cons_succ]
      refine wpAnyH_ready (rs := [11]) (by kernel_rfl) (by simp) ?_
      refine AllReadyH.cons rfl (fun K hK => ?_) AllReadyH.nil
      go_simp
      refine hK.out _ _ ?_ (fun hHeld => ?_)
      · exact HK.out _ _ ((Keeps.alloc u1 (.cells #[.string ⟨#[]⟩, .int .i64 0, .int .i64 0, .int .i64 0, .int .i64 0, .slice none 0 0] 41)).trans (Keeps.alloc _ (.cells #[.string ⟨#[]⟩, .int .i64 0, .int .i64 0, .int .i64 0, .int .i64 0, .slice none 0 0] 41))) hs
      clear hK K
      try simp only [Act.put, List.setIfInBounds_toArray, List.set_cons_zero, List.set_cons_succ, List.getElem_toArray, List.getElem_cons_zero, List.getElem_cons_succ]
      refine wpAnyH_ready (rs := [12]) (by kernel_rfl) (by simp) ?_
      refine AllReadyH.cons rfl (fun K hK => ?_) AllReadyH.nil
      go_simp
      refine hK.out _ _ ?_ (fun hHeld => ?_)
      · exact HK.out _ _ ((Keeps.alloc u1 (.cells #[.string t.name, .int .i64 t.per, .int .i64 t.dl, .int .i64 t.prio, .int .i64 t.cl, .slice t.pa t.parts.length t.pc] 41)).trans (Keeps.alloc _ (.cells #[.string ⟨#[]⟩, .int .i64 0, .int .i64 0, .int .i64 0, .int .i64 0, .slice none 0 0] 41))) hs
      clear hK K
      try simp only [Act.put, List.setIfInBounds_toArray, List.set_cons_zero, List.set_cons_succ, List.getElem_toArray, List.getElem_cons_zero, List.getElem_cons_succ]
      refine wpAnyH_ready (rs := [13]) (by kernel_rfl) (by simp) ?_
      refine AllReadyH.cons rfl (fun K hK => ?_) AllReadyH.nil
      go_simp
      refine hK.out _ _ ?_ (fun hHeld => ?_)
      · exact HK.out _ _ ((Keeps.alloc u1 (.cells #[.string t.name, .int .i64 t.per, .int .i64 t.dl, .int .i64 t.prio, .int .i64 t.cl, .slice t.pa t.parts.length t.pc] 41)).trans (Keeps.alloc _ (.cells #[.string o.name, .int .i64 o.per, .int .i64 o.dl, .int .i64 o.prio, .int .i64 o.cl, .slice o.pa o.parts.length o.pc] 41))) hs
      clear hK K
      try simp only [Act.put, List.setIfInBounds_toArray, List.set_cons_zero, List.set_cons_succ, List.getElem_toArray, List.getElem_cons_zero, List.getElem_cons_succ]
      refine wpAnyH_done (by kernel_rfl) ?_ _
      clear hHeld
      go_wp2_with fail
      go_meet
      have tb0 := TaskBox.new u1 t 41
      have tb1 := TaskBox.new (u1.alloc (.cells #[.string t.name, .int .i64 t.per, .int .i64 t.dl, .int .i64 t.prio, .int .i64 t.cl, .slice t.pa t.parts.length t.pc] 41)) o 41
      rw [show (u1.alloc (.cells #[.string t.name, .int .i64 t.per, .int .i64 t.dl, .int .i64 t.prio, .int .i64 t.cl, .slice t.pa t.parts.length t.pc] 41)).heap.size = u1.heap.size + 1 by simp] at tb1
      have tb2 := tb0.keep (Keeps.alloc _ (.cells #[.string o.name, .int .i64 o.per, .int .i64 o.dl, .int .i64 o.prio, .int .i64 o.cl, .slice o.pa o.parts.length o.pc] 41))
      exact ⟨_, _, rfl, rfl, tb2, tb1, (sc.keep (Keeps.alloc u1 (.cells #[.string t.name, .int .i64 t.per, .int .i64 t.dl, .int .i64 t.prio, .int .i64 t.cl, .slice t.pa t.parts.length t.pc] 41))).keep (Keeps.alloc _ (.cells #[.string o.name, .int .i64 o.per, .int .i64 o.dl, .int .i64 o.prio, .int .i64 o.cl, .slice o.pa o.parts.length o.pc] 41)), (hb.alloc hb.size (.cells #[.string t.name, .int .i64 t.per, .int .i64 t.dl, .int .i64 t.prio, .int .i64 t.cl, .slice t.pa t.parts.length t.pc] 41)).alloc (hb.alloc hb.size (.cells #[.string t.name, .int .i64 t.per, .int .i64 t.dl, .int .i64 t.prio, .int .i64 t.cl, .slice t.pa t.parts.length t.pc] 41)).size (.cells #[.string o.name, .int .i64 o.per, .int .i64 o.dl, .int .i64 o.prio, .int .i64 o.cl, .slice o.pa o.parts.length o.pc] 41)⟩
    · go_simp
      refine hK.out _ _ ?_ (fun hHeld => ?_)
      · exact HK.out _ _ (Keeps.alloc u1 (.cells #[.string ⟨#[]⟩, .int .i64 0, .int .i64 0, .int .i64 0, .int .i64 0, .slice none 0 0] 41)) hs
      clear hK K
      try simp only [Act.put, List.setIfInBounds_toArray, List.set_cons_zero, List.set_cons_succ, List.getElem_toArray, List.getElem_cons_zero, List.getElem_cons_succ]
      refine wpAnyH_ready (rs := [10]) (by kernel_rfl) (by simp) ?_
      refine AllReadyH.cons rfl (fun K hK => ?_) AllReadyH.nil
      go_simp
      refine hK.out _ _ ?_ (fun hHeld => ?_)
      · exact HK.out _ _ ((Keeps.alloc u1 (.cells #[.string ⟨#[]⟩, .int .i64 0, .int .i64 0, .int .i64 0, .int .i64 0, .slice none 0 0] 41)).trans (Keeps.alloc _ (.cells #[.string ⟨#[]⟩, .int .i64 0, .int .i64 0, .int .i64 0, .int .i64 0, .slice none 0 0] 41))) hs
      clear hK K
      try simp only [Act.put, List.setIfInBounds_toArray, List.set_cons_zero, List.set_cons_succ, List.getElem_toArray, List.getElem_cons_zero, List.getElem_cons_succ]
      refine wpAnyH_ready (rs := [12]) (by kernel_rfl) (by simp) ?_
      refine AllReadyH.cons rfl (fun K hK => ?_) AllReadyH.nil
      go_simp
      refine hK.out _ _ ?_ (fun hHeld => ?_)
      · exact HK.out _ _ ((Keeps.alloc u1 (.cells #[.string ⟨#[]⟩, .int .i64 0, .int .i64 0, .int .i64 0, .int .i64 0, .slice none 0 0] 41)).trans (Keeps.alloc _ (.cells #[.string t.name, .int .i64 t.per, .int .i64 t.dl, .int .i64 t.prio, .int .i64 t.cl, .slice t.pa t.parts.length t.pc] 41))) hs
      clear hK K
      try simp only [Act.put, List.setIfInBounds_toArray, List.set_cons_zero, List.set_cons_succ, List.getElem_toArray, List.getElem_cons_zero, List.getElem_cons_succ]
      refine wpAnyH_ready (rs := [13]) (by kernel_rfl) (by simp) ?_
      refine AllReadyH.cons rfl (fun K hK => ?_) AllReadyH.nil
      go_simp
      refine hK.out _ _ ?_ (fun hHeld => ?_)
      · exact HK.out _ _ ((Keeps.alloc u1 (.cells #[.string o.name, .int .i64 o.per, .int .i64 o.dl, .int .i64 o.prio, .int .i64 o.cl, .slice o.pa o.parts.length o.pc] 41)).trans (Keeps.alloc _ (.cells #[.string t.name, .int .i64 t.per, .int .i64 t.dl, .int .i64 t.prio, .int .i64 t.cl, .slice t.pa t.parts.length t.pc] 41))) hs
      clear hK K
      try simp only [Act.put, List.setIfInBounds_toArray, List.set_cons_zero, List.set_cons_succ, List.getElem_toArray, List.getElem_cons_zero, List.getElem_cons_succ]
      refine wpAnyH_done (by kernel_rfl) ?_ _
      clear hHeld
      go_wp2_with fail
      go_meet
      have tb0 := TaskBox.new u1 o 41
      have tb1 := TaskBox.new (u1.alloc (.cells #[.string o.name, .int .i64 o.per, .int .i64 o.dl, .int .i64 o.prio, .int .i64 o.cl, .slice o.pa o.parts.length o.pc] 41)) t 41
      rw [show (u1.alloc (.cells #[.string o.name, .int .i64 o.per, .int .i64 o.dl, .int .i64 o.prio, .int .i64 o.cl, .slice o.pa o.parts.length o.pc] 41)).heap.size = u1.heap.size + 1 by simp] at tb1
      have tb2 := tb0.keep (Keeps.alloc _ (.cells #[.string t.name, .int .i64 t.per, .int .i64 t.dl, .int .i64 t.prio, .int .i64 t.cl, .slice t.pa t.parts.length t.pc] 41))
      exact ⟨_, _, rfl, rfl, tb1, tb2, (sc.keep (Keeps.alloc u1 (.cells #[.string o.name, .int .i64 o.per, .int .i64 o.dl, .int .i64 o.prio, .int .i64 o.cl, .slice o.pa o.parts.length o.pc] 41))).keep (Keeps.alloc _ (.cells #[.string t.name, .int .i64 t.per, .int .i64 t.dl, .int .i64 t.prio, .int .i64 t.cl, .slice t.pa t.parts.length t.pc] 41)), (hb.alloc hb.size (.cells #[.string o.name, .int .i64 o.per, .int .i64 o.dl, .int .i64 o.prio, .int .i64 o.cl, .slice o.pa o.parts.length o.pc] 41)).alloc (hb.alloc hb.size (.cells #[.string o.name, .int .i64 o.per, .int .i64 o.dl, .int .i64 o.prio, .int .i64 o.cl, .slice o.pa o.parts.length o.pc] 41)).size (.cells #[.string t.name, .int .i64 t.per, .int .i64 t.dl, .int .i64 t.prio, .int .i64 t.cl, .slice t.pa t.parts.length t.pc] 41)⟩
  case rest =>
    obtain ⟨g1, g2, rfl, rfl, tb, ob, sc, hb⟩ := hcut
    clear x0 x1 x2 x3 x4 x5 y0 y1 y2 y3 y4 y5
    obtain ⟨sc_0, sc_1, sc_2, sc_3⟩ := id sc
    dsimp only at sc_0 sc_1 sc_2 sc_3
    obtain ⟨d0, d1, d2, d3, d4, d5⟩ := id tb
    obtain ⟨f0, f1, f2, f3, f4, f5⟩ := id ob
    have HEV := HE.out
    by_cases p2 : proto = 2
    · by_cases c1 : t.cl = o.cl
      · by_cases c2 : t.prio < o.prio
        · rw [if_pos p2] at HEV
          rw [if_pos ⟨c1, c2⟩] at HEV
          have Hv := hidp HEV
          have e1 : (t.cl == o.cl) = true := by simpa using c1
          have q2 : (proto == 2) = true := by simpa using p2
          have e2 : t.prio < o.prio := c2
          clear p2 c1 HEV
          go_wp2_with fail
          go_quiet (fail)
          have hb0 : Below w.heap.size w (wc.drewN nq) := below_drewN hb _
          replace tb := tb.keep (Keeps.drewN _ nq)
          replace ob := ob.keep (Keeps.drewN _ nq)
          replace sc := sc.keep (Keeps.drewN _ nq)
          replace hb := hb0
          clear hb0
          clear d0 d1 d2 d3 d4 d5 f0 f1 f2 f3 f4 f5 sc_0 sc_1 sc_2 sc_3
          obtain ⟨sc_0, sc_1, sc_2, sc_3⟩ := id sc
          dsimp only at sc_0 sc_1 sc_2 sc_3
          obtain ⟨d0, d1, d2, d3, d4, d5⟩ := id tb
          obtain ⟨f0, f1, f2, f3, f4, f5⟩ := id ob
          go_wp2_with fail
          refine (rall_any t 1 _ (TL.out.keep (Keeps.of_below hb))).mono ?_
          rintro e w2 ⟨rfl, hb2⟩
          rw [HR.out]
          replace hb := hb.trans (hb2.mono hb.size)
          replace tb := tb.keep (Keeps.of_below hb2)
          replace ob := ob.keep (Keeps.of_below hb2)
          replace sc := sc.keep (Keeps.of_below hb2)
          clear hb2 d0 d1 d2 d3 d4 d5 f0 f1 f2 f3 f4 f5 sc_0 sc_1 sc_2 sc_3
          obtain ⟨sc_0, sc_1, sc_2, sc_3⟩ := id sc
          dsimp only at sc_0 sc_1 sc_2 sc_3
          obtain ⟨d0, d1, d2, d3, d4, d5⟩ := id tb
          obtain ⟨f0, f1, f2, f3, f4, f5⟩ := id ob
          go_wp2_with fail
          have CC := rat_any ⟨proto, ca, cc, cores, hha, hc, homes, some ⟨g, off, none⟩, tc, tasks⟩ a o.cl _ (HS1.out _ hb)
          rw [HV.out] at CC
          refine CC.mono ?_
          rintro e w3 ⟨rfl, hb2⟩
          replace hb := hb.trans (hb2.mono hb.size)
          go_wp2_with fail
          go_ret
          exact ⟨ret_int (by rw [Hv.out]; omega), hb⟩
        · rw [if_pos p2] at HEV
          rw [if_neg (fun h => c2 h.2)] at HEV
          have Hv := hidp HEV
          have e1 : (t.cl == o.cl) = true := by simpa using c1
          have q2 : (proto == 2) = true := by simpa using p2
          clear p2 c1 HEV
          go_wp2_with fail
          go_quiet (fail)
          have hb0 : Below w.heap.size w (wc.drewN nq) := below_drewN hb _
          replace tb := tb.keep (Keeps.drewN _ nq)
          replace ob := ob.keep (Keeps.drewN _ nq)
          replace sc := sc.keep (Keeps.drewN _ nq)
          replace hb := hb0
          clear hb0
          clear d0 d1 d2 d3 d4 d5 f0 f1 f2 f3 f4 f5 sc_0 sc_1 sc_2 sc_3
          obtain ⟨sc_0, sc_1, sc_2, sc_3⟩ := id sc
          dsimp only at sc_0 sc_1 sc_2 sc_3
          obtain ⟨d0, d1, d2, d3, d4, d5⟩ := id tb
          obtain ⟨f0, f1, f2, f3, f4, f5⟩ := id ob
          go_wp2_with fail
          have CC := rat_any ⟨proto, ca, cc, cores, hha, hc, homes, some ⟨g, off, none⟩, tc, tasks⟩ a o.cl _ (HS1.out _ hb)
          rw [HV.out] at CC
          refine CC.mono ?_
          rintro e w3 ⟨rfl, hb2⟩
          replace hb := hb.trans (hb2.mono hb.size)
          go_wp2_with fail
          go_ret
          exact ⟨ret_int (by rw [Hv.out]; omega), hb⟩
      · rw [if_pos p2] at HEV
        rw [if_neg (fun h => c1 h.1)] at HEV
        have Hv := hidp HEV
        have e1 : (t.cl == o.cl) = false := by simpa using c1
        have q2 : (proto == 2) = true := by simpa using p2
        clear p2 c1 HEV
        go_wp2_with fail
        go_quiet (fail)
        have hb0 : Below w.heap.size w (wc.drewN nq) := below_drewN hb _
        replace tb := tb.keep (Keeps.drewN _ nq)
        replace ob := ob.keep (Keeps.drewN _ nq)
        replace sc := sc.keep (Keeps.drewN _ nq)
        replace hb := hb0
        clear hb0
        clear d0 d1 d2 d3 d4 d5 f0 f1 f2 f3 f4 f5 sc_0 sc_1 sc_2 sc_3
        obtain ⟨sc_0, sc_1, sc_2, sc_3⟩ := id sc
        dsimp only at sc_0 sc_1 sc_2 sc_3
        obtain ⟨d0, d1, d2, d3, d4, d5⟩ := id tb
        obtain ⟨f0, f1, f2, f3, f4, f5⟩ := id ob
        go_wp2_with fail
        have CC := rat_any ⟨proto, ca, cc, cores, hha, hc, homes, some ⟨g, off, none⟩, tc, tasks⟩ a o.cl _ (HS1.out _ hb)
        rw [HV.out] at CC
        refine CC.mono ?_
        rintro e w3 ⟨rfl, hb2⟩
        replace hb := hb.trans (hb2.mono hb.size)
        go_wp2_with fail
        go_ret
        exact ⟨ret_int (by rw [Hv.out]; omega), hb⟩
    · by_cases c1 : t.cl = o.cl
      · by_cases c2 : t.prio < o.prio
        · rw [if_neg p2] at HEV
          rw [if_pos c1] at HEV
          rw [if_pos ⟨c1, c2⟩] at HEV
          have Hv := hidp HEV
          have e1 : (t.cl == o.cl) = true := by simpa using c1
          have q2 : (proto == 2) = false := by simpa using p2
          have e2 : t.prio < o.prio := c2
          clear p2 c1 HEV
          go_wp2_with fail
          go_quiet (fail)
          have hb0 : Below w.heap.size w (wc.drewN nq) := below_drewN hb _
          replace tb := tb.keep (Keeps.drewN _ nq)
          replace ob := ob.keep (Keeps.drewN _ nq)
          replace sc := sc.keep (Keeps.drewN _ nq)
          replace hb := hb0
          clear hb0
          clear d0 d1 d2 d3 d4 d5 f0 f1 f2 f3 f4 f5 sc_0 sc_1 sc_2 sc_3
          obtain ⟨sc_0, sc_1, sc_2, sc_3⟩ := id sc
          dsimp only at sc_0 sc_1 sc_2 sc_3
          obtain ⟨d0, d1, d2, d3, d4, d5⟩ := id tb
          obtain ⟨f0, f1, f2, f3, f4, f5⟩ := id ob
          go_wp2_with fail
          refine (rall_any t 1 _ (TL.out.keep (Keeps.of_below hb))).mono ?_
          rintro e w2 ⟨rfl, hb2⟩
          rw [HR.out]
          replace hb := hb.trans (hb2.mono hb.size)
          replace tb := tb.keep (Keeps.of_below hb2)
          replace ob := ob.keep (Keeps.of_below hb2)
          replace sc := sc.keep (Keeps.of_below hb2)
          clear hb2 d0 d1 d2 d3 d4 d5 f0 f1 f2 f3 f4 f5 sc_0 sc_1 sc_2 sc_3
          obtain ⟨sc_0, sc_1, sc_2, sc_3⟩ := id sc
          dsimp only at sc_0 sc_1 sc_2 sc_3
          obtain ⟨d0, d1, d2, d3, d4, d5⟩ := id tb
          obtain ⟨f0, f1, f2, f3, f4, f5⟩ := id ob
          go_wp2_with fail
          refine (rall_any t 3 _ (TL.out.keep (Keeps.of_below hb))).mono ?_
          rintro e w3 ⟨rfl, hb2⟩
          rw [HL.out]
          replace hb := hb.trans (hb2.mono hb.size)
          go_wp2_with fail
          go_ret
          exact ⟨ret_int (by rw [Hv.out]; omega), hb⟩
        · rw [if_neg p2] at HEV
          rw [if_pos c1] at HEV
          rw [if_neg (fun h => c2 h.2)] at HEV
          have Hv := hidp HEV
          have e1 : (t.cl == o.cl) = true := by simpa using c1
          have q2 : (proto == 2) = false := by simpa using p2
          clear p2 c1 HEV
          go_wp2_with fail
          go_quiet (fail)
          have hb0 : Below w.heap.size w (wc.drewN nq) := below_drewN hb _
          replace tb := tb.keep (Keeps.drewN _ nq)
          replace ob := ob.keep (Keeps.drewN _ nq)
          replace sc := sc.keep (Keeps.drewN _ nq)
          replace hb := hb0
          clear hb0
          clear d0 d1 d2 d3 d4 d5 f0 f1 f2 f3 f4 f5 sc_0 sc_1 sc_2 sc_3
          obtain ⟨sc_0, sc_1, sc_2, sc_3⟩ := id sc
          dsimp only at sc_0 sc_1 sc_2 sc_3
          obtain ⟨d0, d1, d2, d3, d4, d5⟩ := id tb
          obtain ⟨f0, f1, f2, f3, f4, f5⟩ := id ob
          go_wp2_with fail
          refine (rall_any t 3 _ (TL.out.keep (Keeps.of_below hb))).mono ?_
          rintro e w3 ⟨rfl, hb2⟩
          rw [HL.out]
          replace hb := hb.trans (hb2.mono hb.size)
          go_wp2_with fail
          go_ret
          exact ⟨ret_int (by rw [Hv.out]; omega), hb⟩
      · rw [if_neg p2] at HEV
        rw [if_neg c1] at HEV
        rw [if_neg (fun h => c1 h.1)] at HEV
        have Hv := hidp HEV
        have e1 : (t.cl == o.cl) = false := by simpa using c1
        have q2 : (proto == 2) = false := by simpa using p2
        clear p2 c1 HEV
        go_wp2_with fail
        go_quiet (fail)
        have hb0 : Below w.heap.size w (wc.drewN nq) := below_drewN hb _
        replace tb := tb.keep (Keeps.drewN _ nq)
        replace ob := ob.keep (Keeps.drewN _ nq)
        replace sc := sc.keep (Keeps.drewN _ nq)
        replace hb := hb0
        clear hb0
        clear d0 d1 d2 d3 d4 d5 f0 f1 f2 f3 f4 f5 sc_0 sc_1 sc_2 sc_3
        obtain ⟨sc_0, sc_1, sc_2, sc_3⟩ := id sc
        dsimp only at sc_0 sc_1 sc_2 sc_3
        obtain ⟨d0, d1, d2, d3, d4, d5⟩ := id tb
        obtain ⟨f0, f1, f2, f3, f4, f5⟩ := id ob
        go_wp2_with fail
        go_ret
        exact ⟨ret_int (by rw [Hv.out]; omega), hb⟩

theorem rworkB_any (w0 b p e : Int) (w : World) (i0 : I64 w0) (i1 : I64 b) (i2 : I64 p) (i3 : I64 e) :
    Calls Tryz.prog 93 #[.int .i64 w0, .int .i64 b, .int .i64 p, .int .i64 e] w fun r w' => r = .returned (.int .i64 (workV w0 b p e)) ∧ Below w.heap.size w w' :=
  (rwork_any w0 b p e w i0 i1 i2 i3).mono fun r w' h => ⟨h.1, h.2.b⟩

set_option maxHeartbeats 4000000 in
set_option maxRecDepth 100000 in
theorem rothers17_any (s : SetR) (bs : List Int) (ba : Option Addr) (bc : Nat) (of wd : Int) (w : World) (hs : SetOk w s) (hB : IntsOk w ba bc bs) (hwd : I64 wd) : Calls Tryz.prog 69 #[.agg #[.int .i64 s.proto, .slice s.ca s.cores.length s.cc, .slice s.ha s.homes.length s.hc, .slice s.ta s.tasks.length s.tc], .slice ba bs.length bc, .int .i64 of, .int .i64 wd] w fun e w' => e = .returned (.int .i64 (othersV s bs of wd)) ∧ Below w.heap.size w w' := by
  have hb := (Below.refl w.heap.size w).alloc (Nat.le_refl _) (.cells #[.int .i64 s.proto, .slice s.ca s.cores.length s.cc, .slice s.ha s.homes.length s.hc, .slice s.ta s.tasks.length s.tc] 25)
  have sc := SetCells.new w s 25
  have H := hs.keep (Keeps.of_below hb)
  have l3 : s.tasks.length ≤ maxLen := Nat.le_trans hs.tasks.sl.2.1 hs.tasks.sl.2.2
  have l4 : bs.length ≤ maxLen := Nat.le_trans hB.sl.2.1 hB.sl.2.2
  unfold maxLen at l3 l4
  have Hwd := hidp hwd
  clear hwd
  by_cases e : thereB s of = true
  · have Hth := hidp e
    by_cases e2 : bs.length = s.tasks.length
    · have HL := hidp e2
      have d1 : ((bs.length : Int) != (s.tasks.length : Int)) = false := by simp [e2]
      obtain ⟨ho, r1, r2⟩ := thereB_true.1 e
      obtain ⟨c0, c1, c2, c3⟩ := cores_at e
      obtain ⟨n, rfl⟩ : ∃ n : Nat, of = n := ⟨of.toNat, by omega⟩
      have hn : n < s.tasks.length := by omega
      have hg := Good.of ho
      have n6 := hg.ntasks.2
      have Ho := hidp ho
      obtain ⟨cn, hcn⟩ : ∃ cn : Nat, (taskAt s n).cl = cn := ⟨(taskAt s n).cl.toNat, by omega⟩
      have hcl2 : cn < s.cores.length := by omega
      obtain ⟨nc, HNC⟩ : ∃ nc, Hid (s.cores.getD cn 0 = nc) := ⟨_, rfl⟩
      have e5 : s.cores.getD (taskAt s n).cl.toNat 0 = nc := by rw [hcn]; simpa using HNC.out
      rw [e5] at c2 c3
      obtain ⟨W, HW⟩ : ∃ W : Nat → Int, Hid (∀ k, othW s bs n wd 0 (s.tasks.take k) = W k) := ⟨fun k => othW s bs n wd 0 (s.tasks.take k), hidp (fun _ => rfl)⟩
      obtain ⟨E, HE⟩ : ∃ E : Nat → Int, Hid (∀ k : Nat, eachV s k n = E k) := ⟨fun k => eachV s k n, hidp (fun _ => rfl)⟩
      have HEb : Hid (∀ k, 0 ≤ E k ∧ E k ≤ 720) := hidp (fun k => by rw [← HE.out]; exact eachV_bd ho k n)
      have HW0 : Hid (W 0 = 0) := hidp (by rw [← HW.out]; simp [othW])
      have HWb : Hid (∀ k, 0 ≤ W k ∧ W k ≤ 6000000) := hidp (fun k => by
        rw [← HW.out]
        have h1 := othW_bd s bs n wd 0 (s.tasks.take k)
        have h2 : (s.tasks.take k).length ≤ 6 := by rw [List.length_take]; omega
        omega)
      have HWs : Hid (∀ k, k < s.tasks.length → W (k + 1) = W k + (if (k : Int) = n then 0 else workV wd (bs.getD k 0) (s.tasks.getD k default).per (E k))) := hidp (fun k hk => by rw [← HW.out, ← HW.out, ← HE.out]; exact othW_snoc s bs n wd s.tasks k hk)
      have HVy : Hid (nnB bs = true → othersV s bs n wd = W s.tasks.length / nc) := hidp (fun h => by
        unfold othersV; rw [if_pos ⟨othersB_true.2 ⟨e, e2⟩, h⟩, e5, ← HW.out, List.take_length])
      have HVn : Hid (nnB bs = false → othersV s bs n wd = 0) := hidp (fun h => by unfold othersV; rw [h, if_neg (fun g => by cases g.2)])
      have HR := hidp hs.tasks.at_
      have HRc := hidp hs.cores.at_
      have HBR := hidp hB.at_
      have HBw := hidp hB.wf
      have Hper := hidp (fun t ht => (hs.tasks.ok t ht).per)
      have HS1 : Hid (∀ u, Below w.heap.size w u → SetOk u s) := hidp (fun u h => hs.keep (Keeps.of_below h))
      have Hcn := hidp hcn
      have Hat : Hid ((s.tasks.getD n default).cl = cn) := hidp (by have := hcn; unfold taskAt at this; simpa using this)
      clear hg ho hs hB e e2 r1 HW c0 c1 e5 hcn
      obtain ⟨proto, ca, cc, cores, ha, hc, homes, ta, tc, tasks⟩ := s
      dsimp only at hn l3 r2 hb sc H d1 n6 hcl2 HR HRc HWs HL Hper HNC Hat HS1 Ho ⊢
      obtain ⟨g, off, hA, hcl⟩ := HR.out.resolve_left (by intro e; rw [e] at hn; simp at hn)
      subst hA
      have Hcl := hidp hcl
      obtain ⟨gc, oc, hCA, hcc⟩ := HRc.out.resolve_left (by intro e; rw [e] at hcl2; simp at hcl2)
      subst hCA
      have Hcc := hidp (HNC.out ▸ hcc cn hcl2)
      obtain ⟨gb, ob, hBA, hbl⟩ := HBR.out.resolve_left (by intro e; have := HL.out; rw [e] at this; simp at this; omega)
      subst hBA
      have Hbl := hidp hbl
      clear hcl hcc hbl
      have dn : decide (tasks.length ≤ n) = false := by simp; omega
      have dc : decide (cores.length ≤ cn) = false := by simp; omega
      have z0 : (nc == 0) = false := by simp; omega
      have z1 : (nc == -1) = false := by simp; omega
      go_enter Tryz.func69, Tryz.ntmps69
      go_wp2_with fail
      refine (rthere_any _ _ _ H).mono ?_
      rintro e w2 ⟨rfl, hb2⟩
      replace hb := hb.trans (hb2.mono hb.size)
      replace sc := sc.keep (Keeps.of_below hb2)
      clear hb2
      try clear sc_0 sc_1 sc_2 sc_3
      have scx := sc
      obtain ⟨sc_0, sc_1, sc_2, sc_3⟩ := scx
      try dsimp only at sc_0 sc_1 sc_2 sc_3
      rw [Hth.out]
      go_wp2_with fail
      clear sc_0 sc_1 sc_2 sc_3
      go_loopg [9, 10] tasks.length (fun gg a i wr => ∃ (k : Nat) (x : Int), k + gg = tasks.length ∧ i = .int .i64 k ∧ a = .int .i64 x ∧ Hid (W k = x) ∧ Hid (∀ j, j < k → 0 ≤ bs.getD j 0) ∧ SetCells wr w.heap.size ⟨proto, some ⟨gc, oc, none⟩, cc, cores, ha, hc, homes, some ⟨g, off, none⟩, tc, tasks⟩ ∧ Below w.heap.size w wr)
      case atStart => exact ⟨0, 0, by omega, rfl, rfl, HW0, hidp (fun j hj => by omega), sc, hb⟩
      case round =>
        clear sc hb
        obtain ⟨k, x, hk, rfl, rfl, Hx, Hnn, sc, hw⟩ := hrel
        have hx := HWb.out k
        rw [Hx.out] at hx
        obtain ⟨x0, x1⟩ := hx
        by_cases hlt : k < tasks.length
        · obtain ⟨t, HT⟩ : ∃ t, Hid (tasks.getD k default = t) := ⟨_, rfl⟩
          have hkb : k < bs.length := by rw [HL.out]; exact hlt
          obtain ⟨b, Hb⟩ : ∃ b, Hid (bs.getD k 0 = b) := ⟨_, rfl⟩
          have hb64 := HBw.out b (by rw [← Hb.out]; exact getD_mem (α := Int) hkb)
          have hp64 := Hper.out t (HT.out ▸ getD_mem hlt)
          obtain ⟨d0, d1', d2, d3, d4, d5⟩ := (HT.out ▸ Hcl.out k hlt).keep (Keeps.of_below hw)
          have hw1 := hw
          have hbc := Keeps.of_below hw1 _ _ (Hb.out ▸ Hbl.out k hkb)
          have sc1 := sc
          obtain ⟨sc_0, sc_1, sc_2, sc_3⟩ := id sc
          dsimp only at sc_0 sc_1 sc_2 sc_3
          have hkI : (k : Int) < (bs.length : Int) := by omega
          have Hb64 := hidp hb64
          have Hp64 := hidp hp64
          clear hb64 hp64
          by_cases e : b < 0
          · have Hz := hidp (HVn.out (nn_not hkb (by rw [Hb.out]; exact e)))
            go_wp2_with fail
            try rw [Exit.noGoto_ret]
            go_ret
            exact ⟨ret_int Hz.out.symm, hw1⟩
          · have hb0 : 0 ≤ b := by omega
            have Hnn' : Hid (∀ j, j < k + 1 → 0 ≤ bs.getD j 0) := hidp (fun j hj => by
              by_cases ej : j = k
              · subst ej; rw [Hb.out]; exact hb0
              · exact Hnn.out j (by omega))
            by_cases e3 : (k : Int) = n
            · have e4 : ((k : Int) != (n : Int)) = false := by simpa using e3
              have Hz : Hid (W (k + 1) = x) := hidp (by rw [HWs.out k hlt, if_pos e3, Hx.out]; omega)
              clear e3
              go_wp2_with fail
              go_roundg (gk - 1)
              case measure => omega
              case rel => exact ⟨k + 1, x, by omega, by go_num, rfl, Hz, Hnn', sc1, hw1⟩
            · have e4 : ((k : Int) != (n : Int)) = true := by simpa using e3
              obtain ⟨v, Hv⟩ : ∃ v, Hid (workV wd b t.per (E k) = v) := ⟨_, hidp rfl⟩
              have Hz : Hid (W (k + 1) = x + v) := hidp (by rw [HWs.out k hlt, if_neg e3, Hx.out, Hb.out, HT.out, Hv.out])
              have hv := workV_bd wd b t.per (E k)
              rw [Hv.out] at hv
              obtain ⟨v0, v1⟩ := hv
              have hEk := HEb.out k
              have HE64 : Hid (I64 (E k)) := hidp (by unfold I64; omega)
              have hwr : IntKind.i64.wrap (x + v) = x + v := IntWalk.i64_in _ (by omega)
              have hsv := Keeps.drew _ _ _ hbc
              have pb := Keeps.drew _ _ _ d1'
              obtain ⟨s0, s1, s2, s3⟩ := sc1.keep (Keeps.drew _)
              have hb := hw1.drew
              clear e3 hEk
              go_wp2_with fail
              clear d0 d1' d2 d3 d4 d5 sc sc1 hw1 hbc sc_0 sc_1 sc_2 sc_3
              go_region_held3 (fun w' => w'.cell? ⟨gb, ob + k, none⟩ = some (.int .i64 b) ∧ w'.cell? ⟨g, off + k * 6 + 1, none⟩ = some (.int .i64 t.per) ∧ w'.cell? ⟨w.heap.size, 0, none⟩ = some (.int .i64 proto) ∧ w'.cell? ⟨w.heap.size, 1, none⟩ = some (.slice (some ⟨gc, oc, none⟩) cores.length cc) ∧ w'.cell? ⟨w.heap.size, 2, none⟩ = some (.slice ha homes.length hc) ∧ w'.cell? ⟨w.heap.size, 3, none⟩ = some (.slice (some ⟨g, off, none⟩) tasks.length tc)) (exact ⟨hsv, pb, s0, s1, s2, s3⟩)
                (first
                  | (go_at_call 94; refine (reach_any _ k n _ (HS1.out _ hb) Ho.out hlt hn).mono ?_; rintro e u ⟨rfl, hb3⟩; have hsv := Keeps.of_below hb3 _ _ hsv; have pb := Keeps.of_below hb3 _ _ pb; have s0 := Keeps.of_below hb3 _ _ s0; have s1 := Keeps.of_below hb3 _ _ s1; have s2 := Keeps.of_below hb3 _ _ s2; have s3 := Keeps.of_below hb3 _ _ s3; have hb := hb.trans (hb3.mono hb.size); rw [HE.out])
                  | (go_at_call 93; refine (rworkB_any wd b t.per (E k) _ Hwd.out Hb64.out Hp64.out HE64.out).mono ?_; rintro e u ⟨rfl, hb3⟩; have hsv := Keeps.of_below hb3 _ _ hsv; have pb := Keeps.of_below hb3 _ _ pb; have s0 := Keeps.of_below hb3 _ _ s0; have s1 := Keeps.of_below hb3 _ _ s1; have s2 := Keeps.of_below hb3 _ _ s2; have s3 := Keeps.of_below hb3 _ _ s3; have hb := hb.trans (hb3.mono hb.size); rw [Hv.out]))
              clear hwr
              go_wp2_with fail
              go_roundg (gk - 1)
              case measure => omega
              case rel => exact ⟨k + 1, x + v, by omega, by go_num, rfl, Hz, Hnn', ⟨s0, s1, s2, s3⟩, hb⟩
        · obtain rfl : k = tasks.length := by omega
          obtain ⟨sc_0, sc_1, sc_2, sc_3⟩ := id sc
          dsimp only at sc_0 sc_1 sc_2 sc_3
          have hnn : nnB bs = true := nn_yes (fun j hj => Hnn.out j (by rw [← HL.out]; exact hj))
          have Hz := hidp (HVy.out hnn)
          obtain ⟨q, hq⟩ : ∃ q, x.tdiv nc = q := ⟨_, rfl⟩
          have Hq : Hid (q = x / nc) := hidp (by rw [← hq, Int.tdiv_eq_ediv_of_nonneg x0])
          have q0 : 0 ≤ q := by rw [Hq.out]; exact Int.ediv_nonneg x0 (by omega)
          have q1 : q ≤ 6000000 := by rw [Hq.out]; exact Int.le_trans (Int.ediv_le_self _ x0) x1
          obtain ⟨s0, s1, s2, s3⟩ := id sc
          dsimp only at s0 s1 s2 s3
          have k4 := Keeps.of_below hw _ _ Hcc.out
          have k5 := Keeps.of_below hw _ _ (Hcl.out n hn).2.2.2.2.1
          rw [Hat.out] at k5
          have cI : (cn : Int) < (cores.length : Int) := by omega
          have nI : (n : Int) < (tasks.length : Int) := by omega
          clear hnn
          go_wp2_with fail
          go_quiet (fail)
          go_wp2
          try rw [Exit.noGoto_ret]
          go_ret
          exact ⟨ret_int (by rw [Hz.out, Hq.out, Hx.out]), below_drewN hw _⟩
    · have Hv : Hid (othersV s bs of wd = 0) := hidp (by unfold othersV; rw [if_neg (fun h => e2 (othersB_true.1 h.1).2)])
      have d1 : ((bs.length : Int) != (s.tasks.length : Int)) = true := by simp; omega
      clear e e2
      go_enter Tryz.func69, Tryz.ntmps69
      go_wp2_with fail
      refine (rthere_any _ _ _ H).mono ?_
      rintro e w2 ⟨rfl, hb2⟩
      replace hb := hb.trans (hb2.mono hb.size)
      replace sc := sc.keep (Keeps.of_below hb2)
      clear hb2
      try clear sc_0 sc_1 sc_2 sc_3
      have scx := sc
      obtain ⟨sc_0, sc_1, sc_2, sc_3⟩ := scx
      try dsimp only at sc_0 sc_1 sc_2 sc_3
      rw [Hth.out]
      go_wp2
      try rw [Exit.noGoto_ret]
      go_ret
      exact ⟨ret_int Hv.out.symm, hb⟩
  · have Hv : Hid (othersV s bs of wd = 0) := hidp (by unfold othersV; rw [if_neg (fun h => e (othersB_true.1 h.1).1)])
    have Hth : Hid (thereB s of = false) := hidp (by simpa using e)
    clear e
    go_enter Tryz.func69, Tryz.ntmps69
    go_wp2_with fail
    refine (rthere_any _ _ _ H).mono ?_
    rintro e w2 ⟨rfl, hb2⟩
    replace hb := hb.trans (hb2.mono hb.size)
    replace sc := sc.keep (Keeps.of_below hb2)
    clear hb2
    try clear sc_0 sc_1 sc_2 sc_3
    have scx := sc
    obtain ⟨sc_0, sc_1, sc_2, sc_3⟩ := scx
    try dsimp only at sc_0 sc_1 sc_2 sc_3
    rw [Hth.out]
    go_wp2
    try rw [Exit.noGoto_ret]
    go_ret
    exact ⟨ret_int Hv.out.symm, hb⟩

set_option maxHeartbeats 2000000 in
set_option maxRecDepth 100000 in
theorem rnext_any (s : SetR) (bs : List Int) (ba : Option Addr) (bc : Nat) (of : Int) (w : World) (hs : SetOk w s) (hB : IntsOk w ba bc bs) : Calls Tryz.prog 51 #[.agg #[.int .i64 s.proto, .slice s.ca s.cores.length s.cc, .slice s.ha s.homes.length s.hc, .slice s.ta s.tasks.length s.tc], .slice ba bs.length bc, .int .i64 of] w fun e w' => e = .returned (.tuple #[.int .i64 (nextV s bs of), .bool (nextK s bs of)]) ∧ Below w.heap.size w w' := by
  have hb := (Below.refl w.heap.size w).alloc (Nat.le_refl _) (.cells #[.int .i64 s.proto, .slice s.ca s.cores.length s.cc, .slice s.ha s.homes.length s.hc, .slice s.ta s.tasks.length s.tc] 25)
  have sc := SetCells.new w s 25
  have H := hs.keep (Keeps.of_below hb)
  have HB := hB.keep (Keeps.of_below hb)
  have l3 : s.tasks.length ≤ maxLen := Nat.le_trans hs.tasks.sl.2.1 hs.tasks.sl.2.2
  have l4 : bs.length ≤ maxLen := Nat.le_trans hB.sl.2.1 hB.sl.2.2
  unfold maxLen at l3 l4
  obtain ⟨O, HO⟩ : ∃ V, Hid (ownV s bs of = V) := ⟨_, hidp rfl⟩
  have hO := ownV_bd s bs of
  rw [HO.out] at hO
  obtain ⟨O0, O1⟩ := hO
  by_cases k : waitsK s bs of = true
  · have Hk := hidp k
    by_cases e2 : bs.length = s.tasks.length
    · have d1 : ((bs.length : Int) != (s.tasks.length : Int)) = false := by simp [e2]
      obtain ⟨ho, r1, r2⟩ := thereB_true.1 (waitsK_there k)
      obtain ⟨n, rfl⟩ : ∃ n : Nat, of = n := ⟨of.toNat, by omega⟩
      have hnb : n < bs.length := by omega
      obtain ⟨b, Hb⟩ : ∃ b, Hid (bs.getD n 0 = b) := ⟨_, rfl⟩
      have hb64 := hB.wf b (by rw [← Hb.out]; exact getD_mem (α := Int) hnb)
      obtain ⟨P, HP⟩ : ∃ V, Hid (othersV s bs n b = V) := ⟨_, hidp rfl⟩
      have hP := othersV_bd s bs n b
      rw [HP.out] at hP
      obtain ⟨P0, P1⟩ := hP
      have HK : Hid (nextK s bs n = true) := hidp (nextK_true.2 ⟨k, e2⟩)
      have HV : Hid (nextV s bs n = O + P) := hidp (by unfold nextV; rw [if_pos HK.out, HO.out]; simp only [Int.toNat_natCast]; rw [Hb.out, HP.out])
      have hwr : IntKind.i64.wrap (O + P) = O + P := IntWalk.i64_in _ (by omega)
      obtain ⟨gb, ob, hBA, hbl⟩ := hB.at_.resolve_left (by intro e; rw [e] at hnb; simp at hnb)
      have Hbc := hidp (Hb.out ▸ hbl n hnb)
      have nI : (n : Int) < (bs.length : Int) := by omega
      clear hbl hs hB k e2 ho r1 r2
      subst hBA
      go_enter Tryz.func51, Tryz.ntmps51
      go_wp2_with fail
      refine (rown_any s bs _ bc n _ H HB).mono ?_
      rintro e w2 ⟨rfl, hb2⟩
      replace hb := hb.trans (hb2.mono hb.size)
      replace sc := sc.keep (Keeps.of_below hb2)
      replace H := H.keep (Keeps.of_below hb2)
      replace HB := HB.keep (Keeps.of_below hb2)
      clear hb2
      try clear sc_0 sc_1 sc_2 sc_3
      have scx := sc
      obtain ⟨sc_0, sc_1, sc_2, sc_3⟩ := scx
      try dsimp only at sc_0 sc_1 sc_2 sc_3
      rw [HO.out, Hk.out]
      go_wp2_with fail
      have pb := Keeps.of_below hb _ _ Hbc.out
      have H' := H.keep (Keeps.drew _)
      have HB' := HB.keep (Keeps.drew _)
      have hsv := Keeps.drew _ _ _ pb
      obtain ⟨s0, s1, s2, s3⟩ := sc.keep (Keeps.drew _)
      replace hb := hb.drew
      clear sc_0 sc_1 sc_2 sc_3 sc H HB pb
      go_region_held3 (fun w' => w'.cell? ⟨gb, ob + n, none⟩ = some (.int .i64 b) ∧ w'.cell? ⟨w.heap.size, 0, none⟩ = some (.int .i64 s.proto) ∧ w'.cell? ⟨w.heap.size, 1, none⟩ = some (.slice s.ca s.cores.length s.cc) ∧ w'.cell? ⟨w.heap.size, 2, none⟩ = some (.slice s.ha s.homes.length s.hc) ∧ w'.cell? ⟨w.heap.size, 3, none⟩ = some (.slice s.ta s.tasks.length s.tc)) (exact ⟨hsv, s0, s1, s2, s3⟩)
        (first
          | (go_at_call 69; refine (rothers17_any s bs _ bc n b _ H' HB' hb64).mono ?_; rintro e u ⟨rfl, hb3⟩; have hsv := Keeps.of_below hb3 _ _ hsv; have s0 := Keeps.of_below hb3 _ _ s0; have s1 := Keeps.of_below hb3 _ _ s1; have s2 := Keeps.of_below hb3 _ _ s2; have s3 := Keeps.of_below hb3 _ _ s3; have H' := H'.keep (Keeps.of_below hb3); have HB' := HB'.keep (Keeps.of_below hb3); have hb := hb.trans (hb3.mono hb.size); rw [HP.out]))
      clear hwr
      go_wp2_with fail
      go_ret2
      exact ⟨ret_ib HV.out.symm HK.out.symm, hb⟩
    · have d1 : ((bs.length : Int) != (s.tasks.length : Int)) = true := by simp; omega
      have hk : nextK s bs of = false := by rw [Bool.eq_false_iff]; intro h; exact e2 (nextK_true.1 h).2
      have HK := hidp hk
      have HV : Hid (nextV s bs of = 0) := hidp (by unfold nextV; rw [hk]; rfl)
      clear k e2 hk
      go_enter Tryz.func51, Tryz.ntmps51
      go_wp2_with fail
      refine (rown_any s bs ba bc of _ H HB).mono ?_
      rintro e w2 ⟨rfl, hb2⟩
      replace hb := hb.trans (hb2.mono hb.size)
      replace sc := sc.keep (Keeps.of_below hb2)
      clear hb2
      try clear sc_0 sc_1 sc_2 sc_3
      have scx := sc
      obtain ⟨sc_0, sc_1, sc_2, sc_3⟩ := scx
      try dsimp only at sc_0 sc_1 sc_2 sc_3
      rw [HO.out, Hk.out]
      go_wp2
      go_ret2
      exact ⟨ret_ib HV.out.symm HK.out.symm, hb⟩
  · have k : waitsK s bs of = false := by simpa using k
    have Hk := hidp k
    have hk : nextK s bs of = false := by unfold nextK; rw [k]; rfl
    have HK := hidp hk
    have HV : Hid (nextV s bs of = 0) := hidp (by unfold nextV; rw [hk]; rfl)
    clear k hk
    go_enter Tryz.func51, Tryz.ntmps51
    go_wp2_with fail
    refine (rown_any s bs ba bc of _ H HB).mono ?_
    rintro e w2 ⟨rfl, hb2⟩
    replace hb := hb.trans (hb2.mono hb.size)
    replace sc := sc.keep (Keeps.of_below hb2)
    clear hb2
    try clear sc_0 sc_1 sc_2 sc_3
    have scx := sc
    obtain ⟨sc_0, sc_1, sc_2, sc_3⟩ := scx
    try dsimp only at sc_0 sc_1 sc_2 sc_3
    rw [HO.out, Hk.out]
    go_wp2
    go_ret2
    exact ⟨ret_ib HV.out.symm HK.out.symm, hb⟩
end Go.Proofs.YtjjlpaampmpdfaaGreatDoor

namespace Go.Proofs.YtjjlpaampmpdfaaGreatDoor
open Go.ChangeShapes Go.WideShapes Go.ChangeAt Go.RowKit
set_option linter.unusedVariables false
set_option linter.unusedSimpArgs false

def eqB (s : SetR) (bs : List Int) (i : Nat) : Bool := decide (nextV s bs i = bs.getD i 0)
def turnB (s : SetR) (bs : List Int) : Bool := roundB s bs && !(upTo (eqB s bs) s.tasks.length)
def errR (s : SetR) (bs : List Int) : Int := if roundB s bs = true then 0 else 19
/-- a row of numbers, a bool, a number -/
def RowT (w : World) (zs : List Int) (q : Bool) (k : Int) (e : Ending) (w' : World) : Prop := ∃ A c, e = .returned (.tuple #[.slice A zs.length c, .bool q, .int .i64 k]) ∧ IntsOk w' A c zs ∧ Below w.heap.size w w'
theorem RowT.eq {w w' : World} {zs ys : List Int} {q p : Bool} {k j : Int} {e : Ending} (h : RowT w zs q k e w') (h1 : zs = ys) (h2 : q = p) (h3 : k = j) : RowT w ys p j e w' := h1 ▸ h2 ▸ h3 ▸ h
theorem rest_iff {s : SetR} {bs : List Int} (hl : bs.length = s.tasks.length) : upTo (eqB s bs) s.tasks.length = true ↔ nextRow s bs = bs := by
  rw [upTo_iff]
  constructor
  · intro h
    refine List.ext_getElem (by rw [nextRow_len, hl]) (fun i h1 h2 => ?_)
    have hi : i < s.tasks.length := by rw [← hl]; exact h2
    have := h i hi
    unfold eqB at this
    rw [decide_eq_true_eq] at this
    simpa [nextRow, List.getD, h2] using this
  · intro h k hk
    unfold eqB
    rw [decide_eq_true_eq]
    have : (nextRow s bs).getD k 0 = nextV s bs k := by unfold nextRow; simp [List.getD, hk]
    rw [← this, h]

set_option maxHeartbeats 4000000 in
set_option maxRecDepth 100000 in
theorem rround_any (s : SetR) (bs : List Int) (ba : Option Addr) (bc : Nat) (w : World) (hs : SetOk w s) (hB : IntsOk w ba bc bs) (hn : s.tasks.length ≤ 6) (hbl : bs.length = s.tasks.length) : Calls Tryz.prog 32 #[.agg #[.int .i64 s.proto, .slice s.ca s.cores.length s.cc, .slice s.ha s.homes.length s.hc, .slice s.ta s.tasks.length s.tc], .slice ba bs.length bc] w (RowT w (roundL s bs) (turnB s bs) (errR s bs)) := by
  have hb := (Below.refl w.heap.size w).alloc (Nat.le_refl _) (.cells #[.int .i64 s.proto, .slice s.ca s.cores.length s.cc, .slice s.ha s.homes.length s.hc, .slice s.ta s.tasks.length s.tc] 25)
  have sc := SetCells.new w s 25
  have HR := hidp hs.tasks.at_
  obtain ⟨N, HN⟩ : ∃ f : Nat → Int, Hid (∀ k : Nat, nextV s bs k = f k) := ⟨fun k => nextV s bs k, hidp (fun _ => rfl)⟩
  obtain ⟨K, HK⟩ : ∃ f : Nat → Bool, Hid (∀ k : Nat, nextK s bs k = f k) := ⟨fun k => nextK s bs k, hidp (fun _ => rfl)⟩
  have HNb : Hid (∀ k, 0 ≤ N k ∧ N k ≤ 6100000) := hidp (fun k => by rw [← HN.out]; exact nextV_bd s bs k)
  obtain ⟨L, HL⟩ : ∃ L, Hid (roundL s bs = L) := ⟨_, hidp rfl⟩
  obtain ⟨R, HRd⟩ : ∃ L, Hid (turnB s bs = L) := ⟨_, hidp rfl⟩
  obtain ⟨X, HX⟩ : ∃ L, Hid (errR s bs = L) := ⟨_, hidp rfl⟩
  obtain ⟨Q, HQ⟩ : ∃ f : Nat → Bool, Hid (∀ k : Nat, (!(upTo (eqB s bs) k)) = f k) := ⟨fun k => !(upTo (eqB s bs) k), hidp (fun _ => rfl)⟩
  have HQ0 : Hid (Q 0 = false) := hidp (by rw [← HQ.out]; rfl)
  have HQs : Hid (∀ k : Nat, Q (k + 1) = (Q k || decide (N k ≠ bs.getD k 0))) := hidp (fun k => by
    rw [← HQ.out, ← HQ.out, ← HN.out]
    show (!(upTo (eqB s bs) k && eqB s bs k)) = _
    unfold eqB
    cases upTo (fun i => decide (nextV s bs i = bs.getD i 0)) k <;> simp)
  have HBL := hidp hbl
  have l4 : bs.length ≤ maxLen := Nat.le_trans hB.sl.2.1 hB.sl.2.2
  unfold maxLen at l4
  have HBR := hidp hB.at_
  have Hoff : Hid (∀ k, k < s.tasks.length → (K k && decide (N k ≤ (s.tasks.getD k default).dl)) = false → R = false ∧ L = [] ∧ X = 19) := hidp (fun k hk h => by
    have e : roundB s bs = false := upTo_not hk (by unfold stepB; rw [HN.out, HK.out]; exact h)
    rw [← HRd.out, ← HL.out, ← HX.out]
    exact ⟨by unfold turnB; rw [e]; rfl, by unfold roundL; rw [e]; rfl, by unfold errR; rw [e]; rfl⟩)
  have Hyes : Hid ((∀ k, k < s.tasks.length → (K k && decide (N k ≤ (s.tasks.getD k default).dl)) = true) → R = Q s.tasks.length ∧ L = (List.range s.tasks.length).map N ∧ X = 0) := hidp (fun h => by
    have e : roundB s bs = true := (upTo_iff _ _).2 (fun k hk => by unfold stepB; rw [HN.out, HK.out]; exact h k hk)
    rw [← HRd.out, ← HL.out, ← HX.out, ← HQ.out]
    refine ⟨by unfold turnB; rw [e, Bool.true_and], ?_, by unfold errR; rw [if_pos e]⟩
    unfold roundL nextRow
    rw [if_pos e]
    exact List.map_congr_left (fun i _ => HN.out i))
  have HS1 := hidp (fun u (h : Below w.heap.size w u) => hs.keep (Keeps.of_below h))
  have HB1 := hidp (fun u (h : Below w.heap.size w u) => hB.keep (Keeps.of_below h))
  obtain ⟨i0, hi0, hy0, hy1, hy2⟩ := info_parts infoZ
  rw [HL.out, HRd.out, HX.out]
  clear hs hB HL HRd HX hbl
  obtain ⟨proto, ca, cc, cores, ha, hc, homes, ta, tc, tasks⟩ := s
  dsimp only at HR hn hb sc HS1 Hoff Hyes HBL ⊢
  obtain ⟨sc_0, sc_1, sc_2, sc_3⟩ := id sc
  dsimp only at sc_0 sc_1 sc_2 sc_3
  have hz0 : w.heap.size + 1 ≤ (w.alloc (.cells #[.int .i64 proto, .slice ca cores.length cc, .slice ha homes.length hc, .slice ta tasks.length tc] 25)).heap.size := by simp
  go_enter Tryz.func32, Tryz.ntmps32
  go_wp2
  clear sc_0 sc_1 sc_2 sc_3
  go_loopg [7, 8, 9] bs.length (fun gg a tb i wr => ∃ (k c : Nat) (A : Option Addr) (q : Bool), k + gg = bs.length ∧ i = .int .i64 k ∧ a = .slice A k c ∧ tb = .bool q ∧ Hid (Q k = q) ∧ Hid (∀ j, j < k → (K j && decide (N j ≤ (tasks.getD j default).dl)) = true) ∧ OwnN (w.heap.size + 1) wr A k c ((List.range k).map N) ∧ SetCells wr w.heap.size ⟨proto, ca, cc, cores, ha, hc, homes, ta, tc, tasks⟩ ∧ Below w.heap.size w wr ∧ w.heap.size + 1 ≤ wr.heap.size)
  case atStart => exact ⟨0, 0, none, false, by omega, rfl, rfl, rfl, HQ0, hidp (fun j hj => by omega), OwnN.none _ _, sc, hb, hz0⟩
  case round =>
    clear hb hz0 sc
    obtain ⟨k, c, A, q, hk, rfl, rfl, rfl, Hq, Hk, ho, sc, hw, hz⟩ := hrel
    by_cases hltb : k < bs.length
    · have hlt : k < tasks.length := by rw [← HBL.out]; exact hltb
      have k6 : k < 6 := by omega
      obtain ⟨gb, ob, hBA, hbc⟩ := HBR.out.resolve_left (by intro e; rw [e] at hltb; simp at hltb)
      subst hBA
      obtain ⟨x, Hx⟩ : ∃ x, Hid (bs.getD k 0 = x) := ⟨_, rfl⟩
      have Hbc := hidp (Hx.out ▸ hbc k hltb)
      have kI : (k : Int) < (bs.length : Int) := by omega
      obtain ⟨g, off, hA, hcl⟩ := HR.out.resolve_left (by intro e; rw [e] at hlt; simp at hlt)
      subst hA
      obtain ⟨t, HT⟩ : ∃ t, Hid (tasks.getD k default = t) := ⟨_, rfl⟩
      obtain ⟨d0, d1, d2, d3, d4, d5⟩ := (HT.out ▸ hcl k hlt).keep (Keeps.of_below hw)
      have hw1 := hw
      have ho1 := ho
      have hz1 := hz
      have sc1 := sc
      obtain ⟨sc_0, sc_1, sc_2, sc_3⟩ := id sc1
      dsimp only at sc_0 sc_1 sc_2 sc_3
      obtain ⟨v, Hv⟩ : ∃ v, Hid (N k = v) := ⟨_, hidp rfl⟩
      obtain ⟨b, Hb⟩ : ∃ v, Hid (K k = v) := ⟨_, hidp rfl⟩
      have hvb := HNb.out k
      rw [Hv.out] at hvb
      obtain ⟨v0, v1⟩ := hvb
      clear hcl hbc ho hw hz sc
      go_wp2_with fail
      refine (rnext_any _ bs _ bc k _ (HS1.out _ hw1) (HB1.out _ hw1)).mono ?_
      rintro e w3 ⟨rfl, hb3⟩
      rw [HN.out, HK.out, Hv.out, Hb.out]
      replace hw1 := hw1.trans (hb3.mono hw1.size)
      replace ho1 := ho1.turned (Turned.of_below hb3 []) (by simp)
      replace hz1 := Nat.le_trans hz1 hb3.size
      replace sc1 := sc1.keep (Keeps.of_below hb3)
      have d2' := Keeps.of_below hb3 _ _ d2
      clear hb3 d0 d1 d2 d3 d4 d5 sc_0 sc_1 sc_2 sc_3
      obtain ⟨sc_0, sc_1, sc_2, sc_3⟩ := id sc1
      dsimp only at sc_0 sc_1 sc_2 sc_3
      have bc1 := Keeps.of_below hw1 _ _ Hbc.out
      cases b with
      | false =>
        obtain ⟨f1, f2, f3⟩ := Hoff.out k hlt (by rw [Hb.out]; rfl)
        have F1 := hidp f1
        have F2 := hidp f2
        have F3 := hidp f3
        clear f1 f2 f3
        go_wp2_with fail
        go_ret3
        exact RowT.eq ⟨none, 0, rfl, nil_ints _, hw1⟩ F2.out.symm F1.out.symm F3.out.symm
      | true =>
        by_cases hd : t.dl < v
        · obtain ⟨f1, f2, f3⟩ := Hoff.out k hlt (by rw [Hb.out, Hv.out, HT.out]; simp; omega)
          have F1 := hidp f1
          have F2 := hidp f2
          have F3 := hidp f3
          clear f1 f2 f3
          go_wp2_with fail
          go_ret3
          exact RowT.eq ⟨none, 0, rfl, nil_ints _, hw1⟩ F2.out.symm F1.out.symm F3.out.symm
        · have hd' : decide (t.dl < v) = false := by simpa using hd
          have Hk2 : Hid (∀ j, j < k + 1 → (K j && decide (N j ≤ (tasks.getD j default).dl)) = true) := hidp (fun j hj => by
            by_cases ej : j = k
            · subst ej; rw [Hb.out, Hv.out, HT.out]; simp; omega
            · exact Hk.out j (by omega))
          cases q with
          | true =>
            have N2 : Hid (k + 1 ≤ maxLen) := hidp (by unfold maxLen; omega)
            have T2 : Hid ((k + 1) * 8 ≤ 140737488355328) := hidp (by omega)
            have ho4 := ho1.turned ((Turned.refl [] w3).alloc (.cells #[.int .i64 v] 3)) (by simp)
            have S2 := hidp (Lies.newCells' w3 [.int .i64 v] 3)
            have Z2 : Hid (w.heap.size + 1 ≤ (w3.alloc (.cells #[.int .i64 v] 3)).heap.size) := hidp (Nat.le_trans hz1 (by simp))
            have hw4 := hw1.alloc hw1.size (.cells #[.int .i64 v] 3)
            have sc4 := sc1.keep (Keeps.alloc w3 (.cells #[.int .i64 v] 3))
            have O2 := hidp (ints_one v)
            have Hfp := hidp (own_fp ho4.own)
            clear ho1 hw1 hz1 sc1
            go_wp2_with (at_builtin; refine wpList_app2 _ rfl (.tmp 46) (.tmp 48) 22 rfl (w.heap.size + 1) 3 i0 _ 1 8 Tryz.underlying22 hi0 hy0 hy1 hy2 rfl (by decide) A k c _ rfl ho4.own _ _ 1 1 [.int .i64 v] rfl (by simp) rfl S2.out O2.out N2.out T2.out Z2.out ?_; intro A' c' w6 happ)
            go_roundg (gk - 1)
            case measure => omega
            case rel => exact ⟨k + 1, c', A', true, by omega, by go_num, rfl, rfl, hidp (by rw [HQs.out, Hq.out]; rfl), Hk2, by rw [range_snoc, Hv.out]; exact ho4.app (ps := [v]) happ rfl, sc4.turned happ.turned (fun hf => by have := (Hfp.out _ hf).1; omega), hw4.trans (happ.turned.below hw4.size (fun j hj => by have := (Hfp.out _ hj).1; omega)), Nat.le_trans Z2.out happ.turned.size⟩
          | false =>
            by_cases ex : v = x
            · have ex1 : (v != x) = false := by rw [ex]; simp
              have Hex := hidp ex
              clear ex
              have N2 : Hid (k + 1 ≤ maxLen) := hidp (by unfold maxLen; omega)
              have T2 : Hid ((k + 1) * 8 ≤ 140737488355328) := hidp (by omega)
              have ho4 := ho1.turned ((Turned.refl [] w3).alloc (.cells #[.int .i64 v] 3)) (by simp)
              have S2 := hidp (Lies.newCells' w3 [.int .i64 v] 3)
              have Z2 : Hid (w.heap.size + 1 ≤ (w3.alloc (.cells #[.int .i64 v] 3)).heap.size) := hidp (Nat.le_trans hz1 (by simp))
              have hw4 := hw1.alloc hw1.size (.cells #[.int .i64 v] 3)
              have sc4 := sc1.keep (Keeps.alloc w3 (.cells #[.int .i64 v] 3))
              have O2 := hidp (ints_one v)
              have Hfp := hidp (own_fp ho4.own)
              clear ho1 hw1 hz1 sc1
              go_wp2_with (at_builtin; refine wpList_app2 _ rfl (.tmp 46) (.tmp 48) 22 rfl (w.heap.size + 1) 3 i0 _ 1 8 Tryz.underlying22 hi0 hy0 hy1 hy2 rfl (by decide) A k c _ rfl ho4.own _ _ 1 1 [.int .i64 v] rfl (by simp) rfl S2.out O2.out N2.out T2.out Z2.out ?_; intro A' c' w6 happ)
              go_roundg (gk - 1)
              case measure => omega
              case rel => exact ⟨k + 1, c', A', false, by omega, by go_num, rfl, rfl, hidp (by rw [HQs.out, Hq.out, Hv.out, Hx.out, Hex.out]; simp), Hk2, by rw [range_snoc, Hv.out]; exact ho4.app (ps := [v]) happ rfl, sc4.turned happ.turned (fun hf => by have := (Hfp.out _ hf).1; omega), hw4.trans (happ.turned.below hw4.size (fun j hj => by have := (Hfp.out _ hj).1; omega)), Nat.le_trans Z2.out happ.turned.size⟩
            · have ex1 : (v != x) = true := by simpa using ex
              have Hex := hidp ex
              clear ex
              have N2 : Hid (k + 1 ≤ maxLen) := hidp (by unfold maxLen; omega)
              have T2 : Hid ((k + 1) * 8 ≤ 140737488355328) := hidp (by omega)
              have ho4 := ho1.turned ((Turned.refl [] w3).alloc (.cells #[.int .i64 v] 3)) (by simp)
              have S2 := hidp (Lies.newCells' w3 [.int .i64 v] 3)
              have Z2 : Hid (w.heap.size + 1 ≤ (w3.alloc (.cells #[.int .i64 v] 3)).heap.size) := hidp (Nat.le_trans hz1 (by simp))
              have hw4 := hw1.alloc hw1.size (.cells #[.int .i64 v] 3)
              have sc4 := sc1.keep (Keeps.alloc w3 (.cells #[.int .i64 v] 3))
              have O2 := hidp (ints_one v)
              have Hfp := hidp (own_fp ho4.own)
              clear ho1 hw1 hz1 sc1
              go_wp2_with (at_builtin; refine wpList_app2 _ rfl (.tmp 46) (.tmp 48) 22 rfl (w.heap.size + 1) 3 i0 _ 1 8 Tryz.underlying22 hi0 hy0 hy1 hy2 rfl (by decide) A k c _ rfl ho4.own _ _ 1 1 [.int .i64 v] rfl (by simp) rfl S2.out O2.out N2.out T2.out Z2.out ?_; intro A' c' w6 happ)
              go_roundg (gk - 1)
              case measure => omega
              case rel => exact ⟨k + 1, c', A', true, by omega, by go_num, rfl, rfl, hidp (by rw [HQs.out, Hq.out, Hv.out, Hx.out]; simpa using Hex.out), Hk2, by rw [range_snoc, Hv.out]; exact ho4.app (ps := [v]) happ rfl, sc4.turned happ.turned (fun hf => by have := (Hfp.out _ hf).1; omega), hw4.trans (happ.turned.below hw4.size (fun j hj => by have := (Hfp.out _ hj).1; omega)), Nat.le_trans Z2.out happ.turned.size⟩
    · have hkn : k = bs.length := by omega
      have hkt : k = tasks.length := by rw [hkn, HBL.out]
      subst hkt
      have hkI : (tasks.length : Int) = (bs.length : Int) := by omega
      obtain ⟨f1, f2, f3⟩ := Hyes.out Hk.out
      rw [Hq.out] at f1
      have F1 := hidp f1
      have F2 := hidp f2
      have F3 := hidp f3
      have hrow := ho.ok (fun x hx => by obtain ⟨j, _, rfl⟩ := List.mem_map.1 hx; have := HNb.out j; unfold I64; omega)
      have Hr := hidp hrow
      clear f1 f2 f3 hrow
      go_wp2
      go_ret3
      exact RowT.eq ⟨A, c, by simp, Hr.out, hw⟩ F2.out.symm F1.out.symm F3.out.symm

end Go.Proofs.YtjjlpaampmpdfaaGreatDoor

namespace Go.Proofs.YtjjlpaampmpdfaaGreatDoor
open Go.ChangeShapes Go.WideShapes Go.ChangeAt Go.RowKit
set_option linter.unusedVariables false
set_option linter.unusedSimpArgs false
set_option maxHeartbeats 4000000 in
set_option maxRecDepth 100000 in
theorem rwaitsN_any (s : SetR) (bs : List Int) (ba : Option Addr) (bc : Nat) (of : Int) (w : World) (hs : SetOk w s) (hB : IntsOk w ba bc bs) : Calls Tryz.prog 33 #[.agg #[.int .i64 s.proto, .slice s.ca s.cores.length s.cc, .slice s.ha s.homes.length s.hc, .slice s.ta s.tasks.length s.tc], .slice ba bs.length bc, .int .i64 of] w (RowN w (waitsL s bs of) (waitsK s bs of)) := by
  have hb := (Below.refl w.heap.size w).alloc (Nat.le_refl _) (.cells #[.int .i64 s.proto, .slice s.ca s.cores.length s.cc, .slice s.ha s.homes.length s.hc, .slice s.ta s.tasks.length s.tc] 25)
  have sc := SetCells.new w s 25
  have H := hs.keep (Keeps.of_below hb)
  have l3 : s.tasks.length ≤ maxLen := Nat.le_trans hs.tasks.sl.2.1 hs.tasks.sl.2.2
  unfold maxLen at l3
  have l4 : bs.length ≤ maxLen := Nat.le_trans hB.sl.2.1 hB.sl.2.2
  unfold maxLen at l4
  by_cases e : thereB s of = true
  · have Hth := hidp e
    obtain ⟨ho, r1, r2⟩ := thereB_true.1 e
    obtain ⟨n, rfl⟩ : ∃ n : Nat, of = n := ⟨of.toNat, by omega⟩
    have hn : n < s.tasks.length := by omega
    have hg := Good.of ho
    obtain ⟨t, HT⟩ : ∃ t, Hid (s.tasks.getD n default = t) := ⟨_, rfl⟩
    have hm : t ∈ s.tasks := HT.out ▸ getD_mem hn
    have Tok := hs.tasks.ok t hm
    have Tg := hg.parts t hm
    obtain ⟨g, off, hA, hcl⟩ := hs.tasks.at_.resolve_left (by intro e; rw [e] at hn; simp at hn)
    have Ht5 := hidp ((HT.out ▸ hcl n hn).2.2.2.2.2)
    have hpl := Tg.len
    obtain ⟨gp, op, hP, hpc⟩ := Tok.at_.resolve_left (by intro e; rw [e] at hpl; simp at hpl)
    have Hpc := hidp hpc
    have HPA := hidp hP
    obtain ⟨parts, hparts⟩ : ∃ parts, t.parts = parts := ⟨_, rfl⟩
    have HPL := hidp hparts
    have Hpt : Hid (partsOf s n = parts) := hidp (by unfold partsOf; simp only [Int.toNat_natCast]; rw [HT.out, hparts])
    rw [hP, hparts] at Ht5
    rw [hparts] at Hpc hpl
    have TL : Hid (TaskLen w t) := hidp ⟨Tok.at_, Tg.lens, by have := Tg.len; omega⟩
    have Htc := hidp (HT.out ▸ hcl n hn)
    obtain ⟨mx, HM⟩ : ∃ m, Hid (maxL t.parts = m) := ⟨_, rfl⟩
    have HMp : Hid (0 < mx → ∃ k, k < t.parts.length ∧ (t.parts.getD k default).kind = 3) := hidp (fun h => by
      rw [← HM.out] at h; exact max_lock h)
    obtain ⟨V, HV⟩ : ∃ V : Nat → Int, Hid (∀ k : Nat, waitV s bs n k = V k) := ⟨fun k => waitV s bs n k, hidp (fun _ => rfl)⟩
    obtain ⟨K, HK⟩ : ∃ K : Nat → Bool, Hid (∀ k : Nat, waitK s bs n k = K k) := ⟨fun k => waitK s bs n k, hidp (fun _ => rfl)⟩
    have Hpa : Hid (∀ k : Nat, partAt s n k = parts.getD k default) := hidp (fun k => by unfold partAt; have := Hpt.out; unfold partsOf at this; rw [this]; simp)
    obtain ⟨PW, HPW⟩ : ∃ f : Nat → Int, Hid (pW s bs n = f) := ⟨_, hidp rfl⟩
    obtain ⟨PK, HPK⟩ : ∃ f : Nat → Bool, Hid (pK s bs n = f) := ⟨_, hidp rfl⟩
    have HPWl : Hid (∀ k, (parts.getD k default).kind = 3 → PW k = V k ∧ PK k = K k) := hidp (fun k h => by
      rw [← HPW.out, ← HPK.out]; unfold pW pK; rw [Hpa.out, if_pos h, if_pos h, HV.out, HK.out]; exact ⟨rfl, rfl⟩)
    have HPWn : Hid (∀ k, (parts.getD k default).kind ≠ 3 → PW k = 0 ∧ PK k = true) := hidp (fun k h => by
      rw [← HPW.out, ← HPK.out]; unfold pW pK; rw [Hpa.out, if_neg h, if_neg h]; exact ⟨rfl, rfl⟩)
    have HWb : Hid (∀ k, 0 ≤ PW k ∧ PW k ≤ 3000) := hidp (fun k => by rw [← HPW.out]; exact pW_bd s bs n k)
    have Hoff : Hid (∀ k, k < parts.length → PK k = false → waitsK s bs n = false ∧ waitsL s bs n = []) := hidp (fun k hk h => waits_off (by rw [Hpt.out]; exact hk) (by rw [HPK.out]; exact h))
    have Hyes : Hid ((∀ k, k < parts.length → PK k = true) → waitsK s bs n = true ∧ waitsL s bs n = (List.range parts.length).map PW) := hidp (fun h => by
      have := waits_yes (s := s) (bs := bs) (of := n) Hth.out (by rw [Hpt.out, HPK.out]; exact h)
      rw [Hpt.out, HPW.out] at this; exact this)
    obtain ⟨RL, HRL⟩ : ∃ L, Hid (waitsL s bs n = L) := ⟨_, hidp rfl⟩
    obtain ⟨RK, HRK⟩ : ∃ L, Hid (waitsK s bs n = L) := ⟨_, hidp rfl⟩
    rw [HRL.out, HRK.out] at Hoff Hyes ⊢
    have HS1 := hidp (fun u (h : Below w.heap.size w u) => hs.keep (Keeps.of_below h))
    have HB1 := hidp (fun u (h : Below w.heap.size w u) => hB.keep (Keeps.of_below h))
    obtain ⟨S, HSS⟩ : ∃ S : SetR, Hid (S = s) := ⟨s, rfl⟩
    obtain ⟨i0, hi0, hy0, hy1, hy2⟩ := info_parts infoZ
    have HMp2 : Hid (0 < mx → ∃ k, k < parts.length ∧ (parts.getD k default).kind = 3) := hidp (by rw [← Hpt.out]; unfold partsOf; simp only [Int.toNat_natCast]; rw [HT.out]; exact HMp.out)
    have Hkn : Hid (bs.length ≠ s.tasks.length → ∀ k : Nat, waitK s bs n k = false) := hidp (fun h k => by unfold waitK; rw [if_neg h])
    clear HMp
    clear hcl hm Tok Tg hpc hP hparts hg ho HT e hs hB r1
    have dn : decide (s.tasks.length ≤ n) = false := by simp; omega
    obtain ⟨proto, ca, cc, cores, ha, hc, homes, ta, tc, tasks⟩ := s
    dsimp only at hA hn l3 r2 hb sc H dn HS1 Hkn ⊢
    subst hA
    by_cases e2 : bs.length = tasks.length
    · have d1' : ((bs.length : Int) != (tasks.length : Int)) = false := by simp [e2]
      clear e2
      go_enter Tryz.func33, Tryz.ntmps33
      go_wp2_with fail
      refine (rthere_any _ _ _ H).mono ?_
      rintro e w2 ⟨rfl, hb2⟩
      replace hb := hb.trans (hb2.mono hb.size)
      replace sc := sc.keep (Keeps.of_below hb2)
      clear hb2
      try clear sc_0 sc_1 sc_2 sc_3
      have scx := sc
      obtain ⟨sc_0, sc_1, sc_2, sc_3⟩ := scx
      try dsimp only at sc_0 sc_1 sc_2 sc_3
      rw [Hth.out]
      have hz0 : w.heap.size + 1 ≤ w2.heap.size := cell_lt sc_0
      obtain ⟨d0, d1, d2, d3, d4, d5⟩ := Htc.out.keep (Keeps.of_below hb)
      go_wp2_with fail
      have tb := TaskBox.new w2 t 41
      replace hb := hb.alloc hb.size (.cells #[.string t.name, .int .i64 t.per, .int .i64 t.dl, .int .i64 t.prio, .int .i64 t.cl, .slice t.pa t.parts.length t.pc] 41)
      have hzs : w2.heap.size + 1 ≤ (w2.alloc (.cells #[.string t.name, .int .i64 t.per, .int .i64 t.dl, .int .i64 t.prio, .int .i64 t.cl, .slice t.pa t.parts.length t.pc] 41)).heap.size := by simp
      replace sc := sc.keep (Keeps.alloc w2 (.cells #[.string t.name, .int .i64 t.per, .int .i64 t.dl, .int .i64 t.prio, .int .i64 t.cl, .slice t.pa t.parts.length t.pc] 41))
      clear sc_0 sc_1 sc_2 sc_3 d0 d1 d2 d3 d4 d5
      go_loopg [8, 10] parts.length (fun gg a i wr => ∃ (k c : Nat) (A : Option Addr), k + gg = parts.length ∧ i = .int .i64 k ∧ a = .slice A k c ∧ Hid (∀ j, j < k → PK j = true) ∧ OwnN (w2.heap.size + 1) wr A k c ((List.range k).map PW) ∧ TaskBox wr w2.heap.size t ∧ SetCells wr w.heap.size ⟨proto, ca, cc, cores, ha, hc, homes, some ⟨g, off, none⟩, tc, tasks⟩ ∧ Below w.heap.size w wr ∧ w2.heap.size + 1 ≤ wr.heap.size)
      case atStart => exact ⟨0, 0, none, by omega, rfl, rfl, hidp (fun j hj => by omega), OwnN.none _ _, tb, sc, hb, hzs⟩
      case round =>
        clear tb sc hb
        obtain ⟨k, c, A, hk, rfl, rfl, Hk, ho, tb, sc, hw, hz⟩ := hrel
        obtain ⟨b0, b1, b2, b3, b4, b5⟩ := id tb
        rw [HPA.out, HPL.out] at b5
        by_cases hlt : k < parts.length
        · obtain ⟨p, HP⟩ : ∃ p, Hid (parts.getD k default = p) := ⟨_, rfl⟩
          have pcl := (HP.out ▸ Hpc.out k hlt).keep (Keeps.of_below hw)
          obtain ⟨x0, x1, x2⟩ := pcl
          have hw1 := hw
          have ho1 := ho
          have hz1 := hz
          have sc1 := sc
          obtain ⟨sc_0, sc_1, sc_2, sc_3⟩ := id sc1
          dsimp only at sc_0 sc_1 sc_2 sc_3
          have N2 : Hid (k + 1 ≤ maxLen) := hidp (by unfold maxLen; omega)
          have T2 : Hid ((k + 1) * 8 ≤ 140737488355328) := hidp (by omega)
          by_cases e : p.kind = 3
          · obtain ⟨v1, v2⟩ := HPWl.out k (by rw [HP.out]; exact e)
            have e' : (p.kind == 3) = true := by simpa using e
            obtain ⟨b, Hb⟩ : ∃ b, Hid (K k = b) := ⟨_, rfl⟩
            rw [Hb.out] at v2
            obtain ⟨v, Hv⟩ : ∃ v, Hid (PW k = v) := ⟨_, rfl⟩
            rw [Hv.out] at v1
            have Hvv := hidp v1.symm
            have Hpk := hidp v2
            clear v1 v2 e
            cases b with
            | false =>
              obtain ⟨f1, f2⟩ := Hoff.out k hlt Hpk.out
              have F1 := hidp f1
              have F2 := hidp f2
              clear f1 f2
              go_wp2_with fail
              refine (rwpart_any _ bs ba bc n k _ (HS1.out _ hw1) (HB1.out _ hw1)).mono ?_
              rintro e w3 ⟨rfl, hb3⟩
              rw [HV.out k, HK.out k, Hb.out]
              clear b0 b1 b2 b3 b4 b5
              go_wp2_with fail
              try rw [Exit.noGoto_ret]
              go_ret2
              exact RowN.eq ⟨none, 0, rfl, nil_ints _, hw1.trans (hb3.mono hw1.size), by simp [fp]⟩ F2.out.symm F1.out.symm
            | true =>
              go_wp2_with fail
              refine (rwpart_any _ bs ba bc n k _ (HS1.out _ hw1) (HB1.out _ hw1)).mono ?_
              rintro e w3 ⟨rfl, hb3⟩
              rw [HV.out k, HK.out k, Hb.out, Hvv.out]
              have hw3 := hw1.trans (hb3.mono hw1.size)
              have hown4 := ((ho1.turned (Turned.of_below hb3 []) (by simp)).turned ((Turned.refl [] w3).alloc (.cells #[.int .i64 v] 3)) (by simp))
              have S2 := hidp (Lies.newCells' w3 [.int .i64 v] 3)
              have Z2 : Hid (w2.heap.size + 1 ≤ (w3.alloc (.cells #[.int .i64 v] 3)).heap.size) := hidp (Nat.le_trans hz1 (Nat.le_trans hb3.size (by simp)))
              have sc4 := (sc1.keep (Keeps.of_below hb3)).keep (Keeps.alloc _ (.cells #[.int .i64 v] 3))
              have tb4 := (tb.keep (Keeps.of_below hb3)).keep (Keeps.alloc _ (.cells #[.int .i64 v] 3))
              have hw4 := hw3.alloc hw3.size (.cells #[.int .i64 v] 3)
              have O2 := hidp (ints_one v)
              have Hfp := hidp (own_fp hown4.own)
              clear b0 b1 b2 b3 b4 b5 x0 x1 x2 sc_0 sc_1 sc_2 sc_3
              go_wp2_with (at_builtin; refine wpList_app2 _ rfl (.tmp 65) (.tmp 67) 22 rfl (w2.heap.size + 1) 3 i0 _ 1 8 Tryz.underlying22 hi0 hy0 hy1 hy2 rfl (by decide) A k c _ rfl hown4.own _ _ 1 1 [.int .i64 v] rfl (by simp) rfl S2.out O2.out N2.out T2.out Z2.out ?_; intro A' c' w5 happ)
              go_roundg (gk - 1)
              case measure => omega
              case rel => exact ⟨k + 1, c', A', by omega, by go_num, rfl, hidp (fun j hj => by
                by_cases ej : j = k
                · subst ej; exact Hpk.out
                · exact Hk.out j (by omega)), by rw [range_snoc, Hv.out]; exact hown4.app (ps := [v]) happ rfl, tb4.turned happ.turned (fun hf => by have := (Hfp.out _ hf).1; omega), sc4.turned happ.turned (fun hf => by have := (Hfp.out _ hf).1; omega), hw4.trans (happ.turned.below hw4.size (fun j hj => by have := (Hfp.out _ hj).1; omega)), Nat.le_trans Z2.out happ.turned.size⟩
          · obtain ⟨v1, v2⟩ := HPWn.out k (by rw [HP.out]; exact e)
            have e' : (p.kind == 3) = false := by simpa using e
            have Hv := hidp v1
            have Hpk := hidp v2
            clear v1 v2 e
            have hw3 := hw1
            have hown4 := ho1.turned ((Turned.refl [] wr).alloc (.cells #[.int .i64 0] 3)) (by simp)
            have S2' := Lies.newCells' wr [.int .i64 0] 3
            have S2 := hidp S2'
            clear S2'
            have Z2 : Hid (w2.heap.size + 1 ≤ (wr.alloc (.cells #[.int .i64 0] 3)).heap.size) := hidp (Nat.le_trans hz1 (by simp))
            have sc4 := sc1.keep (Keeps.alloc _ (.cells #[.int .i64 0] 3))
            have tb4 := tb.keep (Keeps.alloc _ (.cells #[.int .i64 0] 3))
            have hw4 := hw3.alloc hw3.size (.cells #[.int .i64 0] 3)
            have O2 := hidp (ints_one 0)
            have Hfp := hidp (own_fp hown4.own)
            go_wp2_with (at_builtin; refine wpList_app2 _ rfl (.tmp 65) (.tmp 67) 22 rfl (w2.heap.size + 1) 3 i0 _ 1 8 Tryz.underlying22 hi0 hy0 hy1 hy2 rfl (by decide) A k c _ rfl hown4.own _ _ 1 1 [.int .i64 0] rfl (by simp) rfl S2.out O2.out N2.out T2.out Z2.out ?_; intro A' c' w5 happ)
            go_roundg (gk - 1)
            case measure => omega
            case rel => exact ⟨k + 1, c', A', by omega, by go_num, rfl, hidp (fun j hj => by
                by_cases ej : j = k
                · subst ej; exact Hpk.out
                · exact Hk.out j (by omega)), by rw [range_snoc, Hv.out]; exact hown4.app (ps := [0]) happ rfl, tb4.turned happ.turned (fun hf => by have := (Hfp.out _ hf).1; omega), sc4.turned happ.turned (fun hf => by have := (Hfp.out _ hf).1; omega), hw4.trans (happ.turned.below hw4.size (fun j hj => by have := (Hfp.out _ hj).1; omega)), Nat.le_trans Z2.out happ.turned.size⟩
        · obtain rfl : k = parts.length := by omega
          obtain ⟨f1, f2⟩ := Hyes.out Hk.out
          have F1 := hidp f1
          have F2 := hidp f2
          have Hfn := hidp (own_fp ho.own)
          have hrow := ho.ok (fun x hx => by obtain ⟨j, _, rfl⟩ := List.mem_map.1 hx; have := HWb.out j; unfold I64; omega)
          have Hr := hidp hrow
          clear f1 f2 hrow
          go_wp2
          try rw [Exit.noGoto_ret]
          go_ret2
          exact RowN.eq ⟨A, c, by simp, Hr.out, hw, fun k hk => by have := (Hfn.out k hk).1; omega⟩ F2.out.symm F1.out.symm
    · have d1' : ((bs.length : Int) != (tasks.length : Int)) = true := by simp; omega
      by_cases e3 : 0 < mx
      · obtain ⟨k, hk1, hk2⟩ := HMp2.out e3
        obtain ⟨v1, v2⟩ := HPWl.out k hk2
        rw [← HK.out, Hkn.out e2] at v2
        obtain ⟨f1, f2⟩ := Hoff.out k hk1 v2
        have F1 := hidp f1
        have F2 := hidp f2
        clear f1 f2 v1 v2 hk1 hk2 e2
        go_enter Tryz.func33, Tryz.ntmps33
        go_wp2_with fail
        refine (rthere_any _ _ _ H).mono ?_
        rintro e w2 ⟨rfl, hb2⟩
        replace hb := hb.trans (hb2.mono hb.size)
        replace sc := sc.keep (Keeps.of_below hb2)
        clear hb2
        try clear sc_0 sc_1 sc_2 sc_3
        have scx := sc
        obtain ⟨sc_0, sc_1, sc_2, sc_3⟩ := scx
        try dsimp only at sc_0 sc_1 sc_2 sc_3
        rw [Hth.out]
        obtain ⟨d0, d1, d2, d3, d4, d5⟩ := Htc.out.keep (Keeps.of_below hb)
        go_wp2_with fail
        refine (rlongest_any t _ (TL.out.keep (Keeps.of_below hb))).mono ?_
        rintro e w3 ⟨rfl, hb2⟩
        replace hb := hb.trans (hb2.mono hb.size)
        clear hb2
        rw [HM.out]
        go_wp2_with fail
        go_ret2
        exact RowN.eq ⟨none, 0, rfl, nil_ints _, hb, by simp [fp]⟩ F2.out.symm F1.out.symm
      · clear e2
        go_enter Tryz.func33, Tryz.ntmps33
        go_wp2_with fail
        refine (rthere_any _ _ _ H).mono ?_
        rintro e w2 ⟨rfl, hb2⟩
        replace hb := hb.trans (hb2.mono hb.size)
        replace sc := sc.keep (Keeps.of_below hb2)
        clear hb2
        try clear sc_0 sc_1 sc_2 sc_3
        have scx := sc
        obtain ⟨sc_0, sc_1, sc_2, sc_3⟩ := scx
        try dsimp only at sc_0 sc_1 sc_2 sc_3
        rw [Hth.out]
        have hz0 : w.heap.size + 1 ≤ w2.heap.size := cell_lt sc_0
        obtain ⟨d0, d1, d2, d3, d4, d5⟩ := Htc.out.keep (Keeps.of_below hb)
        go_wp2_with fail
        refine (rlongest_any t _ (TL.out.keep (Keeps.of_below hb))).mono ?_
        rintro e w9 ⟨rfl, hb2⟩
        replace hb := hb.trans (hb2.mono hb.size)
        replace sc := sc.keep (Keeps.of_below hb2)
        clear hb2
        try clear sc_0 sc_1 sc_2 sc_3
        have scx := sc
        obtain ⟨sc_0, sc_1, sc_2, sc_3⟩ := scx
        try dsimp only at sc_0 sc_1 sc_2 sc_3
        rw [HM.out]
        clear d0 d1 d2 d3 d4 d5
        obtain ⟨d0, d1, d2, d3, d4, d5⟩ := Htc.out.keep (Keeps.of_below hb)
        have hz0 : w.heap.size + 1 ≤ w9.heap.size := cell_lt sc_0
        go_wp2_with fail
        have tb := TaskBox.new w9 t 41
        replace hb := hb.alloc hb.size (.cells #[.string t.name, .int .i64 t.per, .int .i64 t.dl, .int .i64 t.prio, .int .i64 t.cl, .slice t.pa t.parts.length t.pc] 41)
        have hzs : w9.heap.size + 1 ≤ (w9.alloc (.cells #[.string t.name, .int .i64 t.per, .int .i64 t.dl, .int .i64 t.prio, .int .i64 t.cl, .slice t.pa t.parts.length t.pc] 41)).heap.size := by simp
        replace sc := sc.keep (Keeps.alloc w9 (.cells #[.string t.name, .int .i64 t.per, .int .i64 t.dl, .int .i64 t.prio, .int .i64 t.cl, .slice t.pa t.parts.length t.pc] 41))
        clear sc_0 sc_1 sc_2 sc_3 d0 d1 d2 d3 d4 d5
        go_loopg [8, 10] parts.length (fun gg a i wr => ∃ (k c : Nat) (A : Option Addr), k + gg = parts.length ∧ i = .int .i64 k ∧ a = .slice A k c ∧ Hid (∀ j, j < k → PK j = true) ∧ OwnN (w9.heap.size + 1) wr A k c ((List.range k).map PW) ∧ TaskBox wr w9.heap.size t ∧ SetCells wr w.heap.size ⟨proto, ca, cc, cores, ha, hc, homes, some ⟨g, off, none⟩, tc, tasks⟩ ∧ Below w.heap.size w wr ∧ w9.heap.size + 1 ≤ wr.heap.size)
        case atStart => exact ⟨0, 0, none, by omega, rfl, rfl, hidp (fun j hj => by omega), OwnN.none _ _, tb, sc, hb, hzs⟩
        case round =>
          clear tb sc hb
          obtain ⟨k, c, A, hk, rfl, rfl, Hk, ho, tb, sc, hw, hz⟩ := hrel
          obtain ⟨b0, b1, b2, b3, b4, b5⟩ := id tb
          rw [HPA.out, HPL.out] at b5
          by_cases hlt : k < parts.length
          · obtain ⟨p, HP⟩ : ∃ p, Hid (parts.getD k default = p) := ⟨_, rfl⟩
            have pcl := (HP.out ▸ Hpc.out k hlt).keep (Keeps.of_below hw)
            obtain ⟨x0, x1, x2⟩ := pcl
            have hw1 := hw
            have ho1 := ho
            have hz1 := hz
            have sc1 := sc
            obtain ⟨sc_0, sc_1, sc_2, sc_3⟩ := id sc1
            dsimp only at sc_0 sc_1 sc_2 sc_3
            have N2 : Hid (k + 1 ≤ maxLen) := hidp (by unfold maxLen; omega)
            have T2 : Hid ((k + 1) * 8 ≤ 140737488355328) := hidp (by omega)
            by_cases e : p.kind = 3
            · obtain ⟨v1, v2⟩ := HPWl.out k (by rw [HP.out]; exact e)
              have e' : (p.kind == 3) = true := by simpa using e
              obtain ⟨b, Hb⟩ : ∃ b, Hid (K k = b) := ⟨_, rfl⟩
              rw [Hb.out] at v2
              obtain ⟨v, Hv⟩ : ∃ v, Hid (PW k = v) := ⟨_, rfl⟩
              rw [Hv.out] at v1
              have Hvv := hidp v1.symm
              have Hpk := hidp v2
              clear v1 v2 e
              cases b with
              | false =>
                obtain ⟨f1, f2⟩ := Hoff.out k hlt Hpk.out
                have F1 := hidp f1
                have F2 := hidp f2
                clear f1 f2
                go_wp2_with fail
                refine (rwpart_any _ bs ba bc n k _ (HS1.out _ hw1) (HB1.out _ hw1)).mono ?_
                rintro e w3 ⟨rfl, hb3⟩
                rw [HV.out k, HK.out k, Hb.out]
                clear b0 b1 b2 b3 b4 b5
                go_wp2_with fail
                try rw [Exit.noGoto_ret]
                go_ret2
                exact RowN.eq ⟨none, 0, rfl, nil_ints _, hw1.trans (hb3.mono hw1.size), by simp [fp]⟩ F2.out.symm F1.out.symm
              | true =>
                go_wp2_with fail
                refine (rwpart_any _ bs ba bc n k _ (HS1.out _ hw1) (HB1.out _ hw1)).mono ?_
                rintro e w3 ⟨rfl, hb3⟩
                rw [HV.out k, HK.out k, Hb.out, Hvv.out]
                have hw3 := hw1.trans (hb3.mono hw1.size)
                have hown4 := ((ho1.turned (Turned.of_below hb3 []) (by simp)).turned ((Turned.refl [] w3).alloc (.cells #[.int .i64 v] 3)) (by simp))
                have S2 := hidp (Lies.newCells' w3 [.int .i64 v] 3)
                have Z2 : Hid (w9.heap.size + 1 ≤ (w3.alloc (.cells #[.int .i64 v] 3)).heap.size) := hidp (Nat.le_trans hz1 (Nat.le_trans hb3.size (by simp)))
                have sc4 := (sc1.keep (Keeps.of_below hb3)).keep (Keeps.alloc _ (.cells #[.int .i64 v] 3))
                have tb4 := (tb.keep (Keeps.of_below hb3)).keep (Keeps.alloc _ (.cells #[.int .i64 v] 3))
                have hw4 := hw3.alloc hw3.size (.cells #[.int .i64 v] 3)
                have O2 := hidp (ints_one v)
                have Hfp := hidp (own_fp hown4.own)
                clear b0 b1 b2 b3 b4 b5 x0 x1 x2 sc_0 sc_1 sc_2 sc_3
                go_wp2_with (at_builtin; refine wpList_app2 _ rfl (.tmp 65) (.tmp 67) 22 rfl (w9.heap.size + 1) 3 i0 _ 1 8 Tryz.underlying22 hi0 hy0 hy1 hy2 rfl (by decide) A k c _ rfl hown4.own _ _ 1 1 [.int .i64 v] rfl (by simp) rfl S2.out O2.out N2.out T2.out Z2.out ?_; intro A' c' w5 happ)
                go_roundg (gk - 1)
                case measure => omega
                case rel => exact ⟨k + 1, c', A', by omega, by go_num, rfl, hidp (fun j hj => by
                  by_cases ej : j = k
                  · subst ej; exact Hpk.out
                  · exact Hk.out j (by omega)), by rw [range_snoc, Hv.out]; exact hown4.app (ps := [v]) happ rfl, tb4.turned happ.turned (fun hf => by have := (Hfp.out _ hf).1; omega), sc4.turned happ.turned (fun hf => by have := (Hfp.out _ hf).1; omega), hw4.trans (happ.turned.below hw4.size (fun j hj => by have := (Hfp.out _ hj).1; omega)), Nat.le_trans Z2.out happ.turned.size⟩
            · obtain ⟨v1, v2⟩ := HPWn.out k (by rw [HP.out]; exact e)
              have e' : (p.kind == 3) = false := by simpa using e
              have Hv := hidp v1
              have Hpk := hidp v2
              clear v1 v2 e
              have hw3 := hw1
              have hown4 := ho1.turned ((Turned.refl [] wr).alloc (.cells #[.int .i64 0] 3)) (by simp)
              have S2' := Lies.newCells' wr [.int .i64 0] 3
              have S2 := hidp S2'
              clear S2'
              have Z2 : Hid (w9.heap.size + 1 ≤ (wr.alloc (.cells #[.int .i64 0] 3)).heap.size) := hidp (Nat.le_trans hz1 (by simp))
              have sc4 := sc1.keep (Keeps.alloc _ (.cells #[.int .i64 0] 3))
              have tb4 := tb.keep (Keeps.alloc _ (.cells #[.int .i64 0] 3))
              have hw4 := hw3.alloc hw3.size (.cells #[.int .i64 0] 3)
              have O2 := hidp (ints_one 0)
              have Hfp := hidp (own_fp hown4.own)
              go_wp2_with (at_builtin; refine wpList_app2 _ rfl (.tmp 65) (.tmp 67) 22 rfl (w9.heap.size + 1) 3 i0 _ 1 8 Tryz.underlying22 hi0 hy0 hy1 hy2 rfl (by decide) A k c _ rfl hown4.own _ _ 1 1 [.int .i64 0] rfl (by simp) rfl S2.out O2.out N2.out T2.out Z2.out ?_; intro A' c' w5 happ)
              go_roundg (gk - 1)
              case measure => omega
              case rel => exact ⟨k + 1, c', A', by omega, by go_num, rfl, hidp (fun j hj => by
                  by_cases ej : j = k
                  · subst ej; exact Hpk.out
                  · exact Hk.out j (by omega)), by rw [range_snoc, Hv.out]; exact hown4.app (ps := [0]) happ rfl, tb4.turned happ.turned (fun hf => by have := (Hfp.out _ hf).1; omega), sc4.turned happ.turned (fun hf => by have := (Hfp.out _ hf).1; omega), hw4.trans (happ.turned.below hw4.size (fun j hj => by have := (Hfp.out _ hj).1; omega)), Nat.le_trans Z2.out happ.turned.size⟩
          · obtain rfl : k = parts.length := by omega
            obtain ⟨f1, f2⟩ := Hyes.out Hk.out
            have F1 := hidp f1
            have F2 := hidp f2
            have Hfn := hidp (own_fp ho.own)
            have hrow := ho.ok (fun x hx => by obtain ⟨j, _, rfl⟩ := List.mem_map.1 hx; have := HWb.out j; unfold I64; omega)
            have Hr := hidp hrow
            clear f1 f2 hrow
            go_wp2
            try rw [Exit.noGoto_ret]
            go_ret2
            exact RowN.eq ⟨A, c, by simp, Hr.out, hw, fun k hk => by have := (Hfn.out k hk).1; omega⟩ F2.out.symm F1.out.symm
  · have e : thereB s of = false := by simpa using e
    obtain ⟨k1, k2⟩ := waits_no (bs := bs) e
    have Hth := hidp e
    have F1 := hidp k1
    have F2 := hidp k2
    clear e k1 k2 hs hB
    go_enter Tryz.func33, Tryz.ntmps33
    go_wp2_with fail
    refine (rthere_any _ _ _ H).mono ?_
    rintro e w2 ⟨rfl, hb2⟩
    replace hb := hb.trans (hb2.mono hb.size)
    replace sc := sc.keep (Keeps.of_below hb2)
    clear hb2
    rw [Hth.out]
    go_wp2
    go_ret2
    exact RowN.eq ⟨none, 0, rfl, nil_ints _, hb, by simp [fp]⟩ F2.out.symm F1.out.symm

end Go.Proofs.YtjjlpaampmpdfaaGreatDoor
