/- swingbridgeref2: Top, Sum of rows of numbers (without the rows of items). -/
import Derived.Test.YtindcpgmfdkpcaaGreatSumTop
import Derived.IntWalk
import Derived.Test.YtindcpgmfdkpcaaGreatOwnP
import Derived.Deep.RegionLaw
namespace Go.Proofs.YtindcpgmfdkpcaaGreat
open Go.ChangeShapes Go.WideShapes Go.ChangeAt Go.RowKit
set_option linter.unusedVariables false
def OwnInts (B : Nat) (w : World) (A : Option Addr) (n c : Nat) (zs : List Int) : Prop := w.ownsRow B 3 1 (.slice A n c) n (zs.map (Value.int .i64)) ∧ n = zs.length ∧ n ≤ c ∧ c ≤ maxLen ∧ (A = none → n = 0 ∧ c = 0)
/-- a slice of numbers somewhere, that is only read -/
structure Rd (w : World) (A : Option Addr) (n c : Nat) (zs : List Int) : Prop where
  row : Lies w.heap.size w A (zs.map (Value.int .i64))
  len : n = zs.length
  cap : zs.length ≤ c ∧ c ≤ maxLen
  nil : A = none → zs = [] ∧ c = 0
  fit : ∀ n ∈ zs, I64 n
  fps : ∀ k ∈ fp A, k < w.heap.size
  spot : ∀ a, A = some a → a.spot = none
section
variable {w w' : World} {A : Option Addr} {n c : Nat} {zs : List Int} {F : List Nat}
theorem Rd.turned (h : Rd w A n c zs) (ht : Turned F w w') (hF : ∀ k ∈ fp A, k ∉ F) : Rd w' A n c zs :=
  ⟨(h.row.turned ht hF).mono ht.size, h.len, h.cap, h.nil, h.fit, fun k hk => Nat.lt_of_lt_of_le (h.fps k hk) ht.size, h.spot⟩
theorem Rd.r (h : Rd w A n c zs) : Row w .i64 A zs := h.row.row
theorem Rd.of_own {B : Nat} (h : OwnInts B w A n c zs) (hf : ∀ n ∈ zs, I64 n) : Rd w A n c zs := by
  obtain ⟨h1, rfl, h2, h3, h4⟩ := h
  refine ⟨Lies.of_own h1, rfl, ⟨h2, h3⟩, fun e => ⟨List.eq_nil_of_length_eq_zero (h4 e).1, (h4 e).2⟩, hf, fun k hk => (own_fp h1 k hk).2, fun a ha => ?_⟩
  subst ha
  rcases h1.2 with ⟨hv, _⟩ | ⟨g, cap, cur, hv, _⟩
  · cases hv
  · injection hv with e; injection e with e; rw [e]
theorem Rd.one (h : ∀ u ∈ zs.map (Value.int .i64), True) : ∀ u ∈ zs.map (Value.int .i64), u.oneCell' = true := fun u hu => by obtain ⟨n, _, rfl⟩ := List.mem_map.1 hu; rfl
/-- what s[k:] is -/
theorem Rd.cut {g off : Nat} (h : Rd w (some ⟨g, off, none⟩) n c zs) (k : Nat) (hk : k ≤ zs.length) :
    Rd w (if c = k then some ⟨g, off, none⟩ else some ⟨g, off + k, none⟩) (n - k) (c - k) (zs.drop k) := by
  have hl := h.len
  have hc := h.cap
  subst hl
  refine ⟨?_, by simp, by simp; omega, (fun e => by split at e <;> cases e), fun n hn => h.fit n (List.mem_of_mem_drop hn), ?_, ?_⟩
  · rw [List.map_drop]
    by_cases e : c = k
    · rw [if_pos e, List.drop_eq_nil_of_le (by simp; omega)]; exact .inl rfl
    · rw [if_neg e]; exact h.row.drop k
  · intro i hi
    refine h.fps i ?_
    split at hi <;> simpa [fp] using hi
  · intro a ha
    split at ha <;> (injection ha with ha; subst ha; rfl)
end

theorem new_ne {w : World} {b : Nat} {T : TypeId} {cs : Array Value} (hb : Bk w b T cs) {A : Option Addr} (h : ∀ k ∈ fp A, k ∈ fp none ∨ w.heap.size ≤ k) : b ∉ fp A := fun hk => by
  rcases h b hk with h1 | h1
  · simp [fp] at h1
  · have := hb.lt; omega
theorem top_step {zs ls : List Int} {q a : Nat} {x : Int} (hp : ls.Perm ((desc zs).drop q)) (ha : a < ls.length) (hx : ls.getD a 0 = x) (hmax : ∀ t, t < ls.length → ls.getD t 0 ≤ x) :
    (desc zs).take (q + 1) = (desc zs).take q ++ [x] ∧ (ls.eraseIdx a).Perm ((desc zs).drop (q + 1)) := by
  have hq : q < (desc zs).length := by have := hp.length_eq; simp at this; omega
  have hd := List.drop_eq_getElem_cons hq
  have hxa : ls[a] = x := by simpa [List.getD, ha] using hx
  have hs : ((desc zs).drop q).Pairwise fun a b => b ≤ a := (desc_srt zs).sublist (List.drop_sublist _ _)
  rw [hd] at hs hp
  have e : (desc zs)[q] = x := by
    have h1 : x ∈ (desc zs)[q] :: (desc zs).drop (q + 1) := hp.mem_iff.1 (hxa ▸ List.getElem_mem ha)
    have h2 : x ≤ (desc zs)[q] := by
      rcases List.mem_cons.1 h1 with h | h
      · omega
      · exact (List.pairwise_cons.1 hs).1 x h
    obtain ⟨t, ht, e2⟩ := List.mem_iff_getElem.1 (hp.mem_iff.2 (List.mem_cons_self ..))
    have h3 := hmax t ht
    simp [List.getD, ht, e2] at h3
    omega
  refine ⟨by rw [List.take_succ_eq_append_getElem hq, e], ?_⟩
  have h5 : (x :: ls.eraseIdx a).Perm ls := by
    have h6 : ls = ls.take a ++ x :: ls.drop (a + 1) := by rw [← hxa, ← List.drop_eq_getElem_cons ha, List.take_append_drop]
    rw [List.eraseIdx_eq_take_drop_succ]
    exact List.perm_middle.symm.trans (by rw [← h6])
  rw [e] at hp
  exact (h5.trans hp).cons_inv
theorem OwnInts.turned {B : Nat} {w w' : World} {A : Option Addr} {n c : Nat} {zs : List Int} {F : List Nat} (h : OwnInts B w A n c zs) (ht : Turned F w w') (hF : ∀ k ∈ fp A, k ∉ F) : OwnInts B w' A n c zs := ⟨own_turned h.1 ht hF, h.2⟩
theorem OwnInts.row {B : Nat} {w : World} {A : Option Addr} {n c : Nat} {zs : List Int} (h : OwnInts B w A n c zs) : Row w .i64 A zs := Lies.row (B := w.heap.size) (Lies.of_own h.1)

set_option maxHeartbeats 2000000
theorem rtop_any {w : World} {A : Option Addr} {n c : Nat} {zs : List Int} {k : Int} (hr : Row w .i64 A zs) (hn : n = zs.length) (hnil : A = none → n = 0 ∧ c = 0) (hl : n ≤ 800) (hk : I64 k) (hf : ∀ n ∈ zs, I64 n) :
    Calls Tryz.prog 77 #[.slice A n c, .int .i64 k] w (TopPost w (clampN k n) (tops zs k)) := by
  have Hn := hidp hn
  clear hn
  have H1 := hidp hnil
  have H2 : Hid ((zs.map (Value.int .i64)).length = n * 1) := hidp (by simp [Hn.out])
  have H3 := hidp hr.lies
  have H4 : Hid (∀ u ∈ zs.map (Value.int .i64), u.oneCell' = true) := hidp fun u hu => by obtain ⟨n, _, rfl⟩ := List.mem_map.1 hu; rfl
  have H5 : Hid (0 + n ≤ maxLen) := hidp (by unfold maxLen; omega)
  have H6 : Hid ((0 + n) * 8 ≤ 140737488355328) := hidp (by omega)
  obtain ⟨i0, hi0, hz0, hz1, hz2⟩ := info_parts infoI64
  obtain ⟨m, Hm⟩ : ∃ m, Hid (clampN k n = m) := ⟨_, rfl⟩
  have hmn : m ≤ n := Hm.out ▸ clampN_le k n
  have hcl : (m : Int) = max 0 (min k (n : Int)) := by have := Hm.out; unfold clampN at this; omega
  have Hcl := hidp hcl
  clear hcl
  rw [Hm.out]
  have Htop : Hid (tops zs k = (desc zs).take m) := hidp (by unfold tops; rw [← Hn.out, Hm.out])
  have Hf := hidp hf
  clear hnil hr hf
  go_enter Tryz.func77, Tryz.ntmps77
  go_wp2_with (at_builtin; refine wpList_app2 _ rfl (.const (.slice none 0 0)) (.tmp 9) 22 rfl w.heap.size 3 i0 (.int .i64 0) 1 8 Tryz.underlying22 hi0 hz0 hz1 hz2 rfl (by decide) none 0 0 [] rfl (World.ownsRow_nil _ _ _ _) w.heap.size A n c (zs.map (Value.int .i64)) rfl H1.out H2.out H3.out H4.out H5.out H6.out (Nat.le_refl _) ?_; intro A1 c1 w1 happ; simp only [Nat.zero_add, List.nil_append] at happ)
  have o1 : OwnInts w.heap.size w1 A1 n c1 zs := ⟨happ.own, Hn.out, happ.cap.1, happ.cap.2, happ.nil⟩
  have hb1 : Below w.heap.size w w1 := happ.turned.below (Nat.le_refl _) (by simp [fp])
  go_loopg [5, 6] m (fun g l o wr => ∃ (q p : Nat) (L O : Option Addr) (lc oc : Nat) (ls : List Int), q + g = m ∧ p + q = n ∧ l = .slice L p lc ∧ o = .slice O q oc ∧ OwnInts w.heap.size wr L p lc ls ∧ OwnInts w.heap.size wr O q oc ((desc zs).take q) ∧ Hid (ls.Perm ((desc zs).drop q)) ∧ (∀ i ∈ fp L, i ∉ fp O) ∧ Below w.heap.size w wr)
  case atStart => exact ⟨0, n, A1, none, c1, 0, zs, by omega, rfl, rfl, rfl, o1, ⟨World.ownsRow_nil _ _ _ _, rfl, Nat.le_refl _, Nat.zero_le _, fun _ => ⟨rfl, rfl⟩⟩, hidp (desc_perm zs).symm, by simp [fp], hb1⟩
  case round =>
    obtain ⟨q, p, L, O, lc, oc, ls, hq, hp, rfl, rfl, oL, oO, hpm, hdis, hbe⟩ := hrel
    clear o1 happ hb1
    have HLs := hidp oL.2.1
    by_cases hlt : q < m
    · have hqk : (q : Int) < k := by have := Hcl.out; omega
      have hp0 : (0 : Int) < (p : Int) := by omega
      have hp1 : 0 < p := by omega
      have hpl : 0 < ls.length := by rw [← HLs.out]; exact hp1
      have HR := hidp oL.row
      obtain ⟨g, off, rfl, hcel⟩ := HR.out.resolve_left (by intro e; rw [e] at hpl; simp at hpl)
      have Hcel := hidp hcel
      clear hcel
      go_wp2_with fail
      go_loopg [7, 8] p (fun g at_ i wr2 => ∃ a j : Nat, j + g = p + 1 ∧ 1 ≤ j ∧ a < p ∧ at_ = .int .i64 a ∧ i = .int .i64 j ∧ Hid (∀ t, t < j → t < p → ls.getD t 0 ≤ ls.getD a 0) ∧ Qt wr wr2)
      case atStart => exact ⟨0, 1, by omega, by omega, hp1, rfl, rfl, hidp (fun t h1 _ => (by have h : t = 0 := (by omega); subst h; exact Int.le_refl _)), Qt.refl _⟩
      case round =>
        obtain ⟨a, j, hj, hj1, hap, rfl, rfl, HM, hq2⟩ := hrel
        obtain ⟨x, HX⟩ : ∃ x, Hid (ls.getD a 0 = x) := ⟨_, rfl⟩
        have cx := hq2.cell (HX.out ▸ Hcel.out a (by rw [← HLs.out]; exact hap))
        by_cases hjp : j < p
        · obtain ⟨y, HY⟩ : ∃ y, Hid (ls.getD j 0 = y) := ⟨_, rfl⟩
          have cy := hq2.cell (HY.out ▸ Hcel.out j (by rw [← HLs.out]; exact hjp))
          by_cases hxy : x < y
          · go_wp2_with fail
            go_quiet (fail)
            go_wp2_with fail
            go_roundg (p - j)
            case measure => omega
            case rel => exact ⟨j, j + 1, by omega, by omega, hjp, rfl, by go_num, hidp (fun t h1 h2 => by
              by_cases e : t = j
              · subst e; exact Int.le_refl _
              · have := HM.out t (by omega) h2; rw [HX.out] at this; rw [HY.out]; omega), hq2.add _⟩
          · have hd : decide (x < y) = false := by simpa using hxy
            go_wp2_with fail
            go_quiet (fail)
            go_wp2_with fail
            go_roundg (p - j)
            case measure => omega
            case rel => exact ⟨a, j + 1, by omega, by omega, hap, rfl, by go_num, hidp (fun t h1 h2 => by
              by_cases e : t = j
              · subst e; rw [HX.out, HY.out]; omega
              · exact HM.out t (by omega) h2), hq2.add _⟩
        · have hx := HX.out
          have hstep := top_step hpm.out (by rw [← HLs.out]; exact hap) HX.out (fun t ht => by have := HM.out t (by have := HLs.out; omega) (by rw [HLs.out]; exact ht); rw [HX.out] at this; exact this)
          have Hstep := hidp hstep
          have hfl := hidp (fun n (hn : n ∈ ls) => Hf.out n ((desc_perm zs).mem_iff.1 (List.mem_of_mem_drop (hpm.out.mem_iff.1 hn))))
          clear hstep hx
          have oL2 := oL.turned (hq2.turned []) (by simp)
          have oO2 := oO.turned (hq2.turned []) (by simp)
          have hbe2 := hq2.below hbe
          have hownO := World.ownsRow.alloc (w := wr) oO2.1 (.cells #[.int .i64 x] 3)
          have S0 := hidp (Lies.newCells' wr [Value.int .i64 x] 3)
          have Z0 : Hid (w.heap.size ≤ (wr.alloc (.cells #[.int .i64 x] 3)).heap.size) := hidp (Nat.le_trans hbe2.size (by simp))
          have O0 : Hid (∀ u ∈ [Value.int .i64 x], u.oneCell' = true) := hidp (by simp [Value.oneCell'])
          have N0 : Hid (q + 1 ≤ maxLen) := hidp (by unfold maxLen; omega)
          have T0 : Hid ((q + 1) * 8 ≤ 140737488355328) := hidp (by omega)
          go_wp2_with (at_builtin; go_loud (refine wpList_app2 _ rfl (.tmp 36) (.tmp 41) 22 rfl w.heap.size 3 i0 (.int .i64 0) 1 8 Tryz.underlying22 hi0 hz0 hz1 hz2 rfl (by decide) O q oc _ rfl hownO _ _ 1 1 [Value.int .i64 x] rfl (by simp) rfl S0.out O0.out N0.out T0.out Z0.out ?_); intro O3 oc3 w2 happ)
          have T1 : Turned [] wr (wr.alloc (.cells #[.int .i64 x] 3)) := (Turned.refl _ _).alloc _
          have oL3 := (oL2.turned T1 (by simp)).turned happ.turned hdis
          have oO3 : OwnInts w.heap.size w2 O3 (q + 1) oc3 ((desc zs).take (q + 1)) := ⟨by rw [Hstep.out.1, List.map_append]; exact happ.own, by rw [Hstep.out.1, List.length_append, ← oO.2.1]; rfl, happ.cap.1, happ.cap.2, happ.nil⟩
          have hbe3 : Below w.heap.size w w2 := (hbe2.alloc hbe2.size _).trans (happ.turned.below Z0.out (fun i hi => (own_fp hownO i hi).1))
          have h := Rd.of_own oL3 hfl.out
          clear oL oL2 oO oO2 hownO S0 Z0 O0 N0 T0 T1 happ cx hq2 hbe2
          have hcap := h.cap
          have hlc := oL3.2.2.1
          have hmx := hcap.2
          unfold maxLen at hmx
          have hcut := h.cut (a + 1) (by rw [← HLs.out]; omega)
          have hlies := h.row
          obtain ⟨C1, hC1, Hcut⟩ : ∃ C1, (if lc = a + 1 then some (⟨g, off, none⟩ : Addr) else some ⟨g, off + (a + 1), none⟩) = C1 ∧ Hid (Rd w2 C1 (p - (a + 1)) (lc - (a + 1)) (ls.drop (a + 1))) := ⟨_, rfl, hidp hcut⟩
          clear hcut
          have S1 := hidp (hlies.take a).drew
          have L1 : Hid (((ls.map (Value.int .i64)).take a).length = a * 1) := hidp (by simp; have := HLs.out; omega)
          have O1 : Hid (∀ u ∈ (ls.map (Value.int .i64)).take a, u.oneCell' = true) := hidp fun u hu => by obtain ⟨n, _, rfl⟩ := List.mem_map.1 (List.mem_of_mem_take hu); rfl
          have M1 : Hid (0 + a ≤ maxLen) := hidp (by unfold maxLen; omega)
          have N1 : Hid ((0 + a) * 8 ≤ 140737488355328) := hidp (by omega)
          have S2 := hidp Hcut.out.row.drew
          have hwr : IntKind.i64.wrap ((a : Int) + 1) = (a : Int) + 1 := IntWalk.i64_in _ (by omega)
          have hw0 : (0 : Int) ≤ (a : Int) + 1 := by omega
          have hw1 : ((a : Int) + 1).toNat = a + 1 := by omega
          have hw2 : (a : Int) + 1 ≤ (p : Int) := by omega
          have P2 : Hid (C1 = none → p - (a + 1) = 0 ∧ lc - (a + 1) = 0) := hidp fun e => ⟨by have := (Hcut.out.nil e).1; have h2 := congrArg List.length this; have := HLs.out; simp at h2; omega, (Hcut.out.nil e).2⟩
          have L2 : Hid (((ls.drop (a + 1)).map (Value.int .i64)).length = (p - (a + 1)) * 1) := hidp (by simp; have := HLs.out; omega)
          have O2 : Hid (∀ u ∈ (ls.drop (a + 1)).map (Value.int .i64), u.oneCell' = true) := hidp fun u hu => by obtain ⟨n, _, rfl⟩ := List.mem_map.1 hu; rfl
          have M2 : Hid (a + (p - (a + 1)) ≤ maxLen) := hidp (by unfold maxLen; omega)
          have N2 : Hid ((a + (p - (a + 1))) * 8 ≤ 140737488355328) := hidp (by omega)
          have hn0 := World.ownsRow_nil w2.drew w.heap.size 3 1
          have hkc : a ≤ lc := by omega
          have hkc1 : a + 1 ≤ lc := by omega
          have hkn : a + 1 ≤ p := by omega
          have Z1 : Hid (w.heap.size ≤ w2.drew.heap.size) := hidp hbe3.size
          have hfin : Hid (ls.eraseIdx a = ls.take a ++ ls.drop (a + 1)) := hidp (List.eraseIdx_eq_take_drop_succ ..)
          clear h hlies
          go_region_law (first | ((with_reducible refine step_app2 _ rfl (.const (.slice none 0 0)) (.tmp 45) 22 rfl w.heap.size 3 i0 (.int .i64 0) 1 8 Tryz.underlying22 hi0 hz0 hz1 hz2 rfl (by decide) none 0 0 [] (by simp [Act.eval]) hn0 _ _ a lc _ ?_ (by simp) L1.out S1.out O1.out M1.out N1.out Z1.out ?_); (simp [Act.eval, Act.put]); intro B1 k1 w3 happ; simp only [Nat.zero_add, List.nil_append] at happ; have S3 := hidp (S2.out.turned (w' := w3) happ.turned (by simp [fp])); have Sz : Hid (w.heap.size ≤ w3.heap.size) := hidp (Nat.le_trans Z1.out happ.turned.size)) | ((with_reducible refine step_app2 _ rfl (.tmp 46) (.tmp 50) 22 rfl w.heap.size 3 i0 (.int .i64 0) 1 8 Tryz.underlying22 hi0 hz0 hz1 hz2 rfl (by decide) B1 a k1 _ ?_ happ.own _ _ (p - (a + 1)) (lc - (a + 1)) _ ?_ P2.out L2.out S3.out O2.out M2.out N2.out Sz.out ?_); (simp [Act.eval]); (simp [Act.eval]); intro B2 k2 w4 happ2))
          all_goals
            go_wp2
            go_roundg (m - q - 1)
            case measure => omega
            case rel =>
              have hB1 : ∀ i ∈ fp B1, w2.heap.size ≤ i := fun i hi => (happ.fps i hi).elim (fun h => by simp [fp] at h) (fun h => by simpa using h)
              have hB2 : ∀ i ∈ fp B2, w2.heap.size ≤ i := fun i hi => (happ2.fps i hi).elim (hB1 i) (fun h => by have := happ.turned.size; simp at this; omega)
              have hO3 : ∀ i ∈ fp O3, i < w2.heap.size := fun i hi => (own_fp oO3.1 i hi).2
              refine ⟨q + 1, a + (p - (a + 1)), B2, O3, k2, oc3, ls.eraseIdx a, by omega, by omega, rfl, rfl, ⟨?_, ?_, happ2.cap.1, happ2.cap.2, happ2.nil⟩, ?_, hidp Hstep.out.2, fun i h1 h2 => ?_, ?_⟩
              · rw [hfin.out]; simpa using happ2.own
              · rw [hfin.out]; simp; have := HLs.out; omega
              · exact ((oO3.turned (Turned.refl [] w2).drew (by simp)).turned happ.turned (by simp [fp])).turned happ2.turned (fun i h1 h2 => by have := hB1 i h2; have := hO3 i h1; omega)
              · have := hB2 i h1; have := hO3 i h2; omega
              · exact (hbe3.drew.trans (happ.turned.below Z1.out (by simp [fp]))).trans (happ2.turned.below Sz.out (fun i hi => by have := hB1 i hi; have := hbe3.size; omega))
    · obtain rfl : q = m := by omega
      by_cases hqk : (q : Int) < k
      · obtain rfl : p = 0 := by have := Hcl.out; omega
        go_wp2_with fail
        go_ret
        exact ⟨O, oc, rfl, by rw [Htop.out]; exact oO.row, hbe⟩
      · have hd : decide ((q : Int) < k) = false := by simpa using hqk
        go_wp2_with fail
        go_ret
        exact ⟨O, oc, rfl, by rw [Htop.out]; exact oO.row, hbe⟩
theorem rsum_any {w : World} {A : Option Addr} {n c : Nat} {zs : List Int} {k : Int} (hr : Row w .i64 A zs) (hn : n = zs.length) (hc : n ≤ c) (hnil : A = none → n = 0 ∧ c = 0) (hl : n ≤ 800) (hk : I64 k) (hf : ∀ n ∈ zs, I64 n) :
    Calls Tryz.prog 52 #[.slice A n c, .int .i64 k] w fun e w' => e = .returned (.int .i64 (sumW (tops zs k))) ∧ Below w.heap.size w w' := by
  have hfit := hidp (fun x (hx : x ∈ tops zs k) => hf x ((desc_perm zs).mem_iff.1 (List.mem_of_mem_take hx)))
  have Ht := hidp (tops_len zs k)
  rw [← hn] at Ht
  have Hn := hidp hn
  clear hn
  have Hnil := hidp hnil
  clear hnil
  have Hf := hidp hf
  clear hf
  go_enter Tryz.func52, Tryz.ntmps52
  go_wp2_with fail
  refine (rtop_any hr Hn.out Hnil.out hl hk Hf.out).mono ?_
  rintro e w1 ⟨A1, c1, rfl, hr1, hb1⟩
  obtain ⟨ts, Hts⟩ : ∃ ts, Hid (tops zs k = ts) := ⟨_, rfl⟩
  obtain ⟨m, Hm⟩ : ∃ m, Hid (clampN k n = m) := ⟨_, rfl⟩
  have hm1000 : m ≤ 1000 := by have := Hm.out; have := clampN_le k n; omega
  rw [Hts.out] at hr1 hfit Ht
  rw [Hm.out] at Ht ⊢
  clear hr hc hk
  go_wp2_with fail
  go_loopg [6, 7] m (fun g s i wr => ∃ k : Nat, k + g = m ∧ i = .int .i64 k ∧ s = .int .i64 (sumW (ts.take k)) ∧ w1 = wr)
  case atStart => exact ⟨0, by omega, rfl, by simp [sumW], rfl⟩
  case round =>
    obtain ⟨k, hk, rfl, rfl, rfl⟩ := hrel
    by_cases hlt : k < m
    · have hkt : k < ts.length := by rw [Ht.out]; exact hlt
      obtain ⟨g, off, rfl, hcl⟩ := hr1.resolve_left (by intro e; subst e; simp at hkt)
      obtain ⟨x, HX⟩ : ∃ x, Hid (ts.getD k 0 = x) := ⟨_, rfl⟩
      have ck : w1.cell? ⟨g, off + k, none⟩ = some (.int .i64 x) := HX.out ▸ hcl k hkt
      have H1 := hidp (sumW_snoc ts k hkt)
      rw [HX.out] at H1
      obtain ⟨s, Hs⟩ : ∃ s, Hid (sumW (ts.take k) = s) := ⟨_, rfl⟩
      rw [Hs.out] at H1 ⊢
      clear hcl hr1
      go_wp2
      go_roundg (gk - 1)
      case measure => omega
      case rel => exact ⟨k + 1, by omega, by go_num, by rw [H1.out], rfl⟩
    · obtain rfl : k = m := by omega
      have H1 : Hid (ts.take k = ts) := hidp (List.take_of_length_le (by rw [Ht.out]; exact Nat.le_refl _))
      rw [H1.out]
      go_wp2
      go_ret
      exact ⟨ret_int (by rw [Hts.out]), hb1⟩
end Go.Proofs.YtindcpgmfdkpcaaGreat
