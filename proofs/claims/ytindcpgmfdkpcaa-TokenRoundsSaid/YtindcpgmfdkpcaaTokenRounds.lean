/- TokenRounds: so many tasks at one cluster of so many cores: as many rounds outside as it takes. No condition. -/
import Derived.Test.YtindcpgmfdkpcaaKnown15
import Derived.Test.YtindcpgmfdkpcaaOk3
import Derived.Test.YtindcpgmfdkpcaaGrown
import Derived.Test.YtindcpgmfdkpcaaCountNums
import Derived.Laws.IdiomStrings
import Derived.Laws.BytesArg
set_option linter.unusedSimpArgs false
namespace Go.Proofs.Ytindcpgmfdkpcaa
/-- the i-th of them is so -/
def RndTs (d : Int) (ts : List TaskR) : Prop := ∀ i, i < ts.length → ∃ a c, ts.getD i default = ⟨letter i, 2000, 2000, (i : Int) + 1, 0, a, c, [⟨3, d, 0⟩]⟩
theorem RndTs.snoc {d : Int} {ts : List TaskR} {k : Nat} (h : RndTs d ts) (hk : ts.length = k) (a : Option Addr) (c : Nat) : RndTs d (ts ++ [⟨letter k, 2000, 2000, (k : Int) + 1, 0, a, c, [⟨3, d, 0⟩]⟩]) := by
  intro i hi
  by_cases e : i < ts.length
  · obtain ⟨a, c, h2⟩ := h i e
    exact ⟨a, c, by rw [← h2]; simp [List.getD, List.getElem?_append, e]⟩
  · have : i = k := by simp at hi; omega
    subst this
    exact ⟨a, c, by simp [List.getD, List.getElem?_append, hk]⟩
theorem all_take {l : List Int} {d : Int} (h : ∀ n ∈ l, n = d) : tot l = d * (l.length : Int) := by
  induction l with
  | nil => simp [tot]
  | cons x l ih =>
    have h1 := ih (fun n hn => h n (by simp [hn]))
    have h2 := h x (by simp)
    simp only [tot, List.length_cons]
    rw [Int.natCast_succ, Int.mul_add, Int.mul_one]; omega
theorem roth_same {of : Nat} {d : Int} {k : Nat} {ts : List TaskR} (h : ∀ t ∈ ts, maxL t.parts = d) : (∀ n ∈ rothL of k ts, n = d) ∧ (rothL of k ts).length = ts.length - (if k ≤ of ∧ of < k + ts.length then 1 else 0) := by
  induction ts generalizing k with
  | nil => simp [rothL]
  | cons t ts ih =>
    obtain ⟨i1, i2⟩ := ih (k := k + 1) (fun q hq => h q (by simp [hq]))
    have h0 := h t (by simp)
    simp only [rothL]
    by_cases e : (k : Int) = of
    · have e2 : k = of := by omega
      rw [if_pos e]
      refine ⟨by simpa using i1, ?_⟩
      simp only [List.nil_append, i2, List.length_cons]
      rw [if_neg (by omega), if_pos (by omega)]; omega
    · have e2 : ¬ k = of := by omega
      rw [if_neg e]
      refine ⟨fun n hn => ?_, ?_⟩
      · simp at hn
        rcases hn with rfl | hn
        · exact h0
        · exact i1 n hn
      · simp only [List.length_append, List.length_cons, List.length_nil, i2]
        by_cases e3 : k + 1 ≤ of ∧ of < k + 1 + ts.length
        · rw [if_pos e3, if_pos (by omega)]; omega
        · rw [if_neg e3, if_neg (by omega)]; omega
theorem round_vals {S : SetR} {n m : Nat} {d : Int} (hn : 1 ≤ n ∧ n ≤ 6) (hm : 1 ≤ m ∧ m ≤ 3) (hd : 1 ≤ d ∧ d ≤ 50) (p1 : S.proto = 3) (p2 : S.cores = [(m : Int)]) (p3 : S.homes = [0]) (pl : S.tasks.length = n) (p4 : RndTs d S.tasks) :
    ∀ i : Nat, i < n → fairK S i 0 = true ∧ insV S i 0 = d * min (n : Int) m ∧ outV S i = (max 0 ((n : Int) - m) + m - 1) / m * (d * min (n : Int) m) ∧ tokV S i 0 = d * min (n : Int) m + (max 0 ((n : Int) - m) + m - 1) / m * (d * min (n : Int) m) := by
  have hok : okS S = true := by
    refine okS_all (by rw [p1]; decide) (by rw [p2]; simp) (by rw [p2]; intro z hz; simp at hz; omega) (by rw [p3]; decide) (by rw [p3, p2]; intro z hz; simp at hz; subst hz; simp) (by omega) (fun k hk => ?_) (fun i k hi hk => ?_)
    · obtain ⟨a, c, e⟩ := p4 k hk
      rw [e, p2, p3]
      exact ⟨formB_mk (letter_name (by omega)) (by simp) (by simp) (by dsimp only; omega), by simp, partsB_mk (by simp) (fun p hp => by
        simp at hp; subst hp; exact partB_lock (by omega) (by simp))⟩
    · obtain ⟨a, c, e⟩ := p4 k hk
      obtain ⟨a2, c2, e2⟩ := p4 i (by omega)
      rw [e, e2]
      exact ⟨letters (by omega) hi, by simp; omega⟩
  have hall : ∀ t ∈ S.tasks, maxL t.parts = d ∧ sumK 3 t.parts = d ∧ t.cl = 0 := fun t ht => by
    obtain ⟨k, hk, e⟩ := mem_getD ht
    obtain ⟨a, c, e2⟩ := p4 k hk
    rw [← e, e2]
    simp [maxL, sumK]; omega
  have hc : coresV S = m := by unfold coresV; rw [if_pos hok, p2]; simp [tot]
  have hbes : ∀ i : Nat, i < n → besV S i = d * (min (n : Int) m - 1) := fun i hi => by
    obtain ⟨r1, r2⟩ := roth_same (of := i) (k := 0) (fun t ht => (hall t ht).1)
    rw [if_pos (by omega), pl] at r2
    unfold besV
    rw [hc]
    have h60 : ∀ z ∈ tops (rothL i 0 S.tasks) ((m : Int) - 1), 0 ≤ z ∧ z ≤ 60 := fun z hz => by
      have := r1 z (tops_sub z hz); omega
    have hlen : (tops (rothL i 0 S.tasks) ((m : Int) - 1)).length = clampN ((m : Int) - 1) (n - 1) := by rw [tops_len, r2]
    have hcl : ((clampN ((m : Int) - 1) (n - 1) : Nat) : Int) = min (n : Int) m - 1 := by unfold clampN; omega
    unfold sumW
    rw [fold_small _ 0 h60 (by omega) (by rw [hlen, hcl]; omega), all_take (fun z hz => r1 z (tops_sub z hz)), hlen, hcl]
    omega
  have hin : d + d * (min (n : Int) m - 1) = d * min (n : Int) m := by rw [Int.mul_sub, Int.mul_one]; omega
  have hask : askersV S 0 = n := by
    unfold askersV; rw [if_pos hok]
    have : ∀ ts : List TaskR, (∀ t ∈ ts, maxL t.parts = d ∧ sumK 3 t.parts = d ∧ t.cl = 0) → askN 0 ts = ts.length := fun ts => by
      induction ts with
      | nil => intro _; rfl
      | cons t ts ih =>
        intro h
        have h1 := ih (fun q hq => h q (by simp [hq]))
        have h2 := h t (by simp)
        simp only [askN, h1, h2.2.1, h2.2.2, List.length_cons]
        rw [if_pos ⟨trivial, by omega⟩]; omega
    rw [this S.tasks hall, pl]
  have hrnd : rndV S 0 = (max 0 ((n : Int) - m) + m - 1) / m := by unfold rndV coreAt; rw [hask, p2]; rfl
  have hslow : slowL S 0 0 S.tasks = d * min (n : Int) m := by
    have : ∀ (ts : List TaskR) (k : Nat), (∀ t ∈ ts, maxL t.parts = d ∧ sumK 3 t.parts = d ∧ t.cl = 0) → k + ts.length ≤ n → slowL S 0 k ts = if ts.length = 0 then 0 else d * min (n : Int) m := fun ts => by
      induction ts with
      | nil => intro k _ _; rfl
      | cons t ts ih =>
        intro k h hl
        simp only [List.length_cons] at hl
        have h1 := ih (k + 1) (fun q hq => h q (by simp [hq])) (by omega)
        have h2 := h t (by simp)
        have hpos : 0 ≤ d * min (n : Int) m := Int.mul_nonneg (by omega) (by omega)
        simp only [slowL, h2.1, h2.2.2]
        rw [if_pos ⟨trivial, by omega⟩, hbes k (by omega), hin, h1]
        have e9 : ¬ (t :: ts).length = 0 := by simp
        rw [if_neg e9]
        split <;> omega
    rw [this S.tasks 0 hall (by omega), if_neg (by omega)]
  intro i hi
  obtain ⟨a, c, e⟩ := p4 i (by omega)
  have ht : thereB S i = true := thereB_true.2 ⟨hok, by omega, by omega⟩
  have q : partAt S i 0 = ⟨3, d, 0⟩ := by unfold partAt; simp only [Int.toNat_natCast]; rw [e]; rfl
  have hk : fairK S i 0 = true := fairK_iff.2 ⟨ht, by decide, by simp only [Int.toNat_natCast]; rw [e]; show (0 : Int) < 1; decide, by rw [q]⟩
  have hi1 : insV S i 0 = d * min (n : Int) m := by unfold insV; rw [if_pos hk, q, hbes i hi, hin]
  have ho1 : outV S i = (max 0 ((n : Int) - m) + m - 1) / m * (d * min (n : Int) m) := by
    unfold outV
    simp only [Int.toNat_natCast]
    have h2 := hall _ (getD_mem (show i < S.tasks.length by omega))
    rw [if_pos ⟨ht, by rw [h2.1]; omega⟩, h2.2.2, hrnd, hslow]
  exact ⟨hk, hi1, ho1, by unfold tokV; rw [if_pos hk, hi1, ho1]⟩
end Go.Proofs.Ytindcpgmfdkpcaa
set_option maxHeartbeats 8000000
set_option maxRecDepth 100000
namespace Go.Proofs.Ytindcpgmfdkpcaa.tokenRounds
open Go.ChangeShapes Go.WideShapes Go.ChangeAt Go.RowKit
open Go.ChangeMaps (open_string shut_string)
set_option linter.unusedVariables false

/-- THE WALK: the Go text returns true, and writes nothing that was there. -/
theorem walk (a0 : Int) (a1 : Int) (a2 : Int) (w : World) (w0 : (Lit.int .u8 a0).wf = true) (w1 : (Lit.int .u8 a1).wf = true) (w2 : (Lit.int .u8 a2).wf = true) :
    Calls Try.prog 5 #[.int .u8 a0, .int .u8 a1, .int .u8 a2] w fun e w' => e = .returned (.bool true) ∧ Below w.heap.size w w' := by
  obtain ⟨x, x0, x1, hx⟩ := mod_u8 6 w0 (by decide)
  obtain ⟨y, y0, y1, hy⟩ := mod_u8 3 w1 (by decide)
  obtain ⟨z, z0, z1, hz⟩ := mod_u8 50 w2 (by decide)
  obtain ⟨n, hn⟩ : ∃ n : Nat, x + 1 = n := ⟨(x + 1).toNat, by omega⟩
  obtain ⟨m, hm⟩ : ∃ m : Nat, y + 1 = m := ⟨(y + 1).toNat, by omega⟩
  obtain ⟨d, hd⟩ : ∃ d : Int, z + 1 = d := ⟨_, rfl⟩
  have n0 : 1 ≤ n := by omega
  have n6 : n ≤ 6 := by omega
  have m0 : 1 ≤ m := by omega
  have m3 : m ≤ 3 := by omega
  have d0 : 1 ≤ d := by omega
  have d1 : d ≤ 50 := by omega
  clear x0 x1 y0 y1 z0 z1
  obtain ⟨i0, hi0, hy0, hy1, hy2⟩ := info_parts infoTask
  have HW : Hid (∀ p ∈ [PartM.mk 3 d 0], p.wf) := hidp (fun p hp => by simp at hp; subst hp; exact ⟨by show I64 3; decide, by unfold I64; dsimp only; omega, by show I64 0; decide⟩)
  have hb := Below.refl w.heap.size w
  go_enter Try.func5, Try.ntmps5
  go_wp2_with fail
  refine (known15_any _).mono ?_
  rintro e u1 ⟨rfl, hb2⟩
  replace hb := hb.trans (hb2.mono hb.size)
  clear hb2
  have hu1 := hb.size
  have B0 := Bk.at_ (w := u1) (g := u1.heap.size) (t := 3) (cs := ([(m : Int)].map (Value.int .i64)).toArray) (by first | rfl | simp) rfl
  replace hb := hb.alloc hb.size (.cells ([(m : Int)].map (Value.int .i64)).toArray 3)
  replace B0 := B0.alloc (.cells ([0].map (Value.int .i64)).toArray 3)
  have B1 := Bk.at_ (w := (u1.alloc (.cells ([(m : Int)].map (Value.int .i64)).toArray 3))) (g := u1.heap.size + 1) (t := 3) (cs := ([0].map (Value.int .i64)).toArray) (by first | rfl | simp) rfl
  replace hb := hb.alloc hb.size (.cells ([0].map (Value.int .i64)).toArray 3)
  replace B0 := B0.alloc (.cells #[.int .i64 3, .slice (some ⟨u1.heap.size, 0, none⟩) 1 1, .slice (some ⟨u1.heap.size + 1, 0, none⟩) 1 1, .slice none 0 0] 26)
  replace B1 := B1.alloc (.cells #[.int .i64 3, .slice (some ⟨u1.heap.size, 0, none⟩) 1 1, .slice (some ⟨u1.heap.size + 1, 0, none⟩) 1 1, .slice none 0 0] 26)
  have B2 := Bk.at_ (w := ((u1.alloc (.cells ([(m : Int)].map (Value.int .i64)).toArray 3)).alloc (.cells ([0].map (Value.int .i64)).toArray 3))) (g := u1.heap.size + 1 + 1) (t := 26) (cs := #[.int .i64 3, .slice (some ⟨u1.heap.size, 0, none⟩) 1 1, .slice (some ⟨u1.heap.size + 1, 0, none⟩) 1 1, .slice none 0 0]) (by first | rfl | simp) rfl
  replace hb := hb.alloc hb.size (.cells #[.int .i64 3, .slice (some ⟨u1.heap.size, 0, none⟩) 1 1, .slice (some ⟨u1.heap.size + 1, 0, none⟩) 1 1, .slice none 0 0] 26)
  go_wp2_with fail
  have hb0 := hidp (show w.heap.size ≤ u1.heap.size from hu1)
  go_loopg [11] n (fun g i wr => ∃ (k c : Nat) (A : Option Addr) (ts : List TaskR), k + g = n ∧ i = .int .i64 k ∧ ts.length = k ∧ RndTs d ts ∧ Grown (u1.heap.size + 3) wr A c ts ∧ Bk wr u1.heap.size 3 ([(m : Int)].map (Value.int .i64)).toArray ∧ Bk wr (u1.heap.size + 1) 3 ([0].map (Value.int .i64)).toArray ∧ Bk wr (u1.heap.size + 1 + 1) 26 #[.int .i64 3, .slice (some ⟨u1.heap.size, 0, none⟩) 1 1, .slice (some ⟨u1.heap.size + 1, 0, none⟩) 1 1, .slice A k c] ∧ Below w.heap.size w wr ∧ u1.heap.size + 3 ≤ wr.heap.size)
  case atStart => exact ⟨0, 0, none, [], by omega, rfl, rfl, fun i hi => by simp at hi, Grown.none _ _, B0, B1, B2, hb, by simp⟩
  case round =>
    clear B0 B1 B2 hb
    obtain ⟨k, c, A, ts, hk, rfl, hl, hR, hG, B0, B1, B2, hb, hz⟩ := hrel
    by_cases hlt : k < n
    · obtain ⟨t0, t1, t2, t3⟩ := Z4 B2
      have hw8 : IntKind.u8.wrap (97 + (k : Int)) = 97 + k := by
        have : k = 0 ∨ k = 1 ∨ k = 2 ∨ k = 3 ∨ k = 4 ∨ k = 5 := by omega
        rcases this with rfl | rfl | rfl | rfl | rfl | rfl <;> decide
      have hcb := run_convert_bytes_back (P := Try.prog) (wr.alloc (.cells #[.int .u8 (97 + (k : Int))] 5)) 30 9 5 ⟨wr.heap.size, 0, none⟩ 1 [UInt8.ofNat (97 + k)] Try.underlying30 Try.underlying5 Try.underlying9 (letter_bytes k (by omega) wr 5)
      change (convert 30 9 (.slice (some ⟨wr.heap.size, 0, none⟩) 1 1)).run Try.prog _ = .ok (.string (letter k)) _ at hcb
      obtain ⟨hG3, hT3, hnA, hgp⟩ := grown_made hG (Nat.le_trans (Nat.le_refl _) hz) (.cells #[.int .u8 (97 + (k : Int))] 5) (letter k) 2000 2000 ((k : Int) + 1) 0 [⟨3, d, 0⟩] (by show 1 ≤ maxLen; decide) (by decide) (by decide) (by unfold I64; omega) (by decide) (by show 1 ≤ maxLen; decide) HW.out
      have HL := hidp hl
      have HfA := hidp (own_fp hG.own.own)
      have ho := hG3.own
      rw [hl] at ho
      have S2 := Lies.newCells' ((wr.alloc (.cells #[.int .u8 (97 + (k : Int))] 5)).alloc (.cells (ptc [⟨3, d, 0⟩]).toArray 29)) (ttc [⟨letter k, 2000, 2000, (k : Int) + 1, 0, some ⟨wr.heap.size + 1, 0, none⟩, 1, [⟨3, d, 0⟩]⟩]) 32
      rw [show ((wr.alloc (.cells #[.int .u8 (97 + (k : Int))] 5)).alloc (.cells (ptc [⟨3, d, 0⟩]).toArray 29)).heap.size = wr.heap.size + 1 + 1 by simp] at S2
      have HS2 := hidp S2
      have O2 := hidp (ttc_one [⟨letter k, 2000, 2000, (k : Int) + 1, 0, some ⟨wr.heap.size + 1, 0, none⟩, 1, [⟨3, d, 0⟩]⟩])
      have N2 : Hid (k + 1 ≤ maxLen) := hidp (by unfold maxLen; omega)
      have T2 : Hid ((k + 1) * 72 ≤ 140737488355328) := hidp (by omega)
      have TT := (((Turned.refl [] wr).alloc (.cells #[.int .u8 (97 + (k : Int))] 5)).alloc (.cells (ptc [⟨3, d, 0⟩]).toArray 29)).alloc (.cells (ttc [⟨letter k, 2000, 2000, (k : Int) + 1, 0, some ⟨wr.heap.size + 1, 0, none⟩, 1, [⟨3, d, 0⟩]⟩]).toArray 32)
      have Z2 : Hid (u1.heap.size + 3 ≤ _) := hidp (Nat.le_trans hz TT.size)
      have D0 := B0.turned TT (by simp)
      have D1 := B1.turned TT (by simp)
      have D2 := B2.turned TT (by simp)
      have hbT := hb.trans (TT.below hb.size (by simp))
      clear hl hG B0 B1 B2 hb S2 TT
      go_wp2_with (at_builtin; refine wpList_app2 _ rfl (.tmp 43) (.tmp 55) 24 rfl (u1.heap.size + 3) 32 i0 _ 6 72 Try.underlying24 hi0 hy0 hy1 hy2 rfl (by decide) A k c _ rfl ho.own _ _ 1 1 (ttc [⟨letter k, 2000, 2000, (k : Int) + 1, 0, some ⟨wr.heap.size + 1, 0, none⟩, 1, [⟨3, d, 0⟩]⟩]) rfl (by simp) rfl HS2.out O2.out N2.out T2.out Z2.out ?_; intro A' c' w4 happ; have D2' := D2.turned happ.turned (fun hf => by have := (HfA.out _ hf).1; omega); obtain ⟨f0, f1, f2, f3⟩ := ZF4 D2'; obtain ⟨e0, e1, e2, e3⟩ := Z4 D2')
      go_roundg (gk - 1)
      case measure => omega
      case rel =>
        have hG4 := hG3.step rfl hgp hnA hT3 (by rw [HL.out]; exact happ)
        have TS := (Turned.refl [u1.heap.size + 1 + 1] w4).setCell (p := ⟨u1.heap.size + 1 + 1, 3, none⟩) (.inl (by simp)) (.slice A' (k + 1) c')
        have hzz := Nat.le_trans Z2.out happ.turned.size
        exact ⟨k + 1, c', A', _, by omega, by go_num, by rw [List.length_append, HL.out]; rfl, hR.snoc HL.out _ _, hG4.turned TS (fun j hj _ => by simp; omega), (D0.turned happ.turned (fun hf => by have := (HfA.out _ hf).1; omega)).turned TS (by simp; omega), (D1.turned happ.turned (fun hf => by have := (HfA.out _ hf).1; omega)).turned TS (by simp), D2'.put 3 (.slice A' (k + 1) c'), (hbT.trans (happ.turned.below hbT.size (fun j hj => by have := (HfA.out _ hj).1; have := hb0.out; omega))).trans (TS.below (Nat.le_trans hbT.size happ.turned.size) (by simp; have := hb0.out; omega)), Nat.le_trans hzz TS.size⟩
    · have hkn : k = n := by omega
      subst hkn
      have vals := round_vals (S := ⟨3, some ⟨u1.heap.size, 0, none⟩, 1, [(m : Int)], some ⟨u1.heap.size + 1, 0, none⟩, 1, [0], A, c, ts⟩) ⟨n0, n6⟩ ⟨m0, m3⟩ ⟨d0, d1⟩ rfl rfl rfl hl hR
      subst hl
      have V := hidp vals
      have hs : SetOk wr ⟨3, some ⟨u1.heap.size, 0, none⟩, 1, [(m : Int)], some ⟨u1.heap.size + 1, 0, none⟩, 1, [0], A, c, ts⟩ := ⟨by show I64 3; decide, ⟨⟨(fun e => by cases e), Nat.le_refl _, by show 1 ≤ maxLen; decide⟩, ints_lit B0, fun z hz => by simp at hz; subst hz; unfold I64; omega⟩, ⟨⟨(fun e => by cases e), Nat.le_refl _, by show 1 ≤ maxLen; decide⟩, ints_lit B1, by show ∀ n ∈ [(0 : Int)], I64 n; decide⟩, hG.tasks⟩
      have sc := Z4 B2
      clear vals hG B0 B1 B2 hR
      obtain ⟨q, hq⟩ : ∃ q, min (ts.length : Int) (m : Int) = q := ⟨_, rfl⟩
      have q0 : 1 ≤ q := by omega
      have q1 : q ≤ 3 := by omega
      obtain ⟨p, hp⟩ : ∃ p, d * q = p := ⟨_, rfl⟩
      have p0 : 0 ≤ p := by rw [← hp]; exact Int.mul_nonneg (by omega) (by omega)
      have p1 : p ≤ 50 * 3 := by rw [← hp]; exact Int.mul_le_mul d1 q1 (by omega) (by omega)
      have V2 := V.out
      rw [hq, hp] at V2
      have VV := hidp V2
      have NmI : (1 : Int) ≤ (m : Int) ∧ (m : Int) ≤ 3 ∧ (1 : Int) ≤ (ts.length : Int) ∧ (ts.length : Int) ≤ 6 := by omega
      obtain ⟨im0, im1, il0, il1⟩ := NmI
      clear V V2
      obtain ⟨sc_0, sc_1, sc_2, sc_3⟩ := id sc
      go_wp2_with fail
      clear sc_0 sc_1 sc_2 sc_3
      go_loopg [13, 14] 6 (fun g a b w5 => ∃ r l : Int, 0 ≤ r ∧ l ≤ (g : Int) ∧ a = .int .i64 r ∧ b = .int .i64 l ∧ Hid (l = ts.length - m - r * m) ∧ (r = 0 ∨ -(m : Int) < l) ∧ wr = w5)
      case atStart => exact ⟨0, ts.length - m, by omega, by omega, rfl, by go_num, hidp (by omega), .inl rfl, rfl⟩
      case round =>
        obtain ⟨r, l, r0, hlg, rfl, rfl, Hl, hrl, rfl⟩ := hrel
        have hrm : r * 1 ≤ r * (m : Int) := Int.mul_le_mul_of_nonneg_left im0 r0
        have hr6 : 0 < l ∨ r ≤ 6 := by
          by_cases e : 0 < l
          · exact .inl e
          · right
            have := Hl.out
            rcases hrl with h | h <;> omega
        by_cases e : 0 < l
        · have hl5 : l ≤ 6 := by have := Hl.out; omega
          have r5 : r ≤ 5 := by have := Hl.out; omega
          clear hrm hr6
          go_wp2_with fail
          go_roundg (gk - 1)
          case measure => omega
          case rel => exact ⟨r + 1, l - m, by omega, by omega, by go_num, by go_num, hidp (by rw [Int.add_mul, Hl.out]; omega), .inr (by omega), rfl⟩
        · have r6 : r ≤ 6 := by omega
          have Hr : Hid ((max 0 ((ts.length : Int) - m) + m - 1) / m = r) := hidp (by
            have := Hl.out
            have h1 : r = 0 ∨ 1 * (m : Int) ≤ r * (m : Int) := by
              by_cases e0 : r = 0
              · exact .inl e0
              · exact .inr (Int.mul_le_mul_of_nonneg_right (by omega) (by omega))
            refine div_is (by omega) ?_ ?_
            · rcases h1 with h1 | h1
              · subst h1; omega
              · have h2 : -(m : Int) < l := by
                  rcases hrl with h | h
                  · subst h; omega
                  · exact h
                omega
            · rcases h1 with h1 | h1
              · subst h1; omega
              · have h2 : -(m : Int) < l := by
                  rcases hrl with h | h
                  · subst h; omega
                  · exact h
                omega)
          obtain ⟨z', hz'⟩ : ∃ z', r * p = z' := ⟨_, rfl⟩
          have z0' : 0 ≤ z' := by rw [← hz']; exact Int.mul_nonneg r0 p0
          have z1' : z' ≤ 6 * 150 := by rw [← hz']; exact Int.mul_le_mul r6 p1 p0 (by omega)
          have V3 := VV.out
          rw [Hr.out, hz'] at V3
          obtain ⟨k1, k2, k3, k4⟩ := V3 0 (by omega)
          obtain ⟨j1, j2, j3, j4⟩ := V3 (ts.length - 1) (by omega)
          rw [show ((ts.length - 1 : Nat) : Int) = (ts.length : Int) - 1 by omega] at j1 j2 j3 j4
          have K1 := hidp k1
          have K2 := hidp k2
          have K3 := hidp k3
          have J1 := hidp j1
          have J4 := hidp j4
          obtain ⟨sc_0, sc_1, sc_2, sc_3⟩ := id sc
          clear hrm hr6 V3 k1 k2 k3 k4 j1 j2 j3 j4 hrl hlg
          go_wp2_with fail
          refine (inside_any _ 0 0 _ hs).mono ?_
          rintro e u2 ⟨rfl, hb2⟩
          replace hb := hb.trans (hb2.mono hb.size)
          replace sc := And.intro (Keeps.of_below hb2 _ _ sc.1) (And.intro (Keeps.of_below hb2 _ _ sc.2.1) (And.intro (Keeps.of_below hb2 _ _ sc.2.2.1) (Keeps.of_below hb2 _ _ sc.2.2.2)))
          replace hs := hs.keep (Keeps.of_below hb2)
          clear hb2
          rw [show insV _ 0 0 = p from K2.out, show fairK _ 0 0 = true from K1.out]
          clear sc_0 sc_1 sc_2 sc_3
          obtain ⟨sc_0, sc_1, sc_2, sc_3⟩ := id sc
          go_wp2_with fail
          refine (tpart_any _ ((ts.length : Int) - 1) 0 _ hs).mono ?_
          rintro e u3 ⟨rfl, hb2⟩
          replace hb := hb.trans (hb2.mono hb.size)
          replace sc := And.intro (Keeps.of_below hb2 _ _ sc.1) (And.intro (Keeps.of_below hb2 _ _ sc.2.1) (And.intro (Keeps.of_below hb2 _ _ sc.2.2.1) (Keeps.of_below hb2 _ _ sc.2.2.2)))
          replace hs := hs.keep (Keeps.of_below hb2)
          clear hb2
          rw [J4.out, J1.out]
          clear sc_0 sc_1 sc_2 sc_3
          obtain ⟨sc_0, sc_1, sc_2, sc_3⟩ := id sc
          go_wp2_with fail
          refine (outside_any _ 0 _ hs).mono ?_
          rintro e u4 ⟨rfl, hb2⟩
          replace hb := hb.trans (hb2.mono hb.size)
          clear hb2
          rw [show outV _ 0 = z' from K3.out]
          go_wp2_with fail
          go_ret
          exact ⟨rfl, hb⟩

theorem own : ownKnob Try.prog.godebug = none := by kernel_rfl
theorem laidOut : laidOutB Try.prog = true := by kernel_rfl

/-! THE ROW's STEP -/
set_option maxRecDepth 100000 in
theorem lifted (os : Os) (started : os.Started) (H : Type) (enc : TypeId × Value → H) :
    ReturnsInHanded {} Try.checked os 5 .any (Rows.tokenRoundsSpec.pre6 enc Try.prog Try.f5 Rows.tokenRoundsRow.domain false) (Rows.tokenRoundsSpec.post enc Try.prog Try.f5 false true false false) := by
  refine returnsInHanded_of_change (C := Try.checked) own started (by kernel_rfl) Try.func5
    (ChangeSpec.witness6 (enc := enc) (C := Try.checked) false ⟨#[], #[.int .u8 0, .int .u8 0, .int .u8 0], []⟩ 8 (by kernel_rfl) (by kernel_rfl) (by kernel_rfl) (by kernel_rfl)) ?_
  intro W base args ds gs before hval0 hW hcnd _
  have hval : ∀ (j : Nat) t v, Try.f5.params[j]? = some t → args[j]? = some v → Value.okWide Try.prog W .any base t v := hval0
  have hW' := hW
  obtain ⟨p, q, hA0, hV, rfl, hfz, hnd⟩ := hW
  have hA : DataW.TrodAll enc Try.prog W 0 (fun _ => true) true Try.f5.params.toList args.toList ds p := hA0
  rw [Try.params5] at hA hval
  obtain ⟨v0, vs0, d0, ds0, p0, q0, hargs, rfl, rfl, h0, r0⟩ := trodAll_cons hA
  obtain ⟨v1, vs1, d1, ds1, p1, q1, rfl, rfl, rfl, h1, r1⟩ := trodAll_cons r0
  obtain ⟨v2, vs2, d2, ds2, p2, q2, rfl, rfl, rfl, h2, r2⟩ := trodAll_cons r1
  obtain ⟨rfl, rfl, rfl⟩ := trodAll_nil r2
  obtain rfl : args = #[v0, v1, v2] := by cases args; simp_all
  obtain ⟨rfl, rfl⟩ := trodVars_none hV
  obtain ⟨a0, rfl, rfl, rfl, w0⟩ := open_int Try.underlying5 (hval 0 5 v0 rfl rfl) h0
  obtain ⟨a1, rfl, rfl, rfl, w1⟩ := open_int Try.underlying5 (hval 1 5 v1 rfl rfl) h1
  obtain ⟨a2, rfl, rfl, rfl, w2⟩ := open_int Try.underlying5 (hval 2 5 v2 rfl rfl) h2
  clear hA0 hval0
  refine (walk a0 a1 a2 W w0 w1 w2).mono fun e W' ⟨he, bel⟩ => ?_
  subst he
  exact ⟨_, rfl, _, _, _, [], _, [], hW', trodAll_mk1 (shut_bool Try.underlying4 _), (trodAll_cons_mk (shut_int Try.underlying5 w0) (trodAll_cons_mk (shut_int Try.underlying5 w1) (trodAll_cons_mk (shut_int Try.underlying5 w2) trodAll_mk0))), rfl, bel.frame _, fun h => by cases h⟩

theorem over : Rows.tokenRoundsRow.holds Try.pinned (OpenSpec.ofChange Rows.tokenRoundsSpec) :=
  OpenClaim.holds_of_wide 5 Try.f5 rfl rfl rfl rfl rfl rfl rfl ⟨rfl, rfl, rfl, rfl, rfl⟩ rfl rfl rfl rfl rfl (by kernel_rfl) Try.func5 (by kernel_rfl)
    (of_decide_eq_true (by kernel_rfl)) (by unfold Func.isWrapper; first | (rw [if_pos (by decide +kernel)]; kernel_rfl) | (rw [if_neg (by decide +kernel)]; exact ⟨rfl, rfl⟩))
    (fun os started H enc _ => lifted os started H enc)

/-- THE STATEMENT -/
theorem proved : Rows.TokenRoundsSaid := over
#print axioms proved
end Go.Proofs.Ytindcpgmfdkpcaa.tokenRounds

