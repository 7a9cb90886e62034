/- FairCrowd: so many tasks with one lock each: a request takes all their lengths together. No condition. -/
import Derived.Test.YtindcpgmfdkpcaaKnown13
import Derived.Test.YtindcpgmfdkpcaaOk3
import Derived.Test.YtindcpgmfdkpcaaGrown
import Derived.Test.YtindcpgmfdkpcaaUp
import Derived.Test.YtindcpgmfdkpcaaRef11a
import Derived.Laws.IdiomStrings
import Derived.Laws.BytesArg
set_option linter.unusedSimpArgs false
namespace Go.Proofs.Ytindcpgmfdkpcaa
def CrowdTs (f : Nat → Int) (ts : List TaskR) : Prop := ∀ i, i < ts.length → ∃ a c, ts.getD i default = ⟨letter i, 900, 900, (i : Int) + 1, 0, a, c, [⟨1, 1, 0⟩, ⟨3, f i, ((i % 2 : Nat) : Int)⟩]⟩
theorem CrowdTs.snoc {f : Nat → Int} {ts : List TaskR} {k : Nat} (h : CrowdTs f ts) (hk : ts.length = k) (a : Option Addr) (c : Nat) : CrowdTs f (ts ++ [⟨letter k, 900, 900, (k : Int) + 1, 0, a, c, [⟨1, 1, 0⟩, ⟨3, f k, ((k % 2 : Nat) : Int)⟩]⟩]) := by
  intro i hi
  by_cases e : i < ts.length
  · obtain ⟨a, c, h2⟩ := h i e
    exact ⟨a, c, by rw [← h2]; simp [List.getD, List.getElem?_append, e]⟩
  · have : i = k := by simp at hi; omega
    subst this
    exact ⟨a, c, by simp [List.getD, List.getElem?_append, hk]⟩
theorem range_snoc2 (f : Nat → Int) (k : Nat) : (List.range (k + 1)).map f = (List.range k).map f ++ [f k] := by simp [List.range_succ]
theorem roth_all (of : Nat) (k : Nat) (ts : List TaskR) : (rothL of k ts).length = ts.length - (if k ≤ of ∧ of < k + ts.length then 1 else 0) ∧ tot (rothL of k ts) = tot (ts.map fun t => maxL t.parts) - (if k ≤ of ∧ of < k + ts.length then maxL (ts.getD (of - k) default).parts else 0) := by
  induction ts generalizing k with
  | nil =>
    have c1 : ¬ (k ≤ of ∧ of < k + ([] : List TaskR).length) := by simp
    rw [if_neg c1, if_neg c1]
    simp [rothL, tot]
  | cons t ts ih =>
    obtain ⟨i1, i2⟩ := ih (k + 1)
    simp only [rothL, List.map_cons, tot]
    by_cases e : (k : Int) = of
    · have e2 : k = of := by omega
      subst e2
      have c1 : k ≤ k ∧ k < k + (t :: ts).length := by simp
      have c2 : ¬ (k + 1 ≤ k ∧ k < k + 1 + ts.length) := by omega
      rw [if_pos e, if_pos c1, if_pos c1]
      rw [if_neg c2] at i1 i2
      simp only [List.nil_append, i1, i2, List.length_cons, Nat.sub_self, List.getD_cons_zero]
      exact ⟨by omega, by omega⟩
    · have e2 : ¬ k = of := by omega
      rw [if_neg e]
      simp only [List.length_append, List.length_cons, List.length_nil, tot_append, tot, i1, i2]
      by_cases e3 : k + 1 ≤ of ∧ of < k + 1 + ts.length
      · have c1 : k ≤ of ∧ of < k + (ts.length + 1) := by omega
        rw [if_pos e3, if_pos e3, if_pos c1, if_pos c1]
        have e4 : of - k = (of - (k + 1)) + 1 := by omega
        rw [e4, List.getD_cons_succ]
        exact ⟨by omega, by omega⟩
      · have c1 : ¬ (k ≤ of ∧ of < k + (ts.length + 1)) := by omega
        rw [if_neg e3, if_neg e3, if_neg c1, if_neg c1]
        exact ⟨by omega, by omega⟩
theorem posN_all {l : List Int} (h : ∀ n ∈ l, 0 < n) : posN l = l.length := by
  induction l with
  | nil => rfl
  | cons x l ih =>
    have h1 := ih (fun n hn => h n (by simp [hn]))
    have h2 := h x (by simp)
    simp only [posN, h1, List.length_cons]
    rw [if_pos h2]; omega
theorem crowd_vals {S : SetR} {n : Nat} {f : Nat → Int} (hn : 1 ≤ n ∧ n ≤ 6) (hf : ∀ k, k < n → 1 ≤ f k ∧ f k ≤ 60) (p1 : S.proto = 1) (p2 : S.cores = [2]) (p3 : S.homes = [0, 0]) (pl : S.tasks.length = n) (p4 : CrowdTs f S.tasks) (k : Nat) (hk : k < n) :
    fairK S k 1 = true ∧ fairV S k 1 = tot ((List.range n).map f) ∧ fairK S k 0 = false ∧ fairV S k 0 = 0 ∧ fairK S n 1 = false ∧ fairV S n 1 = 0 ∧ aheadV S k = (n : Int) - 1 := by
  have hok : okS S = true := by
    refine okS_all (by rw [p1]; decide) (by rw [p2]; simp) (by rw [p2]; intro z hz; simp at hz; omega) (by rw [p3]; decide) (by rw [p3, p2]; intro z hz; simp at hz; subst hz; simp) (by omega) (fun k hk => ?_) (fun i k hi hk => ?_)
    · obtain ⟨a, c, e⟩ := p4 k hk
      rw [e, p2, p3]
      refine ⟨formB_mk (letter_name (by omega)) (by simp) (by simp) (by dsimp only; omega), by simp, partsB_mk (by simp) (fun p hp => ?_)⟩
      simp at hp
      rcases hp with rfl | rfl
      · exact partB_run (.inl rfl) (by decide)
      · exact partB_lock (hf k (by omega)) (by simp; omega)
    · obtain ⟨a, c, e⟩ := p4 k hk
      obtain ⟨a2, c2, e2⟩ := p4 i (by omega)
      rw [e, e2]
      exact ⟨letters (by omega) hi, by simp; omega⟩
  have hmax : ∀ i, i < n → maxL (S.tasks.getD i default).parts = f i := fun i hi => by
    obtain ⟨a, c, e⟩ := p4 i (by omega)
    rw [e]
    have := hf i hi
    simp [maxL]; omega
  have hmap : S.tasks.map (fun t => maxL t.parts) = (List.range n).map f := by
    apply List.ext_getElem
    · simp [pl]
    · intro i h1 h2
      have hi : i < n := by simpa using h2
      have := hmax i hi
      simp [List.getD, show i < S.tasks.length by omega] at this
      simpa using this
  obtain ⟨r1, r2⟩ := roth_all k 0 S.tasks
  have c1 : 0 ≤ k ∧ k < 0 + S.tasks.length := by omega
  rw [if_pos c1] at r1 r2
  rw [Nat.sub_zero, hmax k hk, hmap] at r2
  obtain ⟨a, c, e⟩ := p4 k (by omega)
  have ht : thereB S k = true := thereB_true.2 ⟨hok, by omega, by omega⟩
  have q : partAt S k 1 = ⟨3, f k, ((k % 2 : Nat) : Int)⟩ := by unfold partAt; simp only [Int.toNat_natCast]; rw [e]; rfl
  have q0 : partAt S k 0 = ⟨1, 1, 0⟩ := by unfold partAt; simp only [Int.toNat_natCast]; rw [e]; rfl
  have k1 : fairK S k 1 = true := fairK_iff.2 ⟨ht, by decide, by simp only [Int.toNat_natCast]; rw [e]; show (1 : Int) < 2; decide, by rw [q]⟩
  have k0 : fairK S k 0 = false := fairK_not (fun h => by have := h.2.2.2; rw [q0] at this; exact absurd this (by decide))
  have kn : fairK S n 1 = false := fairK_not (fun h => by have := (thereB_true.1 h.1).2.2; omega)
  have hpos : ∀ z ∈ rothL k 0 S.tasks, 0 < z := by
    have : ∀ (ts : List TaskR) (j : Nat), (∀ t ∈ ts, 0 < maxL t.parts) → ∀ z ∈ rothL k j ts, 0 < z := fun ts => by
      induction ts with
      | nil => intro j _ z hz; simp [rothL] at hz
      | cons t ts ih =>
        intro j h z hz
        simp only [rothL, List.mem_append] at hz
        rcases hz with hz | hz
        · split at hz
          · simp at hz
          · simp at hz; subst hz; exact h t (by simp)
        · exact ih (j + 1) (fun q hq => h q (by simp [hq])) z hz
    refine this S.tasks 0 (fun t ht2 => ?_)
    obtain ⟨i, hi, e2⟩ := mem_getD ht2
    have := hmax i (by omega)
    have := hf i (by omega)
    rw [← e2]; omega
  refine ⟨k1, ?_, k0, fair_no k0, kn, fair_no kn, ?_⟩
  · unfold fairV
    rw [if_pos k1, q, ← (roth_is k 0 S.tasks).1, r2]
    dsimp only; omega
  · unfold aheadV
    rw [if_pos ht, ← (roth_is k 0 S.tasks).2, posN_all hpos, r1]
    omega
end Go.Proofs.Ytindcpgmfdkpcaa
set_option maxHeartbeats 8000000
set_option maxRecDepth 100000
namespace Go.Proofs.Ytindcpgmfdkpcaa.fairCrowd
open Go.ChangeShapes Go.WideShapes Go.ChangeAt Go.RowKit
open Go.ChangeMaps (open_string shut_string)
set_option linter.unusedVariables false

/-- THE WALK: the Go text returns true, and writes nothing that was there. -/
theorem walk (a0 : Option Addr) (len0 cap0 : Nat) (z0 : List Int) (a1 : Int) (w : World) (w0 : IsRow .u8 w a0 len0 cap0 z0) (w1 : (Lit.int .u8 a1).wf = true) :
    Calls Try.prog 4 #[.slice a0 len0 cap0, .int .u8 a1] w fun e w' => e = .returned (.bool true) ∧ Below w.heap.size w w' := by
  obtain ⟨r1, r2, r3, r4⟩ := w0.row
  obtain ⟨us, hus⟩ : ∃ l, z0.take len0 = l := ⟨_, rfl⟩
  rw [hus] at r1 r2 r4
  have HU := hidp r1
  have Hul := hidp r2
  have HUb : Hid (∀ k, k < us.length → 0 ≤ us.getD k 0 ∧ us.getD k 0 ≤ 255) := hidp (fun k hk => u8_bd r4 k hk)
  have m1 : len0 ≤ maxLen := r3
  unfold maxLen at m1
  obtain ⟨wh, hwh⟩ : ∃ n : Nat, a1 = n := nat_u8 w1
  have wh255 : wh ≤ 255 := u8_le w1 hwh
  subst hwh
  obtain ⟨i0, hi0, hy0, hy1, hy2⟩ := info_parts infoTask
  obtain ⟨f, Hf⟩ : ∃ f : Nat → Int, Hid (∀ k, us.getD k 0 % 60 + 1 = f k) := ⟨fun k => us.getD k 0 % 60 + 1, hidp (fun _ => rfl)⟩
  have Hfb : Hid (∀ k, k < us.length → 1 ≤ f k ∧ f k ≤ 60) := hidp (fun k hk => by have := HUb.out k hk; rw [← Hf.out]; omega)
  have hb := Below.refl w.heap.size w
  clear w0 w1 r1 r2 r4 hus
  by_cases l0 : (len0 : Int) < 1
  · go_enter Try.func4, Try.ntmps4
    go_wp2_with fail
    refine (known13_any _).mono ?_
    rintro e u1 ⟨rfl, hb2⟩
    replace hb := hb.trans (hb2.mono hb.size)
    clear hb2
    go_wp2_with fail
    go_ret
    exact ⟨rfl, hb⟩
  by_cases l6 : (6 : Int) < (len0 : Int)
  · go_enter Try.func4, Try.ntmps4
    go_wp2_with fail
    refine (known13_any _).mono ?_
    rintro e u1 ⟨rfl, hb2⟩
    replace hb := hb.trans (hb2.mono hb.size)
    clear hb2
    go_wp2_with fail
    go_ret
    exact ⟨rfl, hb⟩
  have n0 : 1 ≤ len0 := by omega
  have n6 : len0 ≤ 6 := by omega
  go_enter Try.func4, Try.ntmps4
  go_wp2_with fail
  refine (known13_any _).mono ?_
  rintro e u1 ⟨rfl, hb2⟩
  replace hb := hb.trans (hb2.mono hb.size)
  clear hb2
  have hu1 := hb.size
  have B0 := Bk.at_ (w := u1) (g := u1.heap.size) (t := 3) (cs := ([(2 : Int)].map (Value.int .i64)).toArray) (by first | rfl | simp) rfl
  replace hb := hb.alloc hb.size (.cells ([(2 : Int)].map (Value.int .i64)).toArray 3)
  replace B0 := B0.alloc (.cells ([(0 : Int), 0].map (Value.int .i64)).toArray 3)
  have B1 := Bk.at_ (w := (u1.alloc (.cells ([(2 : Int)].map (Value.int .i64)).toArray 3))) (g := u1.heap.size + 1) (t := 3) (cs := ([(0 : Int), 0].map (Value.int .i64)).toArray) (by first | rfl | simp) rfl
  replace hb := hb.alloc hb.size (.cells ([(0 : Int), 0].map (Value.int .i64)).toArray 3)
  replace B0 := B0.alloc (.cells #[.int .i64 1, .slice (some ⟨u1.heap.size, 0, none⟩) 1 1, .slice (some ⟨u1.heap.size + 1, 0, none⟩) 2 2, .slice none 0 0] 26)
  replace B1 := B1.alloc (.cells #[.int .i64 1, .slice (some ⟨u1.heap.size, 0, none⟩) 1 1, .slice (some ⟨u1.heap.size + 1, 0, none⟩) 2 2, .slice none 0 0] 26)
  have B2 := Bk.at_ (w := ((u1.alloc (.cells ([(2 : Int)].map (Value.int .i64)).toArray 3)).alloc (.cells ([(0 : Int), 0].map (Value.int .i64)).toArray 3))) (g := u1.heap.size + 1 + 1) (t := 26) (cs := #[.int .i64 1, .slice (some ⟨u1.heap.size, 0, none⟩) 1 1, .slice (some ⟨u1.heap.size + 1, 0, none⟩) 2 2, .slice none 0 0]) (by first | rfl | simp) rfl
  replace hb := hb.alloc hb.size (.cells #[.int .i64 1, .slice (some ⟨u1.heap.size, 0, none⟩) 1 1, .slice (some ⟨u1.heap.size + 1, 0, none⟩) 2 2, .slice none 0 0] 26)
  go_wp2_with fail
  have hb0 := hidp (show w.heap.size ≤ u1.heap.size from hu1)
  go_loopg [6, 7] len0 (fun g al i wr => ∃ (k c : Nat) (A : Option Addr) (ts : List TaskR), k + g = len0 ∧ i = .int .i64 k ∧ al = .int .i64 (tot ((List.range k).map f)) ∧ ts.length = k ∧ CrowdTs f ts ∧ Grown (u1.heap.size + 3) wr A c ts ∧ Bk wr u1.heap.size 3 ([(2 : Int)].map (Value.int .i64)).toArray ∧ Bk wr (u1.heap.size + 1) 3 ([(0 : Int), 0].map (Value.int .i64)).toArray ∧ Bk wr (u1.heap.size + 1 + 1) 26 #[.int .i64 1, .slice (some ⟨u1.heap.size, 0, none⟩) 1 1, .slice (some ⟨u1.heap.size + 1, 0, none⟩) 2 2, .slice A k c] ∧ Below w.heap.size w wr ∧ u1.heap.size + 3 ≤ wr.heap.size)
  case atStart => exact ⟨0, 0, none, [], by omega, rfl, rfl, rfl, fun i hi => by simp at hi, Grown.none _ _, B0, B1, B2, hb, by simp⟩
  case round =>
    clear B0 B1 B2 hb
    obtain ⟨k, c, A, ts, hk, rfl, hal, hl, hR, hG, B0, B1, B2, hb, hz⟩ := hrel
    obtain ⟨T, HT⟩ : ∃ T, Hid (tot ((List.range k).map f) = T) := ⟨_, hidp rfl⟩
    rw [HT.out] at hal
    subst hal
    have hT : 0 ≤ T ∧ T ≤ 60 * (k : Int) := by
      rw [← HT.out]
      have h := tot_small (l := (List.range k).map f) (fun n hn => by
        obtain ⟨j, hj, rfl⟩ := List.mem_map.1 hn
        have := Hfb.out j (by have := List.mem_range.1 hj; have := Hul.out; omega)
        omega)
      simpa using h
    obtain ⟨T0, T1⟩ := hT
    by_cases hlt : k < len0
    · have hku : k < us.length := by rw [Hul.out]; exact hlt
      obtain ⟨gu, ou, hAU, hcu⟩ := HU.out.resolve_left (by intro e; rw [e] at hku; simp at hku)
      subst hAU
      obtain ⟨x, Hx⟩ : ∃ x, Hid (us.getD k 0 = x) := ⟨_, rfl⟩
      have hx := HUb.out k hku
      rw [Hx.out] at hx
      obtain ⟨x0, x1⟩ := hx
      have cu := (Keeps.of_below hb) _ _ (Hx.out ▸ hcu k hku)
      obtain ⟨y, hy⟩ : ∃ y, x.tmod 60 = y := ⟨_, rfl⟩
      have y0 : 0 ≤ y := by rw [← hy]; exact Int.tmod_nonneg _ x0
      have y1 : y < 60 := by rw [← hy]; exact Int.tmod_lt_of_pos _ (by decide)
      obtain ⟨v, hv⟩ : ∃ v, y + 1 = v := ⟨_, rfl⟩
      have v0 : 1 ≤ v := by omega
      have v1 : v ≤ 60 := by omega
      have Hfk : Hid (f k = v) := hidp (by rw [← Hf.out, Hx.out, ← hv, ← hy, Int.tmod_eq_emod_of_nonneg x0])
      obtain ⟨rr, hrr⟩ : ∃ rr, (k : Int).tmod 2 = rr := ⟨_, rfl⟩
      have Hrr : Hid (((k % 2 : Nat) : Int) = rr) := hidp (by rw [← hrr, Int.tmod_eq_emod_of_nonneg (by omega)]; simp)
      have rr0 : 0 ≤ rr := by rw [← Hrr.out]; omega
      have rr1 : rr ≤ 1 := by rw [← Hrr.out]; omega
      have kI : (k : Int) < (len0 : Int) := by omega
      have HW : Hid (∀ p ∈ [PartM.mk 1 1 0, PartM.mk 3 v rr], p.wf) := hidp (fun p hp => by
        simp at hp
        rcases hp with rfl | rfl
        · exact ⟨by show I64 1; decide, by show I64 1; decide, by show I64 0; decide⟩
        · exact ⟨by show I64 3; decide, by unfold I64; dsimp only; omega, by unfold I64; dsimp only; omega⟩)
      obtain ⟨t0, t1, t2, t3⟩ := Z4 B2
      have hw8 : IntKind.u8.wrap (97 + (k : Int)) = 97 + k := by
        have : k = 0 ∨ k = 1 ∨ k = 2 ∨ k = 3 ∨ k = 4 ∨ k = 5 := by omega
        rcases this with rfl | rfl | rfl | rfl | rfl | rfl <;> decide
      have hcb := run_convert_bytes_back (P := Try.prog) (wr.alloc (.cells #[.int .u8 (97 + (k : Int))] 5)) 30 9 5 ⟨wr.heap.size, 0, none⟩ 1 [UInt8.ofNat (97 + k)] Try.underlying30 Try.underlying5 Try.underlying9 (letter_bytes k (by omega) wr 5)
      change (convert 30 9 (.slice (some ⟨wr.heap.size, 0, none⟩) 1 1)).run Try.prog _ = .ok (.string (letter k)) _ at hcb
      obtain ⟨hG3, hT3, hnA, hgp⟩ := grown_made hG (Nat.le_trans (Nat.le_refl _) hz) (.cells #[.int .u8 (97 + (k : Int))] 5) (letter k) 900 900 ((k : Int) + 1) 0 [⟨1, 1, 0⟩, ⟨3, v, rr⟩] (by show 1 ≤ maxLen; decide) (by decide) (by decide) (by unfold I64; omega) (by decide) (by show 2 ≤ maxLen; decide) HW.out
      have T2' : T ≤ 360 := by omega
      clear hcu T1
      have HL := hidp hl
      have HfA := hidp (own_fp hG.own.own)
      have ho := hG3.own
      rw [hl] at ho
      have S2 := Lies.newCells' ((wr.alloc (.cells #[.int .u8 (97 + (k : Int))] 5)).alloc (.cells (ptc [⟨1, 1, 0⟩, ⟨3, v, rr⟩]).toArray 29)) (ttc [⟨letter k, 900, 900, (k : Int) + 1, 0, some ⟨wr.heap.size + 1, 0, none⟩, 2, [⟨1, 1, 0⟩, ⟨3, v, rr⟩]⟩]) 32
      rw [show ((wr.alloc (.cells #[.int .u8 (97 + (k : Int))] 5)).alloc (.cells (ptc [⟨1, 1, 0⟩, ⟨3, v, rr⟩]).toArray 29)).heap.size = wr.heap.size + 1 + 1 by simp] at S2
      have HS2 := hidp S2
      have O2 := hidp (ttc_one [⟨letter k, 900, 900, (k : Int) + 1, 0, some ⟨wr.heap.size + 1, 0, none⟩, 2, [⟨1, 1, 0⟩, ⟨3, v, rr⟩]⟩])
      have N2 : Hid (k + 1 ≤ maxLen) := hidp (by unfold maxLen; omega)
      have T2 : Hid ((k + 1) * 72 ≤ 140737488355328) := hidp (by omega)
      have TT := (((Turned.refl [] wr).alloc (.cells #[.int .u8 (97 + (k : Int))] 5)).alloc (.cells (ptc [⟨1, 1, 0⟩, ⟨3, v, rr⟩]).toArray 29)).alloc (.cells (ttc [⟨letter k, 900, 900, (k : Int) + 1, 0, some ⟨wr.heap.size + 1, 0, none⟩, 2, [⟨1, 1, 0⟩, ⟨3, v, rr⟩]⟩]).toArray 32)
      have Z2 : Hid (u1.heap.size + 3 ≤ _) := hidp (Nat.le_trans hz TT.size)
      have D0 := B0.turned TT (by simp)
      have D1 := B1.turned TT (by simp)
      have D2 := B2.turned TT (by simp)
      have hbT := hb.trans (TT.below hb.size (by simp))
      clear hl hG B0 B1 B2 hb S2 TT
      go_wp2_with (at_builtin; refine wpList_app2 _ rfl (.tmp 46) (.tmp 61) 24 rfl (u1.heap.size + 3) 32 i0 _ 6 72 Try.underlying24 hi0 hy0 hy1 hy2 rfl (by decide) A k c _ rfl ho.own _ _ 1 1 (ttc [⟨letter k, 900, 900, (k : Int) + 1, 0, some ⟨wr.heap.size + 1, 0, none⟩, 2, [⟨1, 1, 0⟩, ⟨3, v, rr⟩]⟩]) rfl (by simp) rfl HS2.out O2.out N2.out T2.out Z2.out ?_; intro A' c' w4 happ; have D2' := D2.turned happ.turned (fun hf => by have := (HfA.out _ hf).1; omega); obtain ⟨f0, f1, f2, f3⟩ := ZF4 D2'; obtain ⟨e0, e1, e2, e3⟩ := Z4 D2')
      go_roundg (gk - 1)
      case measure => omega
      case rel =>
        have hG4 := hG3.step rfl hgp hnA hT3 (by rw [HL.out]; exact happ)
        have TS := (Turned.refl [u1.heap.size + 1 + 1] w4).setCell (p := ⟨u1.heap.size + 1 + 1, 3, none⟩) (.inl (by simp)) (.slice A' (k + 1) c')
        have hzz := Nat.le_trans Z2.out happ.turned.size
        exact ⟨k + 1, c', A', _, by omega, by go_num, congrArg (Value.int .i64) (by rw [range_snoc2, tot_append, HT.out]; simp only [tot]; rw [Hfk.out]; omega), by rw [List.length_append, HL.out]; rfl, by have h := hR.snoc HL.out (some ⟨wr.heap.size + 1, 0, none⟩) 2; rw [Hfk.out, Hrr.out] at h; exact h, hG4.turned TS (fun j hj _ => by simp; omega), (D0.turned happ.turned (fun hf => by have := (HfA.out _ hf).1; omega)).turned TS (by simp; omega), (D1.turned happ.turned (fun hf => by have := (HfA.out _ hf).1; omega)).turned TS (by simp), D2'.put 3 (.slice A' (k + 1) c'), (hbT.trans (happ.turned.below hbT.size (fun j hj => by have := (HfA.out _ hj).1; have := hb0.out; omega))).trans (TS.below (Nat.le_trans hbT.size happ.turned.size) (by simp; have := hb0.out; omega)), Nat.le_trans hzz TS.size⟩
    · have hkn : k = len0 := by omega
      subst hkn
      obtain ⟨kk, hkk⟩ : ∃ kk, wh % k = kk := ⟨_, rfl⟩
      have hkl : kk < k := by rw [← hkk]; exact Nat.mod_lt _ (by omega)
      have ht1 : (wh : Int).tmod (k : Int) = (kk : Int) := by rw [Int.tmod_eq_emod_of_nonneg (by omega), ← hkk]; simp
      have hne : ¬ k = 0 := by omega
      have vals := crowd_vals (S := ⟨1, some ⟨u1.heap.size, 0, none⟩, 1, [2], some ⟨u1.heap.size + 1, 0, none⟩, 2, [0, 0], A, c, ts⟩) ⟨n0, n6⟩ (fun j hj => Hfb.out j (by rw [Hul.out]; exact hj)) rfl rfl rfl hl hR kk hkl
      rw [HT.out] at vals
      have hs : SetOk wr ⟨1, some ⟨u1.heap.size, 0, none⟩, 1, [2], some ⟨u1.heap.size + 1, 0, none⟩, 2, [0, 0], A, c, ts⟩ := ⟨by show I64 1; decide, ⟨⟨(fun e => by cases e), Nat.le_refl _, by show 1 ≤ maxLen; decide⟩, ints_lit B0, by show ∀ n ∈ [(2 : Int)], I64 n; decide⟩, ⟨⟨(fun e => by cases e), Nat.le_refl _, by show 2 ≤ maxLen; decide⟩, ints_lit B1, by show ∀ n ∈ [(0 : Int), 0], I64 n; decide⟩, hG.tasks⟩
      have sc := Z4 B2
      have T2' : T ≤ 360 := by omega
      obtain ⟨k1, k2, k3, k4, k5, k6, k7⟩ := vals
      have K1 := hidp k1
      have K2 := hidp k2
      have K3 := hidp k3
      have K4 := hidp k4
      have K5 := hidp k5
      have K6 := hidp k6
      have K7 := hidp k7
      clear k1 k2 k3 k4 k5 k6 k7 hG B0 B1 B2 hR T1 hkk
      subst hl
      obtain ⟨sc_0, sc_1, sc_2, sc_3⟩ := id sc
      go_wp2_with fail
      refine (part_any _ kk 1 _ hs).mono ?_
      rintro e u2 ⟨rfl, hb2⟩
      replace hb := hb.trans (hb2.mono hb.size)
      replace sc := And.intro (Keeps.of_below hb2 _ _ sc.1) (And.intro (Keeps.of_below hb2 _ _ sc.2.1) (And.intro (Keeps.of_below hb2 _ _ sc.2.2.1) (Keeps.of_below hb2 _ _ sc.2.2.2)))
      replace hs := hs.keep (Keeps.of_below hb2)
      clear hb2
      rw [K1.out, K2.out]
      clear sc_0 sc_1 sc_2 sc_3
      obtain ⟨sc_0, sc_1, sc_2, sc_3⟩ := id sc
      go_wp2_with fail
      refine (part_any _ kk 0 _ hs).mono ?_
      rintro e u3 ⟨rfl, hb2⟩
      replace hb := hb.trans (hb2.mono hb.size)
      replace sc := And.intro (Keeps.of_below hb2 _ _ sc.1) (And.intro (Keeps.of_below hb2 _ _ sc.2.1) (And.intro (Keeps.of_below hb2 _ _ sc.2.2.1) (Keeps.of_below hb2 _ _ sc.2.2.2)))
      replace hs := hs.keep (Keeps.of_below hb2)
      clear hb2
      rw [K3.out, K4.out]
      clear sc_0 sc_1 sc_2 sc_3
      obtain ⟨sc_0, sc_1, sc_2, sc_3⟩ := id sc
      go_wp2_with fail
      refine (part_any _ ts.length 1 _ hs).mono ?_
      rintro e u4 ⟨rfl, hb2⟩
      replace hb := hb.trans (hb2.mono hb.size)
      replace sc := And.intro (Keeps.of_below hb2 _ _ sc.1) (And.intro (Keeps.of_below hb2 _ _ sc.2.1) (And.intro (Keeps.of_below hb2 _ _ sc.2.2.1) (Keeps.of_below hb2 _ _ sc.2.2.2)))
      replace hs := hs.keep (Keeps.of_below hb2)
      clear hb2
      rw [K5.out, K6.out]
      clear sc_0 sc_1 sc_2 sc_3
      obtain ⟨sc_0, sc_1, sc_2, sc_3⟩ := id sc
      go_wp2_with fail
      refine (ahead_any _ kk _ hs).mono ?_
      rintro e u5 ⟨rfl, hb2⟩
      replace hb := hb.trans (hb2.mono hb.size)
      clear hb2
      rw [K7.out]
      go_wp2_with fail
      go_ret
      exact ⟨rfl, hb⟩

theorem own : ownKnob Try.prog.godebug = none := by kernel_rfl
theorem laidOut : laidOutB Try.prog = true := by kernel_rfl

/-! THE ROW's STEP -/
set_option maxRecDepth 100000 in
theorem lifted (os : Os) (started : os.Started) (H : Type) (enc : TypeId × Value → H) :
    ReturnsInHanded {} Try.checked os 4 .any (Rows.fairCrowdSpec.pre6 enc Try.prog Try.f4 Rows.fairCrowdRow.domain false) (Rows.fairCrowdSpec.post enc Try.prog Try.f4 false true false false) := by
  refine returnsInHanded_of_change (C := Try.checked) own started (by kernel_rfl) Try.func4
    (ChangeSpec.witness6 (enc := enc) (C := Try.checked) false ⟨#[], #[.slice none 0 0, .int .u8 0], []⟩ 8 (by kernel_rfl) (by kernel_rfl) (by kernel_rfl) (by kernel_rfl)) ?_
  intro W base args ds gs before hval0 hW hcnd _
  have hval : ∀ (j : Nat) t v, Try.f4.params[j]? = some t → args[j]? = some v → Value.okWide Try.prog W .any base t v := hval0
  have hW' := hW
  obtain ⟨p, q, hA0, hV, rfl, hfz, hnd⟩ := hW
  have hA : DataW.TrodAll enc Try.prog W 0 (fun _ => true) true Try.f4.params.toList args.toList ds p := hA0
  rw [Try.params4] at hA hval
  obtain ⟨v0, vs0, d0, ds0, p0, q0, hargs, rfl, rfl, h0, r0⟩ := trodAll_cons hA
  obtain ⟨v1, vs1, d1, ds1, p1, q1, rfl, rfl, rfl, h1, r1⟩ := trodAll_cons r0
  obtain ⟨rfl, rfl, rfl⟩ := trodAll_nil r1
  obtain rfl : args = #[v0, v1] := by cases args; simp_all
  obtain ⟨rfl, rfl⟩ := trodVars_none hV
  obtain ⟨a0, len0, cap0, rfl⟩ := okWide_slice Try.underlying30 (hval 0 30 v0 rfl rfl)
  have k0 := h0
  have lt0 : ∀ x ∈ p0, x.block < W.heap.size := by obtain ⟨m, hm⟩ := k0; exact DataW.trod_lt m _ _ _ hm
  obtain ⟨z0, w0⟩ : ∃ zs, IsRow .u8 W a0 len0 cap0 zs := by
    obtain ⟨fuel, hf⟩ := h0
    rcases open_ints Try.underlying30 Try.underlying5 (by kernel_rfl) hf with ⟨hcs, _⟩ | ⟨x, l, c, zs, hcs, _, hl, hm, hz, _, hcell, hwz⟩
    · simp [Value.cells] at hcs
      obtain ⟨rfl, rfl, rfl⟩ := hcs
      exact ⟨[], .inl ⟨rfl, rfl, rfl, rfl⟩⟩
    · simp [Value.cells] at hcs
      obtain ⟨rfl, rfl, rfl⟩ := hcs
      exact ⟨zs, .inr ⟨_, rfl, hl, hm, by simpa using hz, hcell, hwz⟩⟩
  obtain ⟨a1, rfl, rfl, rfl, w1⟩ := open_int Try.underlying5 (hval 1 5 v1 rfl rfl) h1
  clear hA0 hval0
  refine (walk a0 len0 cap0 z0 a1 W w0 w1).mono fun e W' ⟨he, bel⟩ => ?_
  subst he
  exact ⟨_, rfl, _, _, _, [], _, [], hW', trodAll_mk1 (shut_bool Try.underlying4 _), (trodAll_cons_mk (Below.trod laidOut (by kernel_rfl) (of_decide_eq_true (by kernel_rfl)) k0 bel lt0) (trodAll_cons_mk (shut_int Try.underlying5 w1) trodAll_mk0)), rfl, bel.frame _, fun h => by cases h⟩

theorem over : Rows.fairCrowdRow.holds Try.pinned (OpenSpec.ofChange Rows.fairCrowdSpec) :=
  OpenClaim.holds_of_wide 4 Try.f4 rfl rfl rfl rfl rfl rfl rfl ⟨rfl, rfl, rfl, rfl, rfl⟩ rfl rfl rfl rfl rfl (by kernel_rfl) Try.func4 (by kernel_rfl)
    (of_decide_eq_true (by kernel_rfl)) (by unfold Func.isWrapper; first | (rw [if_pos (by decide +kernel)]; kernel_rfl) | (rw [if_neg (by decide +kernel)]; exact ⟨rfl, rfl⟩))
    (fun os started H enc _ => lifted os started H enc)

/-- THE STATEMENT -/
theorem proved : Rows.FairCrowdSaid := over
#print axioms proved
end Go.Proofs.Ytindcpgmfdkpcaa.fairCrowd

