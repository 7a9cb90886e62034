/- TurnBoosts: who is boosted is ahead of all that aren't, whatever their priority; of the boosted ones the earlier place. No condition. -/
import Derived.Test.YtmaanbjhofemnaaKnown22
import Derived.Test.YtmaanbjhofemnaaTurnNums
import Derived.Lib.Hide
set_option linter.unusedSimpArgs false
set_option linter.unusedVariables false
namespace Go.Proofs.Ytmaanbjhofemnaa
/-- who is number i -/
def mkW (bs ps : List Int) (i : Nat) : WhoM := ⟨i, ps.getD i 0, if bs.getD i 0 % 2 = 1 then bs.getD i 0 else 0⟩
def rowW (bs ps : List Int) (n : Nat) : List WhoM := (List.range n).map (mkW bs ps)
theorem rowW_len (bs ps : List Int) (n : Nat) : (rowW bs ps n).length = n := by simp [rowW]
theorem rowW_snoc (bs ps : List Int) (n : Nat) : rowW bs ps (n + 1) = rowW bs ps n ++ [mkW bs ps n] := by simp [rowW, List.range_succ]
def oddN (bs : List Int) (n : Nat) : Nat := (List.range n).countP (fun i => decide (bs.getD i 0 % 2 = 1))
theorem oddN_snoc (bs : List Int) (n : Nat) : oddN bs (n + 1) = oddN bs n + if bs.getD n 0 % 2 = 1 then 1 else 0 := by
  unfold oddN
  rw [List.range_succ, List.countP_append]
  simp [List.countP_cons]
theorem oddN_le (bs : List Int) (n : Nat) : oddN bs n ≤ n := by
  unfold oddN
  have := List.countP_le_length (p := fun i => decide (bs.getD i 0 % 2 = 1)) (l := List.range n)
  simpa using this
theorem boost_mk {bs ps : List Int} {i : Nat} (h : ∀ n ∈ bs, 0 ≤ n) : boostB (mkW bs ps i) = decide (bs.getD i 0 % 2 = 1) := by
  unfold boostB mkW
  dsimp only
  have h0 : 0 ≤ bs.getD i 0 := by
    by_cases hi : i < bs.length
    · exact h _ (by simp [List.getD, hi])
    · simp [List.getD, hi]
  by_cases e : bs.getD i 0 % 2 = 1
  · rw [if_pos e, decide_eq_true e]; exact decide_eq_true (by omega)
  · rw [if_neg e, decide_eq_false e]; exact decide_eq_false (by omega)
theorem count_boost {bs ps : List Int} (h : ∀ n ∈ bs, 0 ≤ n) (n : Nat) : (rowW bs ps n).countP boostB = oddN bs n := by
  unfold rowW oddN
  rw [List.countP_map]
  congr 1
  funext i
  exact boost_mk h
/-- who is at place i of the sorted row -/
theorem place_is {bs ps : List Int} (h : ∀ n ∈ bs, 0 ≤ n) {n i : Nat} (hi : i < n) : ∃ t : Nat, t < n ∧ (sortW (rowW bs ps n)).getD i default = mkW bs ps t ∧ (bs.getD t 0 % 2 = 1 ↔ i < oddN bs n) := by
  have h1 := sort_mem (rowW bs ps n) i (by rw [rowW_len]; exact hi)
  have h2 := sort_boost (rowW bs ps n) i (by rw [rowW_len]; exact hi)
  obtain ⟨t, ht, e⟩ := List.mem_map.1 h1
  refine ⟨t, List.mem_range.1 ht, e.symm, ?_⟩
  rw [← e, boost_mk h, count_boost h] at h2
  have : decide (bs.getD t 0 % 2 = 1) = true ↔ decide (i < oddN bs n) = true := by rw [h2]
  simpa using this
theorem place_next {bs ps : List Int} (h : ∀ n ∈ bs, 0 ≤ n) {n i t t' : Nat} (hi : i + 1 < n) (e1 : (sortW (rowW bs ps n)).getD i default = mkW bs ps t') (e2 : (sortW (rowW bs ps n)).getD (i + 1) default = mkW bs ps t) :
    (bs.getD t 0 % 2 = 1 → bs.getD t' 0 % 2 = 1 → bs.getD t' 0 ≤ bs.getD t 0) ∧ (¬ bs.getD t 0 % 2 = 1 → ¬ bs.getD t' 0 % 2 = 1 → ps.getD t' 0 ≤ ps.getD t 0) := by
  have h1 := sort_next (rowW bs ps n) i (by rw [rowW_len]; exact hi)
  rw [e1, e2, not_ahead] at h1
  have hn : ∀ k, 0 ≤ bs.getD k 0 := fun k => by
    by_cases hk : k < bs.length
    · exact h _ (by simp [List.getD, hk])
    · simp [List.getD, hk]
  have n1 := hn t
  have n2 := hn t'
  unfold key1 key2 mkW at h1
  dsimp only at h1
  refine ⟨fun a b => ?_, fun a b => ?_⟩
  · rw [if_pos a, if_pos b, if_pos (by omega), if_pos (by omega), if_pos (by omega), if_pos (by omega)] at h1
    omega
  · rw [if_neg a, if_neg b, if_neg (by omega : ¬ (0 : Int) < 0), if_neg (by omega : ¬ (0 : Int) < 0)] at h1
    omega
theorem firstV_at {l : List WhoM} {k : Int} {i : Nat} (hi : i < (firstV l k).length) : (firstV l k).getD i 0 = ((sortW l).getD i default).task := by
  unfold firstV at hi ⊢
  have h2 := hi
  rw [List.length_map, List.length_take] at h2
  simp only [List.getD_eq_getElem?_getD, List.getElem?_map, List.getElem?_take]
  rw [if_pos (by omega), List.getElem?_eq_getElem (by omega)]
  rfl
theorem rowW_ok {bs ps : List Int} {n B c : Nat} {w : World} {A : Option Addr} (h0 : ∀ n ∈ bs, 0 ≤ n ∧ n ≤ 255) (h1 : ∀ n ∈ ps, 0 ≤ n ∧ n ≤ 255) (hn : n ≤ 20) (ho : OwnW B w A n c (rowW bs ps n)) : WhosOk w A c (rowW bs ps n) := by
  refine ⟨Lies.of_own ho.own, fun e => ⟨by rw [rowW_len]; exact (ho.nil e).1, (ho.nil e).2⟩, by rw [rowW_len]; exact ho.cap, fun x hx => ?_⟩
  obtain ⟨i, hi, rfl⟩ := List.mem_map.1 hx
  have hi := List.mem_range.1 hi
  have g : ∀ (zs : List Int), (∀ n ∈ zs, 0 ≤ n ∧ n ≤ 255) → 0 ≤ zs.getD i 0 ∧ zs.getD i 0 ≤ 255 := fun zs h => by
    by_cases e : i < zs.length
    · exact h _ (by simp [List.getD, e])
    · simp [List.getD, e]
  have a0 := g bs h0
  have a1 := g ps h1
  have iI : ∀ z : Int, 0 ≤ z → z ≤ 255 → I64 z := fun z _ _ => by unfold I64; omega
  unfold mkW
  refine ⟨iI (i : Int) (by omega) (by omega), iI _ a1.1 a1.2, ?_⟩
  dsimp only
  split
  · exact iI _ a0.1 a0.2
  · exact iI _ (by omega) (by omega)
theorem firstV_len (l : List WhoM) (k : Int) : ((firstV l k).length : Int) = min (max k 0) l.length := by
  unfold firstV
  rw [List.length_map, List.length_take, sortW_len]; omega
end Go.Proofs.Ytmaanbjhofemnaa
set_option maxHeartbeats 8000000
set_option maxRecDepth 100000
namespace Go.Proofs.Ytmaanbjhofemnaa.turnBoosts
open Go.ChangeShapes Go.WideShapes Go.ChangeAt Go.RowKit
open Go.ChangeMaps (open_string shut_string)
set_option linter.unusedVariables false

/-- THE WALK: the Go text returns true, and writes nothing that was there. -/
theorem walk (a0 : Option Addr) (len0 cap0 : Nat) (z0 : List Int) (a1 : Option Addr) (len1 cap1 : Nat) (z1 : List Int) (a2 : Int) (w : World) (w0 : IsRow .u8 w a0 len0 cap0 z0) (w1 : IsRow .u8 w a1 len1 cap1 z1) (w2 : (Lit.int .u8 a2).wf = true) :
    Calls Try.prog 5 #[.slice a0 len0 cap0, .slice a1 len1 cap1, .int .u8 a2] w fun e w' => e = .returned (.bool true) ∧ Below w.heap.size w w' := by
  obtain ⟨hr0, hl0, hm0, hz0⟩ := w0.row
  obtain ⟨hr1, hl1, hm1, hz1⟩ := w1.row
  obtain ⟨bs, hbs⟩ : ∃ ls, z0.take len0 = ls := ⟨_, rfl⟩
  obtain ⟨ps, hps⟩ : ∃ ls, z1.take len1 = ls := ⟨_, rfl⟩
  rw [hbs] at hr0 hl0 hz0
  rw [hps] at hr1 hl1 hz1
  subst hl0
  subst hl1
  unfold maxLen at hm0 hm1
  have u8 : ∀ n : Int, (Lit.int .u8 n).wf = true → 0 ≤ n ∧ n ≤ 255 := fun n h => by simp [Lit.wf, IntKind.min, IntKind.max, IntKind.signed, IntKind.bits] at h; omega
  have B8 := hidp (fun n hn => u8 n (hz0 n hn))
  have P8 := hidp (fun n hn => u8 n (hz1 n hn))
  have b2 := u8 a2 w2
  obtain ⟨a20, a21⟩ := b2
  clear w0 w1 w2 hz0 hz1 hbs hps u8
  go_enter Try.func5, Try.ntmps5
  go_wp2_with fail
  refine (known22_any w).mono ?_
  rintro e u1 ⟨rfl, hb⟩
  replace hr0 := hr0.mono (Keeps2 hb)
  replace hr1 := hr1.mono (Keeps2 hb)
  by_cases h20 : 20 < bs.length
  · have h20' : (20 : Int) < (bs.length : Int) := by omega
    go_wp2_with fail
    go_ret
    exact ⟨rfl, hb⟩
  by_cases hlt : ps.length < bs.length
  · have h20' : ¬ (20 : Int) < (bs.length : Int) := by omega
    have hlt' : (ps.length : Int) < (bs.length : Int) := by omega
    go_wp2_with fail
    go_ret
    exact ⟨rfl, hb⟩
  have h20' : ¬ (20 : Int) < (bs.length : Int) := by omega
  have hlt' : ¬ (ps.length : Int) < (bs.length : Int) := by omega
  go_wp2_with fail
  obtain ⟨i0, hi0, hy0, hy1, hy2⟩ := info_parts infoWho
  have H1 := hidp hb
  have o0 : OwnW u1.heap.size u1 none 0 0 (rowW bs ps 0) := OwnW.empty _ _
  have hb0 := Below.refl u1.heap.size u1
  have HR0 := hidp hr0
  have HR1 := hidp hr1
  clear hr0 hr1 hb
  go_loopg [7, 8, 9] bs.length (fun gg l c i wr => ∃ (k c' : Nat) (A : Option Addr), k + gg = bs.length ∧ i = .int .i64 k ∧ c = .int .i64 ((oddN bs k : Nat) : Int) ∧ l = .slice A k c' ∧ OwnW u1.heap.size wr A k c' (rowW bs ps k) ∧ Below u1.heap.size u1 wr)
  case atStart => exact ⟨0, 0, none, by omega, rfl, rfl, rfl, o0, hb0⟩
  case round =>
    clear o0 hb0
    obtain ⟨k, c', A, hk, rfl, rfl, rfl, ho, hbr⟩ := hrel
    by_cases hkl : k < bs.length
    · have hkp : k < ps.length := by omega
      obtain ⟨g0, q0, e0, hc0⟩ := (HR0.out.mono (Keeps2 hbr)).resolve_left (by intro e; rw [e] at hkl; simp at hkl)
      obtain ⟨g1, q1, e1, hc1⟩ := (HR1.out.mono (Keeps2 hbr)).resolve_left (by intro e; rw [e] at hkp; simp at hkp)
      subst e0
      subst e1
      obtain ⟨x, Hx⟩ : ∃ x, Hid (bs.getD k 0 = x) := ⟨_, rfl⟩
      obtain ⟨p, Hp⟩ : ∃ x, Hid (ps.getD k 0 = x) := ⟨_, rfl⟩
      have x0 := Hx.out ▸ hc0 k hkl
      have p0 := Hp.out ▸ hc1 k hkp
      have bx := B8.out x (by rw [← Hx.out]; simp [List.getD, hkl])
      have bp := P8.out p (by rw [← Hp.out]; simp [List.getD, hkp])
      obtain ⟨bx0, bx1⟩ := bx
      obtain ⟨bp0, bp1⟩ := bp
      have kI : (k : Int) < (bs.length : Int) := by omega
      have kP : (k : Int) < (ps.length : Int) := by omega
      have k20 : k < 20 := by omega
      clear hc0 hc1
      have x0' := Keeps2 ((Below.refl wr.heap.size wr).alloc (Nat.le_refl _) (.cells #[.int .i64 k, .int .i64 p, .int .i64 0] 23)) _ _ x0
      by_cases hod : x % 2 = 1
      · have hodd1 : (x % 2 == 1) = true := by simpa using hod
        have S0 := hidp (show mkW bs ps k = ⟨k, p, x⟩ by unfold mkW; rw [Hx.out, Hp.out]; simp [hod])
        have HO2 : Hid (((oddN bs (k + 1) : Nat) : Int) = oddN bs k + 1) := hidp (by rw [oddN_snoc, Hx.out, if_pos hod]; rfl)
        have ho4 := ho.turned (((Turned.refl [] wr).alloc (.cells #[.int .i64 k, .int .i64 p, .int .i64 x] 23)).alloc (.cells (wtc [⟨k, p, x⟩]).toArray 23)) (by simp)
        have s2 := who_new (wr.alloc (.cells #[.int .i64 k, .int .i64 p, .int .i64 x] 23)) (wtc [⟨k, p, x⟩]) 23
        rw [show (wr.alloc (.cells #[.int .i64 k, .int .i64 p, .int .i64 x] 23)).heap.size = wr.heap.size + 1 by simp] at s2
        have S2 := hidp s2
        have W1 := (hbr.alloc hbr.size (.cells #[.int .i64 k, .int .i64 p, .int .i64 x] 23)).alloc (hbr.alloc hbr.size _).size (.cells (wtc [⟨k, p, x⟩]).toArray 23)
        have Z2 := hidp W1.size
        have O2 := hidp (wtc_one [⟨k, p, x⟩])
        have N2 : Hid (k + 1 ≤ maxLen) := hidp (by unfold maxLen; omega)
        have T2 : Hid ((k + 1) * 24 ≤ 140737488355328) := hidp (by omega)
        have Hfp := hidp (own_fp ho4.own)
        have hW := hidp W1
        have HO4 := hidp ho4
        have own4 := ho4.own
        have L2 : Hid ((wtc [⟨(k : Int), p, x⟩]).length = 1 * 3) := hidp rfl
        have hodd := oddN_le bs k
        have HJ := hidp hk
        clear s2 ho hbr W1 ho4 hk
        go_wp2_with (at_builtin; refine wpList_app2 _ rfl (.tmp 52) (.tmp 54) 24 rfl u1.heap.size 23 i0 _ 3 24 Try.underlying24 hi0 hy0 hy1 hy2 rfl (by decide) A k c' _ rfl own4 _ _ 1 1 (wtc [⟨k, p, x⟩]) rfl (by simp) L2.out S2.out O2.out N2.out T2.out Z2.out ?_; intro A9 c9 w6 happ)
        go_roundg (gk - 1)
        case measure => have := HJ.out; omega
        case rel => exact ⟨k + 1, c9, A9, by have := HJ.out; omega, by go_num, by rw [HO2.out], rfl, by rw [rowW_snoc, S0.out]; exact HO4.out.app (ps := [⟨k, p, x⟩]) happ rfl, hW.out.trans (happ.turned.below hW.out.size (fun i hi => (Hfp.out i hi).1))⟩
      · have hodd1 : (x % 2 == 1) = false := by simpa using hod
        have S0 := hidp (show mkW bs ps k = ⟨k, p, 0⟩ by unfold mkW; rw [Hx.out, Hp.out]; simp [hod])
        have HO2 : Hid (((oddN bs (k + 1) : Nat) : Int) = oddN bs k) := hidp (by rw [oddN_snoc, Hx.out, if_neg hod]; simp)
        have ho4 := ho.turned (((Turned.refl [] wr).alloc (.cells #[.int .i64 k, .int .i64 p, .int .i64 0] 23)).alloc (.cells (wtc [⟨k, p, 0⟩]).toArray 23)) (by simp)
        have s2 := who_new (wr.alloc (.cells #[.int .i64 k, .int .i64 p, .int .i64 0] 23)) (wtc [⟨k, p, 0⟩]) 23
        rw [show (wr.alloc (.cells #[.int .i64 k, .int .i64 p, .int .i64 0] 23)).heap.size = wr.heap.size + 1 by simp] at s2
        have S2 := hidp s2
        have W1 := (hbr.alloc hbr.size (.cells #[.int .i64 k, .int .i64 p, .int .i64 0] 23)).alloc (hbr.alloc hbr.size _).size (.cells (wtc [⟨k, p, 0⟩]).toArray 23)
        have Z2 := hidp W1.size
        have O2 := hidp (wtc_one [⟨k, p, 0⟩])
        have N2 : Hid (k + 1 ≤ maxLen) := hidp (by unfold maxLen; omega)
        have T2 : Hid ((k + 1) * 24 ≤ 140737488355328) := hidp (by omega)
        have Hfp := hidp (own_fp ho4.own)
        have hW := hidp W1
        have HO4 := hidp ho4
        have own4 := ho4.own
        have L2 : Hid ((wtc [⟨(k : Int), p, 0⟩]).length = 1 * 3) := hidp rfl
        have hodd := oddN_le bs k
        have HJ := hidp hk
        clear s2 ho hbr W1 ho4 hk
        go_wp2_with (at_builtin; refine wpList_app2 _ rfl (.tmp 52) (.tmp 54) 24 rfl u1.heap.size 23 i0 _ 3 24 Try.underlying24 hi0 hy0 hy1 hy2 rfl (by decide) A k c' _ rfl own4 _ _ 1 1 (wtc [⟨k, p, 0⟩]) rfl (by simp) L2.out S2.out O2.out N2.out T2.out Z2.out ?_; intro A9 c9 w6 happ)
        go_roundg (gk - 1)
        case measure => have := HJ.out; omega
        case rel => exact ⟨k + 1, c9, A9, by have := HJ.out; omega, by go_num, by rw [HO2.out], rfl, by rw [rowW_snoc, S0.out]; exact HO4.out.app (ps := [⟨k, p, 0⟩]) happ rfl, hW.out.trans (happ.turned.below hW.out.size (fun i hi => (Hfp.out i hi).1))⟩
    · have hkn : k = bs.length := by omega
      subst hkn
      have C := first_any A c' (rowW bs ps bs.length) (bs.length : Int) wr (rowW_ok B8.out P8.out (by omega) ho) (by rw [rowW_len]; omega)
      have Wok := hidp (rowW_ok B8.out P8.out (by omega) ho)
      rw [rowW_len] at C
      have HB := hidp hbr
      clear ho hbr hk
      go_wp2_with fail
      refine C.mono ?_
      rintro e w3 ⟨F, cf, rfl, hr, hnF, hcF, hb3, hfF⟩
      have eF := firstV_len (rowW bs ps bs.length) (bs.length : Int)
      rw [rowW_len, Int.max_eq_left (by omega), Int.min_self] at eF
      have HF := hidp hr
      have nF : (firstV (rowW bs ps bs.length) (bs.length : Int)).length = bs.length := by omega
      rw [nF]
      have C2 := first_any A c' (rowW bs ps bs.length) (a2 % 25) w3 (Wok.out.over hb3) (by rw [rowW_len]; omega)
      rw [rowW_len] at C2
      clear hr hnF hcF hfF C eF
      go_wp2_with fail
      refine C2.mono ?_
      rintro e w4 ⟨G, cg, rfl, hrG, hnG, hcG, hb4, hfG⟩
      have eG := firstV_len (rowW bs ps bs.length) (a2 % 25)
      rw [rowW_len, Int.max_eq_left (by omega)] at eG
      obtain ⟨m, hm⟩ : ∃ m, (firstV (rowW bs ps bs.length) (a2 % 25)).length = m := ⟨_, rfl⟩
      rw [hm] at eG ⊢
      have hmn : (if (bs.length : Int) < a2 % 25 then (bs.length : Int) else a2 % 25) = (m : Int) := by rw [eG]; split <;> omega
      have hb34 := HB.out.trans (hb3.mono HB.out.size)
      have HB4 := hidp (hb34.trans (hb4.mono hb34.size))
      have HF4 := hidp (HF.out.mono (Keeps2 hb4))
      obtain ⟨FV, HFV⟩ : ∃ l, Hid (firstV (rowW bs ps bs.length) (bs.length : Int) = l) := ⟨_, hidp rfl⟩
      rw [HFV.out] at HF4 nF
      have Hb0 : Hid (∀ n ∈ bs, 0 ≤ n) := hidp (fun n hn => (B8.out n hn).1)
      have HT : Hid (∀ j, j < bs.length → ∃ t : Nat, t < bs.length ∧ FV.getD j 0 = (t : Int) ∧ (sortW (rowW bs ps bs.length)).getD j default = mkW bs ps t ∧ (bs.getD t 0 % 2 = 1 ↔ j < oddN bs bs.length)) := hidp (fun j hj => by
        obtain ⟨t, h1, h2, h3⟩ := place_is Hb0.out (ps := ps) hj
        refine ⟨t, h1, ?_, h2, h3⟩
        rw [← HFV.out, firstV_at (by rw [HFV.out, nF]; exact hj), h2]
        rfl)
      have HN : Hid (∀ j t t', j + 1 < bs.length → (sortW (rowW bs ps bs.length)).getD j default = mkW bs ps t' → (sortW (rowW bs ps bs.length)).getD (j + 1) default = mkW bs ps t → (bs.getD t 0 % 2 = 1 → bs.getD t' 0 % 2 = 1 → bs.getD t' 0 ≤ bs.getD t 0) ∧ (¬ bs.getD t 0 % 2 = 1 → ¬ bs.getD t' 0 % 2 = 1 → ps.getD t' 0 ≤ ps.getD t 0)) := hidp (fun j t t' hj h1 h2 => place_next Hb0.out hj h1 h2)
      obtain ⟨on, Hon⟩ : ∃ k, Hid (oddN bs bs.length = k) := ⟨_, hidp rfl⟩
      have onl : on ≤ bs.length := by rw [← Hon.out]; exact oddN_le _ _
      rw [Hon.out] at HT ⊢
      have HnF := hidp nF
      have HR0' := hidp (HR0.out.mono (Keeps2 HB4.out))
      have HR1' := hidp (HR1.out.mono (Keeps2 HB4.out))
      clear hrG hnG hcG hb4 hfG C2 hm eG hb34 nF hb3
      go_wp2_with fail
      have ht0 := Turned.refl [] w4
      go_loopg [12] bs.length (fun gg i w5 => ∃ j : Nat, j + gg = bs.length ∧ i = .int .i64 j ∧ Turned [] w4 w5)
      case atStart => exact ⟨0, by omega, rfl, ht0⟩
      case round =>
        clear ht0
        obtain ⟨j, hj, rfl, ht5⟩ := hrel
        have hb5 := ht5.below (Nat.le_refl _) (by simp)
        by_cases hjl : j < bs.length
        · obtain ⟨t, ht, et, es, eo⟩ := HT.out j hjl
          obtain ⟨g2, q2, e2, hc2⟩ := (HF4.out.mono (Keeps2 hb5)).resolve_left (by intro e; have := HnF.out; rw [e] at this; simp at this; omega)
          obtain ⟨g0, q0, e0, hc0⟩ := (HR0'.out.mono (Keeps2 hb5)).resolve_left (by intro e; rw [e] at hjl; simp at hjl)
          obtain ⟨g1, q1, e1, hc1⟩ := (HR1'.out.mono (Keeps2 hb5)).resolve_left (by intro e; have e9 := congrArg List.length e; simp only [List.length_nil] at e9; omega)
          subst e0
          subst e1
          subst e2
          have f0 := et ▸ hc2 j (by rw [HnF.out]; exact hjl)
          obtain ⟨x, Hx⟩ : ∃ x, Hid (bs.getD t 0 = x) := ⟨_, rfl⟩
          obtain ⟨p, Hp⟩ : ∃ x, Hid (ps.getD t 0 = x) := ⟨_, rfl⟩
          have x0 := Hx.out ▸ hc0 t ht
          have p0 := Hp.out ▸ hc1 t (by omega)
          have bx := B8.out x (by rw [← Hx.out]; simp [List.getD, ht])
          obtain ⟨bx0, bx1⟩ := bx
          have j0 : (0 : Int) ≤ (j : Int) := by omega
          have jn : (j : Int) < (bs.length : Int) := by omega
          have t0 : (0 : Int) ≤ (t : Int) := by omega
          have tn : (t : Int) < (bs.length : Int) := by omega
          have tp : (t : Int) < (ps.length : Int) := by omega
          rw [Hx.out] at eo
          have Heo := hidp eo
          have Hes := hidp es
          have Hj := hidp hj
          have Hht := hidp ht5
          have Hc := hidp (And.intro hc0 (And.intro hc1 hc2))
          clear eo es hj hc0 hc1 hc2 et ht5 hb5
          by_cases hjo : j < on
          · have hx1 : (x % 2 == 1) = true := by simpa using Heo.out.2 hjo
            have jd : (j : Int) < (on : Int) := by omega
            have jd' : decide (j < on) = true := by simpa using hjo
            have jg : ¬ (on : Int) < (j : Int) := by omega
            have jg' : decide (on < j) = false := by simp; omega
            rcases Nat.eq_zero_or_pos j with hz | hp
            · have jz : ¬ (0 : Int) < (j : Int) := by omega
              have jz' : decide (0 < j) = false := by simp; omega
              clear hjo hz
              go_wp2_with fail
              go_quiet (fail)
              go_wp2
              go_roundg (gk - 1)
              case measure => have := Hj.out; omega
              case rel => exact ⟨j + 1, by have := Hj.out; omega, by go_num, Hht.out.drewN _⟩
            · have jz : (0 : Int) < (j : Int) := by omega
              have jz' : decide (0 < j) = true := by simpa using hp
              obtain ⟨j', hj'⟩ : ∃ j', j = j' + 1 := ⟨j - 1, by omega⟩
              obtain ⟨t2, ht2, et2, es2, eo2⟩ := HT.out j' (by omega)
              have f2 := et2 ▸ Hc.out.2.2 j' (by rw [HnF.out]; omega)
              obtain ⟨x2, Hx2⟩ : ∃ x, Hid (bs.getD t2 0 = x) := ⟨_, rfl⟩
              obtain ⟨p2, Hp2⟩ : ∃ x, Hid (ps.getD t2 0 = x) := ⟨_, rfl⟩
              have x20 := Hx2.out ▸ Hc.out.1 t2 ht2
              have p20 := Hp2.out ▸ Hc.out.2.1 t2 (by omega)
              have hw1 : IntKind.i64.wrap ((j : Int) - 1) = (j' : Int) := by rw [IntWalk.i64_in _ (by omega)]; omega
              have j20 : (0 : Int) ≤ (j' : Int) := by omega
              have j21 : (j' : Int) < (bs.length : Int) := by omega
              have t20 : (0 : Int) ≤ (t2 : Int) := by omega
              have t21 : (t2 : Int) < (bs.length : Int) := by omega
              have t22 : (t2 : Int) < (ps.length : Int) := by omega
              have hord := HN.out j' t t2 (by omega) es2 (hj' ▸ Hes.out)
              rw [Hx.out, Hx2.out, Hp.out, Hp2.out] at hord
              rw [Hx2.out] at eo2
              have hcmp := hord.1 (Heo.out.2 hjo) (eo2.2 (by omega))
              have hcmp' : decide (x < x2) = false := by simp; omega
              clear hjo hp hj' et2 es2 eo2 hord
              go_wp2_with fail
              go_quiet (fail)
              go_wp2
              go_roundg (gk - 1)
              case measure => have := Hj.out; omega
              case rel => exact ⟨j + 1, by have := Hj.out; omega, by go_num, Hht.out.drewN _⟩
          · have hx1 : (x % 2 == 1) = false := by simpa using fun h => hjo (Heo.out.1 h)
            have jd : ¬ (j : Int) < (on : Int) := by omega
            have jd' : decide (j < on) = false := by simp; omega
            rcases Nat.eq_zero_or_pos j with hz | hp
            · have jz : ¬ (0 : Int) < (j : Int) := by omega
              have jz' : decide (0 < j) = false := by simp; omega
              have jg : ¬ (on : Int) < (j : Int) := by omega
              have jg' : decide (on < j) = false := by simp; omega
              clear hjo hz
              go_wp2_with fail
              go_quiet (fail)
              go_wp2
              go_roundg (gk - 1)
              case measure => have := Hj.out; omega
              case rel => exact ⟨j + 1, by have := Hj.out; omega, by go_num, Hht.out.drewN _⟩
            · have jz : (0 : Int) < (j : Int) := by omega
              have jz' : decide (0 < j) = true := by simpa using hp
              by_cases hg : on < j
              · have jg : (on : Int) < (j : Int) := by omega
                have jg' : decide (on < j) = true := by simpa using hg
                obtain ⟨j', hj'⟩ : ∃ j', j = j' + 1 := ⟨j - 1, by omega⟩
                obtain ⟨t2, ht2, et2, es2, eo2⟩ := HT.out j' (by omega)
                have f2 := et2 ▸ Hc.out.2.2 j' (by rw [HnF.out]; omega)
                obtain ⟨x2, Hx2⟩ : ∃ x, Hid (bs.getD t2 0 = x) := ⟨_, rfl⟩
                obtain ⟨p2, Hp2⟩ : ∃ x, Hid (ps.getD t2 0 = x) := ⟨_, rfl⟩
                have x20 := Hx2.out ▸ Hc.out.1 t2 ht2
                have p20 := Hp2.out ▸ Hc.out.2.1 t2 (by omega)
                have hw1 : IntKind.i64.wrap ((j : Int) - 1) = (j' : Int) := by rw [IntWalk.i64_in _ (by omega)]; omega
                have j20 : (0 : Int) ≤ (j' : Int) := by omega
                have j21 : (j' : Int) < (bs.length : Int) := by omega
                have t20 : (0 : Int) ≤ (t2 : Int) := by omega
                have t21 : (t2 : Int) < (bs.length : Int) := by omega
                have t22 : (t2 : Int) < (ps.length : Int) := by omega
                have hord := HN.out j' t t2 (by omega) es2 (hj' ▸ Hes.out)
                rw [Hx.out, Hx2.out, Hp.out, Hp2.out] at hord
                rw [Hx2.out] at eo2
                have hcmp := hord.2 (fun h => hjo (Heo.out.1 h)) (fun h => by have := eo2.1 h; omega)
                have hcmp' : decide (p < p2) = false := by simp; omega
                clear hjo hp hj' et2 es2 eo2 hord hg
                go_wp2_with fail
                go_quiet (fail)
                go_wp2
                go_roundg (gk - 1)
                case measure => have := Hj.out; omega
                case rel => exact ⟨j + 1, by have := Hj.out; omega, by go_num, Hht.out.drewN _⟩
              · have jg : ¬ (on : Int) < (j : Int) := by omega
                have jg' : decide (on < j) = false := by simp; omega
                clear hjo hp hg
                go_wp2_with fail
                go_quiet (fail)
                go_wp2
                go_roundg (gk - 1)
                case measure => have := Hj.out; omega
                case rel => exact ⟨j + 1, by have := Hj.out; omega, by go_num, Hht.out.drewN _⟩
        · have hjn : ¬ (j : Int) < (bs.length : Int) := by omega
          have hbw := H1.out.trans (HB4.out.mono H1.out.size)
          have hfin := hbw.trans (hb5.mono hbw.size)
          have e1 : j = bs.length := by omega
          subst e1
          clear hb5 ht5 hbw hj hjn
          go_wp2
          try rw [Exit.noGoto_ret]
          go_ret
          exact ⟨rfl, hfin⟩

theorem own : ownKnob Try.prog.godebug = none := by kernel_rfl
theorem laidOut : laidOutB Try.prog = true := by kernel_rfl

/-! THE ROW's STEP -/
set_option maxRecDepth 100000 in
theorem lifted (os : Os) (started : os.Started) (H : Type) (enc : TypeId × Value → H) :
    ReturnsInHanded {} Try.checked os 5 .any (Rows.turnBoostsSpec.pre6 enc Try.prog Try.f5 Rows.turnBoostsRow.domain false) (Rows.turnBoostsSpec.post enc Try.prog Try.f5 false true false false) := by
  refine returnsInHanded_of_change (C := Try.checked) own started (by kernel_rfl) Try.func5
    (ChangeSpec.witness6 (enc := enc) (C := Try.checked) false ⟨#[], #[.slice none 0 0, .slice none 0 0, .int .u8 0], []⟩ 8 (by kernel_rfl) (by kernel_rfl) (by kernel_rfl) (by kernel_rfl)) ?_
  intro W base args ds gs before hval0 hW hcnd _
  have hval : ∀ (j : Nat) t v, Try.f5.params[j]? = some t → args[j]? = some v → Value.okWide Try.prog W .any base t v := hval0
  have hW' := hW
  obtain ⟨p, q, hA0, hV, rfl, hfz, hnd⟩ := hW
  have hA : DataW.TrodAll enc Try.prog W 0 (fun _ => true) true Try.f5.params.toList args.toList ds p := hA0
  rw [Try.params5] at hA hval
  obtain ⟨v0, vs0, d0, ds0, p0, q0, hargs, rfl, rfl, h0, r0⟩ := trodAll_cons hA
  obtain ⟨v1, vs1, d1, ds1, p1, q1, rfl, rfl, rfl, h1, r1⟩ := trodAll_cons r0
  obtain ⟨v2, vs2, d2, ds2, p2, q2, rfl, rfl, rfl, h2, r2⟩ := trodAll_cons r1
  obtain ⟨rfl, rfl, rfl⟩ := trodAll_nil r2
  obtain rfl : args = #[v0, v1, v2] := by cases args; simp_all
  obtain ⟨rfl, rfl⟩ := trodVars_none hV
  obtain ⟨a0, len0, cap0, rfl⟩ := okWide_slice Try.underlying33 (hval 0 33 v0 rfl rfl)
  have k0 := h0
  have lt0 : ∀ x ∈ p0, x.block < W.heap.size := by obtain ⟨m, hm⟩ := k0; exact DataW.trod_lt m _ _ _ hm
  obtain ⟨z0, w0⟩ : ∃ zs, IsRow .u8 W a0 len0 cap0 zs := by
    obtain ⟨fuel, hf⟩ := h0
    rcases open_ints Try.underlying33 Try.underlying5 (by kernel_rfl) hf with ⟨hcs, _⟩ | ⟨x, l, c, zs, hcs, _, hl, hm, hz, _, hcell, hwz⟩
    · simp [Value.cells] at hcs
      obtain ⟨rfl, rfl, rfl⟩ := hcs
      exact ⟨[], .inl ⟨rfl, rfl, rfl, rfl⟩⟩
    · simp [Value.cells] at hcs
      obtain ⟨rfl, rfl, rfl⟩ := hcs
      exact ⟨zs, .inr ⟨_, rfl, hl, hm, by simpa using hz, hcell, hwz⟩⟩
  obtain ⟨a1, len1, cap1, rfl⟩ := okWide_slice Try.underlying33 (hval 1 33 v1 rfl rfl)
  have k1 := h1
  have lt1 : ∀ x ∈ p1, x.block < W.heap.size := by obtain ⟨m, hm⟩ := k1; exact DataW.trod_lt m _ _ _ hm
  obtain ⟨z1, w1⟩ : ∃ zs, IsRow .u8 W a1 len1 cap1 zs := by
    obtain ⟨fuel, hf⟩ := h1
    rcases open_ints Try.underlying33 Try.underlying5 (by kernel_rfl) hf with ⟨hcs, _⟩ | ⟨x, l, c, zs, hcs, _, hl, hm, hz, _, hcell, hwz⟩
    · simp [Value.cells] at hcs
      obtain ⟨rfl, rfl, rfl⟩ := hcs
      exact ⟨[], .inl ⟨rfl, rfl, rfl, rfl⟩⟩
    · simp [Value.cells] at hcs
      obtain ⟨rfl, rfl, rfl⟩ := hcs
      exact ⟨zs, .inr ⟨_, rfl, hl, hm, by simpa using hz, hcell, hwz⟩⟩
  obtain ⟨a2, rfl, rfl, rfl, w2⟩ := open_int Try.underlying5 (hval 2 5 v2 rfl rfl) h2
  clear hA0 hval0
  refine (walk a0 len0 cap0 z0 a1 len1 cap1 z1 a2 W w0 w1 w2).mono fun e W' ⟨he, bel⟩ => ?_
  subst he
  exact ⟨_, rfl, _, _, _, [], _, [], hW', trodAll_mk1 (shut_bool Try.underlying4 _), (trodAll_cons_mk (Below.trod laidOut (by kernel_rfl) (of_decide_eq_true (by kernel_rfl)) k0 bel lt0) (trodAll_cons_mk (Below.trod laidOut (by kernel_rfl) (of_decide_eq_true (by kernel_rfl)) k1 bel lt1) (trodAll_cons_mk (shut_int Try.underlying5 w2) trodAll_mk0))), rfl, bel.frame _, fun h => by cases h⟩

theorem over : Rows.turnBoostsRow.holds Try.pinned (OpenSpec.ofChange Rows.turnBoostsSpec) :=
  OpenClaim.holds_of_wide 5 Try.f5 rfl rfl rfl rfl rfl rfl rfl ⟨rfl, rfl, rfl, rfl, rfl⟩ rfl rfl rfl rfl rfl (by kernel_rfl) Try.func5 (by kernel_rfl)
    (of_decide_eq_true (by kernel_rfl)) (by unfold Func.isWrapper; first | (rw [if_pos (by decide +kernel)]; kernel_rfl) | (rw [if_neg (by decide +kernel)]; exact ⟨rfl, rfl⟩))
    (fun os started H enc _ => lifted os started H enc)

/-- THE STATEMENT -/
theorem proved : Rows.TurnBoostsSaid := over
#print axioms proved
end Go.Proofs.Ytmaanbjhofemnaa.turnBoosts

