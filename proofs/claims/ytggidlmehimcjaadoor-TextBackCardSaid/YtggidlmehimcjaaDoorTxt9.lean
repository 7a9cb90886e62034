/- text.numbersLine, partWord, protocolName; strings.Join. -/
import Derived.Test.YtggidlmehimcjaaDoorTxtV
import Derived.Test.YtggidlmehimcjaaDoorTxtB
import Derived.Test.YtggidlmehimcjaaDoorWdLines
import Derived.Test.YtggidlmehimcjaaDoorWdText
import Derived.Test.YtggidlmehimcjaaDoorDoorM
import Derived.Test.YtggidlmehimcjaaDoorOwnPut
import Derived.Test.YtggidlmehimcjaaDoorOwnT
import Derived.Lib.SmallJoins
import Derived.Deep.RegionHeld3
namespace Go.Proofs.YtggidlmehimcjaaDoor
open Go.ChangeShapes Go.WideShapes Go.ChangeAt Go.RowKit
set_option linter.unusedVariables false
set_option linter.unusedSimpArgs false
def Tab (w : World) : Prop := Lib.TabIs Tryd.prog w "internal/strconv.uint64pow10" .u64 Lib.pow10Tab
theorem Tab.over {w w' : World} (h : Tab w) (hb : Below w.heap.size w w') : Tab w' := Joins.tab_stays gPow h hb (Nat.le_refl _)
theorem lib_join (c : UInt8) : ∀ l : List Bts, Lib.join l [c] = joinT c l
  | [] => rfl
  | [w] => Lib.join_one w [c]
  | w :: v :: r => by
    have ih := lib_join c (v :: r)
    show _ = w ++ c :: joinT c (v :: r)
    rw [← ih, Lib.join_cons, Lib.join_cons]
    simp [Lib.joinTail]
theorem joinT_len {c : UInt8} {l : List Bts} {m : Nat} (h : ∀ w ∈ l, w.length ≤ m) : (joinT c l).length ≤ l.length * (m + 1) := by
  induction l with
  | nil => simp [joinT]
  | cons w r ih =>
    cases r with
    | nil => have := h w (by simp); simp [joinT]; omega
    | cons v r =>
      have h1 := h w (by simp)
      have h2 := ih (fun x hx => h x (List.mem_cons_of_mem _ hx))
      show (w ++ c :: joinT c (v :: r)).length ≤ _
      rw [List.length_append, List.length_cons, List.length_cons, Nat.succ_mul]
      omega
theorem join_any (cb : UInt8) (A : Option Addr) (k : Nat) (ls : List ByteArray) (w : World) (hs : StrsAt w A ls) (hk : ls.length ≤ k) (h0 : 0 < ls.length) (hl : ls.length ≤ 1000) (hz : ∀ x ∈ ls, x.size ≤ 100000) :
    Calls Tryd.prog 19 #[.slice A ls.length k, .string ⟨#[cb]⟩] w fun e w' => ∃ r : ByteArray, e = .returned (.string r) ∧ bl r = joinT cb (ls.map bl) ∧ Below w.heap.size w w' := by
  obtain ⟨b, off, rfl, hc⟩ := hs.resolve_left (by intro e; rw [e] at h0; simp at h0)
  have hlen : (Lib.join (ls.map (·.data.toList)) [cb]).length ≤ 140737488355328 := by
    rw [lib_join]
    refine Nat.le_trans (joinT_len (m := 100000) (fun w hw => ?_)) ?_
    · obtain ⟨x, hx, rfl⟩ := List.mem_map.1 hw
      have := hz x hx
      rw [← bl_len] at this
      exact this
    · rw [List.length_map]; omega
  refine (Tryd.strings_Join b off k ls ⟨#[cb]⟩ w (fun j x hj => ?_) (cell_lt (hc 0 h0)) (by omega) hk hlen).mono ?_
  · obtain ⟨hj2, e⟩ := List.getElem?_eq_some_iff.1 hj
    rw [hc j hj2]
    simp [List.getD, hj2, e]
  · rintro e w' ⟨rfl, hb⟩
    exact ⟨_, rfl, lib_join cb _, hb⟩
theorem textL_len (n : Int) : (textL n).length ≤ 7 := by
  by_cases h : 0 ≤ n ∧ n ≤ 9999999
  · rw [textL_dec h]; exact (dec_len _ (by omega)).2
  · unfold textL; rw [textV_no (by omega)]; simp [bl]
theorem protoName_any (p : Int) (w : World) : Calls Tryd.prog 16 #[.int .i64 p] w fun e w' => e = .returned (.string (mkB (protoW p))) ∧ w = w' := by
  by_cases h1 : p = 1
  · have f1 : (p == 1) = true := by simpa using h1
    have H : Hid (mkB (protoW p) = ⟨#[102, 97, 105, 114]⟩) := hidp (by unfold protoW; rw [if_pos h1]; rfl)
    clear h1
    go_enter Tryd.func16, Tryd.ntmps16
    go_wp2_with fail
    go_ret
    exact ⟨congrArg (fun q => Ending.returned (.string q)) H.out.symm, rfl⟩
  have f1 : (p == 1) = false := by simpa using h1
  by_cases h2 : p = 2
  · have f2 : (p == 2) = true := by simpa using h2
    have H : Hid (mkB (protoW p) = ⟨#[97, 103, 101, 110, 116]⟩) := hidp (by unfold protoW; rw [if_neg h1, if_pos h2]; rfl)
    clear h1 h2
    go_enter Tryd.func16, Tryd.ntmps16
    go_wp2_with fail
    go_ret
    exact ⟨congrArg (fun q => Ending.returned (.string q)) H.out.symm, rfl⟩
  have f2 : (p == 2) = false := by simpa using h2
  have H : Hid (mkB (protoW p) = ⟨#[116, 111, 107, 101, 110]⟩) := hidp (by unfold protoW; rw [if_neg h1, if_neg h2]; rfl)
  clear h1 h2
  go_enter Tryd.func16, Tryd.ntmps16
  go_wp2_with fail
  go_ret
  exact ⟨congrArg (fun q => Ending.returned (.string q)) H.out.symm, rfl⟩
def PartM.t (p : PartM) : PartT := ⟨p.kind, p.len, p.res⟩
theorem bl_cat (a : Bts) (s : ByteArray) : bl (mkB a ++ s) = a ++ bl s := by rw [bl_append, bl_mk]
def StrPost (w : World) (v : Bts) (e : Ending) (w' : World) : Prop := ∃ r : ByteArray, e = .returned (.string r) ∧ bl r = v ∧ Below w.heap.size w w'
set_option maxHeartbeats 4000000 in
theorem partWord_any (p : PartM) (w : World) (hp : p.wf) (ht : Tab w) : Calls Tryd.prog 32 #[.agg #[.int .i64 p.kind, .int .i64 p.len, .int .i64 p.res]] w (StrPost w (partW p.t)) := by
  obtain ⟨kd, ln, rs⟩ := p
  obtain ⟨i0, i1, i2⟩ := hp
  dsimp only at i0 i1 i2 ⊢
  have HT : Hid (∀ u, Below w.heap.size w u → Tab u) := hidp (fun u hu => ht.over hu)
  have HI1 := hidp i1
  have HI2 := hidp i2
  obtain ⟨L1, HL1⟩ : ∃ L, Hid (textV ln = L) := ⟨_, hidp rfl⟩
  obtain ⟨L2, HL2⟩ : ∃ L, Hid (textV rs = L) := ⟨_, hidp rfl⟩
  have C1 : Hid (∀ u, Below w.heap.size w u → Calls Tryd.prog 31 #[.int .i64 ln] u fun e w' => e = .returned (.string L1) ∧ Below u.heap.size u w') := hidp (fun u hu => by
    have := text_any ln u HI1.out (HT.out u hu); rwa [HL1.out] at this)
  have C2 : Hid (∀ u, Below w.heap.size w u → Calls Tryd.prog 31 #[.int .i64 rs] u fun e w' => e = .returned (.string L2) ∧ Below u.heap.size u w') := hidp (fun u hu => by
    have := text_any rs u HI2.out (HT.out u hu); rwa [HL2.out] at this)
  have HS1 : Hid (L1.size ≤ 7 ∧ L2.size ≤ 7) := hidp ⟨by rw [← HL1.out, ← bl_len]; exact textL_len _, by rw [← HL2.out, ← bl_len]; exact textL_len _⟩
  have hb := (Below.refl w.heap.size w).alloc (Nat.le_refl _) (.cells #[.int .i64 kd, .int .i64 ln, .int .i64 rs] 42)
  have B0 := Bk.new w 42 #[.int .i64 kd, .int .i64 ln, .int .i64 rs]
  have z1 : (w.alloc (.cells #[.int .i64 kd, .int .i64 ln, .int .i64 rs] 42)).cell? ⟨w.heap.size, 1, none⟩ = some (.int .i64 ln) := B0.cell 1
  have z2 : (w.alloc (.cells #[.int .i64 kd, .int .i64 ln, .int .i64 rs] 42)).cell? ⟨w.heap.size, 2, none⟩ = some (.int .i64 rs) := B0.cell 2
  obtain ⟨sz1, sz2⟩ := HS1.out
  clear HI1 HI2 i0 i1 i2 ht B0 HT
  by_cases h1 : kd = 1
  · have f1 : (kd == 1) = true := by simpa using h1
    have H : Hid (partW (PartM.t ⟨kd, ln, rs⟩) = tRun ++ 58 :: bl L1) := hidp (by unfold partW PartM.t textL; rw [if_pos h1, HL1.out])
    clear h1
    go_enter Tryd.func32, Tryd.ntmps32
    go_wp2_with fail
    refine (C1.out _ hb).mono ?_
    rintro e u ⟨rfl, hbu⟩
    have HB := hidp (hb.trans (hbu.mono hb.size))
    clear hb hbu z1 z2 C1 C2
    go_wp2_with fail
    go_ret
    exact ⟨_, rfl, by rw [H.out]; exact bl_cat [114, 117, 110, 58] L1, HB.out⟩
  have f1 : (kd == 1) = false := by simpa using h1
  by_cases h2 : kd = 2
  · have f2 : (kd == 2) = true := by simpa using h2
    have H : Hid (partW (PartM.t ⟨kd, ln, rs⟩) = tSleep ++ 58 :: bl L1) := hidp (by unfold partW PartM.t textL; rw [if_neg h1, if_pos h2, HL1.out])
    clear h1 h2
    go_enter Tryd.func32, Tryd.ntmps32
    go_wp2_with fail
    refine (C1.out _ hb).mono ?_
    rintro e u ⟨rfl, hbu⟩
    have HB := hidp (hb.trans (hbu.mono hb.size))
    clear hb hbu z1 z2 C1 C2
    go_wp2_with fail
    go_ret
    exact ⟨_, rfl, by rw [H.out]; exact bl_cat [115, 108, 101, 101, 112, 58] L1, HB.out⟩
  have f2 : (kd == 2) = false := by simpa using h2
  have H : Hid (partW (PartM.t ⟨kd, ln, rs⟩) = tLock ++ 58 :: bl L2 ++ 58 :: bl L1) := hidp (by unfold partW PartM.t textL; rw [if_neg h1, if_neg h2, HL1.out, HL2.out])
  clear h1 h2
  go_enter Tryd.func32, Tryd.ntmps32
  go_wp2_with fail
  replace hb : Below w.heap.size w (w.alloc (.cells #[.int .i64 kd, .int .i64 ln, .int .i64 rs] 42)).drew := below_drewN hb 1
  replace z1 : (w.alloc (.cells #[.int .i64 kd, .int .i64 ln, .int .i64 rs] 42)).drew.cell? ⟨w.heap.size, 1, none⟩ = some (.int .i64 ln) := z1
  replace z2 : (w.alloc (.cells #[.int .i64 kd, .int .i64 ln, .int .i64 rs] 42)).drew.cell? ⟨w.heap.size, 2, none⟩ = some (.int .i64 rs) := z2
  have t1 : ¬ 9223372036854775807 < 5 + L2.size := by omega
  have t2 : ¬ 9223372036854775807 < 5 + L2.size + 1 := by omega
  have t3 : ¬ 9223372036854775807 < 5 + L2.size + 1 + L1.size := by omega
  go_region_held3 (fun w' => w'.cell? ⟨w.heap.size, 1, none⟩ = some (.int .i64 ln) ∧ w'.cell? ⟨w.heap.size, 2, none⟩ = some (.int .i64 rs)) (exact ⟨z1, z2⟩)
    (first
      | (go_at_call 31; (with_reducible refine (C1.out _ hb).mono ?_); rintro e u ⟨rfl, hb3⟩; have z1 := (Keeps.of_below hb3) _ _ z1; have z2 := (Keeps.of_below hb3) _ _ z2; have hb := hb.trans (hb3.mono hb.size))
      | (go_at_call 31; (with_reducible refine (C2.out _ hb).mono ?_); rintro e u ⟨rfl, hb3⟩; have z1 := (Keeps.of_below hb3) _ _ z1; have z2 := (Keeps.of_below hb3) _ _ z2; have hb := hb.trans (hb3.mono hb.size)))
  go_wp2_with fail
  go_ret
  refine ⟨_, rfl, ?_, hb⟩
  rw [H.out, bl_append, bl_append, bl_append]
  simp [bl, tLock]
/-! ### rows of texts that grow -/
theorem OwnS.one (B : Nat) (w : World) (x : ByteArray) (hB : B ≤ w.heap.size) : OwnS B (w.alloc (.cells #[.string x] 9)) (some ⟨w.heap.size, 0, none⟩) 1 1 [x] :=
  ⟨own_lit (cs := [.string x]) (Bk.new w 9 #[.string x]) hB rfl (by decide), rfl, by decide, fun e => by cases e⟩
set_option maxHeartbeats 4000000 in
theorem nline_any (head : ByteArray) (A0 : Option Addr) (c0 : Nat) (zs : List Int) (w : World) (hz : IntsOk w A0 c0 zs) (hl : zs.length ≤ 100) (hh : head.size ≤ 1000) (ht : Tab w) : Calls Tryd.prog 17 #[.string head, .slice A0 zs.length c0] w (StrPost w (numsW (bl head) zs)) := by
  obtain ⟨i0, hi0, hy0, hy1, hy2⟩ := info_parts infoStr
  have o0 := OwnS.one w.heap.size w head (Nat.le_refl _)
  have hb0 := (Below.refl w.heap.size w).alloc (Nat.le_refl _) (.cells #[.string head] 9)
  obtain ⟨N, hN⟩ : ∃ N, zs.length = N := ⟨_, rfl⟩
  have HN := hidp hN
  have HT : Hid (∀ u, Below w.heap.size w u → Tab u) := hidp (fun u hu => ht.over hu)
  have HH := hidp hh
  have HWF := hidp hz.wf
  have hr := hz.at_
  rw [hN] at hl ⊢
  clear hN ht hh hz
  go_enter Tryd.func17, Tryd.ntmps17
  go_wp2_with fail
  go_loopg [5, 12] N (fun g all i wr => ∃ (k c : Nat) (A : Option Addr) (ls : List ByteArray), k + g = N ∧ i = .int .i64 k ∧ all = .slice A (k + 1) c ∧ OwnS w.heap.size wr A (k + 1) c ls ∧ Hid (ls.map bl = bl head :: (zs.take k).map textL) ∧ Hid (∀ x ∈ ls, x.size ≤ 100000) ∧ Below w.heap.size w wr)
  case atStart => exact ⟨0, 1, some ⟨w.heap.size, 0, none⟩, [head], by omega, rfl, rfl, o0, hidp rfl, hidp (by simpa using Nat.le_trans HH.out (by decide)), hb0⟩
  case round =>
    clear o0 hb0
    obtain ⟨k, c, A, ls, hk, rfl, rfl, ho, HI, HSz, hbr⟩ := hrel
    by_cases hin : k < N
    · have hr2 : Row wr .i64 A0 zs := hr.mono (Keeps.of_below hbr)
      obtain ⟨g, off, rfl, hc⟩ := hr2.resolve_left (by intro e; have := HN.out; rw [e] at this; simp at this; omega)
      have hkl : k < zs.length := by rw [HN.out]; exact hin
      obtain ⟨n, Hn⟩ : ∃ n, Hid (zs.getD k 0 = n) := ⟨_, hidp rfl⟩
      have c1 : wr.cell? ⟨g, off + k, none⟩ = some (.int .i64 n) := by have := hc k hkl; rwa [Hn.out] at this
      have HTk : Hid ((zs.take (k + 1)).map textL = (zs.take k).map textL ++ [textL n]) := hidp (by
        rw [List.take_succ_eq_append_getElem hkl, List.map_append, ← Hn.out]
        simp [List.getD, hkl])
      have CT := text_any n wr (HWF.out n (by rw [← Hn.out]; simp [List.getD, hkl])) (HT.out wr hbr)
      obtain ⟨x, Hx⟩ : ∃ x, Hid (textV n = x) := ⟨_, hidp rfl⟩
      rw [Hx.out] at CT
      have HCT := hidp CT
      have Hx7 : Hid (x.size ≤ 7 ∧ bl x = textL n) := hidp ⟨by rw [← Hx.out, ← bl_len]; exact textL_len _, by rw [← Hx.out]; rfl⟩
      have b1 : (0 : Int) ≤ (k : Int) := by omega
      have b2 : (k : Int) < (N : Int) := by omega
      clear hr hr2 hc hkl CT
      go_wp2_with fail
      refine HCT.out.mono ?_
      rintro e u ⟨rfl, hbu⟩
      have TL : Turned [] wr (u.alloc (.cells #[.string x] 9)) := (Turned.of_below hbu []).alloc _
      have own4 := own_turned ho.own TL (by simp)
      have S2 := hidp (new_liesW u [.string x] 9)
      have N2 : Hid (k + 1 + 1 ≤ maxLen) := hidp (by unfold maxLen; omega)
      have T2 : Hid ((k + 1 + 1) * 16 ≤ 140737488355328) := hidp (by omega)
      have W0 := hbr.trans (hbu.mono hbr.size)
      have W1 := W0.alloc W0.size (.cells #[.string x] 9)
      have Z2 : Hid (w.heap.size ≤ (u.alloc (.cells #[.string x] 9)).heap.size) := hidp W1.size
      have O2 := hidp (str_one [x])
      have Hfp := hidp (own_fp own4)
      have hW := hidp W1
      have HO := hidp (ho.turned TL (by simp))
      clear ho hbr hbu W0 W1 TL HCT
      go_wp2_with (at_builtin; refine wpList_app2 _ rfl (.tmp 16) (.tmp 19) 54 rfl w.heap.size 9 i0 _ 1 16 Tryd.underlying54 hi0 hy0 hy1 hy2 rfl (by decide) A (k + 1) c _ rfl own4 _ _ 1 1 [.string x] rfl (by simp) rfl S2.out O2.out N2.out T2.out Z2.out ?_; intro A9 c9 w6 happ)
      go_roundg (gk - 1)
      case measure => omega
      case rel => exact ⟨k + 1, c9, A9, ls ++ [x], by omega, by go_num, by go_num, HO.out.app happ, hidp (by rw [List.map_append, HI.out, HTk.out]; simp [Hx7.out.2]), hidp (fun y hy => (List.mem_append.1 hy).elim (HSz.out y) (fun h => by rw [List.mem_singleton.1 h]; have := Hx7.out.1; omega)), hW.out.trans (happ.turned.below hW.out.size (fun i hi => (Hfp.out i hi).1))⟩
    · obtain rfl : k = N := by omega
      have hlen := ho.len
      have CJ := join_any 32 A c ls wr ho.at_ (by rw [← hlen]; exact ho.cap.1) (by omega) (by omega) HSz.out
      rw [← hlen] at CJ
      have HCJ := hidp CJ
      have HBR := hidp hbr
      have HV : Hid (joinT 32 (ls.map bl) = numsW (bl head) zs) := hidp (by
        rw [HI.out, List.take_of_length_le (by rw [HN.out]; exact Nat.le_refl _)]; rfl)
      clear ho hbr CJ hlen
      go_wp2_with fail
      refine HCJ.out.mono ?_
      rintro e u ⟨r, rfl, hv, hbu⟩
      have HB := hidp (HBR.out.trans (hbu.mono HBR.out.size))
      have HVr := hidp hv
      clear hv hbu HCJ
      go_wp2_with fail
      go_ret
      exact ⟨r, rfl, by rw [HVr.out, HV.out], HB.out⟩
end Go.Proofs.YtggidlmehimcjaaDoor
