/- text.protocolOf, numbers, someNumbers. -/
import Derived.Test.YtlmliefkhidpnaaGreatDoorTxtM
import Derived.Test.YtlmliefkhidpnaaGreatDoorOwnPut
import Derived.Test.YtlmliefkhidpnaaGreatDoorWdNum
import Derived.IntWalk
namespace Go.Proofs.YtlmliefkhidpnaaGreatDoor
open Go.ChangeShapes Go.WideShapes Go.ChangeAt Go.RowKit
set_option linter.unusedVariables false
set_option linter.unusedSimpArgs false
theorem infoN : (Tryz.prog.info? 3).map (fun i => (i.zero, i.size, i.bytes)) = some (some (.int .i64 0), 1, 8) := by kernel_rfl
theorem OwnN.nil_ (B : Nat) (w : World) : OwnN B w none 0 0 [] := ⟨World.ownsRow_nil _ _ _ _, rfl, by decide, fun _ => ⟨rfl, rfl⟩⟩
theorem OwnN.more {B : Nat} {w w1 w2 : World} {A A' : Option Addr} {n c c' : Nat} {zs : List Int} {x : Int} (h : OwnN B w A n c zs) (ha : App B 3 1 w1 A A' (n + 1) c' (zs.map (Value.int .i64) ++ [.int .i64 x]) w2) : OwnN B w2 A' (n + 1) c' (zs ++ [x]) :=
  ⟨by rw [List.map_append]; exact ha.own, by rw [List.length_append, h.len]; rfl, ha.cap, ha.nil⟩
theorem num_one (zs : List Int) : ∀ u ∈ zs.map (Value.int .i64), u.oneCell' = true := fun u hu => by obtain ⟨n, _, rfl⟩ := List.mem_map.1 hu; rfl
theorem numsT_snoc {l : List Bts} {zs : List Int} {w : Bts} {n : Int} (h : numsT l = some zs) (hn : numT w = some n) : numsT (l ++ [w]) = some (zs ++ [n]) := by
  induction l generalizing zs with
  | nil => simp [numsT] at h; subst h; simp [numsT, hn]
  | cons a t ih =>
    simp only [List.cons_append, numsT] at h ⊢
    cases h1 : numT a with
    | none => rw [h1] at h; simp at h
    | some m =>
      cases h2 : numsT t with
      | none => rw [h1, h2] at h; simp at h
      | some l2 => rw [h1, h2] at h; simp at h; subst h; rw [ih h2]; simp
theorem numsT_bad {l : List Bts} {w : Bts} (hw : w ∈ l) (hn : numT w = none) : numsT l = none := by
  induction l with
  | nil => simp at hw
  | cons a t ih =>
    simp only [numsT]
    rcases List.mem_cons.1 hw with rfl | h
    · rw [hn]
    · rw [ih h]; cases numT a <;> rfl
theorem numsT_len {l : List Bts} {zs : List Int} (h : numsT l = some zs) : zs.length = l.length := by
  induction l generalizing zs with
  | nil => simp [numsT] at h; subst h; rfl
  | cons a t ih =>
    simp only [numsT] at h
    cases h1 : numT a with
    | none => rw [h1] at h; simp at h
    | some m =>
      cases h2 : numsT t with
      | none => rw [h1, h2] at h; simp at h
      | some l2 => rw [h1, h2] at h; simp at h; subst h; simp [ih h2]
theorem numOK_dig {s : ByteArray} (h : numOK s = true) : s.size ≤ 7 ∧ ∀ j, j < s.size → digB (byteAt s j) = true := by
  unfold numOK at h
  rw [Bool.and_eq_true, List.all_eq_true] at h
  exact ⟨(of_decide_eq_true h.1).2.1, fun j hj => h.2 j (List.mem_range.2 hj)⟩
theorem numV_bd (s : ByteArray) : 0 ≤ numV s ∧ numV s ≤ 9999999 := by
  by_cases h : numOK s = true
  · unfold numV
    rw [if_pos h]
    obtain ⟨h1, h2⟩ := numOK_dig h
    have h3 := numN_bd s s.size h2
    have h4 : (10 : Int) ^ s.size ≤ 10 ^ 7 := by
      obtain ⟨m, hm⟩ : ∃ m, s.size = m := ⟨_, rfl⟩
      rw [hm] at h1 ⊢
      have : m = 0 ∨ m = 1 ∨ m = 2 ∨ m = 3 ∨ m = 4 ∨ m = 5 ∨ m = 6 ∨ m = 7 := by omega
      rcases this with rfl | rfl | rfl | rfl | rfl | rfl | rfl | rfl <;> decide
    have h5 : (10 : Int) ^ 7 = 10000000 := by decide
    omega
  · rw [numV_no (by simpa using h)]; omega
theorem numT_bl (x : ByteArray) : numT (bl x) = if numOK x = true then some (numV x) else none := by unfold numT; rw [mk_bl]
theorem numsT_bd {l : List Bts} {zs : List Int} (h : numsT l = some zs) : ∀ n ∈ zs, 0 ≤ n ∧ n ≤ 9999999 := by
  induction l generalizing zs with
  | nil => simp [numsT] at h; subst h; simp
  | cons a t ih =>
    simp only [numsT] at h
    cases h1 : numT a with
    | none => rw [h1] at h; simp at h
    | some m =>
      cases h2 : numsT t with
      | none => rw [h1, h2] at h; simp at h
      | some l2 =>
        rw [h1, h2] at h; simp at h; subst h
        intro n hn
        rcases List.mem_cons.1 hn with rfl | g
        · unfold numT at h1
          split at h1
          · injection h1 with h1; rw [← h1]; exact numV_bd _
          · cases h1
        · exact ih h2 n g
theorem strs_take {ls : List ByteArray} {k : Nat} {x : ByteArray} (hk : k < ls.length) (hx : ls.getD k ByteArray.empty = x) : (ls.take (k + 1)).map bl = (ls.take k).map bl ++ [bl x] := by
  rw [List.take_succ_eq_append_getElem hk, List.map_append]
  have : ls[k] = x := by rw [← hx]; simp [List.getD, hk]
  rw [this]; rfl
theorem strs_mem {ls : List ByteArray} {k : Nat} {x : ByteArray} (hk : k < ls.length) (hx : ls.getD k ByteArray.empty = x) : x ∈ ls := by
  have : ls[k] = x := by rw [← hx]; simp [List.getD, hk]
  rw [← this]; exact List.getElem_mem hk
def NumsPost (w : World) (l : List Bts) (e : Ending) (w' : World) : Prop := ∃ A c zs ok, e = .returned (.tuple #[.slice A zs.length c, .bool ok]) ∧ OwnN w.heap.size w' A zs.length c zs ∧ Below w.heap.size w w' ∧ (∀ n ∈ zs, 0 ≤ n ∧ n ≤ 9999999) ∧ zs.length ≤ l.length ∧ numsT l = if ok = true then some zs else none
theorem ret_sb {A : Option Addr} {m n c : Nat} {a b : Bool} (h : m = n) (g : a = b) : Ending.returned (.tuple #[.slice A m c, .bool a]) = .returned (.tuple #[.slice A n c, .bool b]) := by rw [h, g]
set_option maxHeartbeats 4000000 in
theorem numbers_any (A0 : Option Addr) (c0 : Nat) (ls : List ByteArray) (w : World) (hs : StrsAt w A0 ls) (hl : ls.length ≤ 100000) (hz : ∀ x ∈ ls, x.size ≤ 100000) : Calls Tryz.prog 71 #[.slice A0 ls.length c0] w (NumsPost w (ls.map bl)) := by
  obtain ⟨i0, hi0, hy0, hy1, hy2⟩ := info_parts infoN
  have o0 : OwnN w.heap.size w none 0 0 [] := OwnN.nil_ _ _
  have hb0 := Below.refl w.heap.size w
  obtain ⟨N, hN⟩ : ∃ N, ls.length = N := ⟨_, rfl⟩
  have HN := hidp hN
  have HZ := hidp hz
  rw [hN] at hl ⊢
  clear hN hz
  go_enter Tryz.func71, Tryz.ntmps71
  go_wp2
  go_step3
  go_wp2
  go_step3
  go_wp2

  go_loopg [4, 11] N (fun g all i wr => ∃ (k c : Nat) (A : Option Addr) (zs : List Int), k + g = N ∧ i = .int .i64 k ∧ all = .slice A k c ∧ OwnN w.heap.size wr A k c zs ∧ Hid (numsT ((ls.take k).map bl) = some zs) ∧ Below w.heap.size w wr)
  case atStart => exact ⟨0, 0, none, [], by omega, rfl, rfl, o0, hidp rfl, hb0⟩
  case round =>
    clear o0 hb0
    obtain ⟨k, c, A, zs, hk, rfl, rfl, ho, HI, hbr⟩ := hrel
    by_cases hin : k < N
    · have hs2 := hs.below hbr
      obtain ⟨g, off, rfl, hc⟩ := hs2.resolve_left (by intro e; have := HN.out; rw [e] at this; simp at this; omega)
      have hkl : k < ls.length := by rw [HN.out]; exact hin
      obtain ⟨x, HX⟩ : ∃ x, Hid (ls.getD k ByteArray.empty = x) := ⟨_, hidp rfl⟩
      have c1 : wr.cell? ⟨g, off + k, none⟩ = some (.string x) := HX.out ▸ hc k hkl
      have HM := hidp (strs_mem hkl HX.out)
      have HT := hidp (strs_take hkl HX.out)
      have hx := HZ.out x HM.out
      have CN := hidp (fun u => num_any x u (Nat.le_trans hx (by decide)))
      have HB := hidp (numT_bl x)
      clear hs hs2 hc hkl hx
      have b1 : (0 : Int) ≤ (k : Int) := by omega
      have b2 : (k : Int) < (N : Int) := by omega
      by_cases d : numOK x = true
      · rw [d, if_pos rfl] at HB
        rw [d] at CN
        clear d
        obtain ⟨n, Hn⟩ : ∃ n, Hid (numV x = n) := ⟨_, hidp rfl⟩
        rw [Hn.out] at CN HB
        have TL : Turned [] wr (wr.alloc (.cells #[.int .i64 n] 3)) := (Turned.refl [] wr).alloc _
        have own4 := own_turned ho.own TL (by simp)
        have S2 := hidp (new_liesW wr [.int .i64 n] 3)
        have N2 : Hid (k + 1 ≤ maxLen) := hidp (by unfold maxLen; omega)
        have T2 : Hid ((k + 1) * 8 ≤ 140737488355328) := hidp (by omega)
        have W1 := hbr.alloc hbr.size (.cells #[.int .i64 n] 3)
        have Z2 : Hid (w.heap.size ≤ (wr.alloc (.cells #[.int .i64 n] 3)).heap.size) := hidp W1.size
        have O2 := hidp (num_one [n])
        have Hfp := hidp (own_fp own4)
        have hW := hidp W1
        have HO := hidp (ho.turned TL (by simp))
        clear ho hbr W1 TL
        go_wp2_with fail
        refine (CN.out _).mono ?_
        rintro e u ⟨rfl, rfl⟩
        go_wp2_with (at_builtin; refine wpList_app2 _ rfl (.tmp 22) (.tmp 24) 22 rfl w.heap.size 3 i0 _ 1 8 Tryz.underlying22 hi0 hy0 hy1 hy2 rfl (by decide) A k c _ rfl own4 _ _ 1 1 [.int .i64 n] rfl (by simp) rfl S2.out O2.out N2.out T2.out Z2.out ?_; intro A9 c9 w6 happ)
        go_roundg (gk - 1)
        case measure => omega
        case rel => exact ⟨k + 1, c9, A9, zs ++ [n], by omega, by go_num, by go_num, HO.out.more happ, hidp (by rw [HT.out]; exact numsT_snoc HI.out HB.out), hW.out.trans (happ.turned.below hW.out.size (fun i hi => (Hfp.out i hi).1))⟩
      · have d : numOK x = false := by simpa using d
        rw [d, if_neg (by decide)] at HB
        rw [d] at CN
        clear d
        have f1 : ((k : Int) == (N : Int)) = false := by rw [beq_eq_false_iff_ne]; omega
        have hl9 := HI.out
        have H9 := hidp (numsT_len hl9)
        have HL := hidp ho.len
        have HO := hidp ho
        have HBR := hidp hbr
        clear hl9 ho hbr
        obtain ⟨n, Hn⟩ : ∃ n, Hid (numV x = n) := ⟨_, hidp rfl⟩
        rw [Hn.out] at CN
        go_wp2_with fail
        refine (CN.out _).mono ?_
        rintro e u ⟨rfl, rfl⟩
        go_wp2_with fail
        go_ret2
        refine ⟨A, c, zs, false, ret_sb HL.out rfl, HL.out ▸ HO.out, HBR.out, numsT_bd HI.out, ?_, ?_⟩
        · rw [← HL.out, List.length_map, HN.out]; omega
        · rw [if_neg (by decide)]
          exact numsT_bad (List.mem_map.2 ⟨x, HM.out, rfl⟩) HB.out
    · obtain rfl : k = N := by omega
      have HL := hidp ho.len
      have HO := hidp ho
      have HBR := hidp hbr
      clear ho hbr
      have f1 : ((k : Int) == (k : Int)) = true := by simp
      go_wp2
      go_ret2
      refine ⟨A, c, zs, true, ret_sb HL.out rfl, HL.out ▸ HO.out, HBR.out, numsT_bd HI.out, ?_, ?_⟩
      · rw [← HL.out, List.length_map, HN.out]; exact Nat.le_refl _
      · have := HI.out
        rw [if_pos rfl, ← this, List.take_of_length_le (by rw [HN.out]; exact Nat.le_refl _)]
def SomePost (w : World) (l : List Bts) (e : Ending) (w' : World) : Prop := ∃ A c zs ok, e = .returned (.tuple #[.slice A zs.length c, .bool ok]) ∧ OwnN w.heap.size w' A zs.length c zs ∧ Below w.heap.size w w' ∧ (∀ n ∈ zs, 0 ≤ n ∧ n ≤ 9999999) ∧ zs.length ≤ l.length ∧ someT l = if ok = true then some zs else none
theorem someT_of {l : List Bts} {zs : List Int} {ok : Bool} (h : numsT l = if ok = true then some zs else none) : someT l = if (ok && decide (0 < zs.length)) = true then some zs else none := by
  unfold someT
  rw [h]
  cases ok with
  | false => rfl
  | true => cases zs <;> simp
theorem some_any (A0 : Option Addr) (c0 : Nat) (ls : List ByteArray) (w : World) (hs : StrsAt w A0 ls) (hl : ls.length ≤ 100000) (hz : ∀ x ∈ ls, x.size ≤ 100000) : Calls Tryz.prog 55 #[.slice A0 ls.length c0] w (SomePost w (ls.map bl)) := by
  have C := hidp (numbers_any A0 c0 ls w hs hl hz)
  clear hs hz
  go_enter Tryz.func55, Tryz.ntmps55
  go_wp2_with fail
  refine C.out.mono ?_
  rintro e w2 ⟨A, c, zs, ok, rfl, ho, hb, hn, hln, hv⟩
  have HO := hidp ho
  have HB := hidp hb
  have HNn := hidp hn
  have HLn := hidp hln
  have HV := hidp (someT_of hv)
  clear C ho hb hn hln hv
  cases ok with
  | false =>
    go_wp2_with fail
    go_ret2
    exact ⟨A, c, zs, false, rfl, HO.out, HB.out, HNn.out, HLn.out, HV.out⟩
  | true =>
    have gI : decide ((0 : Int) < (zs.length : Int)) = decide (0 < zs.length) := by simp
    go_wp2_with fail
    go_ret2
    refine ⟨A, c, zs, decide (0 < zs.length), ret_sb rfl ?_, HO.out, HB.out, HNn.out, HLn.out, by rw [HV.out, Bool.true_and]⟩
    simp
theorem toList_lit (x : ByteArray) (l : Bts) : (x.toList == l) = decide (bl x = l) := by
  have : x.toList = bl x := by simp [bl, ByteArray.toList_eq]
  rw [this, Bool.eq_iff_iff]; simp
def protoOf (l : List Bts) : Int × Bool := match protoT l with | some p => (p, true) | none => (0, false)
theorem proto_any (A0 : Option Addr) (c0 : Nat) (ls : List ByteArray) (w : World) (hs : StrsAt w A0 ls) (hl : ls.length ≤ 100000) : Calls Tryz.prog 54 #[.slice A0 ls.length c0] w fun e w' => e = .returned (.tuple #[.int .i64 (protoOf (ls.map bl)).1, .bool (protoOf (ls.map bl)).2]) ∧ w = w' := by
  by_cases h1 : ls.length = 1
  · obtain ⟨x, rfl⟩ : ∃ x, ls = [x] := by
      match ls, h1 with
      | [x], _ => exact ⟨x, rfl⟩
    obtain ⟨g, off, rfl, hc⟩ := hs.resolve_left (by simp)
    have c1 : w.cell? ⟨g, off + 0, none⟩ = some (.string x) := hc 0 (by simp)
    rw [Nat.add_zero] at c1
    have e1 := toList_lit x [102, 97, 105, 114]
    have e2 := toList_lit x [97, 103, 101, 110, 116]
    have e3 := toList_lit x [116, 111, 107, 101, 110]
    by_cases d1 : bl x = [102, 97, 105, 114]
    · have H : Hid (protoOf ([x].map bl) = (1, true)) := hidp (by simp [protoOf, protoT, d1])
      have f1 : (x.toList == [102, 97, 105, 114]) = true := by rw [e1]; simpa using d1
      clear d1 e1 e2 e3 hc hs h1
      go_enter Tryz.func54, Tryz.ntmps54
      go_wp2_with fail
      go_ret2
      exact ⟨ret_num (by rw [H.out]) (by rw [H.out]), rfl⟩
    have f1 : (x.toList == [102, 97, 105, 114]) = false := by rw [e1]; simpa using d1
    by_cases d2 : bl x = [97, 103, 101, 110, 116]
    · have H : Hid (protoOf ([x].map bl) = (2, true)) := hidp (by simp [protoOf, protoT, d2])
      have f2 : (x.toList == [97, 103, 101, 110, 116]) = true := by rw [e2]; simpa using d2
      clear d1 d2 e1 e2 e3 hc hs h1
      go_enter Tryz.func54, Tryz.ntmps54
      go_wp2_with fail
      go_ret2
      exact ⟨ret_num (by rw [H.out]) (by rw [H.out]), rfl⟩
    have f2 : (x.toList == [97, 103, 101, 110, 116]) = false := by rw [e2]; simpa using d2
    by_cases d3 : bl x = [116, 111, 107, 101, 110]
    · have H : Hid (protoOf ([x].map bl) = (3, true)) := hidp (by simp [protoOf, protoT, d3])
      have f3 : (x.toList == [116, 111, 107, 101, 110]) = true := by rw [e3]; simpa using d3
      clear d1 d2 d3 e1 e2 e3 hc hs h1
      go_enter Tryz.func54, Tryz.ntmps54
      go_wp2_with fail
      go_ret2
      exact ⟨ret_num (by rw [H.out]) (by rw [H.out]), rfl⟩
    have f3 : (x.toList == [116, 111, 107, 101, 110]) = false := by rw [e3]; simpa using d3
    have H : Hid (protoOf ([x].map bl) = (0, false)) := hidp (by simp [protoOf, protoT, d1, d2, d3])
    clear d1 d2 d3 e1 e2 e3 hc hs h1
    go_enter Tryz.func54, Tryz.ntmps54
    go_wp2_with fail
    go_ret2
    exact ⟨ret_num (by rw [H.out]) (by rw [H.out]), rfl⟩
  · have H : Hid (protoOf (ls.map bl) = (0, false)) := hidp (by
      match ls, h1 with
      | [], _ => rfl
      | [x], h => simp at h
      | x :: y :: r, _ => rfl)
    obtain ⟨N, hN⟩ : ∃ N, ls.length = N := ⟨_, rfl⟩
    rw [hN] at h1 hl ⊢
    have f1 : ((N : Int) != 1) = true := by simp; omega
    clear hN h1
    go_enter Tryz.func54, Tryz.ntmps54
    go_wp2_with fail
    go_ret2
    exact ⟨ret_num (by rw [H.out]) (by rw [H.out]), rfl⟩
end Go.Proofs.YtlmliefkhidpnaaGreatDoor
