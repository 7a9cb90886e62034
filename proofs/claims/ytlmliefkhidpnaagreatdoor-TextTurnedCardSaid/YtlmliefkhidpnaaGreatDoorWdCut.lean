/- The document's pieces: cut, Lines, Words. -/
import Derived.Test.YtlmliefkhidpnaaGreatDoorWdWords
namespace Go.Proofs.YtlmliefkhidpnaaGreatDoor
open Go.ChangeShapes Go.WideShapes Go.ChangeAt Go.RowKit
set_option linter.unusedVariables false
set_option linter.unusedSimpArgs false
structure PlInv (T : Bts) (c : UInt8) (k f : Nat) (ls : List ByteArray) : Prop where
  le : f ≤ k
  eq : ls.map bl ++ pl c ((T.take k).drop f) (T.drop k) = pl c [] T
theorem PlInv.start (T : Bts) (c : UInt8) : PlInv T c 0 0 [] := ⟨Nat.le_refl _, by simp⟩
theorem PlInv.more {T : Bts} {c : UInt8} {k f : Nat} {ls : List ByteArray} (h : PlInv T c k f ls) (hk : k < T.length) (hc : T[k] ≠ c) : PlInv T c (k + 1) f ls := by
  refine ⟨Nat.le_succ_of_le h.le, ?_⟩
  rw [← h.eq, take_drop_snoc T h.le hk, List.drop_eq_getElem_cons hk]
  conv => rhs; rw [pl]
  rw [if_neg hc]
theorem PlInv.piece {T : Bts} {c : UInt8} {k f : Nat} {ls : List ByteArray} (h : PlInv T c k f ls) (hk : k < T.length) (hc : T[k] = c) {x : ByteArray} (hx : bl x = (T.take k).drop f) : PlInv T c (k + 1) (k + 1) (ls ++ [x]) := by
  refine ⟨Nat.le_refl _, ?_⟩
  rw [← h.eq, List.map_append, List.append_assoc]
  congr 1
  have e0 : (T.take (k + 1)).drop (k + 1) = [] := List.drop_of_length_le (by rw [List.length_take]; omega)
  rw [e0]
  simp only [List.map_cons, List.map_nil, hx, List.cons_append, List.nil_append]
  conv => rhs; rw [List.drop_eq_getElem_cons hk, pl]
  rw [if_pos hc]
theorem PlInv.last {T : Bts} {c : UInt8} {f : Nat} {ls : List ByteArray} (h : PlInv T c T.length f ls) (hf : f < T.length) {x : ByteArray} (hx : bl x = T.drop f) : (ls ++ [x]).map bl = pl c [] T := by
  have := h.eq
  rw [List.take_length, List.drop_length, pl, if_neg (fun e => by have := congrArg List.length e; simp at this; omega)] at this
  rw [List.map_append, ← this, List.map_cons, List.map_nil, hx]
theorem PlInv.done {T : Bts} {c : UInt8} {f : Nat} {ls : List ByteArray} (h : PlInv T c T.length f ls) (hf : ¬ f < T.length) : ls.map bl = pl c [] T := by
  have := h.eq
  rw [List.take_length, List.drop_length, pl, if_pos (List.drop_of_length_le (by omega)), List.append_nil] at this
  exact this
theorem pl_len (c : UInt8) : ∀ (l cur : Bts), (pl c cur l).length ≤ l.length + (if cur = [] then 0 else 1) := fun l => by
  induction l with
  | nil => intro cur; unfold pl; split <;> simp
  | cons x r ih =>
    intro cur
    unfold pl
    split
    · have := ih []; simp at this ⊢; omega
    · have := ih (cur ++ [x])
      rw [if_neg (by simp)] at this
      simp only [List.length_cons]
      split <;> omega
set_option maxHeartbeats 4000000 in
theorem cut_any (s : ByteArray) (cb : UInt8) (w : World) (hs : s.size ≤ 100000) : Calls Tryz.prog 33 #[.string s, .int .u8 (cb.toNat : Int)] w fun e w' => ∃ ls, ls.map bl = pl cb [] (bl s) ∧ ls.length ≤ s.size ∧ StrsPost w ls e w' := by
  obtain ⟨i0, hi0, hy0, hy1, hy2⟩ := info_parts infoStr
  obtain ⟨cc, hcc⟩ : ∃ c : Int, (cb.toNat : Int) = c := ⟨_, rfl⟩
  have Hcc := hidp hcc
  rw [hcc]
  clear hcc
  have o0 : OwnS w.heap.size w none 0 0 [] := OwnS.none_ _ _
  have hb0 := Below.refl w.heap.size w
  go_enter Tryz.func33, Tryz.ntmps33
  go_wp2
  go_loopg [5, 6, 7] s.size (fun g ws f i wr => ∃ (k fr n c : Nat) (A : Option Addr) (ls : List ByteArray), k + g = s.size ∧ i = .int .i64 k ∧ f = .int .i64 fr ∧ fr ≤ k ∧ ws = .slice A n c ∧ n ≤ k ∧ OwnS w.heap.size wr A n c ls ∧ Hid (PlInv (bl s) cb k fr ls) ∧ Below w.heap.size w wr)
  case atStart => exact ⟨0, 0, 0, 0, none, [], by omega, rfl, rfl, Nat.le_refl _, rfl, Nat.le_refl _, o0, hidp (PlInv.start _ _), hb0⟩
  case round =>
    clear o0 hb0
    obtain ⟨k, fr, n, c, A, ls, hk, rfl, rfl, hfr, rfl, hnk, ho, HI, hbr⟩ := hrel
    by_cases hk2 : k < s.size
    · have kI3 : (k : Int) < (s.size : Int) := by omega
      obtain ⟨ch, hch⟩ : ∃ c : Int, (s[k].toNat : Int) = c := ⟨_, rfl⟩
      have fI2 : (fr : Int) ≤ (k : Int) := by omega
      by_cases h32 : ch = cc
      · have HC : Hid ((bl s)[k]'(by rw [bl_len]; exact hk2) = cb) := hidp (by
          have h2 : (bl s)[k]'(by rw [bl_len]; exact hk2) = s[k] := rfl
          rw [h2]; exact UInt8.toNat_inj.1 (by have := Hcc.out; omega))
        have g1 : (ch == cc) = true := by simpa using h32
        have HN := hidp (HI.out.piece (by rw [bl_len]; exact hk2) HC.out (bl_extract s fr k))
        obtain ⟨x, Hx⟩ : ∃ x, Hid (s.extract fr k = x) := ⟨_, hidp rfl⟩
        rw [Hx.out] at HN
        have hx0 := Hx.out
        have kN : k ≤ s.size := by omega
        have TL : Turned [] wr (wr.alloc (.cells #[.string x] 9)) := (Turned.refl [] wr).alloc _
        have own4 := own_turned ho.own TL (by simp)
        have S2 := hidp (new_liesW wr [.string x] 9)
        have N2 : Hid (n + 1 ≤ maxLen) := hidp (by unfold maxLen; omega)
        have T2 : Hid ((n + 1) * 16 ≤ 140737488355328) := hidp (by omega)
        have W1 := hbr.alloc hbr.size (.cells #[.string x] 9)
        have Z2 : Hid (w.heap.size ≤ (wr.alloc (.cells #[.string x] 9)).heap.size) := hidp W1.size
        have O2 := hidp (str_one [x])
        have Hfp := hidp (own_fp own4)
        have hW := hidp W1
        have HO := hidp (ho.turned TL (by simp))
        clear ho hbr W1 TL h32
        go_wp2_with (at_builtin; refine wpList_app2 _ rfl (.tmp 19) (.tmp 24) 38 rfl w.heap.size 9 i0 _ 1 16 Tryz.underlying38 hi0 hy0 hy1 hy2 rfl (by decide) A n c _ rfl own4 _ _ 1 1 [.string x] rfl (by simp) rfl S2.out O2.out N2.out T2.out Z2.out ?_; intro A9 c9 w6 happ)
        go_roundg (gk - 1)
        case measure => omega
        case rel => exact ⟨k + 1, k + 1, n + 1, c9, A9, ls ++ [x], by omega, by go_num, by go_num, Nat.le_refl _, rfl, by omega, HO.out.app happ, HN, hW.out.trans (happ.turned.below hW.out.size (fun i hi => (Hfp.out i hi).1))⟩
      · have g1 : (ch == cc) = false := by simpa using h32
        have HN := hidp (HI.out.more (by rw [bl_len]; exact hk2) (fun e => h32 (by
          have h2 : (bl s)[k]'(by rw [bl_len]; exact hk2) = s[k] := rfl
          rw [h2] at e; rw [← hch, ← Hcc.out, e])))
        clear h32
        go_wp2
        go_roundg (gk - 1)
        case measure => omega
        case rel => exact ⟨k + 1, fr, n, c, A, ls, by omega, by go_num, rfl, by omega, rfl, by omega, ho, HN, hbr⟩
    · have hks : k = (bl s).length := by rw [bl_len]; omega
      have kI3 : ¬ (k : Int) < (s.size : Int) := by omega
      have HI2 : Hid (PlInv (bl s) cb (bl s).length fr ls) := hidp (by rw [← hks]; exact HI.out)
      have HLen : Hid (∀ l2 : List ByteArray, l2.map bl = pl cb [] (bl s) → l2.length ≤ s.size) := hidp (fun l2 h => by
        have h2 := pl_len cb (bl s) []
        have h3 := congrArg List.length h
        rw [List.length_map] at h3
        rw [bl_len] at h2
        simp at h2
        omega)
      clear hks HI
      by_cases hfk : fr < s.size
      · have fI : (fr : Int) < (s.size : Int) := by omega
        obtain ⟨x, Hx⟩ : ∃ x, Hid (s.extract fr s.size = x) := ⟨_, hidp rfl⟩
        have HN := hidp (HI2.out.last (by rw [bl_len]; exact hfk) (x := x) (by rw [← Hx.out, bl_extract, ← bl_len, List.take_length]))
        have hx0 := Hx.out
        have TL : Turned [] wr (wr.alloc (.cells #[.string x] 9)) := (Turned.refl [] wr).alloc _
        have own4 := own_turned ho.own TL (by simp)
        have S2 := hidp (new_liesW wr [.string x] 9)
        have N2 : Hid (n + 1 ≤ maxLen) := hidp (by unfold maxLen; omega)
        have T2 : Hid ((n + 1) * 16 ≤ 140737488355328) := hidp (by omega)
        have W1 := hbr.alloc hbr.size (.cells #[.string x] 9)
        have Z2 : Hid (w.heap.size ≤ (wr.alloc (.cells #[.string x] 9)).heap.size) := hidp W1.size
        have O2 := hidp (str_one [x])
        have Hfp := hidp (own_fp own4)
        have hW := hidp W1
        have HO := hidp (ho.turned TL (by simp))
        clear ho hbr W1 TL
        go_wp2_with (at_builtin; refine wpList_app2 _ rfl (.tmp 32) (.tmp 36) 38 rfl w.heap.size 9 i0 _ 1 16 Tryz.underlying38 hi0 hy0 hy1 hy2 rfl (by decide) A n c _ rfl own4 _ _ 1 1 [.string x] rfl (by simp) rfl S2.out O2.out N2.out T2.out Z2.out ?_; intro A9 c9 w6 happ)
        go_ret
        have hO9 := HO.out.app happ
        have hl := hO9.len
        refine ⟨ls ++ [x], HN.out, HLen.out _ HN.out, A9, c9, congrArg (fun q => Ending.returned (.slice A9 q c9)) hl, hl ▸ hO9, hW.out.trans (happ.turned.below hW.out.size (fun i hi => (Hfp.out i hi).1))⟩
      · have fI : ¬ (fr : Int) < (s.size : Int) := by omega
        have HN := hidp (HI2.out.done (by rw [bl_len]; exact hfk))
        have hln := ho.len
        go_wp2
        go_ret
        subst hln
        exact ⟨ls, HN.out, HLen.out _ HN.out, A, c, rfl, ho, hbr⟩
theorem rlines_any (s : ByteArray) (w : World) (hs : s.size ≤ 100000) : Calls Tryz.prog 13 #[.string s] w fun e w' => ∃ ls, ls.map bl = linesL (bl s) ∧ ls.length ≤ s.size ∧ StrsPost w ls e w' := by
  have C := hidp (cut_any s 10 w hs)
  go_enter Tryz.func13, Tryz.ntmps13
  go_wp2_with fail
  refine C.out.mono ?_
  rintro e u ⟨ls, h1, h2, A, c, rfl, ho, hb⟩
  have H1 := hidp h1
  have H2 := hidp h2
  have HO := hidp ho
  clear h1 h2 ho
  go_wp2_with fail
  go_ret
  exact ⟨ls, H1.out, H2.out, A, c, rfl, HO.out, hb⟩
end Go.Proofs.YtlmliefkhidpnaaGreatDoor
