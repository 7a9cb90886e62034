/- words.Words: what stands between blanks, ahead of a mark. -/
import Derived.Test.YtlmliefkhidpnaaGreatDoorWdM
import Derived.Test.YtlmliefkhidpnaaGreatDoorShelf
import Derived.IntWalk
namespace Go.Proofs.YtlmliefkhidpnaaGreatDoor
open Go.ChangeShapes Go.WideShapes Go.ChangeAt Go.RowKit
set_option linter.unusedVariables false
set_option linter.unusedSimpArgs false
theorem cut35 (l : Bts) : (Lib.cut l [35]).1 = ahead35 l := by
  have key : ∀ l : Bts, (Lib.index l [35] = -1 ∧ ahead35 l = l) ∨ (∃ k : Nat, Lib.index l [35] = (k : Int) ∧ ahead35 l = l.take k) := by
    intro l
    induction l with
    | nil => left; exact ⟨rfl, rfl⟩
    | cons b r ih =>
      unfold Lib.index ahead35
      by_cases hb : b = 35
      · right; subst hb; exact ⟨0, by simp [List.isPrefixOf], by simp⟩
      · have hp : ([35] : Bts).isPrefixOf (b :: r) = false := by
          simp only [List.isPrefixOf, Bool.and_eq_false_imp]
          intro e
          exact absurd (by simpa using e : (35 : UInt8) = b).symm hb
        rw [hp, if_neg hb]
        rcases ih with ⟨h1, h2⟩ | ⟨k, h1, h2⟩
        · left; rw [h1, h2]; exact ⟨by simp, rfl⟩
        · right
          refine ⟨k + 1, ?_, by rw [h2]; rfl⟩
          have : ((k : Int) == -1) = false := by rw [beq_eq_false_iff_ne]; omega
          rw [h1, this]
          simp
  unfold Lib.cut
  rcases key l with ⟨h1, h2⟩ | ⟨k, h1, h2⟩
  · rw [h1, if_neg (by decide)]; exact h2.symm
  · rw [h1, if_pos (by omega), Int.toNat_natCast]; exact h2.symm
/-- what was found among the first k bytes, the last word begun at f -/
structure WdInv (T : Bts) (k f : Nat) (ls : List ByteArray) : Prop where
  le : f ≤ k
  eq : ls.map bl ++ wl ((T.take k).drop f) (T.drop k) = wl [] T
theorem WdInv.start (T : Bts) : WdInv T 0 0 [] := ⟨Nat.le_refl _, by simp⟩
theorem take_drop_snoc (T : Bts) {k f : Nat} (hf : f ≤ k) (hk : k < T.length) : (T.take (k + 1)).drop f = (T.take k).drop f ++ [T[k]] := by
  rw [List.take_succ_eq_append_getElem hk, List.drop_append_of_le_length (by simp; omega)]
theorem WdInv.more {T : Bts} {k f : Nat} {ls : List ByteArray} (h : WdInv T k f ls) (hk : k < T.length) (hc : T[k] ≠ 32) : WdInv T (k + 1) f ls := by
  refine ⟨Nat.le_succ_of_le h.le, ?_⟩
  rw [← h.eq, take_drop_snoc T h.le hk, List.drop_eq_getElem_cons hk]
  conv => rhs; rw [wl]
  rw [if_neg hc]
theorem WdInv.word {T : Bts} {k f : Nat} {ls : List ByteArray} (h : WdInv T k f ls) (hk : k ≤ T.length) (hf : f < k) (hc : ∀ g : k < T.length, T[k] = 32) {x : ByteArray} (hx : bl x = (T.take k).drop f) : WdInv T (k + 1) (k + 1) (ls ++ [x]) := by
  refine ⟨Nat.le_refl _, ?_⟩
  rw [← h.eq, List.map_append, List.append_assoc]
  congr 1
  have hne : ¬ (T.take k).drop f = [] := fun e => by have := congrArg List.length e; simp at this; omega
  have e0 : (T.take (k + 1)).drop (k + 1) = [] := List.drop_of_length_le (by rw [List.length_take]; omega)
  rw [e0]
  simp only [List.map_cons, List.map_nil, hx, List.cons_append, List.nil_append]
  by_cases hk2 : k < T.length
  · conv => rhs; rw [List.drop_eq_getElem_cons hk2, wl]
    rw [if_pos (hc hk2), if_neg hne]
  · have e1 : T.drop k = [] := List.drop_of_length_le (by omega)
    have e2 : T.drop (k + 1) = [] := List.drop_of_length_le (by omega)
    rw [e1, e2]
    conv => rhs; rw [wl, if_neg hne]
    rfl
theorem WdInv.none_ {T : Bts} {k f : Nat} {ls : List ByteArray} (h : WdInv T k f ls) (hk : k ≤ T.length) (hf : ¬ f < k) (hc : ∀ g : k < T.length, T[k] = 32) : WdInv T (k + 1) (k + 1) ls := by
  have hfk : f = k := by have := h.le; omega
  subst hfk
  refine ⟨Nat.le_refl _, ?_⟩
  rw [← h.eq]
  congr 1
  have e0 : (T.take (f + 1)).drop (f + 1) = [] := List.drop_of_length_le (by rw [List.length_take]; omega)
  have e3 : (T.take f).drop f = [] := List.drop_of_length_le (by rw [List.length_take]; omega)
  rw [e0, e3]
  by_cases hk2 : f < T.length
  · conv => rhs; rw [List.drop_eq_getElem_cons hk2, wl]
    rw [if_pos (hc hk2), if_pos rfl]
  · have e1 : T.drop f = [] := List.drop_of_length_le (by omega)
    have e2 : T.drop (f + 1) = [] := List.drop_of_length_le (by omega)
    rw [e1, e2]
theorem WdInv.done {T : Bts} {f : Nat} {ls : List ByteArray} (h : WdInv T (T.length + 1) f ls) (hf : f = T.length + 1) : ls.map bl = wl [] T := by
  have := h.eq
  subst hf
  rw [List.drop_of_length_le (by rw [List.length_take]; omega), List.drop_of_length_le (by omega)] at this
  simpa [wl] using this
theorem bt_at {t : ByteArray} {k : Nat} (h : k < t.size) : ∃ (hb : k < (bl t).length), (bl t)[k] = t[k] := ⟨by rw [bl_len]; exact h, rfl⟩
set_option maxHeartbeats 4000000 in
theorem words_any (s : ByteArray) (m : Int) (w : World) (hm : w.cell? ⟨0, 0, none⟩ = some (.int .i64 m)) (hs : s.size ≤ 100000) : Calls Tryz.prog 35 #[.string s] w fun e w' => ∃ ls, ls.map bl = wordsL (bl s) ∧ ls.length ≤ s.size ∧ StrsPost w ls e w' := by
  obtain ⟨i0, hi0, hy0, hy1, hy2⟩ := info_parts infoStr
  have C := hidp (Tryz.strings_Cut s ⟨#[35]⟩ m w (by omega) hm)
  clear hm
  go_enter Tryz.func35, Tryz.ntmps35
  go_wp2
  go_step3
  go_wp2_with fail
  refine C.out.mono ?_
  rintro e w1 ⟨rfl, hq⟩
  have hcut : (Lib.cut s.data.toList (⟨#[35]⟩ : ByteArray).data.toList).1 = ahead35 (bl s) := cut35 _
  obtain ⟨t, ht⟩ : ∃ t : ByteArray, (⟨(Lib.cut s.data.toList (⟨#[35]⟩ : ByteArray).data.toList).1.toArray⟩ : ByteArray) = t := ⟨_, rfl⟩
  have HT : Hid (bl t = ahead35 (bl s)) := hidp (by rw [← ht, ← hcut]; rfl)
  rw [ht]
  obtain ⟨t2, ht2⟩ : ∃ t : ByteArray, (⟨(Lib.cut s.data.toList (⟨#[35]⟩ : ByteArray).data.toList).2.1.toArray⟩ : ByteArray) = t := ⟨_, rfl⟩
  obtain ⟨t3, ht3⟩ : ∃ t : Bool, (Lib.cut s.data.toList (⟨#[35]⟩ : ByteArray).data.toList).2.2 = t := ⟨_, rfl⟩
  rw [ht2, ht3]
  have hlen : t.size ≤ s.size := by
    have h1 : ∀ l : Bts, (ahead35 l).length ≤ l.length := fun l => by
      induction l with
      | nil => exact Nat.le_refl _
      | cons c r ih => unfold ahead35; split <;> simp <;> omega
    have := h1 (bl s)
    rw [← HT.out, bl_len, bl_len] at this
    exact this
  have HB1 := hidp (hq.elim fun n h => (h ▸ below_drewN (Below.refl w.heap.size w) n : Below w.heap.size w w1))
  clear ht hcut hq ht2 ht3 C
  have ts : t.size ≤ 100000 := by omega
  have o0 : OwnS w1.heap.size w1 none 0 0 [] := OwnS.none_ _ _
  have hb0 := Below.refl w1.heap.size w1
  have wsz : IntKind.i64.wrap ((t.size : Int) + 1) = (t.size : Int) + 1 := IntWalk.i64_in _ (by omega)
  go_wp2
  try go_step3
  try go_wp2
  go_loopg [3, 4, 15] (t.size + 1) (fun g ws f i wr => ∃ (k fr n c : Nat) (A : Option Addr) (ls : List ByteArray), k + g = t.size + 1 ∧ i = .int .i64 k ∧ f = .int .i64 fr ∧ fr ≤ k ∧ ws = .slice A n c ∧ n ≤ k ∧ OwnS w1.heap.size wr A n c ls ∧ Hid (WdInv (bl t) k fr ls) ∧ Hid (k = t.size + 1 → fr = k) ∧ Below w1.heap.size w1 wr)
  case atStart => exact ⟨0, 0, 0, 0, none, [], by omega, rfl, rfl, Nat.le_refl _, rfl, Nat.le_refl _, o0, hidp (WdInv.start _), hidp (fun h => by omega), hb0⟩
  case round =>
    clear o0 hb0
    obtain ⟨k, fr, n, c, A, ls, hk, rfl, rfl, hfr, rfl, hnk, ho, HI, HE, hbr⟩ := hrel
    by_cases hin : k < t.size + 1
    · have kI : (k : Int) < (t.size : Int) + 1 := by omega
      have wk : IntKind.i64.wrap ((k : Int) + 1) = (k : Int) + 1 := IntWalk.i64_in _ (by omega)
      by_cases hk2 : k < t.size
      · have kI3 : decide ((k : Int) < (t.size : Int)) = true := by simp; omega
        obtain ⟨ch, hch⟩ : ∃ c : Int, (t[k].toNat : Int) = c := ⟨_, rfl⟩
        by_cases h32 : ch = 32
        · have HC : Hid (∀ g : k < (bl t).length, (bl t)[k] = 32) := hidp (fun g => by
            have : t[k].toNat = 32 := by omega
            have h2 : (bl t)[k] = t[k] := rfl
            rw [h2]; exact UInt8.toNat_inj.1 this)
          have g1 : (ch != 32) = false := by simpa using h32
          clear h32
          by_cases hfk : fr < k
          · have fI : (fr : Int) < (k : Int) := by omega
            have fI2 : (fr : Int) ≤ (k : Int) := by omega
            have fN : fr ≤ k := by omega
            have kN : k ≤ t.size := by omega
            have kI2 : (k : Int) ≤ (t.size : Int) := by omega
            have HN := hidp (HI.out.word (by rw [bl_len]; omega) hfk HC.out (bl_extract t fr k))
            obtain ⟨x, Hx⟩ : ∃ x, Hid (t.extract fr k = x) := ⟨_, hidp rfl⟩
            rw [Hx.out] at HN
            have hx0 := Hx.out
            have TL : Turned [] wr (wr.alloc (.cells #[.string x] 9)) := (Turned.refl [] wr).alloc _
            have own4 := own_turned ho.own TL (by simp)
            have S2 := hidp (new_liesW wr [.string x] 9)
            have N2 : Hid (n + 1 ≤ maxLen) := hidp (by unfold maxLen; omega)
            have T2 : Hid ((n + 1) * 16 ≤ 140737488355328) := hidp (by omega)
            have W1 := hbr.alloc hbr.size (.cells #[.string x] 9)
            have Z2 : Hid (w1.heap.size ≤ (wr.alloc (.cells #[.string x] 9)).heap.size) := hidp W1.size
            have O2 := hidp (str_one [x])
            have Hfp := hidp (own_fp own4)
            have hW := hidp W1
            have HO := hidp (ho.turned TL (by simp))
            have Hnk := hidp hnk
            clear ho hbr W1 TL HE
            go_wp2_with (at_builtin; refine wpList_app2 _ rfl (.tmp 33) (.tmp 38) 38 rfl w1.heap.size 9 i0 _ 1 16 Tryz.underlying38 hi0 hy0 hy1 hy2 rfl (by decide) A n c _ rfl own4 _ _ 1 1 [.string x] rfl (by simp) rfl S2.out O2.out N2.out T2.out Z2.out ?_; intro A9 c9 w6 happ)
            go_roundg (gk - 1)
            case measure => omega
            case rel => exact ⟨k + 1, k + 1, n + 1, c9, A9, ls ++ [x], by omega, by go_num, by go_num, Nat.le_refl _, rfl, by omega, HO.out.app happ, HN, hidp (fun _ => rfl), hW.out.trans (happ.turned.below hW.out.size (fun i hi => (Hfp.out i hi).1))⟩
          · have fI : ¬ (fr : Int) < (k : Int) := by omega
            have HN := hidp (HI.out.none_ (by rw [bl_len]; omega) hfk HC.out)
            go_wp2
            go_roundg (gk - 1)
            case measure => omega
            case rel => exact ⟨k + 1, k + 1, n, c, A, ls, by omega, by go_num, by go_num, Nat.le_refl _, rfl, by omega, ho, HN, hidp (fun _ => rfl), hbr⟩
        · have g1 : (ch != 32) = true := by simpa using h32
          have HN := hidp (HI.out.more (by rw [bl_len]; omega) (fun e => h32 (by
            have h2 : (bl t)[k]'(by rw [bl_len]; omega) = t[k] := rfl
            rw [h2] at e; rw [← hch, e]; rfl)))
          clear h32
          go_wp2
          go_roundg (gk - 1)
          case measure => omega
          case rel => exact ⟨k + 1, fr, n, c, A, ls, by omega, by go_num, rfl, by omega, rfl, by omega, ho, HN, hidp (fun h => by omega), hbr⟩
      · have hk3 : k = t.size := by omega
        have kI3 : decide ((k : Int) < (t.size : Int)) = false := by simp; omega
        have HC : Hid (∀ g : k < (bl t).length, (bl t)[k] = 32) := hidp (fun g => absurd g (by rw [bl_len]; omega))
        have Hk3 := hidp hk3
        clear hk3
        by_cases hfk : fr < k
        · have fI : (fr : Int) < (k : Int) := by omega
          have fI2 : (fr : Int) ≤ (k : Int) := by omega
          have fN : fr ≤ k := by omega
          have kN : k ≤ t.size := by omega
          have kI2 : (k : Int) ≤ (t.size : Int) := by omega
          have HN := hidp (HI.out.word (by rw [bl_len]; omega) hfk HC.out (bl_extract t fr k))
          obtain ⟨x, Hx⟩ : ∃ x, Hid (t.extract fr k = x) := ⟨_, hidp rfl⟩
          rw [Hx.out] at HN
          have hx0 := Hx.out
          have TL : Turned [] wr (wr.alloc (.cells #[.string x] 9)) := (Turned.refl [] wr).alloc _
          have own4 := own_turned ho.own TL (by simp)
          have S2 := hidp (new_liesW wr [.string x] 9)
          have N2 : Hid (n + 1 ≤ maxLen) := hidp (by unfold maxLen; omega)
          have T2 : Hid ((n + 1) * 16 ≤ 140737488355328) := hidp (by omega)
          have W1 := hbr.alloc hbr.size (.cells #[.string x] 9)
          have Z2 : Hid (w1.heap.size ≤ (wr.alloc (.cells #[.string x] 9)).heap.size) := hidp W1.size
          have O2 := hidp (str_one [x])
          have Hfp := hidp (own_fp own4)
          have hW := hidp W1
          have HO := hidp (ho.turned TL (by simp))
          have Hnk := hidp hnk
          clear ho hbr W1 TL HE
          go_wp2_with (at_builtin; refine wpList_app2 _ rfl (.tmp 33) (.tmp 38) 38 rfl w1.heap.size 9 i0 _ 1 16 Tryz.underlying38 hi0 hy0 hy1 hy2 rfl (by decide) A n c _ rfl own4 _ _ 1 1 [.string x] rfl (by simp) rfl S2.out O2.out N2.out T2.out Z2.out ?_; intro A9 c9 w6 happ)
          go_roundg (gk - 1)
          case measure => omega
          case rel => exact ⟨k + 1, k + 1, n + 1, c9, A9, ls ++ [x], by omega, by go_num, by go_num, Nat.le_refl _, rfl, by omega, HO.out.app happ, HN, hidp (fun _ => rfl), hW.out.trans (happ.turned.below hW.out.size (fun i hi => (Hfp.out i hi).1))⟩
        · have fI : ¬ (fr : Int) < (k : Int) := by omega
          have HN := hidp (HI.out.none_ (by rw [bl_len]; omega) hfk HC.out)
          go_wp2
          go_roundg (gk - 1)
          case measure => omega
          case rel => exact ⟨k + 1, k + 1, n, c, A, ls, by omega, by go_num, by go_num, Nat.le_refl _, rfl, by omega, ho, HN, hidp (fun _ => rfl), hbr⟩
    · have kI : ¬ (k : Int) < (t.size : Int) + 1 := by omega
      have hk3 : k = (bl t).length + 1 := by rw [bl_len]; omega
      have HN : Hid (ls.map bl = wordsL (bl s)) := hidp (by
        have h := HI.out
        have h2 := HE.out (by omega)
        subst h2
        rw [hk3] at h
        rw [h.done rfl, HT.out]; rfl)
      have HL : Hid (ls.length ≤ s.size) := hidp (by
        have h1 : ∀ (l cur : Bts), (wl cur l).length ≤ l.length + (if cur = [] then 0 else 1) := fun l => by
          induction l with
          | nil => intro cur; unfold wl; split <;> simp
          | cons x r ih =>
            intro cur
            unfold wl
            split
            · split
              · have := ih []; simp at this ⊢; omega
              · have := ih []; simp at this ⊢; omega
            · have := ih (cur ++ [x])
              rw [if_neg (by simp)] at this
              simp only [List.length_cons]
              split <;> omega
        have h2 := h1 (bl t) []
        have h3 := congrArg List.length HN.out
        rw [List.length_map] at h3
        unfold wordsL at h3
        rw [← HT.out] at h3
        rw [bl_len] at h2
        simp at h2
        omega)
      have hln := ho.len
      clear hk3
      go_wp2
      try rw [Exit.noGoto_ret]
      go_ret
      subst hln
      exact ⟨ls, HN.out, HL.out, A, c, rfl, ho.low HB1.out.size, HB1.out.trans (hbr.mono HB1.out.size)⟩
end Go.Proofs.YtlmliefkhidpnaaGreatDoor
