/- The document's Words. -/
import Derived.Test.YthokicikehemaaaDoorWdLines
namespace Go.Proofs.YthokicikehemaaaDoor
open Go.ChangeShapes Go.WideShapes Go.ChangeAt Go.RowKit
set_option linter.unusedVariables false
set_option linter.unusedSimpArgs false
theorem ahead_take (T : Bts) : ∀ k : Nat, k ≤ T.length → (∀ j (h : j < T.length), j < k → T[j] ≠ 35) → (∀ h : k < T.length, T[k] = 35) → T.take k = ahead35 T := by
  induction T with
  | nil => intro k _ _ _; simp [ahead35]
  | cons x r ih =>
    intro k hk h1 h2
    cases k with
    | zero =>
      have := h2 (by simp)
      simp at this
      rw [List.take_zero, ahead35, if_pos this]
    | succ k =>
      have h0 := h1 0 (by simp) (by omega)
      simp at h0
      rw [List.take_succ_cons, ahead35, if_neg h0]
      congr 1
      refine ih k (by simpa using hk) (fun j hj hjk => ?_) (fun h => ?_)
      · have := h1 (j + 1) (by simpa using hj) (by omega)
        simpa using this
      · have := h2 (by simpa using h)
        simpa using this
def keepB (x : Bts) : Bool := !decide (x = [])
theorem pl_words2 (l : Bts) : (pl 32 [] l).filter keepB = wl [] l := pl_words l []
theorem toList_ne {x : ByteArray} : (x.toList != []) = keepB (bl x) := by
  unfold keepB
  rw [← toList_nil]; rfl
theorem isEmpty_bl (x : ByteArray) : x.toList.isEmpty = (bl x).isEmpty := by
  have : x.toList = bl x := by simp [bl, ByteArray.toList_eq]
  rw [this]
set_option maxHeartbeats 4000000 in
theorem rwords_any (s : ByteArray) (w : World) (hs : s.size ≤ 100000) : Calls Tryd.prog 15 #[.string s] w fun e w' => ∃ ls, ls.map bl = wordsL (bl s) ∧ StrsPost w ls e w' := by
  obtain ⟨i0, hi0, hy0, hy1, hy2⟩ := info_parts infoStr
  have hb0 := Below.refl w.heap.size w
  go_enter Tryd.func15, Tryd.ntmps15
  go_wp2
  go_loopg [3] s.size (fun g i wr => ∃ k : Nat, k + g = s.size ∧ i = .int .i64 k ∧ Hid (∀ j (h : j < (bl s).length), j < k → (bl s)[j] ≠ 35) ∧ w = wr)
  case atStart => exact ⟨0, by omega, rfl, hidp (fun j _ h => absurd h (by omega)), rfl⟩
  case round =>
    obtain ⟨k, hk, rfl, HI, rfl⟩ := hrel
    by_cases hin : k < s.size ∧ ∀ h : k < (bl s).length, (bl s)[k] ≠ 35
    · obtain ⟨hk2, hne⟩ := hin
      have kI3 : decide ((k : Int) < (s.size : Int)) = true := by simp; omega
      obtain ⟨ch, hch⟩ : ∃ c : Int, (s[k].toNat : Int) = c := ⟨_, rfl⟩
      have h35 : ¬ ch = 35 := fun e => hne (by rw [bl_len]; exact hk2) (by
        have h2 : (bl s)[k]'(by rw [bl_len]; exact hk2) = s[k] := rfl
        rw [h2]; exact UInt8.toNat_inj.1 (by show s[k].toNat = 35; omega))
      have g1 : (ch != 35) = true := by simpa using h35
      have HN : Hid (∀ j (h : j < (bl s).length), j < k + 1 → (bl s)[j] ≠ 35) := hidp (fun j h hj => by
        by_cases e : j = k
        · subst e; exact hne h
        · exact HI.out j h (by omega))
      clear h35 hne
      go_wp2
      go_roundg (gk - 1)
      case measure => omega
      case rel => exact ⟨k + 1, by omega, by go_num, HN, rfl⟩
    · have hkl : k ≤ s.size := by omega
      have HT := hidp (ahead_take (bl s) k (by rw [bl_len]; omega) HI.out (fun h => by
        apply Classical.byContradiction
        intro hne
        exact hin ⟨by rw [bl_len] at h; exact h, fun _ => hne⟩))
      have kI2 : (k : Int) ≤ (s.size : Int) := by omega
      have main : ∀ t : ByteArray, s.extract 0 k = t → bl t = ahead35 (bl s) := fun t e => by rw [← e, bl_extract, HT.out]; simp
      have hszt : (s.extract 0 k).size ≤ 100000 := by rw [ByteArray.size_extract]; omega
      have HM := hidp main
      have HZ := hidp hszt
      obtain ⟨t, ht⟩ : ∃ t, s.extract 0 k = t := ⟨_, rfl⟩
      have HMt := hidp (main t ht)
      rw [ht] at hszt
      have cond : (¬ k < s.size) ∨ (decide ((k : Int) < (s.size : Int)) = true ∧ ∃ hk2 : k < s.size, ((s[k].toNat : Int) != 35) = false) := by
        by_cases hk2 : k < s.size
        · right
          refine ⟨by simp; omega, hk2, ?_⟩
          have h35 : (bl s)[k]'(by rw [bl_len]; exact hk2) = 35 := by
            apply Classical.byContradiction
            intro hne
            exact hin ⟨hk2, fun _ => hne⟩
          have h2 : (bl s)[k]'(by rw [bl_len]; exact hk2) = s[k] := rfl
          rw [h2] at h35
          rw [h35]; decide
        · left; exact hk2
      have C0 := cut_any t 32 w hszt
      rw [show (((32 : UInt8).toNat : Nat) : Int) = 32 from rfl] at C0
      have C := hidp C0
      clear C0
      clear hin main HI HT
      rcases cond with c1 | ⟨c1, hk2, c2⟩
      all_goals
        go_wp2_with fail
        with_reducible refine C.out.mono ?_
        rintro e w2 ⟨ls, h1, hlen, A, c, rfl, ho, hb⟩
        have H1 := hidp h1
        have HLn : Hid (ls.length ≤ 100000) := hidp (Nat.le_trans hlen hszt)
        have HO := hidp ho.at_
        have HB := hidp hb
        obtain ⟨n, hn⟩ : ∃ n, ls.length = n := ⟨_, rfl⟩
        have Hn := hidp hn
        have hn5 : n ≤ 100000 := hn ▸ HLn.out
        rw [hn]
        clear h1 hlen ho hb hn c1
        have o0 : OwnS w2.heap.size w2 none 0 0 [] := OwnS.none_ _ _
        have hb2 := Below.refl w2.heap.size w2
        go_wp2
        go_loopg [5, 6] n (fun g ws i wr => ∃ (j m cc : Nat) (B : Option Addr) (os : List ByteArray), j + g = n ∧ i = .int .i64 j ∧ ws = .slice B m cc ∧ m ≤ j ∧ OwnS w2.heap.size wr B m cc os ∧ Hid (os.map bl = ((ls.take j).map bl).filter keepB) ∧ Below w2.heap.size w2 wr)
        case atStart => exact ⟨0, 0, 0, none, [], by omega, rfl, rfl, Nat.le_refl _, o0, hidp rfl, hb2⟩
        case round =>
          clear o0 hb2
          obtain ⟨j, m, cc, B, os, hj, rfl, rfl, hmj, ho, HS, hbr⟩ := hrel
          by_cases hjn : j < n
          · have jI : (j : Int) < (n : Int) := by omega
            have hjl : j < ls.length := by rw [Hn.out]; exact hjn
            obtain ⟨g5, off5, hA5, hcl⟩ := HO.out.resolve_left (by intro e; subst e; simp at hjl)
            subst hA5
            obtain ⟨x, Hx⟩ : ∃ x, Hid (ls.getD j ByteArray.empty = x) := ⟨_, hidp rfl⟩
            have hc0 := hcl j hjl
            rw [Hx.out] at hc0
            have cx : wr.cell? ⟨g5, off5 + j, none⟩ = some (.string x) := by rw [hbr.cell (cell_lt hc0)]; exact hc0
            have Hst : Hid ((ls.take (j + 1)).map bl = (ls.take j).map bl ++ [bl x]) := hidp (by
              rw [List.take_succ_eq_append_getElem hjl, List.map_append, ← Hx.out]; simp [List.getD, hjl])
            clear hcl hc0
            by_cases he : bl x = []
            · have f1 : x.toList.isEmpty = true := by rw [isEmpty_bl, he]; rfl
              have HN : Hid (os.map bl = ((ls.take (j + 1)).map bl).filter keepB) := hidp (by rw [HS.out, Hst.out, List.filter_append]; simp [keepB, he])
              clear he
              go_wp2
              go_roundg (gk - 1)
              case measure => omega
              case rel => exact ⟨j + 1, m, cc, B, os, by omega, by go_num, rfl, by omega, ho, HN, hbr⟩
            · have f1 : x.toList.isEmpty = false := by rw [isEmpty_bl]; cases h9 : bl x with | nil => exact absurd h9 he | cons a b => rfl
              have HN : Hid ((os ++ [x]).map bl = ((ls.take (j + 1)).map bl).filter keepB) := hidp (by rw [List.map_append, HS.out, Hst.out, List.filter_append]; simp [keepB, he])
              have TL : Turned [] wr (wr.alloc (.cells #[.string x] 9)) := (Turned.refl [] wr).alloc _
              have own4 := own_turned ho.own TL (by simp)
              have S2 := hidp (new_liesW wr [.string x] 9)
              have N2 : Hid (m + 1 ≤ maxLen) := hidp (by unfold maxLen; omega)
              have T2 : Hid ((m + 1) * 16 ≤ 140737488355328) := hidp (by omega)
              have W1 := hbr.alloc hbr.size (.cells #[.string x] 9)
              have Z2 : Hid (w2.heap.size ≤ (wr.alloc (.cells #[.string x] 9)).heap.size) := hidp W1.size
              have O2 := hidp (str_one [x])
              have Hfp := hidp (own_fp own4)
              have hW := hidp W1
              have HO9 := hidp (ho.turned TL (by simp))
              have Hmj := hidp hmj
              clear ho hbr W1 TL he
              go_wp2_with (at_builtin; refine wpList_app2 _ rfl (.tmp 34) (.tmp 39) 26 rfl w2.heap.size 9 i0 _ 1 16 Tryd.underlying26 hi0 hy0 hy1 hy2 rfl (by decide) B m cc _ rfl own4 _ _ 1 1 [.string x] rfl (by simp) rfl S2.out O2.out N2.out T2.out Z2.out ?_; intro A9 c9 w6 happ)
              go_roundg (gk - 1)
              case measure => omega
              case rel => exact ⟨j + 1, m + 1, c9, A9, os ++ [x], by omega, by go_num, rfl, by omega, HO9.out.app happ, HN, hW.out.trans (happ.turned.below hW.out.size (fun i hi => (Hfp.out i hi).1))⟩
          · have jI : ¬ (j : Int) < (n : Int) := by omega
            have HN : Hid (os.map bl = wordsL (bl s)) := hidp (by
              rw [HS.out, List.take_of_length_le (by rw [Hn.out]; omega), H1.out, HMt.out]
              exact pl_words2 _)
            have hln := ho.len
            go_wp2
            go_ret
            subst hln
            exact ⟨os, HN.out, B, cc, rfl, ho.low HB.out.size, HB.out.trans (hbr.mono HB.out.size)⟩
end Go.Proofs.YthokicikehemaaaDoor
