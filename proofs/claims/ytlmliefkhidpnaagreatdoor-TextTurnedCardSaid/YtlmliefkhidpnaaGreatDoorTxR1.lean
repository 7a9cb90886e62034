/- swingbridgeref7: ints, begins, nested, word, protocol. -/
import Derived.Test.YtlmliefkhidpnaaGreatDoorTxt2
import Derived.Test.YtlmliefkhidpnaaGreatDoorTxtP
import Derived.Deep.QuietTactic
import Derived.BigQuiet
namespace Go.Proofs.YtlmliefkhidpnaaGreatDoor
open Go.ChangeShapes Go.WideShapes Go.ChangeAt Go.RowKit
set_option linter.unusedVariables false
set_option linter.unusedSimpArgs false
def RIntsPost (w : World) (l : List Bts) (e : Ending) (w' : World) : Prop := ∃ A c zs ok, e = .returned (.tuple #[.slice A zs.length c, .bool ok]) ∧ OwnN w.heap.size w' A zs.length c zs ∧ Below w.heap.size w w' ∧ (∀ n ∈ zs, 0 ≤ n ∧ n ≤ 9999999) ∧ zs.length ≤ l.length ∧ (if ok = true then numsT l = some zs else numsT l = none ∧ zs = [])
set_option maxHeartbeats 4000000 in
theorem rints_any (A0 : Option Addr) (c0 : Nat) (ls : List ByteArray) (w : World) (hs : StrsAt w A0 ls) (hl : ls.length ≤ 100000) (hz : ∀ x ∈ ls, x.size ≤ 100000) : Calls Tryz.prog 19 #[.slice A0 ls.length c0] w (RIntsPost w (ls.map bl)) := by
  obtain ⟨i0, hi0, hy0, hy1, hy2⟩ := info_parts infoN
  have o0 : OwnN w.heap.size w none 0 0 [] := OwnN.nil_ _ _
  have hb0 := Below.refl w.heap.size w
  obtain ⟨N, hN⟩ : ∃ N, ls.length = N := ⟨_, rfl⟩
  have HN := hidp hN
  have HZ := hidp hz
  rw [hN] at hl ⊢
  clear hN hz
  go_enter Tryz.func19, Tryz.ntmps19
  go_wp2
  go_loopg [4, 5] N (fun g all i wr => ∃ (k c : Nat) (A : Option Addr) (zs : List Int), k + g = N ∧ i = .int .i64 k ∧ all = .slice A k c ∧ OwnN w.heap.size wr A k c zs ∧ Hid (numsT ((ls.take k).map bl) = some zs) ∧ Below w.heap.size w wr)
  case atStart => exact ⟨0, 0, none, [], by omega, rfl, rfl, o0, hidp rfl, hb0⟩
  case round =>
    clear o0 hb0
    obtain ⟨k, c, A, zs, hk, rfl, rfl, ho, HI, hbr⟩ := hrel
    by_cases hin : k < N
    · have hs2 := hs.below hbr
      obtain ⟨g, off, rfl, hc⟩ := hs2.resolve_left (by intro e; have := HN.out; rw [e] at this; simp at this; omega)
      have hkl : k < ls.length := by rw [HN.out]; exact hin
      obtain ⟨x, HX⟩ : ∃ x, Hid (ls.getD k ByteArray.empty = x) := ⟨_, hidp rfl⟩
      have c1 : wr.cell? ⟨g, off + k, none⟩ = some (.string x) := HX.out ▸ hc k hkl
      have HM := hidp (strs_mem hkl HX.out)
      have HT := hidp (strs_take hkl HX.out)
      have hx := HZ.out x HM.out
      have CN := hidp (fun u => rnum_any x u (Nat.le_trans hx (by decide)))
      have HB := hidp (numT_bl x)
      have wk : IntKind.i64.wrap ((k : Int) + 1) = (k : Int) + 1 := IntWalk.i64_in _ (by omega)
      clear hs hs2 hc hkl hx
      have b1 : (0 : Int) ≤ (k : Int) := by omega
      have b2 : (k : Int) < (N : Int) := by omega
      by_cases d : numOK x = true
      · rw [d, if_pos rfl] at HB
        rw [d] at CN
        clear d
        obtain ⟨n, Hn⟩ : ∃ n, Hid (numV x = n) := ⟨_, hidp rfl⟩
        rw [Hn.out] at CN HB
        have TL : Turned [] wr (wr.alloc (.cells #[.int .i64 n] 3)) := (Turned.refl [] wr).alloc _
        have own4 := own_turned ho.own TL (by simp)
        have S2 := hidp (new_liesW wr [.int .i64 n] 3)
        have N2 : Hid (k + 1 ≤ maxLen) := hidp (by unfold maxLen; omega)
        have T2 : Hid ((k + 1) * 8 ≤ 140737488355328) := hidp (by omega)
        have W1 := hbr.alloc hbr.size (.cells #[.int .i64 n] 3)
        have Z2 : Hid (w.heap.size ≤ (wr.alloc (.cells #[.int .i64 n] 3)).heap.size) := hidp W1.size
        have O2 := hidp (num_one [n])
        have Hfp := hidp (own_fp own4)
        have hW := hidp W1
        have HO := hidp (ho.turned TL (by simp))
        clear ho hbr W1 TL
        go_wp2_with fail
        refine (CN.out _).mono ?_
        rintro e u ⟨rfl, rfl⟩
        go_wp2_with (at_builtin; refine wpList_app2 _ rfl (.tmp 24) (.tmp 26) 22 rfl w.heap.size 3 i0 _ 1 8 Tryz.underlying22 hi0 hy0 hy1 hy2 rfl (by decide) A k c _ rfl own4 _ _ 1 1 [.int .i64 n] rfl (by simp) rfl S2.out O2.out N2.out T2.out Z2.out ?_; intro A9 c9 w6 happ)
        go_roundg (gk - 1)
        case measure => omega
        case rel => exact ⟨k + 1, c9, A9, zs ++ [n], by omega, by go_num, by go_num, HO.out.more happ, hidp (by rw [HT.out]; exact numsT_snoc HI.out HB.out), hW.out.trans (happ.turned.below hW.out.size (fun i hi => (Hfp.out i hi).1))⟩
      · have d : numOK x = false := by simpa using d
        rw [d, if_neg (by decide)] at HB
        rw [d] at CN
        clear d
        have HBR := hidp hbr
        clear ho hbr
        obtain ⟨n, Hn⟩ : ∃ n, Hid (numV x = n) := ⟨_, hidp rfl⟩
        rw [Hn.out] at CN
        go_wp2_with fail
        refine (CN.out _).mono ?_
        rintro e u ⟨rfl, rfl⟩
        go_wp2_with fail
        go_ret2
        exact ⟨none, 0, [], false, rfl, OwnN.nil_ _ _, HBR.out, by simp, by simp, by rw [if_neg (by decide)]; exact ⟨numsT_bad (List.mem_map.2 ⟨x, HM.out, rfl⟩) HB.out, rfl⟩⟩
    · obtain rfl : k = N := by omega
      have HL := hidp ho.len
      have HO := hidp ho
      have HBR := hidp hbr
      clear ho hbr
      go_wp2
      go_ret2
      refine ⟨A, c, zs, true, ret_sb HL.out rfl, HL.out ▸ HO.out, HBR.out, numsT_bd HI.out, ?_, ?_⟩
      · rw [← HL.out, List.length_map, HN.out]; exact Nat.le_refl _
      · have := HI.out
        rw [if_pos rfl, ← this, List.take_of_length_le (by rw [HN.out]; exact Nat.le_refl _)]
def lockP : Bts := [108, 111, 99, 107, 58]
theorem prefix_take (p l : Bts) : p.isPrefixOf l = decide (l.take p.length = p) := by
  rw [Bool.eq_iff_iff, List.isPrefixOf_iff_prefix, decide_eq_true_iff]
  constructor
  · rintro ⟨t, rfl⟩; simp
  · intro h; exact ⟨l.drop p.length, by have e := List.take_append_drop p.length l; rw [h] at e; exact e⟩
theorem hasT_at {p l : Bts} {j : Nat} (hj : j ≤ l.length) (h : p.isPrefixOf (l.drop j) = true) : hasT p l = true := by
  induction l generalizing j with
  | nil =>
    have : j = 0 := by simpa using hj
    subst this
    unfold hasT
    cases p with
    | nil => rfl
    | cons a t => simp [List.isPrefixOf] at h
  | cons a t ih =>
    unfold hasT
    cases j with
    | zero => rw [show p.isPrefixOf (a :: t) = true from h]; rfl
    | succ j => rw [ih (j := j) (by simpa using hj) (by simpa using h)]; simp
theorem hasT_none {p l : Bts} (hp : 0 < p.length) (h : ∀ j, j + p.length ≤ l.length → p.isPrefixOf (l.drop j) = false) : hasT p l = false := by
  induction l with
  | nil => unfold hasT; cases p with
    | nil => simp at hp
    | cons a t => rfl
  | cons a t ih =>
    unfold hasT
    rw [ih (fun j hj => by have := h (j + 1) (by simp; omega); simpa using this), Bool.or_false]
    by_cases hl : p.length ≤ (a :: t).length
    · exact h 0 (by omega)
    · rw [prefix_take, decide_eq_false_iff_not]
      intro e
      have := congrArg List.length e
      rw [List.length_take] at this
      omega
theorem begins_any (s : ByteArray) (w : World) (hs : s.size ≤ 100000) : Calls Tryz.prog 61 #[.string s, .string ⟨#[108, 111, 99, 107, 58]⟩] w fun e w' => e = .returned (.bool (lockP.isPrefixOf (bl s))) ∧ w = w' := by
  by_cases h : s.size < 5
  · have H : Hid (lockP.isPrefixOf (bl s) = false) := hidp (by
      rw [prefix_take, decide_eq_false_iff_not]
      intro e
      have := congrArg List.length e
      rw [List.length_take, bl_len] at this
      have h5 : lockP.length = 5 := rfl
      omega)
    have f1 : decide ((5 : Int) ≤ (s.size : Int)) = false := by simp; omega
    go_enter Tryz.func61, Tryz.ntmps61
    go_wp2_with fail
    go_ret
    exact ⟨rt_b H.out.symm, rfl⟩
  · have f1 : decide ((5 : Int) ≤ (s.size : Int)) = true := by simp; omega
    have f2 : (5 : Int) ≤ (s.size : Int) := by omega
    have f3 : 5 ≤ s.size := by omega
    obtain ⟨x, Hx⟩ : ∃ x, Hid (s.extract 0 5 = x) := ⟨_, hidp rfl⟩
    have hx0 := Hx.out
    have H : Hid ((x.toList == [108, 111, 99, 107, 58]) = lockP.isPrefixOf (bl s)) := hidp (by
      rw [toList_lit, prefix_take, ← hx0, bl_extract]; rfl)
    obtain ⟨b, Hb⟩ : ∃ b, Hid (lockP.isPrefixOf (bl s) = b) := ⟨_, hidp rfl⟩
    have g := H.out
    rw [Hb.out] at g
    go_enter Tryz.func61, Tryz.ntmps61
    go_wp2_with fail
    go_ret
    exact ⟨rt_b (by rw [Hb.out]), rfl⟩
set_option maxHeartbeats 2000000 in
theorem rnested_any (s : ByteArray) (w : World) (hs : s.size ≤ 100000) : Calls Tryz.prog 43 #[.string s] w fun e w' => e = .returned (.bool (nestT (bl s))) ∧ w = w' := by
  have CB := hidp (begins_any s w hs)
  obtain ⟨b, Hb⟩ : ∃ b, Hid (lockP.isPrefixOf (bl s) = b) := ⟨_, hidp rfl⟩
  rw [Hb.out] at CB
  have HE : Hid (nestT (bl s) = (b && hasT lockP ((bl s).drop 5))) := hidp (by unfold nestT; rw [← Hb.out]; rfl)
  cases b with
  | false =>
    have H : Hid (nestT (bl s) = false) := hidp (by rw [HE.out]; rfl)
    go_enter Tryz.func43, Tryz.ntmps43
    go_wp2_with fail
    refine CB.out.mono ?_
    rintro e u ⟨rfl, rfl⟩
    go_wp2_with fail
    go_ret
    exact ⟨rt_b H.out.symm, rfl⟩
  | true =>
    have H5 : Hid (5 ≤ s.size) := hidp (by
      have h := Hb.out
      rw [prefix_take] at h
      have := congrArg List.length (of_decide_eq_true h)
      rw [List.length_take, bl_len] at this
      have h5 : lockP.length = 5 := rfl
      omega)
    have h5 := H5.out
    go_enter Tryz.func43, Tryz.ntmps43
    go_wp2_with fail
    refine CB.out.mono ?_
    rintro e u ⟨rfl, rfl⟩
    go_wp2_with fail
    go_loopg [3] (s.size + 1) (fun g i wr => ∃ (k : Nat), k + g = s.size + 6 ∧ 5 ≤ k ∧ i = .int .i64 k ∧ Hid (∀ j, 5 ≤ j → j < k → lockP.isPrefixOf ((bl s).drop j) = false) ∧ w = wr)
    case atStart => exact ⟨5, by omega, by omega, rfl, hidp (fun j h1 h2 => by omega), rfl⟩
    case round =>
      obtain ⟨k, hk, hk5, rfl, HI, rfl⟩ := hrel
      have wk5 : IntKind.i64.wrap ((k : Int) + 5) = (k : Int) + 5 := IntWalk.i64_in _ (by omega)
      have wk : IntKind.i64.wrap ((k : Int) + 1) = (k : Int) + 1 := IntWalk.i64_in _ (by omega)
      by_cases hin : k + 5 ≤ s.size
      · have f1 : (k : Int) + 5 ≤ (s.size : Int) := by omega
        have f2 : (0 : Int) ≤ (k : Int) := by omega
        have f3 : (k : Int) ≤ (k : Int) + 5 := by omega
        obtain ⟨x, Hx⟩ : ∃ x, Hid (s.extract k (k + 5) = x) := ⟨_, hidp rfl⟩
        have hx0 := Hx.out
        have H : Hid ((x.toList == [108, 111, 99, 107, 58]) = lockP.isPrefixOf ((bl s).drop k)) := hidp (by
          rw [toList_lit, prefix_take, ← hx0, bl_extract, List.drop_take, show k + 5 - k = 5 by omega]; rfl)
        by_cases d : lockP.isPrefixOf ((bl s).drop k) = true
        · have g : (x.toList == [108, 111, 99, 107, 58]) = true := by rw [H.out]; exact d
          have HR : Hid (nestT (bl s) = true) := hidp (by
            rw [HE.out, Bool.true_and]
            exact hasT_at (j := k - 5) (by rw [List.length_drop, bl_len]; omega) (by rw [List.drop_drop, show 5 + (k - 5) = k by omega]; exact d))
          clear d
          go_wp2_with fail
          go_ret
          exact ⟨rt_b HR.out.symm, rfl⟩
        · have d : lockP.isPrefixOf ((bl s).drop k) = false := (Bool.not_eq_true _).mp d
          have g : (x.toList == [108, 111, 99, 107, 58]) = false := by rw [H.out]; exact d
          have HI2 : Hid (∀ j, 5 ≤ j → j < k + 1 → lockP.isPrefixOf ((bl s).drop j) = false) := hidp (fun j h1 h2 => by
            by_cases e : j = k
            · subst e; exact d
            · exact HI.out j h1 (by omega))
          clear d
          go_wp2_with fail
          go_roundg (gk - 1)
          case measure => omega
          case rel => exact ⟨k + 1, by omega, by omega, by go_num, HI2, rfl⟩
      · have f1 : ¬ (k : Int) + 5 ≤ (s.size : Int) := by omega
        have HR : Hid (nestT (bl s) = false) := hidp (by
          rw [HE.out, Bool.true_and]
          refine hasT_none (by decide) (fun j hj => ?_)
          rw [List.length_drop, bl_len] at hj
          have h5 : lockP.length = 5 := rfl
          rw [List.drop_drop]
          exact HI.out (5 + j) (by omega) (by omega))
        go_wp2_with fail
        go_ret
        exact ⟨rt_b HR.out.symm, rfl⟩
theorem rword_any (p : Int) (w : World) : Calls Tryz.prog 27 #[.int .i64 p] w fun e w' => e = .returned (.string (mkB (protoW p))) ∧ w = w' := by
  by_cases h1 : p = 1
  · have f1 : (p == 1) = true := by simpa using h1
    have H : Hid (mkB (protoW p) = ⟨#[102, 97, 105, 114]⟩) := hidp (by unfold protoW; rw [if_pos h1]; rfl)
    clear h1
    go_enter Tryz.func27, Tryz.ntmps27
    go_wp2_with fail
    go_ret
    exact ⟨congrArg (fun q => Ending.returned (.string q)) H.out.symm, rfl⟩
  have f1 : (p == 1) = false := by simpa using h1
  by_cases h2 : p = 2
  · have f2 : (p == 2) = true := by simpa using h2
    have H : Hid (mkB (protoW p) = ⟨#[97, 103, 101, 110, 116]⟩) := hidp (by unfold protoW; rw [if_neg h1, if_pos h2]; rfl)
    clear h1 h2
    go_enter Tryz.func27, Tryz.ntmps27
    go_wp2_with fail
    go_ret
    exact ⟨congrArg (fun q => Ending.returned (.string q)) H.out.symm, rfl⟩
  have f2 : (p == 2) = false := by simpa using h2
  have H : Hid (mkB (protoW p) = ⟨#[116, 111, 107, 101, 110]⟩) := hidp (by unfold protoW; rw [if_neg h1, if_neg h2]; rfl)
  clear h1 h2
  go_enter Tryz.func27, Tryz.ntmps27
  go_wp2_with fail
  go_ret
  exact ⟨congrArg (fun q => Ending.returned (.string q)) H.out.symm, rfl⟩
end Go.Proofs.YtlmliefkhidpnaaGreatDoor
