/- TextTurned: a set's text with a byte turned, a line left out: the set, or which line is wrong, are the document's. No condition. -/
import Derived.Test.YtlmliefkhidpnaaGreatDoorFews9M
import Derived.Test.YtlmliefkhidpnaaGreatDoorTxR7
import Derived.Test.YtlmliefkhidpnaaGreatDoorTxtC
import Derived.Test.YtlmliefkhidpnaaGreatDoorWdLines
import Derived.Test.YtlmliefkhidpnaaGreatDoorTxR4
import Derived.Test.YtlmliefkhidpnaaGreatDoorTxR5
import Derived.Test.YtlmliefkhidpnaaGreatDoorTxR1
import Derived.Deep.RegionHeld3
import Derived.Deep.CutRange
import Derived.Laws.IdiomStrings
namespace Go.Proofs.YtlmliefkhidpnaaGreatDoor
open Go.ChangeShapes Go.WideShapes Go.ChangeAt Go.RowKit
set_option linter.unusedVariables false
set_option linter.unusedSimpArgs false
theorem told_ok {r r2 : RdT} {n : Nat} (h : r2.bare = r.bare) (hc : chkE r.bare = 0) : toldV r2 n = (r.bare, (n : Int), 0) := by
  unfold toldV
  rw [h, if_pos hc]
theorem parse_print {r : RdT} (h : r.good) (hl : (printT r).length ≤ 2000) (hc : chkE r.bare = 0) : parseV (printT r) = (r.bare, ((linesOf r).length : Int), 0) := by
  obtain ⟨r2, h1, h2⟩ := read_print h
  rw [parseV_ok hl h1, told_ok h2 hc]
  have hp := linesOf_plain h
  rw [print_lines, lines_ended (fun l hl c hc => (hp l hl c hc).1)]
theorem PartT.m_t (p : PartT) : p.m.t = p := rfl
theorem TaskT.bare_rd (t : TaskT) : t.bare.rd = t := by
  obtain ⟨n, a, b, c, d, ps⟩ := t
  unfold TaskT.bare TaskR.rd
  simp only [bl_mk, List.map_map, TaskT.mk.injEq, true_and]
  rw [show (PartM.t ∘ PartT.m) = id from rfl, List.map_id]
theorem printT_bare (r : RdT) : printT r.bare.rd = printT r := by
  have h : r.tasks.map (TaskR.rd ∘ TaskT.bare) = r.tasks := by
    rw [show (TaskR.rd ∘ TaskT.bare) = id from funext TaskT.bare_rd, List.map_id]
  unfold printT SetR.rd RdT.bare
  dsimp only
  rw [List.map_map, h]
theorem printV_rd {r : RdT} (hc : chkE r.bare = 0) : printV r.bare = printT r := by
  have h : okS r.bare = true := by unfold okS; rw [hc]; rfl
  unfold printV
  rw [if_pos h, printT_bare]
theorem okS_chk {s : SetR} (h : okS s = true) : chkE s = 0 := by unfold okS at h; simpa using h
/-- the set of a data that may be -/
theorem good_of {s : SetR} (h : okS s = true) : s.rd.good := by
  have g := Good.of h
  have hi := (okS_iff s).1 h
  refine ⟨by have := g.proto; show s.proto = 1 ∨ s.proto = 2 ∨ s.proto = 3; omega, ⟨fun e => ?_, fun n hn => ?_⟩, fun n hn => ?_, fun t ht => ?_⟩
  · have := g.ncores.1
    have e2 : s.cores = [] := e
    rw [e2] at this; simp at this
  · have := g.cores n hn; omega
  · have := g.homes n hn; have := g.ncores.2; omega
  · obtain ⟨u, hu, rfl⟩ := List.mem_map.1 ht
    have hf := g.form u hu
    have hp := g.place u hu
    unfold formB at hf
    simp only [Bool.and_eq_true] at hf
    obtain ⟨f1, f2, f3, f4⟩ := hf
    have f2 := inB_true.1 f2
    have f3 := inB_true.1 f3
    have f4 := inB_true.1 f4
    have hnc := g.ncores.2
    have hname : bl u.name ≠ [] ∧ ∀ c ∈ bl u.name, c ≠ 32 ∧ c ≠ 35 ∧ c ≠ 10 ∧ c ≠ 58 := by
      unfold nameB at f1
      rw [Bool.and_eq_true, List.all_eq_true] at f1
      obtain ⟨n1, n2⟩ := f1
      have n1 := of_decide_eq_true n1
      refine ⟨fun e => ?_, fun c hc => ?_⟩
      · have := congrArg List.length e
        rw [bl_len] at this; have h0 : ([] : Bts).length = 0 := rfl; omega
      · obtain ⟨i, hi, e⟩ := List.mem_iff_getElem.1 hc
        rw [bl_len] at hi
        have := n2 i (List.mem_range.2 hi)
        rw [byteAt_bl] at this
        simp only [List.getD, List.getElem?_eq_getElem (show i < (bl u.name).length by rw [bl_len]; exact hi), Option.getD_some, e] at this
        unfold okB at this
        refine ⟨?_, ?_, ?_, ?_⟩ <;> (rintro rfl; revert this; simp)
    refine ⟨hname, fun n hn => ?_, fun p hp => ?_⟩
    · simp only [TaskR.rd, List.mem_cons, List.not_mem_nil, or_false] at hn
      rcases hn with e | e | e | e <;> (rw [e]; constructor <;> omega)
    · obtain ⟨q, hq, rfl⟩ := List.mem_map.1 hp
      have hg := (g.parts u hu).good q hq
      obtain ⟨k, hk, rfl⟩ := mem_getD hu
      have hpb := (taskE_ok (hi.2 k hk)).2.2.2
      unfold partsB at hpb
      rw [Bool.and_eq_true, List.all_eq_true] at hpb
      have hqb := hpb.2 q hq
      have hh := g.nhomes
      unfold partB at hqb
      obtain ⟨k0, l0, l1, r0⟩ := hg
      refine ⟨?_, ⟨by show (0 : Int) ≤ q.len; omega, by show q.len ≤ (9999999 : Int); omega⟩, ?_⟩
      · show q.kind = 1 ∧ q.res = 0 ∨ q.kind = 2 ∧ q.res = 0 ∨ q.kind = 3
        rcases k0 with e | e | e
        · rw [e, if_neg (by decide), if_pos (.inl rfl), Bool.and_eq_true] at hqb
          have := inB_true.1 hqb.2
          left; exact ⟨e, by omega⟩
        · rw [e, if_neg (by decide), if_pos (.inr rfl), Bool.and_eq_true] at hqb
          have := inB_true.1 hqb.2
          right; left; exact ⟨e, by omega⟩
        · right; right; exact e
      · show (0 : Int) ≤ q.res ∧ q.res ≤ 9999999
        rcases k0 with e | e | e
        · rw [e, if_neg (by decide), if_pos (.inl rfl), Bool.and_eq_true] at hqb
          have := inB_true.1 hqb.2
          omega
        · rw [e, if_neg (by decide), if_pos (.inr rfl), Bool.and_eq_true] at hqb
          have := inB_true.1 hqb.2
          omega
        · have := r0 e; omega
theorem rd_bare (s : SetR) : s.rd.bare = s.bare := by
  unfold SetR.rd RdT.bare SetR.bare
  dsimp only
  rw [List.map_map]
  congr 1
  refine List.map_congr_left (fun t _ => ?_)
  show (TaskR.rd t).bare = t.bare
  unfold TaskR.rd TaskT.bare TaskR.bare
  dsimp only
  rw [mk_bl, List.map_map, show (PartT.m ∘ PartM.t) = id from rfl, List.map_id]
end Go.Proofs.YtlmliefkhidpnaaGreatDoor

namespace Go.Proofs.YtlmliefkhidpnaaGreatDoor
open Go.ChangeShapes Go.WideShapes Go.ChangeAt Go.RowKit
set_option linter.unusedVariables false
set_option linter.unusedSimpArgs false
theorem joinT_flat (c : UInt8) (h : Bts) (l : List Bts) : joinT c (h :: l) = h ++ l.flatMap (fun x => c :: x) := by
  induction l generalizing h with
  | nil => simp [joinT]
  | cons a t ih =>
    show h ++ c :: joinT c (a :: t) = _
    rw [ih a]; simp
theorem taskW_flat (t : TaskT) : taskW t = [116, 97, 115, 107, 32] ++ t.name ++ 32 :: textL t.per ++ 32 :: textL t.dl ++ 32 :: textL t.prio ++ 32 :: textL t.cl ++ t.parts.flatMap (fun p => 32 :: partW p) := by
  unfold taskW numsW
  rw [joinT_flat, joinT_flat]
  simp [List.flatMap_map]
theorem flat_take {α : Type} (f : α → Bts) {l : List α} {k : Nat} (h : k < l.length) : (l.take (k + 1)).flatMap f = (l.take k).flatMap f ++ f l[k] := by
  rw [List.take_succ_eq_append_getElem h, List.flatMap_append]; simp
theorem taskE_cases (s : SetR) (k : Nat) : taskE s k = 0 ∨ taskE s k = 10 ∨ taskE s k = 16 ∨ taskE s k = 17 ∨ taskE s k = 15 := by
  unfold taskE
  split
  · simp
  · split
    · simp
    · split
      · simp
      · split <;> simp
theorem frameV_cases {s : SetR} (h : inB s.proto 1 3 = true) : frameV s = 0 ∨ frameV s = 16 ∨ frameV s = 11 ∨ frameV s = 14 := by
  unfold frameV
  rw [if_neg (by rw [h]; decide)]
  split
  · simp
  · split
    · simp
    · split
      · simp
      · split
        · simp
        · split
          · simp
          · split <;> simp
theorem getD_nat (l : List Nat) (i : Nat) : (l.map (fun (k : Nat) => (k : Int))).getD i 0 = ((l.getD i 0 : Nat) : Int) := by
  by_cases h : i < l.length
  · simp [List.getD, h]
  · simp [List.getD, show l.length ≤ i by omega]
theorem told_r {r : RdT} {s : SetR} {n : Nat} (hs : s.bare = r.bare) (hp : inB s.proto 1 3 = true) :
    ((rtoldV s (r.tasksAt.map (fun (k : Nat) => (k : Int))) r.coresAt n).1.bare, (rtoldV s (r.tasksAt.map (fun (k : Nat) => (k : Int))) r.coresAt n).2) = toldV r n := by
  have h1 : chkAt r.bare = chkAt s := by rw [← hs]; exact (chk_bare s).1
  have h2 : chkE r.bare = chkE s := by rw [← hs]; exact (chk_bare s).2
  unfold rtoldV toldV
  rw [h1, h2, getD_nat]
  by_cases e : chkE s = 0
  · rw [if_pos e, if_pos e, hs]
  · rw [if_neg e, if_neg e]
    by_cases f : frameV s = 0
    · have ha : chkAt s = badAt s := by unfold chkAt; rw [if_neg (by simp [f])]
      have hb : badAt s ≠ -1 := fun hb => e (by unfold chkE; rw [if_neg (by simp [f]), if_pos hb])
      have hge : (-1 : Int) ≤ badAt s := firstT_bd _
      have hE : chkE s = taskE s (badAt s).toNat := by unfold chkE; rw [if_neg (by simp [f]), if_neg hb]
      have hc := taskE_cases s (badAt s).toNat
      rw [← hE] at hc
      rw [if_pos (by rw [ha]; omega), if_neg (by omega), if_neg (by rw [ha]; omega)]
      rfl
    · have ha : chkAt s = -1 := by unfold chkAt; rw [if_pos f]
      have hE : chkE s = frameV s := by unfold chkE; rw [if_pos f]
      have hc := frameV_cases hp
      rw [if_neg (by rw [ha]; decide)]
      by_cases g : chkE s = 16
      · rw [if_pos g, if_neg (by omega), if_pos (by rw [ha]; decide)]; rfl
      · rw [if_neg g, if_pos (by omega)]; rfl
end Go.Proofs.YtlmliefkhidpnaaGreatDoor

namespace Go.Proofs.YtlmliefkhidpnaaGreatDoor
open Go.ChangeShapes Go.WideShapes Go.ChangeAt Go.RowKit
set_option linter.unusedVariables false
set_option linter.unusedSimpArgs false
theorem ahead_take (T : Bts) : ∀ k : Nat, k ≤ T.length → (∀ j (h : j < T.length), j < k → T[j] ≠ 35) → (∀ h : k < T.length, T[k] = 35) → T.take k = ahead35 T := by
  induction T with
  | nil => intro k _ _ _; simp [ahead35]
  | cons x r ih =>
    intro k hk h1 h2
    cases k with
    | zero =>
      have := h2 (by simp)
      simp at this
      rw [List.take_zero, ahead35, if_pos this]
    | succ k =>
      have h0 := h1 0 (by simp) (by omega)
      simp at h0
      rw [List.take_succ_cons, ahead35, if_neg h0]
      congr 1
      refine ih k (by simpa using hk) (fun j hj hjk => ?_) (fun h => ?_)
      · have := h1 (j + 1) (by simpa using hj) (by omega)
        simpa using this
      · have := h2 (by simpa using h)
        simpa using this
def keepB (x : Bts) : Bool := !decide (x = [])
theorem pl_words2 (l : Bts) : (pl 32 [] l).filter keepB = wl [] l := pl_words l []
theorem toList_ne {x : ByteArray} : (x.toList != []) = keepB (bl x) := by
  unfold keepB
  rw [← toList_nil]; rfl
theorem isEmpty_bl (x : ByteArray) : x.toList.isEmpty = (bl x).isEmpty := by
  have : x.toList = bl x := by simp [bl, ByteArray.toList_eq]
  rw [this]
set_option maxHeartbeats 4000000 in
theorem rwords_any (s : ByteArray) (w : World) (hs : s.size ≤ 100000) : Calls Tryz.prog 18 #[.string s] w fun e w' => ∃ ls, ls.map bl = wordsL (bl s) ∧ StrsPost w ls e w' := by
  obtain ⟨i0, hi0, hy0, hy1, hy2⟩ := info_parts infoStr
  have hb0 := Below.refl w.heap.size w
  go_enter Tryz.func18, Tryz.ntmps18
  go_wp2
  go_loopg [3] s.size (fun g i wr => ∃ k : Nat, k + g = s.size ∧ i = .int .i64 k ∧ Hid (∀ j (h : j < (bl s).length), j < k → (bl s)[j] ≠ 35) ∧ w = wr)
  case atStart => exact ⟨0, by omega, rfl, hidp (fun j _ h => absurd h (by omega)), rfl⟩
  case round =>
    obtain ⟨k, hk, rfl, HI, rfl⟩ := hrel
    by_cases hin : k < s.size ∧ ∀ h : k < (bl s).length, (bl s)[k] ≠ 35
    · obtain ⟨hk2, hne⟩ := hin
      have kI3 : decide ((k : Int) < (s.size : Int)) = true := by simp; omega
      obtain ⟨ch, hch⟩ : ∃ c : Int, (s[k].toNat : Int) = c := ⟨_, rfl⟩
      have h35 : ¬ ch = 35 := fun e => hne (by rw [bl_len]; exact hk2) (by
        have h2 : (bl s)[k]'(by rw [bl_len]; exact hk2) = s[k] := rfl
        rw [h2]; exact UInt8.toNat_inj.1 (by show s[k].toNat = 35; omega))
      have g1 : (ch != 35) = true := by simpa using h35
      have HN : Hid (∀ j (h : j < (bl s).length), j < k + 1 → (bl s)[j] ≠ 35) := hidp (fun j h hj => by
        by_cases e : j = k
        · subst e; exact hne h
        · exact HI.out j h (by omega))
      clear h35 hne
      go_wp2
      go_roundg (gk - 1)
      case measure => omega
      case rel => exact ⟨k + 1, by omega, by go_num, HN, rfl⟩
    · have hkl : k ≤ s.size := by omega
      have HT := hidp (ahead_take (bl s) k (by rw [bl_len]; omega) HI.out (fun h => by
        apply Classical.byContradiction
        intro hne
        exact hin ⟨by rw [bl_len] at h; exact h, fun _ => hne⟩))
      have kI2 : (k : Int) ≤ (s.size : Int) := by omega
      have main : ∀ t : ByteArray, s.extract 0 k = t → bl t = ahead35 (bl s) := fun t e => by rw [← e, bl_extract, HT.out]; simp
      have hszt : (s.extract 0 k).size ≤ 100000 := by rw [ByteArray.size_extract]; omega
      have HM := hidp main
      have HZ := hidp hszt
      obtain ⟨t, ht⟩ : ∃ t, s.extract 0 k = t := ⟨_, rfl⟩
      have HMt := hidp (main t ht)
      rw [ht] at hszt
      have cond : (¬ k < s.size) ∨ (decide ((k : Int) < (s.size : Int)) = true ∧ ∃ hk2 : k < s.size, ((s[k].toNat : Int) != 35) = false) := by
        by_cases hk2 : k < s.size
        · right
          refine ⟨by simp; omega, hk2, ?_⟩
          have h35 : (bl s)[k]'(by rw [bl_len]; exact hk2) = 35 := by
            apply Classical.byContradiction
            intro hne
            exact hin ⟨hk2, fun _ => hne⟩
          have h2 : (bl s)[k]'(by rw [bl_len]; exact hk2) = s[k] := rfl
          rw [h2] at h35
          rw [h35]; decide
        · left; exact hk2
      have C0 := cut_any t 32 w hszt
      rw [show (((32 : UInt8).toNat : Nat) : Int) = 32 from rfl] at C0
      have C := hidp C0
      clear C0
      clear hin main HI HT
      rcases cond with c1 | ⟨c1, hk2, c2⟩
      all_goals
        go_wp2_with fail
        with_reducible refine C.out.mono ?_
        rintro e w2 ⟨ls, h1, hlen, A, c, rfl, ho, hb⟩
        have H1 := hidp h1
        have HLn : Hid (ls.length ≤ 100000) := hidp (Nat.le_trans hlen hszt)
        have HO := hidp ho.at_
        have HB := hidp hb
        obtain ⟨n, hn⟩ : ∃ n, ls.length = n := ⟨_, rfl⟩
        have Hn := hidp hn
        have hn5 : n ≤ 100000 := hn ▸ HLn.out
        rw [hn]
        clear h1 hlen ho hb hn c1
        have o0 : OwnS w2.heap.size w2 none 0 0 [] := OwnS.none_ _ _
        have hb2 := Below.refl w2.heap.size w2
        go_wp2
        go_loopg [5, 6] n (fun g ws i wr => ∃ (j m cc : Nat) (B : Option Addr) (os : List ByteArray), j + g = n ∧ i = .int .i64 j ∧ ws = .slice B m cc ∧ m ≤ j ∧ OwnS w2.heap.size wr B m cc os ∧ Hid (os.map bl = ((ls.take j).map bl).filter keepB) ∧ Below w2.heap.size w2 wr)
        case atStart => exact ⟨0, 0, 0, none, [], by omega, rfl, rfl, Nat.le_refl _, o0, hidp rfl, hb2⟩
        case round =>
          clear o0 hb2
          obtain ⟨j, m, cc, B, os, hj, rfl, rfl, hmj, ho, HS, hbr⟩ := hrel
          by_cases hjn : j < n
          · have jI : (j : Int) < (n : Int) := by omega
            have hjl : j < ls.length := by rw [Hn.out]; exact hjn
            obtain ⟨g5, off5, hA5, hcl⟩ := HO.out.resolve_left (by intro e; subst e; simp at hjl)
            subst hA5
            obtain ⟨x, Hx⟩ : ∃ x, Hid (ls.getD j ByteArray.empty = x) := ⟨_, hidp rfl⟩
            have hc0 := hcl j hjl
            rw [Hx.out] at hc0
            have cx : wr.cell? ⟨g5, off5 + j, none⟩ = some (.string x) := by rw [hbr.cell (cell_lt hc0)]; exact hc0
            have Hst : Hid ((ls.take (j + 1)).map bl = (ls.take j).map bl ++ [bl x]) := hidp (by
              rw [List.take_succ_eq_append_getElem hjl, List.map_append, ← Hx.out]; simp [List.getD, hjl])
            clear hcl hc0
            by_cases he : bl x = []
            · have f1 : x.toList.isEmpty = true := by rw [isEmpty_bl, he]; rfl
              have HN : Hid (os.map bl = ((ls.take (j + 1)).map bl).filter keepB) := hidp (by rw [HS.out, Hst.out, List.filter_append]; simp [keepB, he])
              clear he
              go_wp2
              go_roundg (gk - 1)
              case measure => omega
              case rel => exact ⟨j + 1, m, cc, B, os, by omega, by go_num, rfl, by omega, ho, HN, hbr⟩
            · have f1 : x.toList.isEmpty = false := by rw [isEmpty_bl]; cases h9 : bl x with | nil => exact absurd h9 he | cons a b => rfl
              have HN : Hid ((os ++ [x]).map bl = ((ls.take (j + 1)).map bl).filter keepB) := hidp (by rw [List.map_append, HS.out, Hst.out, List.filter_append]; simp [keepB, he])
              have TL : Turned [] wr (wr.alloc (.cells #[.string x] 9)) := (Turned.refl [] wr).alloc _
              have own4 := own_turned ho.own TL (by simp)
              have S2 := hidp (new_liesW wr [.string x] 9)
              have N2 : Hid (m + 1 ≤ maxLen) := hidp (by unfold maxLen; omega)
              have T2 : Hid ((m + 1) * 16 ≤ 140737488355328) := hidp (by omega)
              have W1 := hbr.alloc hbr.size (.cells #[.string x] 9)
              have Z2 : Hid (w2.heap.size ≤ (wr.alloc (.cells #[.string x] 9)).heap.size) := hidp W1.size
              have O2 := hidp (str_one [x])
              have Hfp := hidp (own_fp own4)
              have hW := hidp W1
              have HO9 := hidp (ho.turned TL (by simp))
              have Hmj := hidp hmj
              clear ho hbr W1 TL he
              go_wp2_with (at_builtin; refine wpList_app2 _ rfl (.tmp 34) (.tmp 39) 38 rfl w2.heap.size 9 i0 _ 1 16 Tryz.underlying38 hi0 hy0 hy1 hy2 rfl (by decide) B m cc _ rfl own4 _ _ 1 1 [.string x] rfl (by simp) rfl S2.out O2.out N2.out T2.out Z2.out ?_; intro A9 c9 w6 happ)
              go_roundg (gk - 1)
              case measure => omega
              case rel => exact ⟨j + 1, m + 1, c9, A9, os ++ [x], by omega, by go_num, rfl, by omega, HO9.out.app happ, HN, hW.out.trans (happ.turned.below hW.out.size (fun i hi => (Hfp.out i hi).1))⟩
          · have jI : ¬ (j : Int) < (n : Int) := by omega
            have HN : Hid (os.map bl = wordsL (bl s)) := hidp (by
              rw [HS.out, List.take_of_length_le (by rw [Hn.out]; omega), H1.out, HMt.out]
              exact pl_words2 _)
            have hln := ho.len
            go_wp2
            go_ret
            subst hln
            exact ⟨os, HN.out, B, cc, rfl, ho.low HB.out.size, HB.out.trans (hbr.mono HB.out.size)⟩
end Go.Proofs.YtlmliefkhidpnaaGreatDoor

namespace Go.Proofs.YtlmliefkhidpnaaGreatDoor
open Go.ChangeShapes Go.WideShapes Go.ChangeAt Go.RowKit
set_option linter.unusedVariables false
set_option linter.unusedSimpArgs false
/-- the set that is being read, in a box of its own, and the row of its tasks' lines -/
structure Rbx (B : Nat) (w : World) (g : Nat) (s : SetR) (A : Option Addr) (c : Nat) (zs : List Int) : Prop where
  bk : Bk w g 25 #[.int .i64 s.proto, .slice s.ca s.cores.length s.cc, .slice s.ha s.homes.length s.hc, .slice s.ta s.tasks.length s.tc]
  rows : Rws B w g s A c zs
section
variable {B : Nat} {w w' : World} {g : Nat} {s : SetR} {A : Option Addr} {c : Nat} {zs : List Int}
theorem Rbx.over (h : Rbx B w g s A c zs) (hb : Below w.heap.size w w') : Rbx B w' g s A c zs := ⟨h.bk.below hb, h.rows.over hb⟩
theorem Rbx.setProto (h : Rbx B w g s A c zs) {p : Int} (hp : I64 p) : Rbx B (w.setCell ⟨g, 0, none⟩ (.int .i64 p)) g { s with proto := p } A c zs := ⟨by have := h.bk.put 0 (.int .i64 p); simpa using this, (rd_put h.rows 0 _).setProto hp⟩
theorem Rbx.setCores (h : Rbx B w g s A c zs) {C : Option Addr} {cc : Nat} {cs : List Int} (hi : IntsOk w C cc cs) (hC : ∀ k ∈ fp C, (B ≤ k ∧ k < w.heap.size) ∧ k ≠ g ∧ k ∉ fp s.ta ∧ k ∉ fp A) : Rbx B (w.setCell ⟨g, 1, none⟩ (.slice C cs.length cc)) g { s with ca := C, cc := cc, cores := cs } A c zs :=
  ⟨by have := h.bk.put 1 (.slice C cs.length cc); simpa using this, rd_put (h.rows.setCores hi hC) 1 _⟩
theorem Rbx.setHomes (h : Rbx B w g s A c zs) {C : Option Addr} {cc : Nat} {cs : List Int} (hi : IntsOk w C cc cs) (hC : ∀ k ∈ fp C, (B ≤ k ∧ k < w.heap.size) ∧ k ≠ g ∧ k ∉ fp s.ta ∧ k ∉ fp A) : Rbx B (w.setCell ⟨g, 2, none⟩ (.slice C cs.length cc)) g { s with ha := C, hc := cc, homes := cs } A c zs :=
  ⟨by have := h.bk.put 2 (.slice C cs.length cc); simpa using this, rd_put (h.rows.setHomes hi hC) 2 _⟩
/-- behind the first append: a task -/
theorem Rbx.mid {w2 w6 : World} {t : TaskR} {A' : Option Addr} {c' : Nat} (h : Rbx B w g s A c zs) (ht : TaskOk w t) (hp : ∀ k ∈ fp t.pa, (B ≤ k ∧ k < w.heap.size) ∧ k ≠ g ∧ k ∉ fp s.ta ∧ k ∉ fp A)
    (hb2 : Below w.heap.size w w2) (h6 : App B 44 6 w2 s.ta A' (s.tasks.length + 1) c' (ttc s.tasks ++ ttc [t]) w6) (o : Obj) :
    Bk (w6.alloc o) g 25 #[.int .i64 s.proto, .slice s.ca s.cores.length s.cc, .slice s.ha s.homes.length s.hc, .slice s.ta s.tasks.length s.tc] ∧ Rws B (w6.alloc o) g { s with ta := A', tc := c', tasks := s.tasks ++ [t] } A c zs ∧ Below B w (w6.alloc o) := by
  have h2 := h.over hb2
  have t2 := ht.keep (Keeps.of_below hb2)
  have R6 := h2.rows.addTask t2 (fun k hk => ⟨⟨(hp k hk).1.1, Nat.lt_of_lt_of_le (hp k hk).1.2 hb2.size⟩, (hp k hk).2⟩) h6
  have B6 := h2.bk.turned h6.turned (fun hm => (h2.rows.dT g hm).1 rfl)
  have ha : Below w6.heap.size w6 (w6.alloc o) := (Below.refl _ w6).alloc (Nat.le_refl _) o
  have hB := h.rows.gB
  have hb3 := hb2.mono (Nat.le_of_lt (Nat.lt_of_le_of_lt hB.1 hB.2))
  have hB2 : B ≤ w2.heap.size := Nat.le_trans (Nat.le_of_lt (Nat.lt_of_le_of_lt hB.1 hB.2)) hb2.size
  have hb6 := hb3.trans (h6.turned.below hB2 (fun k hk => (own_fp h2.rows.tasks.own k hk).1))
  exact ⟨B6.below ha, R6.over ha, hb6.alloc (Nat.le_trans hB2 h6.turned.size) o⟩
/-- behind the second one: its line -/
theorem rbx_end {s' : SetR} {w0 w5 w7 : World} {A'' : Option Addr} {c'' : Nat} {x : Int} (h : Bk w5 g 25 #[.int .i64 s.proto, .slice s.ca s.cores.length s.cc, .slice s.ha s.homes.length s.hc, .slice s.ta s.tasks.length s.tc] ∧ Rws B w5 g s' A c zs ∧ Below B w0 w5)
    (h7 : App B 3 1 w5 A A'' (zs.length + 1) c'' (zs.map (Value.int .i64) ++ [.int .i64 x]) w7) :
    Bk w7 g 25 #[.int .i64 s.proto, .slice s.ca s.cores.length s.cc, .slice s.ha s.homes.length s.hc, .slice s.ta s.tasks.length s.tc] ∧ Rws B w7 g s' A'' c'' (zs ++ [x]) ∧ Below B w0 w7 :=
  ⟨h.1.turned h7.turned (fun hm => (h.2.1.dA g hm).1 rfl), h.2.1.addAt h7, h.2.2.trans (h7.turned.below (Nat.le_of_lt (Nat.lt_of_le_of_lt h.2.1.gB.1 h.2.1.gB.2)) (fun k hk => (own_fp h.2.1.ats.own k hk).1))⟩
theorem rbx_put {w7 : World} {A' A'' : Option Addr} {c' c'' : Nat} {t : TaskR} {ys : List Int} (h : Bk w7 g 25 #[.int .i64 s.proto, .slice s.ca s.cores.length s.cc, .slice s.ha s.homes.length s.hc, .slice s.ta s.tasks.length s.tc])
    (hr : Rws B w7 g { s with ta := A', tc := c', tasks := s.tasks ++ [t] } A'' c'' ys) : Rbx B (w7.setCell ⟨g, 3, none⟩ (.slice A' (s.tasks.length + 1) c')) g { s with ta := A', tc := c', tasks := s.tasks ++ [t] } A'' c'' ys := by
  refine ⟨?_, rd_put hr 3 _⟩
  have := h.put 3 (.slice A' (s.tasks.length + 1) c')
  simpa using this
theorem Rbx.low (h : Rbx B w g s A c zs) : ∀ k ∈ s.blocks, B ≤ k := fun k hk => by
  rcases List.mem_append.1 hk with h3 | h3
  · exact (own_fp h.rows.tasks.own k h3).1
  · exact (h.rows.fixd k h3).1.1
end
theorem rbx_zero (w : World) : Rbx w.heap.size (w.alloc (.cells #[.int .i64 0, .slice none 0 0, .slice none 0 0, .slice none 0 0] 25)) w.heap.size noSet none 0 [] := by
  refine ⟨Bk.new w _ _, ⟨⟨Nat.le_refl _, by simp⟩, by unfold I64 noSet; decide, ⟨⟨fun _ => ⟨rfl, rfl⟩, Nat.le_refl _, by decide⟩, .inl rfl, by simp [noSet]⟩, ⟨⟨fun _ => ⟨rfl, rfl⟩, Nat.le_refl _, by decide⟩, .inl rfl, by simp [noSet]⟩, OwnT.none _ _, by simp [noSet], OwnN.nil_ _ _, by simp [SetR.fix, noSet, fp], by simp [noSet, fp], by simp [fp]⟩⟩
/-! a line, by what the reference looks at -/
theorem protoT_bd {l : List Bts} {p : Int} (h : protoT l = some p) : 1 ≤ p ∧ p ≤ 3 := by
  unfold protoT at h
  split at h
  · split at h
    · injection h with h; omega
    · split at h
      · injection h with h; omega
      · split at h
        · injection h with h; omega
        · cases h
  · cases h
theorem rproto_pos {x : Bts} {R : List Bts} {p : Int} (hp : rprotoV (x :: R) = p) (h0 : 0 < p) : x = [112, 114, 111, 116, 111, 99, 111, 108] ∧ protoT R = some p ∧ 1 ≤ p ∧ p ≤ 3 := by
  unfold rprotoV at hp
  dsimp only at hp
  by_cases hx : x = [112, 114, 111, 116, 111, 99, 111, 108]
  · rw [if_pos hx] at hp
    cases e : protoT R with
    | none => rw [e] at hp; simp at hp; omega
    | some q => rw [e] at hp; simp at hp; subst hp; exact ⟨hx, rfl, protoT_bd e⟩
  · rw [if_neg hx] at hp; omega
theorem rproto_bd (x : Bts) (R : List Bts) : 0 ≤ rprotoV (x :: R) ∧ rprotoV (x :: R) ≤ 3 := by
  by_cases h : 0 < rprotoV (x :: R)
  · have := (rproto_pos rfl h).2.2; omega
  · refine ⟨?_, by omega⟩
    unfold rprotoV
    dsimp only
    split
    · cases e : protoT R with
      | none => simp
      | some q => have := protoT_bd e; simp; omega
    · omega
theorem pl_proto {r : RdT} {k : Nat} {x : Bts} {R : List Bts} {p : Int} (hw : r.want = 0) (hp : rprotoV (x :: R) = p) (h0 : 0 < p) : lineT r k (x :: R) = .ok { r with want := 1, proto := p } := by
  obtain ⟨rfl, h2, _⟩ := rproto_pos hp h0
  rw [lineT_proto r k R hw]
  unfold protoOf
  rw [h2]
  rfl
theorem pl_noproto {r : RdT} {k : Nat} {x : Bts} {R : List Bts} (hw : r.want = 0) (h0 : ¬ 0 < rprotoV (x :: R)) : lineT r k (x :: R) = .error 10 := by
  by_cases hx : x = [112, 114, 111, 116, 111, 99, 111, 108]
  · subst hx
    rw [lineT_proto r k R hw]
    unfold protoOf
    cases e : protoT R with
    | none => rfl
    | some q =>
      have := protoT_bd e
      unfold rprotoV at h0
      simp [e] at h0
      omega
  · exact lineT_no r k x R (fun h => hx h.1) (fun h => by omega) (fun h => by omega) (fun h => by omega)
theorem some_of {R : List Bts} {ok : Bool} {zs : List Int} (h : if ok = true then numsT R = some zs else numsT R = none ∧ zs = []) : someT R = if (ok && decide (0 < zs.length)) = true then some zs else none := by
  unfold someT
  cases ok with
  | true =>
    rw [if_pos rfl] at h
    rw [h]
    cases zs with
    | nil => rfl
    | cons a t => simp
  | false =>
    rw [if_neg (by decide)] at h
    rw [h.1]
    rfl
theorem pl_cores {r : RdT} {k : Nat} {R : List Bts} {zs : List Int} (hw : r.want = 1) (h : if true = true then numsT R = some zs else numsT R = none ∧ zs = []) (hz : 0 < zs.length) : lineT r k ([99, 111, 114, 101, 115] :: R) = .ok { r with want := 2, coresAt := k, cores := zs } := by
  rw [lineT_cores r k R zs true hw (by rw [some_of h]; simp [hz])]
  rfl
theorem pl_homes {r : RdT} {k : Nat} {R : List Bts} {zs : List Int} (hw : r.want = 2) (h : if true = true then numsT R = some zs else numsT R = none ∧ zs = []) (hz : 0 < zs.length) : lineT r k ([104, 111, 109, 101, 115] :: R) = .ok { r with want := 3, homes := zs } := by
  rw [lineT_homes r k R zs true hw (by rw [some_of h]; simp [hz])]
  rfl
theorem pl_nocores {r : RdT} {k : Nat} {x : Bts} {R : List Bts} {zs : List Int} {ok : Bool} (hw : r.want = 1) (h : if ok = true then numsT R = some zs else numsT R = none ∧ zs = []) (hn : x ≠ [99, 111, 114, 101, 115] ∨ ok = false ∨ zs.length = 0) : lineT r k (x :: R) = .error 10 := by
  by_cases hx : x = [99, 111, 114, 101, 115]
  · subst hx
    rw [lineT_cores r k R zs false hw (by
      rw [some_of h, if_neg, if_neg (by decide)]
      rcases hn with hn | hn | hn
      · exact absurd rfl hn
      · simp [hn]
      · simp [hn])]
    rfl
  · exact lineT_no r k x R (fun h => by omega) (fun h => hx h.1) (fun h => by omega) (fun h => by omega)
theorem pl_nohomes {r : RdT} {k : Nat} {x : Bts} {R : List Bts} {zs : List Int} {ok : Bool} (hw : r.want = 2) (ht : x ≠ [116, 97, 115, 107]) (h : if ok = true then numsT R = some zs else numsT R = none ∧ zs = []) (hn : x ≠ [104, 111, 109, 101, 115] ∨ ok = false ∨ zs.length = 0) : lineT r k (x :: R) = .error 10 := by
  by_cases hx : x = [104, 111, 109, 101, 115]
  · subst hx
    rw [lineT_homes r k R zs false hw (by
      rw [some_of h, if_neg, if_neg (by decide)]
      rcases hn with hn | hn | hn
      · exact absurd rfl hn
      · simp [hn]
      · simp [hn])]
    rfl
  · exact lineT_no r k x R (fun h => by omega) (fun h => by omega) (fun h => hx h.1) (fun h => ht h.1)
theorem pl_notask {r : RdT} {k : Nat} {x : Bts} {R : List Bts} (hw : 3 ≤ r.want) (ht : x ≠ [116, 97, 115, 107]) : lineT r k (x :: R) = .error 10 :=
  lineT_no r k x R (fun h => by omega) (fun h => by omega) (fun h => by omega) (fun h => ht h.1)
theorem lineT_want {r r' : RdT} {k : Nat} {l : List Bts} (h : lineT r k l = .ok r') (hw : r.want ≤ 3) : r'.want ≤ 3 := by
  unfold lineT at h
  split at h
  · injection h with h; subst h; omega
  · split at h
    · split at h
      · injection h with h; subst h; dsimp only; omega
      · cases h
    · split at h
      · split at h
        · injection h with h; subst h; dsimp only; omega
        · cases h
      · split at h
        · split at h
          · injection h with h; subst h; dsimp only; omega
          · cases h
        · split at h
          · split at h
            · injection h with h; subst h; dsimp only; omega
            · cases h
          · cases h
theorem linesT_end {r : RdT} {k : Nat} {l : List Bts} (h : l.length ≤ k) : linesT r k (l.drop k) = if r.want < 2 then .error (k, 10) else .ok r := by
  rw [List.drop_of_length_le h]; rfl
end Go.Proofs.YtlmliefkhidpnaaGreatDoor

namespace Go.Proofs.YtlmliefkhidpnaaGreatDoor
open Go.ChangeShapes Go.WideShapes Go.ChangeAt Go.RowKit
set_option linter.unusedVariables false
set_option linter.unusedSimpArgs false
theorem rtold_fst (s : SetR) (zs : List Int) (co n : Int) : (rtoldV s zs co n).1 = s ∨ (rtoldV s zs co n).1 = noSet := by
  unfold rtoldV
  split
  · exact .inl rfl
  · split
    · exact .inr rfl
    · split <;> exact .inr rfl
set_option maxHeartbeats 16000000 in
set_option maxRecDepth 100000 in
theorem rparse_any (t : ByteArray) (w : World) (ht : t.size ≤ 100000) : Calls Tryz.prog 8 #[.string t] w (ParsePost w (parseV (bl t))) := by
  have hb0 := (Below.refl w.heap.size w).alloc (Nat.le_refl _) (.cells #[.int .i64 0, .slice none 0 0, .slice none 0 0, .slice none 0 0] 25)
  have B0 := zSC w
  by_cases h1 : 2000 < t.size
  · have f1 : (2000 : Int) < (t.size : Int) := by omega
    have HB := hidp hb0
    have BX := hidp B0
    have HH := hidp h1
    clear hb0 B0 h1
    go_enter Tryz.func8, Tryz.ntmps8
    have HV : Hid (parseV (bl t) = (noSet.bare, 0, 11)) := hidp (by unfold parseV; rw [bl_len, if_pos HH.out]; rfl)
    obtain ⟨z0, z1, z2, z3⟩ := Z4 BX.out
    obtain ⟨y0, y1, y2, y3⟩ := ZF4 BX.out
    go_wp2_with fail
    refine bodyPost_ret (v := .tuple #[.agg #[.int .i64 0, .slice none 0 0, .slice none 0 0, .slice none 0 0], .int .i64 0, .int .i64 11]) (by simp [results, Tryz.results8, go_sem, z0, z1, z2, z3]) rfl (parse_ret (x := noSet) HV.out (noSet_ok _) HB.out)
  have f1 : ¬ (2000 : Int) < (t.size : Int) := by omega
  have CL := hidp (rlines_any t (w.alloc (.cells #[.int .i64 0, .slice none 0 0, .slice none 0 0, .slice none 0 0] 25)) ht)
  have HB0 := hidp hb0
  have HBK := hidp B0
  have HSZ := hidp (show t.size ≤ 2000 by omega)
  have HPV : Hid (parseV (bl t) = match readT (bl t) with | .error p => (noSet, (p.1 : Int), p.2) | .ok r => toldV r (linesL (bl t)).length) := hidp (by unfold parseV; rw [bl_len, if_neg h1]; cases readT (bl t) <;> rfl)
  clear hb0 B0 h1 ht
  go_enter Tryz.func8, Tryz.ntmps8
  go_wp2_with fail
  refine CL.out.mono ?_
  rintro e w1 ⟨ls, h1, h2, L0, k0, rfl, ho, hb1⟩
  have HL := hidp h1
  have HS := hidp ho.at_
  have HB1 := hidp (HB0.out.trans (hb1.mono HB0.out.size))
  have BX1 := hidp (HBK.out.below hb1)
  have HW01 : Hid (w.heap.size < w1.heap.size) := hidp BX1.out.lt
  have HZ : Hid (∀ x ∈ ls, x.size ≤ 3000) := hidp (fun x hx => by
    have h5 : bl x ∈ pl 10 [] (bl t) := by have := h1; unfold linesL at this; rw [← this]; exact List.mem_map.2 ⟨x, hx, rfl⟩
    have h6 := pl_mem 10 (bl t) [] _ h5
    rw [bl_len, bl_len] at h6
    have := HSZ.out
    simp at h6
    omega)
  obtain ⟨N, hN⟩ : ∃ N, ls.length = N := ⟨_, rfl⟩
  have hN2 : N ≤ 2000 := by have := HSZ.out; omega
  have HN := hidp hN
  have HPE : Hid (∀ (k : Nat) (q : Int), linesT rdZ 0 (ls.map bl) = .error (k, q) → parseV (bl t) = (noSet.bare, (k : Int), q)) := hidp (fun k q h => by
    rw [HPV.out]
    have h3 : readT (bl t) = .error (k, q) := by unfold readT; rw [← HL.out]; exact h
    rw [h3]; rfl)
  have HPO : Hid (∀ r, linesT rdZ 0 (ls.map bl) = .ok r → parseV (bl t) = toldV r N) := hidp (fun r h => by
    rw [HPV.out]
    have h3 : readT (bl t) = .ok r := by unfold readT; rw [← HL.out]; exact h
    rw [h3, ← HL.out, List.length_map, HN.out])
  have HE9 : Hid (∀ v, Below w1.heap.size w1 v → Below w.heap.size w v ∧ Bk v w.heap.size 25 #[.int .i64 0, .slice none 0 0, .slice none 0 0, .slice none 0 0]) := hidp (fun v hv => ⟨HB1.out.trans (hv.mono (Nat.le_of_lt HW01.out)), BX1.out.below hv⟩)
  have R0 := rbx_zero w1
  have hb00 : Below w1.heap.size w1 (w1.alloc (.cells #[.int .i64 0, .slice none 0 0, .slice none 0 0, .slice none 0 0] 25)) := (Below.refl _ w1).alloc (Nat.le_refl _) _
  rw [hN]
  clear h1 h2 ho hb1 hN CL HB0 HBK HPV
  go_wp2_with fail
  go_loopg [7, 8, 9, 10] N (fun g st co row i wr => ∃ (k : Nat) (r : RdT) (s : SetR) (A : Option Addr) (c : Nat) (zs : List Int) (want coA : Int), k + g = N ∧ i = .int .i64 k ∧ st = .int .i64 want ∧ co = .int .i64 coA ∧ row = .slice A zs.length c ∧ Hid (Rbx w1.heap.size wr w1.heap.size s A c zs) ∧ Hid (RdEq r s want coA zs) ∧ Hid (linesT rdZ 0 (ls.map bl) = linesT r k ((ls.map bl).drop k)) ∧ Hid (r.tasks.length ≤ k ∧ r.tasksAt.length = r.tasks.length) ∧ Hid (r.want ≤ 3 ∧ (1 ≤ r.want → inB s.proto 1 3 = true)) ∧ Hid (Below w1.heap.size w1 wr))
  case atStart => exact ⟨0, rdZ, noSet, none, 0, [], 0, 0, by omega, rfl, rfl, rfl, rfl, hidp R0, hidp ⟨rfl, rfl, rfl, rfl⟩, hidp rfl, hidp ⟨Nat.le_refl _, rfl⟩, hidp ⟨by decide, fun h => absurd h (by decide)⟩, hidp hb00⟩
  case round =>
    clear R0 hb00
    obtain ⟨k, r, s, A, c, zs, want, coA, hk, rfl, rfl, rfl, rfl, HR, HE, HI, HT, HW, HB⟩ := hrel
    have hTL : Hid (s.tasks.length = r.tasks.length ∧ zs.length = r.tasks.length) := hidp (by
      obtain ⟨h1, _, _, h4⟩ := HE.out
      have h5 := congrArg (fun q => q.tasks.length) h1
      simp only [SetR.bare, RdT.bare, List.length_map] at h5
      exact ⟨h5, by rw [h4, List.length_map]; exact HT.out.2⟩)
    by_cases hin : k < N
    · have hs2 : StrsAt wr L0 ls := HS.out.below HB.out
      obtain ⟨gl, off, rfl, hc⟩ := hs2.resolve_left (by intro e; have := HN.out; rw [e] at this; simp at this; omega)
      have hkl : k < ls.length := by rw [HN.out]; exact hin
      obtain ⟨l0, HX⟩ : ∃ x, Hid (ls.getD k ByteArray.empty = x) := ⟨_, hidp rfl⟩
      have c1 : wr.cell? ⟨gl, off + k, none⟩ = some (.string l0) := HX.out ▸ hc k hkl
      have HD : Hid ((ls.map bl).drop k = bl l0 :: (ls.map bl).drop (k + 1)) := hidp (by
        have h2 : k < (ls.map bl).length := by rw [List.length_map]; exact hkl
        rw [List.drop_eq_getElem_cons h2]
        congr 1
        rw [List.getElem_map, ← HX.out]
        simp [List.getD, hkl])
      have HXm := hidp (strs_mem hkl HX.out)
      have hx := HZ.out l0 HXm.out
      have CW := hidp (rwords_any l0 wr (by omega))
      have bI1 : (0 : Int) ≤ (k : Int) := by omega
      have bI2 : (k : Int) < (N : Int) := by omega
      have wk : IntKind.i64.wrap ((k : Int) + 1) = (k : Int) + 1 := IntWalk.i64_in _ (by omega)
      clear hs2 hc hkl
      go_wp2_with fail
      refine CW.out.mono ?_
      rintro e u ⟨ws, h1, A2, c2, rfl, ho, hbu⟩
      have HRu := hidp (HR.out.over hbu)
      have hgw := HR.out.rows.gB
      have HBu := hidp (HB.out.trans (hbu.mono (by omega)))
      have HWD := hidp h1.symm
      cases ws with
      | nil =>
        have HBl : Hid (linesT r k (bl l0 :: (ls.map bl).drop (k + 1)) = linesT r (k + 1) ((ls.map bl).drop (k + 1))) := hidp (linesT_blank h1.symm)
        clear ho hbu hgw h1 CW
        go_wp2_with fail
        go_roundg (gk - 1)
        case measure => omega
        case rel => exact ⟨k + 1, r, s, A, c, zs, want, coA, by omega, by go_num, rfl, rfl, rfl, HRu, HE, hidp (by rw [HI.out, HD.out, HBl.out]), hidp ⟨by have := HT.out; omega, HT.out.2⟩, HW, HBu⟩
      | cons x rs =>
        have hcap := ho.cap
        have hsz := words_size h1
        have HZW : Hid (∀ y ∈ x :: rs, y.size ≤ 90000) := hidp (fun y hy => by have := hsz y hy; omega)
        have hlw : rs.length ≤ 9000 := by
          have h4 := congrArg List.length h1
          have h5 := wl_len (ahead35 (bl l0)) []
          have h6 := ahead_len (bl l0)
          rw [List.length_map] at h4
          rw [bl_len] at h6
          unfold wordsL at h4
          simp at h4 h5
          omega
        obtain ⟨M, hM⟩ : ∃ M, rs.length = M := ⟨_, rfl⟩
        have HM := hidp hM
        have hlen : (x :: rs).length = M + 1 := by simp [hM]
        rw [hlen] at hcap ⊢
        have S1 : StrsAt u (cutA A2 c2 1) rs := strs_from ho.at_ (by rw [hlen]; exact hcap.1) 1
        have CI := rints_any (cutA A2 c2 1) (c2 - 1) rs u S1 (by omega) (fun y hy => Nat.le_trans (HZW.out y (List.mem_cons_of_mem _ hy)) (by decide))
        rw [hM] at CI hlw
        have HCI := hidp CI
        have e1 : ∀ v : World, (Instr.slice 38 (.slice A2 (M + 1) c2) (some (.int .i64 1)) none none).run Tryz.prog v = .ok (.slice (cutA A2 c2 1) M (c2 - 1)) v := fun v => strs_low A2 (M + 1) c2 1 (by omega) (by omega) v
        obtain ⟨L1, hL1⟩ : ∃ L1, cutA A2 c2 1 = L1 := ⟨_, rfl⟩
        rw [hL1] at HCI e1
        have HCAP := hidp hcap.1
        have HSU := hidp ho.at_
        have hM1 : ¬ ((M : Int) + 1 = 0) := by omega
        have hM2 : (((M + 1 : Nat) : Int) == 0) = false := by rw [beq_eq_false_iff_ne]; omega
        have b1 : (0 : Int) < (M : Int) + 1 := by omega
        have b1n : (0 : Int) < ((M + 1 : Nat) : Int) := by omega
        clear ho hbu h1 CW CI S1 hL1 hsz hlen hcap hM
        go_wp2_with fail
        refine HCI.out.mono ?_
        rintro e u2 ⟨C, cc, cs, ok, rfl, ho3, hb3, hn3, hl3, hv3⟩
        have HR2 := hidp (HRu.out.over hb3)
        have HB2 := hidp (HBu.out.trans (hb3.mono HBu.out.size))
        have HS2 := hidp (HSU.out.below hb3)
        have HFC := hidp (HRu.out.rows.fresh hb3 ho3)
        have HIC := hidp (ho3.ok (fun n hm => i64_small (hn3 n hm)))
        have HV3 := hidp hv3
        have HLC := hidp hl3
        obtain ⟨b, off2, rfl, hcx⟩ := HS2.out.resolve_left (by simp)
        have cx : u2.cell? ⟨b, off2, none⟩ = some (.string x) := hcx 0 (by simp)
        have q1 := toList_lit x [99, 111, 114, 101, 115]
        have q2 := toList_lit x [104, 111, 109, 101, 115]
        have q3 := toList_lit x [116, 97, 115, 107]
        have HX3 := hidp HW.out.1
        clear ho3 hb3 hn3 hl3 hv3 HCI HRu HBu HSU hcx e1
        obtain ⟨j, Hj, hj⟩ : ∃ j, r.want = j ∧ want = (j : Int) := ⟨_, rfl, HE.out.2.1⟩
        have HWJ := hidp Hj
        have hj3 : j ≤ 3 := by have := HX3.out; omega
        clear Hj
        subst hj
        rcases j with _ | _ | _ | _ | j
        · clear q1 q2 q3 cx hj3
          obtain ⟨pv, Hpv⟩ : ∃ v, Hid (rprotoV ((x :: rs).map bl) = v) := ⟨_, hidp rfl⟩
          have CP : Hid (∀ v, Below u2.heap.size u2 v → Calls Tryz.prog 20 #[.slice (some ⟨b, off2, none⟩) (M + 1) c2] v fun e w' => e = .returned (.int .i64 pv) ∧ Qt v w') := hidp (fun v hv => by
            have := rproto_any (some ⟨b, off2, none⟩) c2 x rs v (HS2.out.below hv) (by rw [HM.out]; omega)
            rwa [HM.out, Hpv.out] at this)
          by_cases hp : 0 < pv
          · have HLT := hidp (pl_proto (k := k) HWJ.out Hpv.out hp)
            have HPB := hidp (rproto_pos Hpv.out hp).2.2
            have HCQ := CP.out u2 (Below.refl _ _)
            go_wp2_with fail
            refine HCQ.mono ?_
            rintro e u3 ⟨rfl, hq⟩
            have HQ3 := hidp hq.b
            have HCQ := CP.out u3 HQ3.out
            clear hq
            go_wp2_with fail
            refine HCQ.mono ?_
            rintro e u4 ⟨rfl, hq⟩
            have hb4 := HQ3.out.trans (hq.b.mono HQ3.out.size)
            have HR4 := hidp (HR2.out.over hb4)
            have HB4 := hidp (HB2.out.trans (hb4.mono HB2.out.size))
            obtain ⟨z0, z1, z2, z3⟩ := Z4 HR4.out.bk
            obtain ⟨y0, y1, y2, y3⟩ := ZF4 HR4.out.bk
            clear hq hb4 HCQ CP
            go_wp2_with fail
            go_roundg (gk - 1)
            case measure => omega
            case rel => exact ⟨k + 1, { r with want := 1, proto := pv }, { s with proto := pv }, A, c, zs, 1, coA, by omega, by go_num, rfl, rfl, rfl, hidp (HR4.out.setProto (by have := HPB.out; unfold I64; omega)), hidp (by
              obtain ⟨h1, h2, h3, h4⟩ := HE.out
              refine ⟨?_, rfl, h3, h4⟩
              simp only [SetR.bare, RdT.bare, SetR.mk.injEq] at h1 ⊢
              simp [h1]), hidp (by rw [HI.out, HD.out, linesT_ok (by rw [HWD.out]; exact HLT.out)]), hidp ⟨by have := HT.out.1; show r.tasks.length ≤ k + 1; omega, HT.out.2⟩, hidp ⟨by show 1 ≤ 3; decide, fun _ => inB_true.2 HPB.out⟩, hidp (put_below (i := 0) (v := .int .i64 pv) HB4.out (Nat.le_refl _) (Nat.le_refl _))⟩
          · have HLE : Hid (parseV (bl t) = (noSet.bare, (k : Int), 10)) := hidp (HPE.out k 10 (by rw [HI.out, HD.out, linesT_err (by rw [HWD.out]; exact pl_noproto HWJ.out (by have := Hpv.out; rw [List.map_cons] at this; rw [this]; exact hp))]))
            have HCQ := CP.out u2 (Below.refl _ _)
            go_wp2_with fail
            refine HCQ.mono ?_
            rintro e u3 ⟨rfl, hq⟩
            have HB3 := hidp (HB2.out.trans (hq.b.mono HB2.out.size))
            clear hq CP HCQ
            have BE := HE9.out u3 HB3.out
            have BX := hidp BE.2
            have HBe := hidp BE.1
            have PB := (sp4_bk BX.out : Bk (put4 u3 w.heap.size (.int .i64 0) (.slice none 0 0) (.slice none 0 0) (.slice none 0 0)) w.heap.size 25 #[.int .i64 0, .slice none 0 0, .slice none 0 0, .slice none 0 0])
            have T1 := put4_turned u3 w.heap.size (.int .i64 0) (.slice none 0 0) (.slice none 0 0) (.slice none 0 0)
            have hbe := hidp (HBe.out.trans (T1.below HBe.out.size (by simp)))
            obtain ⟨r0, r1, r2, r3⟩ := Z4 PB
            obtain ⟨z0, z1, z2, z3⟩ := Z4 BX.out
            obtain ⟨y0, y1, y2, y3⟩ := ZF4 BX.out
            clear PB T1 BE
            unfold put4 at *
            go_wp2_with fail
            try rw [Exit.noGoto_ret]
            refine bodyPost_ret (v := .tuple #[.agg #[.int .i64 0, .slice none 0 0, .slice none 0 0, .slice none 0 0], .int .i64 (k : Int), .int .i64 10]) (by simp [results, Tryz.results8, go_sem, r0, r1, r2, r3]) rfl (parse_ret (x := noSet) HLE.out (noSet_ok _) hbe.out)
        · clear hj3 q2 q3
          by_cases hx1 : bl x = [99, 111, 114, 101, 115]
          · rw [hx1] at q1
            have f3 : (x.toList == [99, 111, 114, 101, 115]) = true := by rw [q1]; decide
            have HX1 := hidp hx1
            have HWD1 : Hid (wordsL (bl l0) = [99, 111, 114, 101, 115] :: rs.map bl) := hidp (by rw [HWD.out, List.map_cons, hx1])
            clear q1 hx1
            cases ok with
            | false =>
              have HLF := hidp (pl_nocores (k := k) (x := bl x) HWJ.out HV3.out (.inr (.inl rfl)))
              have HLE : Hid (parseV (bl t) = (noSet.bare, (k : Int), 10)) := hidp (HPE.out k 10 (by rw [HI.out, HD.out, linesT_err (by rw [HWD.out]; exact HLF.out)]))
              have BE := HE9.out u2 HB2.out
              have BX := hidp BE.2
              have HBe := hidp BE.1
              have PB := (sp4_bk BX.out : Bk (put4 u2 w.heap.size (.int .i64 0) (.slice none 0 0) (.slice none 0 0) (.slice none 0 0)) w.heap.size 25 #[.int .i64 0, .slice none 0 0, .slice none 0 0, .slice none 0 0])
              have T1 := put4_turned u2 w.heap.size (.int .i64 0) (.slice none 0 0) (.slice none 0 0) (.slice none 0 0)
              have hbe := hidp (HBe.out.trans (T1.below HBe.out.size (by simp)))
              obtain ⟨r0, r1, r2, r3⟩ := Z4 PB
              obtain ⟨z0, z1, z2, z3⟩ := Z4 BX.out
              obtain ⟨y0, y1, y2, y3⟩ := ZF4 BX.out
              clear PB T1 BE
              unfold put4 at *
              go_wp2_with fail
              try rw [Exit.noGoto_ret]
              refine bodyPost_ret (v := .tuple #[.agg #[.int .i64 0, .slice none 0 0, .slice none 0 0, .slice none 0 0], .int .i64 (k : Int), .int .i64 10]) (by simp [results, Tryz.results8, go_sem, r0, r1, r2, r3]) rfl (parse_ret (x := noSet) HLE.out (noSet_ok _) hbe.out)
            | true =>
              by_cases hz : 0 < cs.length
              · have f5 : (0 : Int) < (cs.length : Int) := by omega
                have HLT := hidp (pl_cores (k := k) HWJ.out HV3.out hz)
                obtain ⟨z0, z1, z2, z3⟩ := Z4 HR2.out.bk
                obtain ⟨y0, y1, y2, y3⟩ := ZF4 HR2.out.bk
                clear hz
                go_wp2_with fail
                go_roundg (gk - 1)
                case measure => omega
                case rel => exact ⟨k + 1, { r with want := 2, coresAt := k, cores := cs }, { s with ca := C, cc := cc, cores := cs }, A, c, zs, 2, (k : Int), by omega, by go_num, rfl, rfl, rfl, hidp (HR2.out.setCores HIC.out HFC.out), hidp (by
                  obtain ⟨h1, h2, h3, h4⟩ := HE.out
                  refine ⟨?_, rfl, rfl, h4⟩
                  simp only [SetR.bare, RdT.bare, SetR.mk.injEq] at h1 ⊢
                  simp [h1]), hidp (by rw [HI.out, HD.out, linesT_ok (by rw [HWD1.out]; exact HLT.out)]), hidp ⟨by have := HT.out.1; show r.tasks.length ≤ k + 1; omega, HT.out.2⟩, hidp ⟨by show 2 ≤ 3; decide, fun _ => HW.out.2 (by have := HWJ.out; omega)⟩, hidp (put_below (i := 1) (v := .slice C cs.length cc) HB2.out (Nat.le_refl _) (Nat.le_refl _))⟩
              · have hz0 : cs.length = 0 := by omega
                have HLF := hidp (pl_nocores (k := k) (x := bl x) HWJ.out HV3.out (.inr (.inr hz0)))
                obtain rfl := List.eq_nil_of_length_eq_zero hz0
                clear hz hz0
                have HLE : Hid (parseV (bl t) = (noSet.bare, (k : Int), 10)) := hidp (HPE.out k 10 (by rw [HI.out, HD.out, linesT_err (by rw [HWD.out]; exact HLF.out)]))
                have BE := HE9.out u2 HB2.out
                have BX := hidp BE.2
                have HBe := hidp BE.1
                have PB := (sp4_bk BX.out : Bk (put4 u2 w.heap.size (.int .i64 0) (.slice none 0 0) (.slice none 0 0) (.slice none 0 0)) w.heap.size 25 #[.int .i64 0, .slice none 0 0, .slice none 0 0, .slice none 0 0])
                have T1 := put4_turned u2 w.heap.size (.int .i64 0) (.slice none 0 0) (.slice none 0 0) (.slice none 0 0)
                have hbe := hidp (HBe.out.trans (T1.below HBe.out.size (by simp)))
                obtain ⟨r0, r1, r2, r3⟩ := Z4 PB
                obtain ⟨z0, z1, z2, z3⟩ := Z4 BX.out
                obtain ⟨y0, y1, y2, y3⟩ := ZF4 BX.out
                clear PB T1 BE
                unfold put4 at *
                go_wp2_with fail
                try rw [Exit.noGoto_ret]
                refine bodyPost_ret (v := .tuple #[.agg #[.int .i64 0, .slice none 0 0, .slice none 0 0, .slice none 0 0], .int .i64 (k : Int), .int .i64 10]) (by simp [results, Tryz.results8, go_sem, r0, r1, r2, r3]) rfl (parse_ret (x := noSet) HLE.out (noSet_ok _) hbe.out)
          · have f3 : (x.toList == [99, 111, 114, 101, 115]) = false := by rw [q1]; exact decide_eq_false hx1
            have HLF := hidp (pl_nocores (k := k) (x := bl x) HWJ.out HV3.out (.inl hx1))
            clear q1 hx1
            have HLE : Hid (parseV (bl t) = (noSet.bare, (k : Int), 10)) := hidp (HPE.out k 10 (by rw [HI.out, HD.out, linesT_err (by rw [HWD.out]; exact HLF.out)]))
            have BE := HE9.out u2 HB2.out
            have BX := hidp BE.2
            have HBe := hidp BE.1
            have PB := (sp4_bk BX.out : Bk (put4 u2 w.heap.size (.int .i64 0) (.slice none 0 0) (.slice none 0 0) (.slice none 0 0)) w.heap.size 25 #[.int .i64 0, .slice none 0 0, .slice none 0 0, .slice none 0 0])
            have T1 := put4_turned u2 w.heap.size (.int .i64 0) (.slice none 0 0) (.slice none 0 0) (.slice none 0 0)
            have hbe := hidp (HBe.out.trans (T1.below HBe.out.size (by simp)))
            obtain ⟨r0, r1, r2, r3⟩ := Z4 PB
            obtain ⟨z0, z1, z2, z3⟩ := Z4 BX.out
            obtain ⟨y0, y1, y2, y3⟩ := ZF4 BX.out
            clear PB T1 BE
            unfold put4 at *
            go_wp2_with fail
            try rw [Exit.noGoto_ret]
            refine bodyPost_ret (v := .tuple #[.agg #[.int .i64 0, .slice none 0 0, .slice none 0 0, .slice none 0 0], .int .i64 (k : Int), .int .i64 10]) (by simp [results, Tryz.results8, go_sem, r0, r1, r2, r3]) rfl (parse_ret (x := noSet) HLE.out (noSet_ok _) hbe.out)
        · clear hj3 q1
          by_cases hx3 : bl x = [116, 97, 115, 107]
          · rw [hx3] at q2 q3
            have f3 : (x.toList == [104, 111, 109, 101, 115]) = false := by rw [q2]; decide
            have f4 : (x.toList == [116, 97, 115, 107]) = true := by rw [q3]; decide
            have HX1 := hidp hx3
            clear q2 q3 hx3
            have HLT := hidp (lineT_task r k (rs.map bl) (by have := HWJ.out; omega))
            have HWD1 : Hid (wordsL (bl l0) = [116, 97, 115, 107] :: rs.map bl) := hidp (by rw [HWD.out, List.map_cons, HX1.out])
            have CT := rtaskOf_any (some ⟨b, off2, none⟩) c2 x rs u2 HS2.out (by rw [HM.out]; omega) (by rw [HM.out]; exact HCAP.out) HZW.out (by rw [HX1.out]; decide)
            obtain ⟨tt, HTT⟩ : ∃ tt, Hid (taskT (rs.map bl) = tt) := ⟨_, hidp rfl⟩
            unfold RTaskPost at CT
            rw [HM.out, HTT.out] at CT
            have HCT := hidp CT
            clear CT
            go_wp2_with fail
            refine HCT.out.mono ?_
            rintro e u3 ⟨hb3, hpost⟩
            have HR3 := hidp (HR2.out.over hb3)
            have HB3 := hidp (HB2.out.trans (hb3.mono HB2.out.size))
            have HSZ3 := hidp hb3.size
            cases tt with
            | error y =>
              obtain ⟨hy0, rfl⟩ := hpost
              unfold zeroT
              have f9 : (y != 0) = true := by simpa using hy0
              have HLE : Hid (parseV (bl t) = (noSet.bare, (k : Int), y)) := hidp (HPE.out k y (by rw [HI.out, HD.out, linesT_err (by rw [HWD1.out, HLT.out, HTT.out])]))
              have HB4 := hidp (HB3.out.alloc HB3.out.size (.cells #[.string ⟨#[]⟩, .int .i64 0, .int .i64 0, .int .i64 0, .int .i64 0, .slice none 0 0] 44))
              clear hy0 hb3 HCT
              have BE := HE9.out (u3.alloc (.cells #[.string ⟨#[]⟩, .int .i64 0, .int .i64 0, .int .i64 0, .int .i64 0, .slice none 0 0] 44)) HB4.out
              have BX := hidp BE.2
              have HBe := hidp BE.1
              have PB := (sp4_bk BX.out : Bk (put4 (u3.alloc (.cells #[.string ⟨#[]⟩, .int .i64 0, .int .i64 0, .int .i64 0, .int .i64 0, .slice none 0 0] 44)) w.heap.size (.int .i64 0) (.slice none 0 0) (.slice none 0 0) (.slice none 0 0)) w.heap.size 25 #[.int .i64 0, .slice none 0 0, .slice none 0 0, .slice none 0 0])
              have T1 := put4_turned (u3.alloc (.cells #[.string ⟨#[]⟩, .int .i64 0, .int .i64 0, .int .i64 0, .int .i64 0, .slice none 0 0] 44)) w.heap.size (.int .i64 0) (.slice none 0 0) (.slice none 0 0) (.slice none 0 0)
              have hbe := hidp (HBe.out.trans (T1.below HBe.out.size (by simp)))
              obtain ⟨r0, r1, r2, r3⟩ := Z4 PB
              obtain ⟨z0, z1, z2, z3⟩ := Z4 BX.out
              obtain ⟨y0, y1, y2, y3⟩ := ZF4 BX.out
              clear PB T1 BE
              unfold put4 at *
              go_wp2_with fail
              try rw [Exit.noGoto_ret]
              refine bodyPost_ret (v := .tuple #[.agg #[.int .i64 0, .slice none 0 0, .slice none 0 0, .slice none 0 0], .int .i64 (k : Int), .int .i64 y]) (by simp [results, Tryz.results8, go_sem, r0, r1, r2, r3]) rfl (parse_ret (x := noSet) HLE.out (noSet_ok _) hbe.out)
            | ok tk =>
              obtain ⟨t', rfl, hbare, hok, hfp⟩ := hpost
              obtain ⟨nm, per, dl, prio, cl, pa, pc, ps⟩ := t'
              dsimp only at hfp ⊢
              obtain ⟨ob, hob⟩ : ∃ o, (.cells #[.string nm, .int .i64 per, .int .i64 dl, .int .i64 prio, .int .i64 cl, .slice pa ps.length pc] 44 : Obj) = o := ⟨_, rfl⟩
              have HOB := hidp hob
              have HBR := hidp hbare
              have HFP : Hid (∀ q ∈ fp pa, (w1.heap.size ≤ q ∧ q < u3.heap.size) ∧ q ≠ w1.heap.size ∧ q ∉ fp s.ta ∧ q ∉ fp A) := hidp (fun q hq => by
                have h1 := hfp q hq
                have h2 := HR2.out.rows.gB
                refine ⟨⟨by omega, h1.2⟩, by omega, fun hm => ?_, fun hm => ?_⟩
                · have := (own_fp HR2.out.rows.tasks.own q hm).2; omega
                · have := (own_fp HR2.out.rows.ats.own q hm).2; omega)
              have HTO := hidp hok
              have ba : Below u3.heap.size u3 (u3.alloc ob) := (Below.refl _ u3).alloc (Nat.le_refl _) ob
              have baa : Below u3.heap.size u3 ((u3.alloc ob).alloc ob) := ba.alloc ba.size ob
              have HBA := hidp baa
              have HR4 := hidp (HR3.out.over baa)
              have HB4 := hidp (HB3.out.trans (baa.mono HB3.out.size))
              have bt : Bk (u3.alloc ob) u3.heap.size 44 #[.string nm, .int .i64 per, .int .i64 dl, .int .i64 prio, .int .i64 cl, .slice pa ps.length pc] := by rw [← hob]; exact Bk.new _ _ _
              obtain ⟨t0, t1, t2, t3, t4, t5⟩ := cz6 bt
              have z3 := ((HR3.out.over ba).bk.cell 3)
              have own4 := HR4.out.rows.tasks.own
              obtain ⟨i0, hi0, hy0, hy1, hy2⟩ := info_parts infoTask
              obtain ⟨i1, hi1, hu0, hu1, hu2⟩ := info_parts infoN
              have S2 := new_liesW (u3.alloc ob) [.string nm, .int .i64 per, .int .i64 dl, .int .i64 prio, .int .i64 cl, .slice pa ps.length pc] 44
              rw [show (u3.alloc ob).heap.size = u3.heap.size + 1 by simp] at S2
              replace S2 := hidp S2
              rw [show (Obj.cells [Value.string nm, .int .i64 per, .int .i64 dl, .int .i64 prio, .int .i64 cl, .slice pa ps.length pc].toArray 44) = ob from hob] at S2
              have O2 := hidp (ttc_one [⟨nm, per, dl, prio, cl, pa, pc, ps⟩])
              have hts : s.tasks.length ≤ 2000 := by have := hTL.out; have := HT.out; omega
              have hzs : zs.length ≤ 2000 := by have := hTL.out; have := HT.out; omega
              have N2 : Hid (s.tasks.length + 1 ≤ maxLen) := hidp (by unfold maxLen; omega)
              have T2 : Hid ((s.tasks.length + 1) * 72 ≤ 140737488355328) := hidp (by omega)
              have Z2 : Hid (w1.heap.size ≤ ((u3.alloc ob).alloc ob).heap.size) := hidp HB4.out.size
              have N3 : Hid (zs.length + 1 ≤ maxLen) := hidp (by unfold maxLen; omega)
              have T3 : Hid ((zs.length + 1) * 8 ≤ 140737488355328) := hidp (by omega)
              have O3 := hidp (num_one [(k : Int)])
              rw [← hob] at t0 t1 t2 t3 t4 t5 z3 own4 S2 Z2 HR4 HB4 HBA
              clear hob HOB bt hbare hok hfp ba baa hb3 HCT hts hzs
              go_wp2_with (at_builtin; first | (refine wpList_app2 _ rfl (.tmp 115) (.tmp 117) 23 rfl w1.heap.size 44 i0 _ 6 72 Tryz.underlying23 hi0 hy0 hy1 hy2 rfl (by decide) s.ta s.tasks.length s.tc _ rfl own4 _ _ 1 1 [.string nm, .int .i64 per, .int .i64 dl, .int .i64 prio, .int .i64 cl, .slice pa ps.length pc] rfl (by simp) rfl S2.out O2.out N2.out T2.out Z2.out ?_; intro A9 c9 w6 happ; have MID := hidp (HR3.out.mid (t := ⟨nm, per, dl, prio, cl, pa, pc, ps⟩) HTO.out HFP.out HBA.out happ (.cells #[.int .i64 (k : Int)] 3)); have own5 := MID.out.2.1.ats.own; have S3 := hidp (new_liesW w6 [.int .i64 (k : Int)] 3); have Z3 := hidp (Nat.le_of_lt (Nat.lt_of_le_of_lt MID.out.2.1.gB.1 MID.out.2.1.gB.2))) | (refine wpList_app2 _ rfl (.tmp 119) (.tmp 121) 22 rfl w1.heap.size 3 i1 _ 1 8 Tryz.underlying22 hi1 hu0 hu1 hu2 rfl (by decide) A zs.length c _ rfl own5 _ _ 1 1 [.int .i64 (k : Int)] rfl (by simp) rfl S3.out O3.out N3.out T3.out Z3.out ?_; intro A8 c8 w7 happ2; have END := hidp (rbx_end MID.out happ2); have d3 := END.out.1.cell 3; have y3 := END.out.1.frozen 3))
              go_roundg (gk - 1)
              case measure => omega
              case rel => exact ⟨k + 1, { r with want := 3, tasksAt := r.tasksAt ++ [k], tasks := r.tasks ++ [tk] }, { s with ta := A9, tc := c9, tasks := s.tasks ++ [⟨nm, per, dl, prio, cl, pa, pc, ps⟩] }, A8, c8, zs ++ [(k : Int)], 3, coA, by omega, by go_num, rfl, rfl, by rw [List.length_append]; rfl, hidp (rbx_put END.out.1 END.out.2.1), hidp (by
                obtain ⟨h1, h2, h3, h4⟩ := HE.out
                refine ⟨?_, rfl, h3, by rw [h4, List.map_append]; rfl⟩
                simp only [SetR.bare, RdT.bare, SetR.mk.injEq] at h1 ⊢
                simp [h1, HBR.out]), hidp (by rw [HI.out, HD.out, linesT_ok (by rw [HWD1.out, HLT.out, HTT.out])]), hidp ⟨by have := HT.out.1; simp; omega, by have := HT.out.2; simp; omega⟩, hidp ⟨by show 3 ≤ 3; decide, fun _ => HW.out.2 (by have := HWJ.out; omega)⟩, hidp (put_below (i := 3) (v := .slice A9 (s.tasks.length + 1) c9) (HB3.out.trans (END.out.2.2)) (Nat.le_refl _) (Nat.le_refl _))⟩
          have f4 : (x.toList == [116, 97, 115, 107]) = false := by rw [q3]; exact decide_eq_false hx3
          have HX3n := hidp hx3
          clear q3 hx3
          by_cases hx1 : bl x = [104, 111, 109, 101, 115]
          · rw [hx1] at q2
            have f3 : (x.toList == [104, 111, 109, 101, 115]) = true := by rw [q2]; decide
            have HX1 := hidp hx1
            have HWD1 : Hid (wordsL (bl l0) = [104, 111, 109, 101, 115] :: rs.map bl) := hidp (by rw [HWD.out, List.map_cons, hx1])
            clear q2 hx1
            cases ok with
            | false =>
              have HLF := hidp (pl_nohomes (k := k) (x := bl x) HWJ.out HX3n.out HV3.out (.inr (.inl rfl)))
              have HLE : Hid (parseV (bl t) = (noSet.bare, (k : Int), 10)) := hidp (HPE.out k 10 (by rw [HI.out, HD.out, linesT_err (by rw [HWD.out]; exact HLF.out)]))
              have BE := HE9.out u2 HB2.out
              have BX := hidp BE.2
              have HBe := hidp BE.1
              have PB := (sp4_bk BX.out : Bk (put4 u2 w.heap.size (.int .i64 0) (.slice none 0 0) (.slice none 0 0) (.slice none 0 0)) w.heap.size 25 #[.int .i64 0, .slice none 0 0, .slice none 0 0, .slice none 0 0])
              have T1 := put4_turned u2 w.heap.size (.int .i64 0) (.slice none 0 0) (.slice none 0 0) (.slice none 0 0)
              have hbe := hidp (HBe.out.trans (T1.below HBe.out.size (by simp)))
              obtain ⟨r0, r1, r2, r3⟩ := Z4 PB
              obtain ⟨z0, z1, z2, z3⟩ := Z4 BX.out
              obtain ⟨y0, y1, y2, y3⟩ := ZF4 BX.out
              clear PB T1 BE
              unfold put4 at *
              go_wp2_with fail
              try rw [Exit.noGoto_ret]
              refine bodyPost_ret (v := .tuple #[.agg #[.int .i64 0, .slice none 0 0, .slice none 0 0, .slice none 0 0], .int .i64 (k : Int), .int .i64 10]) (by simp [results, Tryz.results8, go_sem, r0, r1, r2, r3]) rfl (parse_ret (x := noSet) HLE.out (noSet_ok _) hbe.out)
            | true =>
              by_cases hz : 0 < cs.length
              · have f5 : (0 : Int) < (cs.length : Int) := by omega
                have HLT := hidp (pl_homes (k := k) HWJ.out HV3.out hz)
                obtain ⟨z0, z1, z2, z3⟩ := Z4 HR2.out.bk
                obtain ⟨y0, y1, y2, y3⟩ := ZF4 HR2.out.bk
                clear hz
                go_wp2_with fail
                go_roundg (gk - 1)
                case measure => omega
                case rel => exact ⟨k + 1, { r with want := 3, homes := cs }, { s with ha := C, hc := cc, homes := cs }, A, c, zs, 3, coA, by omega, by go_num, rfl, rfl, rfl, hidp (HR2.out.setHomes HIC.out HFC.out), hidp (by
                  obtain ⟨h1, h2, h3, h4⟩ := HE.out
                  refine ⟨?_, rfl, h3, h4⟩
                  simp only [SetR.bare, RdT.bare, SetR.mk.injEq] at h1 ⊢
                  simp [h1]), hidp (by rw [HI.out, HD.out, linesT_ok (by rw [HWD1.out]; exact HLT.out)]), hidp ⟨by have := HT.out.1; show r.tasks.length ≤ k + 1; omega, HT.out.2⟩, hidp ⟨by show 3 ≤ 3; decide, fun _ => HW.out.2 (by have := HWJ.out; omega)⟩, hidp (put_below (i := 2) (v := .slice C cs.length cc) HB2.out (Nat.le_refl _) (Nat.le_refl _))⟩
              · have hz0 : cs.length = 0 := by omega
                have HLF := hidp (pl_nohomes (k := k) (x := bl x) HWJ.out HX3n.out HV3.out (.inr (.inr hz0)))
                obtain rfl := List.eq_nil_of_length_eq_zero hz0
                clear hz hz0
                have HLE : Hid (parseV (bl t) = (noSet.bare, (k : Int), 10)) := hidp (HPE.out k 10 (by rw [HI.out, HD.out, linesT_err (by rw [HWD.out]; exact HLF.out)]))
                have BE := HE9.out u2 HB2.out
                have BX := hidp BE.2
                have HBe := hidp BE.1
                have PB := (sp4_bk BX.out : Bk (put4 u2 w.heap.size (.int .i64 0) (.slice none 0 0) (.slice none 0 0) (.slice none 0 0)) w.heap.size 25 #[.int .i64 0, .slice none 0 0, .slice none 0 0, .slice none 0 0])
                have T1 := put4_turned u2 w.heap.size (.int .i64 0) (.slice none 0 0) (.slice none 0 0) (.slice none 0 0)
                have hbe := hidp (HBe.out.trans (T1.below HBe.out.size (by simp)))
                obtain ⟨r0, r1, r2, r3⟩ := Z4 PB
                obtain ⟨z0, z1, z2, z3⟩ := Z4 BX.out
                obtain ⟨y0, y1, y2, y3⟩ := ZF4 BX.out
                clear PB T1 BE
                unfold put4 at *
                go_wp2_with fail
                try rw [Exit.noGoto_ret]
                refine bodyPost_ret (v := .tuple #[.agg #[.int .i64 0, .slice none 0 0, .slice none 0 0, .slice none 0 0], .int .i64 (k : Int), .int .i64 10]) (by simp [results, Tryz.results8, go_sem, r0, r1, r2, r3]) rfl (parse_ret (x := noSet) HLE.out (noSet_ok _) hbe.out)
          · have f3 : (x.toList == [104, 111, 109, 101, 115]) = false := by rw [q2]; exact decide_eq_false hx1
            have HLF := hidp (pl_nohomes (k := k) (x := bl x) HWJ.out HX3n.out HV3.out (.inl hx1))
            clear q2 hx1
            have HLE : Hid (parseV (bl t) = (noSet.bare, (k : Int), 10)) := hidp (HPE.out k 10 (by rw [HI.out, HD.out, linesT_err (by rw [HWD.out]; exact HLF.out)]))
            have BE := HE9.out u2 HB2.out
            have BX := hidp BE.2
            have HBe := hidp BE.1
            have PB := (sp4_bk BX.out : Bk (put4 u2 w.heap.size (.int .i64 0) (.slice none 0 0) (.slice none 0 0) (.slice none 0 0)) w.heap.size 25 #[.int .i64 0, .slice none 0 0, .slice none 0 0, .slice none 0 0])
            have T1 := put4_turned u2 w.heap.size (.int .i64 0) (.slice none 0 0) (.slice none 0 0) (.slice none 0 0)
            have hbe := hidp (HBe.out.trans (T1.below HBe.out.size (by simp)))
            obtain ⟨r0, r1, r2, r3⟩ := Z4 PB
            obtain ⟨z0, z1, z2, z3⟩ := Z4 BX.out
            obtain ⟨y0, y1, y2, y3⟩ := ZF4 BX.out
            clear PB T1 BE
            unfold put4 at *
            go_wp2_with fail
            try rw [Exit.noGoto_ret]
            refine bodyPost_ret (v := .tuple #[.agg #[.int .i64 0, .slice none 0 0, .slice none 0 0, .slice none 0 0], .int .i64 (k : Int), .int .i64 10]) (by simp [results, Tryz.results8, go_sem, r0, r1, r2, r3]) rfl (parse_ret (x := noSet) HLE.out (noSet_ok _) hbe.out)
        · clear hj3 q1 q2
          by_cases hx3 : bl x = [116, 97, 115, 107]
          · rw [hx3] at q3
            have f4 : (x.toList == [116, 97, 115, 107]) = true := by rw [q3]; decide
            have HX1 := hidp hx3
            clear q3 hx3
            have HLT := hidp (lineT_task r k (rs.map bl) (by have := HWJ.out; omega))
            have HWD1 : Hid (wordsL (bl l0) = [116, 97, 115, 107] :: rs.map bl) := hidp (by rw [HWD.out, List.map_cons, HX1.out])
            have CT := rtaskOf_any (some ⟨b, off2, none⟩) c2 x rs u2 HS2.out (by rw [HM.out]; omega) (by rw [HM.out]; exact HCAP.out) HZW.out (by rw [HX1.out]; decide)
            obtain ⟨tt, HTT⟩ : ∃ tt, Hid (taskT (rs.map bl) = tt) := ⟨_, hidp rfl⟩
            unfold RTaskPost at CT
            rw [HM.out, HTT.out] at CT
            have HCT := hidp CT
            clear CT
            go_wp2_with fail
            refine HCT.out.mono ?_
            rintro e u3 ⟨hb3, hpost⟩
            have HR3 := hidp (HR2.out.over hb3)
            have HB3 := hidp (HB2.out.trans (hb3.mono HB2.out.size))
            have HSZ3 := hidp hb3.size
            cases tt with
            | error y =>
              obtain ⟨hy0, rfl⟩ := hpost
              unfold zeroT
              have f9 : (y != 0) = true := by simpa using hy0
              have HLE : Hid (parseV (bl t) = (noSet.bare, (k : Int), y)) := hidp (HPE.out k y (by rw [HI.out, HD.out, linesT_err (by rw [HWD1.out, HLT.out, HTT.out])]))
              have HB4 := hidp (HB3.out.alloc HB3.out.size (.cells #[.string ⟨#[]⟩, .int .i64 0, .int .i64 0, .int .i64 0, .int .i64 0, .slice none 0 0] 44))
              clear hy0 hb3 HCT
              have BE := HE9.out (u3.alloc (.cells #[.string ⟨#[]⟩, .int .i64 0, .int .i64 0, .int .i64 0, .int .i64 0, .slice none 0 0] 44)) HB4.out
              have BX := hidp BE.2
              have HBe := hidp BE.1
              have PB := (sp4_bk BX.out : Bk (put4 (u3.alloc (.cells #[.string ⟨#[]⟩, .int .i64 0, .int .i64 0, .int .i64 0, .int .i64 0, .slice none 0 0] 44)) w.heap.size (.int .i64 0) (.slice none 0 0) (.slice none 0 0) (.slice none 0 0)) w.heap.size 25 #[.int .i64 0, .slice none 0 0, .slice none 0 0, .slice none 0 0])
              have T1 := put4_turned (u3.alloc (.cells #[.string ⟨#[]⟩, .int .i64 0, .int .i64 0, .int .i64 0, .int .i64 0, .slice none 0 0] 44)) w.heap.size (.int .i64 0) (.slice none 0 0) (.slice none 0 0) (.slice none 0 0)
              have hbe := hidp (HBe.out.trans (T1.below HBe.out.size (by simp)))
              obtain ⟨r0, r1, r2, r3⟩ := Z4 PB
              obtain ⟨z0, z1, z2, z3⟩ := Z4 BX.out
              obtain ⟨y0, y1, y2, y3⟩ := ZF4 BX.out
              clear PB T1 BE
              unfold put4 at *
              go_wp2_with fail
              try rw [Exit.noGoto_ret]
              refine bodyPost_ret (v := .tuple #[.agg #[.int .i64 0, .slice none 0 0, .slice none 0 0, .slice none 0 0], .int .i64 (k : Int), .int .i64 y]) (by simp [results, Tryz.results8, go_sem, r0, r1, r2, r3]) rfl (parse_ret (x := noSet) HLE.out (noSet_ok _) hbe.out)
            | ok tk =>
              obtain ⟨t', rfl, hbare, hok, hfp⟩ := hpost
              obtain ⟨nm, per, dl, prio, cl, pa, pc, ps⟩ := t'
              dsimp only at hfp ⊢
              obtain ⟨ob, hob⟩ : ∃ o, (.cells #[.string nm, .int .i64 per, .int .i64 dl, .int .i64 prio, .int .i64 cl, .slice pa ps.length pc] 44 : Obj) = o := ⟨_, rfl⟩
              have HOB := hidp hob
              have HBR := hidp hbare
              have HFP : Hid (∀ q ∈ fp pa, (w1.heap.size ≤ q ∧ q < u3.heap.size) ∧ q ≠ w1.heap.size ∧ q ∉ fp s.ta ∧ q ∉ fp A) := hidp (fun q hq => by
                have h1 := hfp q hq
                have h2 := HR2.out.rows.gB
                refine ⟨⟨by omega, h1.2⟩, by omega, fun hm => ?_, fun hm => ?_⟩
                · have := (own_fp HR2.out.rows.tasks.own q hm).2; omega
                · have := (own_fp HR2.out.rows.ats.own q hm).2; omega)
              have HTO := hidp hok
              have ba : Below u3.heap.size u3 (u3.alloc ob) := (Below.refl _ u3).alloc (Nat.le_refl _) ob
              have baa : Below u3.heap.size u3 ((u3.alloc ob).alloc ob) := ba.alloc ba.size ob
              have HBA := hidp baa
              have HR4 := hidp (HR3.out.over baa)
              have HB4 := hidp (HB3.out.trans (baa.mono HB3.out.size))
              have bt : Bk (u3.alloc ob) u3.heap.size 44 #[.string nm, .int .i64 per, .int .i64 dl, .int .i64 prio, .int .i64 cl, .slice pa ps.length pc] := by rw [← hob]; exact Bk.new _ _ _
              obtain ⟨t0, t1, t2, t3, t4, t5⟩ := cz6 bt
              have z3 := ((HR3.out.over ba).bk.cell 3)
              have own4 := HR4.out.rows.tasks.own
              obtain ⟨i0, hi0, hy0, hy1, hy2⟩ := info_parts infoTask
              obtain ⟨i1, hi1, hu0, hu1, hu2⟩ := info_parts infoN
              have S2 := new_liesW (u3.alloc ob) [.string nm, .int .i64 per, .int .i64 dl, .int .i64 prio, .int .i64 cl, .slice pa ps.length pc] 44
              rw [show (u3.alloc ob).heap.size = u3.heap.size + 1 by simp] at S2
              replace S2 := hidp S2
              rw [show (Obj.cells [Value.string nm, .int .i64 per, .int .i64 dl, .int .i64 prio, .int .i64 cl, .slice pa ps.length pc].toArray 44) = ob from hob] at S2
              have O2 := hidp (ttc_one [⟨nm, per, dl, prio, cl, pa, pc, ps⟩])
              have hts : s.tasks.length ≤ 2000 := by have := hTL.out; have := HT.out; omega
              have hzs : zs.length ≤ 2000 := by have := hTL.out; have := HT.out; omega
              have N2 : Hid (s.tasks.length + 1 ≤ maxLen) := hidp (by unfold maxLen; omega)
              have T2 : Hid ((s.tasks.length + 1) * 72 ≤ 140737488355328) := hidp (by omega)
              have Z2 : Hid (w1.heap.size ≤ ((u3.alloc ob).alloc ob).heap.size) := hidp HB4.out.size
              have N3 : Hid (zs.length + 1 ≤ maxLen) := hidp (by unfold maxLen; omega)
              have T3 : Hid ((zs.length + 1) * 8 ≤ 140737488355328) := hidp (by omega)
              have O3 := hidp (num_one [(k : Int)])
              rw [← hob] at t0 t1 t2 t3 t4 t5 z3 own4 S2 Z2 HR4 HB4 HBA
              clear hob HOB bt hbare hok hfp ba baa hb3 HCT hts hzs
              go_wp2_with (at_builtin; first | (refine wpList_app2 _ rfl (.tmp 115) (.tmp 117) 23 rfl w1.heap.size 44 i0 _ 6 72 Tryz.underlying23 hi0 hy0 hy1 hy2 rfl (by decide) s.ta s.tasks.length s.tc _ rfl own4 _ _ 1 1 [.string nm, .int .i64 per, .int .i64 dl, .int .i64 prio, .int .i64 cl, .slice pa ps.length pc] rfl (by simp) rfl S2.out O2.out N2.out T2.out Z2.out ?_; intro A9 c9 w6 happ; have MID := hidp (HR3.out.mid (t := ⟨nm, per, dl, prio, cl, pa, pc, ps⟩) HTO.out HFP.out HBA.out happ (.cells #[.int .i64 (k : Int)] 3)); have own5 := MID.out.2.1.ats.own; have S3 := hidp (new_liesW w6 [.int .i64 (k : Int)] 3); have Z3 := hidp (Nat.le_of_lt (Nat.lt_of_le_of_lt MID.out.2.1.gB.1 MID.out.2.1.gB.2))) | (refine wpList_app2 _ rfl (.tmp 119) (.tmp 121) 22 rfl w1.heap.size 3 i1 _ 1 8 Tryz.underlying22 hi1 hu0 hu1 hu2 rfl (by decide) A zs.length c _ rfl own5 _ _ 1 1 [.int .i64 (k : Int)] rfl (by simp) rfl S3.out O3.out N3.out T3.out Z3.out ?_; intro A8 c8 w7 happ2; have END := hidp (rbx_end MID.out happ2); have d3 := END.out.1.cell 3; have y3 := END.out.1.frozen 3))
              go_roundg (gk - 1)
              case measure => omega
              case rel => exact ⟨k + 1, { r with want := 3, tasksAt := r.tasksAt ++ [k], tasks := r.tasks ++ [tk] }, { s with ta := A9, tc := c9, tasks := s.tasks ++ [⟨nm, per, dl, prio, cl, pa, pc, ps⟩] }, A8, c8, zs ++ [(k : Int)], 3, coA, by omega, by go_num, rfl, rfl, by rw [List.length_append]; rfl, hidp (rbx_put END.out.1 END.out.2.1), hidp (by
                obtain ⟨h1, h2, h3, h4⟩ := HE.out
                refine ⟨?_, rfl, h3, by rw [h4, List.map_append]; rfl⟩
                simp only [SetR.bare, RdT.bare, SetR.mk.injEq] at h1 ⊢
                simp [h1, HBR.out]), hidp (by rw [HI.out, HD.out, linesT_ok (by rw [HWD1.out, HLT.out, HTT.out])]), hidp ⟨by have := HT.out.1; simp; omega, by have := HT.out.2; simp; omega⟩, hidp ⟨by show 3 ≤ 3; decide, fun _ => HW.out.2 (by have := HWJ.out; omega)⟩, hidp (put_below (i := 3) (v := .slice A9 (s.tasks.length + 1) c9) (HB3.out.trans (END.out.2.2)) (Nat.le_refl _) (Nat.le_refl _))⟩
          · have f4 : (x.toList == [116, 97, 115, 107]) = false := by rw [q3]; exact decide_eq_false hx3
            have HLF := hidp (pl_notask (r := r) (k := k) (x := bl x) (R := rs.map bl) (by have := HWJ.out; omega) hx3)
            clear q3 hx3
            have HLE : Hid (parseV (bl t) = (noSet.bare, (k : Int), 10)) := hidp (HPE.out k 10 (by rw [HI.out, HD.out, linesT_err (by rw [HWD.out]; exact HLF.out)]))
            have BE := HE9.out u2 HB2.out
            have BX := hidp BE.2
            have HBe := hidp BE.1
            have PB := (sp4_bk BX.out : Bk (put4 u2 w.heap.size (.int .i64 0) (.slice none 0 0) (.slice none 0 0) (.slice none 0 0)) w.heap.size 25 #[.int .i64 0, .slice none 0 0, .slice none 0 0, .slice none 0 0])
            have T1 := put4_turned u2 w.heap.size (.int .i64 0) (.slice none 0 0) (.slice none 0 0) (.slice none 0 0)
            have hbe := hidp (HBe.out.trans (T1.below HBe.out.size (by simp)))
            obtain ⟨r0, r1, r2, r3⟩ := Z4 PB
            obtain ⟨z0, z1, z2, z3⟩ := Z4 BX.out
            obtain ⟨y0, y1, y2, y3⟩ := ZF4 BX.out
            clear PB T1 BE
            unfold put4 at *
            go_wp2_with fail
            try rw [Exit.noGoto_ret]
            refine bodyPost_ret (v := .tuple #[.agg #[.int .i64 0, .slice none 0 0, .slice none 0 0, .slice none 0 0], .int .i64 (k : Int), .int .i64 10]) (by simp [results, Tryz.results8, go_sem, r0, r1, r2, r3]) rfl (parse_ret (x := noSet) HLE.out (noSet_ok _) hbe.out)
        · exact absurd hj3 (by omega)
    · obtain rfl : k = N := by omega
      have HLN : Hid (linesT rdZ 0 (ls.map bl) = if r.want < 2 then .error (k, 10) else .ok r) := hidp (by
        rw [HI.out]; exact linesT_end (by rw [List.length_map, HN.out]; exact Nat.le_refl _))
      have hw := HE.out.2.1
      by_cases h2 : want < 2
      · have HLE : Hid (parseV (bl t) = (noSet.bare, (k : Int), 10)) := hidp (HPE.out k 10 (by rw [HLN.out, if_pos (by omega)]))
        clear hw
        have BE := HE9.out wr HB.out
        have BX := hidp BE.2
        have HBe := hidp BE.1
        have PB := (sp4_bk BX.out : Bk (put4 wr w.heap.size (.int .i64 0) (.slice none 0 0) (.slice none 0 0) (.slice none 0 0)) w.heap.size 25 #[.int .i64 0, .slice none 0 0, .slice none 0 0, .slice none 0 0])
        have T1 := put4_turned wr w.heap.size (.int .i64 0) (.slice none 0 0) (.slice none 0 0) (.slice none 0 0)
        have hbe := hidp (HBe.out.trans (T1.below HBe.out.size (by simp)))
        obtain ⟨r0, r1, r2, r3⟩ := Z4 PB
        obtain ⟨z0, z1, z2, z3⟩ := Z4 BX.out
        obtain ⟨y0, y1, y2, y3⟩ := ZF4 BX.out
        clear PB T1 BE
        unfold put4 at *
        go_wp2_with fail
        try rw [Exit.noGoto_ret]
        refine bodyPost_ret (v := .tuple #[.agg #[.int .i64 0, .slice none 0 0, .slice none 0 0, .slice none 0 0], .int .i64 (k : Int), .int .i64 10]) (by simp [results, Tryz.results8, go_sem, r0, r1, r2, r3]) rfl (parse_ret (x := noSet) HLE.out (noSet_ok _) hbe.out)
      · have HLO : Hid (parseV (bl t) = toldV r k) := hidp (HPO.out r (by rw [HLN.out, if_neg (by omega)]))
        have HOK := HR.out.rows.setOk
        have CK := rchecked_any s A c zs coA (k : Int) wr HOK HR.out.rows.ats.row (by have h5 := chkAt_bd s; have h6 := hTL.out; by_cases h7 : 0 ≤ chkAt s <;> omega) (by have := hTL.out; have := HT.out; omega)
        have HCK := hidp CK
        have HTD : Hid (((rtoldV s zs coA (k : Int)).1.bare, (rtoldV s zs coA (k : Int)).2) = toldV r k) := hidp (by
          have h5 := told_r (n := k) HE.out.1 (HW.out.2 (by omega))
          rw [← HE.out.2.2.2, ← HE.out.2.2.1] at h5
          exact h5)
        have HFS := hidp (rtold_fst s zs coA (k : Int))
        obtain ⟨z0, z1, z2, z3⟩ := Z4 HR.out.bk
        clear hw HOK CK
        go_wp2_with fail
        refine HCK.out.mono ?_
        rintro e u ⟨x, p, q, hv, rfl, hbu⟩
        have HV := hidp hv
        have HBu := hidp (HB.out.trans (hbu.mono HB.out.size))
        have HRu := hidp (HR.out.over hbu)
        clear hv hbu HCK z0 z1 z2 z3
        obtain ⟨xp, xca, xcc, xcs, xha, xhc, xhs, xta, xtc, xts⟩ := x
        dsimp only at HV ⊢
        have BE := HE9.out u HBu.out
        have BX := hidp BE.2
        have HBe := hidp BE.1
        have PB := (sp4_bk BX.out : Bk (put4 u w.heap.size (.int .i64 xp) (.slice xca xcs.length xcc) (.slice xha xhs.length xhc) (.slice xta xts.length xtc)) w.heap.size 25 #[.int .i64 xp, .slice xca xcs.length xcc, .slice xha xhs.length xhc, .slice xta xts.length xtc])
        have T1 := put4_turned u w.heap.size (.int .i64 xp) (.slice xca xcs.length xcc) (.slice xha xhs.length xhc) (.slice xta xts.length xtc)
        have hbe := hidp (HBe.out.trans (T1.below HBe.out.size (by simp)))
        have HSO : Hid (SetOk (put4 u w.heap.size (.int .i64 xp) (.slice xca xcs.length xcc) (.slice xha xhs.length xhc) (.slice xta xts.length xtc)) ⟨xp, xca, xcc, xcs, xha, xhc, xhs, xta, xtc, xts⟩) := hidp (by
          have h5 := HFS.out
          rw [HV.out] at h5
          dsimp only at h5
          rcases h5 with h5 | h5
          · rw [h5]
            exact HRu.out.rows.setOk.turnedB T1 (fun i hi hm => by
              have h6 := HRu.out.low i hi
              have h7 := HW01.out
              simp at hm
              omega)
          · rw [h5]; exact noSet_ok _)
        have HLV : Hid (parseV (bl t) = ((⟨xp, xca, xcc, xcs, xha, xhc, xhs, xta, xtc, xts⟩ : SetR).bare, p, q)) := hidp (by rw [HLO.out, ← HTD.out, HV.out])
        obtain ⟨r0, r1, r2, r3⟩ := Z4 PB
        obtain ⟨z0, z1, z2, z3⟩ := Z4 BX.out
        obtain ⟨y0, y1, y2, y3⟩ := ZF4 BX.out
        clear PB T1 BE
        unfold put4 at *
        go_wp2_with fail
        try rw [Exit.noGoto_ret]
        refine bodyPost_ret (v := .tuple #[.agg #[.int .i64 xp, .slice xca xcs.length xcc, .slice xha xhs.length xhc, .slice xta xts.length xtc], .int .i64 p, .int .i64 q]) (by simp [results, Tryz.results8, go_sem, r0, r1, r2, r3]) rfl (parse_ret (x := ⟨xp, xca, xcc, xcs, xha, xhc, xhs, xta, xtc, xts⟩) HLV.out HSO.out hbe.out)
end Go.Proofs.YtlmliefkhidpnaaGreatDoor

namespace Go.Proofs.YtlmliefkhidpnaaGreatDoor
open Go.ChangeShapes Go.WideShapes Go.ChangeAt Go.RowKit
set_option linter.unusedVariables false
set_option linter.unusedSimpArgs false
theorem joinT_snoc (c : UInt8) (h x : Bts) (l : List Bts) : joinT c (h :: (l ++ [x])) = joinT c (h :: l) ++ c :: x := by
  induction l generalizing h with
  | nil => rfl
  | cons a t ih =>
    show h ++ c :: joinT c (a :: (t ++ [x])) = (h ++ c :: joinT c (a :: t)) ++ c :: x
    rw [ih a]; simp
theorem numsW_snoc (h : Bts) (l : List Int) (n : Int) : numsW h (l ++ [n]) = numsW h l ++ 32 :: textL n := by
  unfold numsW
  rw [List.map_append]
  exact joinT_snoc 32 h (textL n) (l.map textL)
set_option maxHeartbeats 4000000 in
theorem rnline_any (head : ByteArray) (A0 : Option Addr) (c0 : Nat) (zs : List Int) (w : World) (hz : IntsOk w A0 c0 zs) (hl : zs.length ≤ 100) (hh : head.size ≤ 1000) : Calls Tryz.prog 28 #[.string head, .slice A0 zs.length c0] w fun e w' => ∃ r : ByteArray, e = .returned (.string r) ∧ bl r = numsW (bl head) zs ++ [10] ∧ Below w.heap.size w w' ∧ r.size ≤ head.size + 1000 := by
  have hb0 := Below.refl w.heap.size w
  obtain ⟨N, hN⟩ : ∃ N, zs.length = N := ⟨_, rfl⟩
  have HN := hidp hN
  have HH := hidp hh
  have HWF := hidp hz.wf
  have hr := hz.at_
  rw [hN] at hl ⊢
  clear hN hh hz
  go_enter Tryz.func28, Tryz.ntmps28
  go_wp2_with fail
  go_loopg [0, 5] N (fun g h i wr => ∃ (k : Nat) (S : ByteArray), k + g = N ∧ i = .int .i64 k ∧ h = .string S ∧ Hid (bl S = numsW (bl head) (zs.take k)) ∧ Hid (S.size ≤ head.size + 8 * k) ∧ Below w.heap.size w wr)
  case atStart => exact ⟨0, head, by omega, rfl, rfl, hidp rfl, hidp (by omega), hb0⟩
  case round =>
    clear hb0
    obtain ⟨k, S, hk, rfl, rfl, HI, HSz, hbr⟩ := hrel
    have hS : S.size ≤ 1800 := by have := HSz.out; have := HH.out; omega
    by_cases hin : k < N
    · have hr2 : Row wr .i64 A0 zs := hr.mono (Keeps.of_below hbr)
      obtain ⟨g, off, rfl, hc⟩ := hr2.resolve_left (by intro e; have := HN.out; rw [e] at this; simp at this; omega)
      have hkl : k < zs.length := by rw [HN.out]; exact hin
      obtain ⟨n, Hn⟩ : ∃ n, Hid (zs.getD k 0 = n) := ⟨_, hidp rfl⟩
      have c1 : wr.cell? ⟨g, off + k, none⟩ = some (.int .i64 n) := by have := hc k hkl; rwa [Hn.out] at this
      have HTk : Hid (zs.take (k + 1) = zs.take k ++ [n]) := hidp (by
        rw [List.take_succ_eq_append_getElem hkl, ← Hn.out]
        simp [List.getD, hkl])
      have CT := rtext_any n wr (HWF.out n (by rw [← Hn.out]; simp [List.getD, hkl]))
      obtain ⟨x, Hx⟩ : ∃ x, Hid (textV n = x) := ⟨_, hidp rfl⟩
      rw [Hx.out] at CT
      have HCT := hidp CT
      have Hx7 : Hid (bl x = textL n) := hidp (by rw [← Hx.out]; rfl)
      have hx7 : x.size ≤ 7 := by rw [← Hx.out, ← bl_len]; exact textL_len _
      have b1 : (0 : Int) ≤ (k : Int) := by omega
      have b2 : (k : Int) < (N : Int) := by omega
      have wk : IntKind.i64.wrap ((k : Int) + 1) = (k : Int) + 1 := IntWalk.i64_in _ (by omega)
      have HB := hidp hbr
      clear hr hr2 hc hkl CT hbr
      go_wp2_with fail
      refine HCT.out.mono ?_
      rintro e u ⟨rfl, hbu⟩
      have HB2 := hidp (HB.out.trans (hbu.mono HB.out.size))
      clear hbu HCT
      go_wp2_with fail
      go_roundg (gk - 1)
      case measure => omega
      case rel => exact ⟨k + 1, (S ++ ⟨#[32]⟩) ++ x, by omega, by go_num, by go_num, hidp (by rw [HTk.out, numsW_snoc, ← HI.out, ← Hx7.out, bl_append, bl_append]; simp [bl]), hidp (by have := HSz.out; simp only [ByteArray.size_append]; show S.size + 1 + x.size ≤ _; omega), HB2.out⟩
    · obtain rfl : k = N := by omega
      have HB := hidp hbr
      have HV : Hid (bl S = numsW (bl head) zs) := hidp (by rw [HI.out, List.take_of_length_le (by rw [HN.out]; exact Nat.le_refl _)])
      clear hbr hr
      go_wp2_with fail
      go_ret
      exact ⟨S ++ ⟨#[10]⟩, rfl, by rw [bl_append, HV.out]; rfl, HB.out, by have := HSz.out; simp only [ByteArray.size_append]; show S.size + 1 ≤ _; omega⟩
end Go.Proofs.YtlmliefkhidpnaaGreatDoor

namespace Go.Proofs.YtlmliefkhidpnaaGreatDoor
open Go.ChangeShapes Go.WideShapes Go.ChangeAt Go.RowKit
set_option linter.unusedVariables false
theorem joinT_sum (c : UInt8) (l : List Bts) : (joinT c l).length ≤ (l.map List.length).sum + l.length := by
  induction l with
  | nil => simp [joinT]
  | cons w r ih =>
    cases r with
    | nil => simp [joinT]
    | cons v r =>
      show (w ++ c :: joinT c (v :: r)).length ≤ _
      rw [List.length_append, List.length_cons, List.map_cons, List.sum_cons, List.length_cons]
      omega
theorem sum_map_le {α : Type} {f : α → Nat} {m : Nat} (l : List α) (h : ∀ x ∈ l, f x ≤ m) : (l.map f).sum ≤ l.length * m := by
  induction l with
  | nil => simp
  | cons a t ih =>
    rw [List.map_cons, List.sum_cons, List.length_cons, Nat.succ_mul]
    have := h a (by simp)
    have := ih (fun x hx => h x (List.mem_cons_of_mem _ hx))
    omega
theorem textL_four {n : Int} (h : 0 ≤ n ∧ n ≤ 9999) : (textL n).length ≤ 4 := by
  rw [textL_dec (by omega), Lib.decDigits_length]
  have key : ∀ m, ∀ n, n < 10 ^ (m + 1) → Lib.nDigits n ≤ m + 1 := by
    intro m
    induction m with
    | zero => intro n hn; rw [Lib.nDigits_small (by simpa using hn)]; omega
    | succ m ih =>
      intro n hn
      by_cases h10 : n < 10
      · rw [Lib.nDigits_small h10]; omega
      · rw [Lib.nDigits_big h10]
        have := ih (n / 10) (by rw [Nat.pow_succ] at hn; omega)
        omega
  exact key 3 n.toNat (by omega)
theorem nums_short {h : Bts} {l : List Int} (hl : ∀ n ∈ l, 0 ≤ n ∧ n ≤ 9999) : (numsW h l).length ≤ h.length + l.length * 4 + (l.length + 1) := by
  unfold numsW
  refine Nat.le_trans (joinT_sum 32 _) ?_
  rw [List.map_cons, List.sum_cons, List.map_map, List.length_cons, List.length_map]
  have := sum_map_le (f := List.length ∘ textL) (m := 4) l (fun n hn => textL_four (hl n hn))
  omega
theorem print_short {s : SetR} (h : okS s = true) : (printT s.rd).length ≤ 2000 := by
  have g := Good.of h
  have hi := (okS_iff s).1 h
  have ep : (mkB (protoW s.proto)).size ≤ 5 := protoW_len _
  rw [← bl_len, bl_mk] at ep
  have ec : (numsW [99, 111, 114, 101, 115] s.cores).length ≤ 30 := by
    have h1 := nums_short (h := [99, 111, 114, 101, 115]) (l := s.cores) (fun n hn => by have := g.cores n hn; omega)
    have h2 := g.ncores.2
    simp at h1
    omega
  have eh : (numsW [104, 111, 109, 101, 115] s.homes).length ≤ 30 := by
    have h1 := nums_short (h := [104, 111, 109, 101, 115]) (l := s.homes) (fun n hn => by have := g.homes n hn; have := g.ncores.2; omega)
    have h2 := g.nhomes
    simp at h1
    omega
  have et : ∀ t ∈ s.rd.tasks, (taskW t).length ≤ 150 := by
    intro t ht
    obtain ⟨u, hu, rfl⟩ := List.mem_map.1 ht
    have hf := g.form u hu
    have hp := g.place u hu
    unfold formB at hf
    simp only [Bool.and_eq_true] at hf
    obtain ⟨f1, f2, f3, f4⟩ := hf
    have f2 := inB_true.1 f2
    have f3 := inB_true.1 f3
    have f4 := inB_true.1 f4
    have hnc := g.ncores.2
    have hnm := nameB_size f1
    have hpl : u.parts.length ≤ 6 := by
      obtain ⟨k, hk, rfl⟩ := mem_getD hu
      have h2 := (taskE_ok (hi.2 k hk)).2.2.2
      unfold partsB at h2
      rw [Bool.and_eq_true] at h2
      have := inB_true.1 h2.1
      omega
    have h1 := nums_short (h := [116, 97, 115, 107, 32] ++ bl u.name) (l := [u.per, u.dl, u.prio, u.cl]) (fun n hn => by
      simp only [List.mem_cons, List.not_mem_nil, or_false] at hn
      rcases hn with e | e | e | e <;> (rw [e]; constructor <;> omega))
    rw [List.length_append, bl_len] at h1
    have h0 : ([116, 97, 115, 107, 32] : Bts).length = 5 := rfl
    have h00 : [u.per, u.dl, u.prio, u.cl].length = 4 := rfl
    rw [h0, h00] at h1
    have h2 : ∀ p ∈ u.parts, (partW p.t).length ≤ 14 := fun p hp => by
      have hg := (good_of h).tasks _ (List.mem_map.2 ⟨u, hu, rfl⟩)
      have hq := hg.parts p.t (List.mem_map.2 ⟨p, hp, rfl⟩)
      have hg2 := (g.parts u hu).good p hp
      have l1 := textL_four (n := p.len) (by have := hg2.2; omega)
      have l2 := textL_four (n := p.res) (by
        have := hq.2.2
        have hr : (p.t).res = p.res := rfl
        rw [hr] at this
        rcases hg2.1 with e | e | e
        · rcases hq.1 with ⟨_, x⟩ | ⟨x, _⟩ | x
          · have : p.res = 0 := x; omega
          · have : p.kind = 2 := x; omega
          · have : p.kind = 3 := x; omega
        · rcases hq.1 with ⟨x, _⟩ | ⟨_, x⟩ | x
          · have : p.kind = 1 := x; omega
          · have : p.res = 0 := x; omega
          · have : p.kind = 3 := x; omega
        · have := hg2.2.2.2 e; have := g.nhomes; omega)
      unfold partW PartM.t tRun tSleep tLock
      dsimp only
      split
      · simp; omega
      · split
        · simp; omega
        · simp; omega
    unfold taskW TaskR.rd
    refine Nat.le_trans (joinT_sum 32 _) ?_
    dsimp only
    rw [List.map_cons, List.sum_cons, List.length_cons, List.length_map, List.length_map, List.map_map, List.map_map]
    have h3 := sum_map_le (f := List.length ∘ partW ∘ PartM.t) (m := 14) u.parts h2
    have h4 : u.parts.length * 14 ≤ 84 := by omega
    have h5 : (numsW ([116, 97, 115, 107, 32] ++ bl u.name) [u.per, u.dl, u.prio, u.cl]).length ≤ 40 := by omega
    have h6 : (u.parts.map (List.length ∘ partW ∘ PartM.t)).sum ≤ 84 := Nat.le_trans h3 h4
    have h7 : (u.parts.map ((List.length ∘ partW) ∘ PartM.t)).sum = (u.parts.map (List.length ∘ partW ∘ PartM.t)).sum := rfl
    omega
  have hn : s.rd.tasks.length ≤ 6 := by
    have := g.ntasks.2
    simpa [SetR.rd] using this
  have hlen : (ended (linesOf s.rd)).length = ((linesOf s.rd).map (fun l => l.length + 1)).sum := by
    generalize linesOf s.rd = ls
    induction ls with
    | nil => rfl
    | cons a t ih =>
      have e : ended (a :: t) = a ++ [10] ++ ended t := by simp [ended]
      rw [e, List.length_append, ih]; simp
  rw [print_lines, hlen]
  unfold linesOf
  rw [List.map_cons, List.map_cons, List.sum_cons, List.sum_cons, List.map_append, List.sum_append, List.map_map]
  have h1 := sum_map_le (f := (fun l : Bts => l.length + 1) ∘ taskW) (m := 151) s.rd.tasks (fun t ht => by have := et t ht; show (taskW t).length + 1 ≤ 151; omega)
  have h2 : s.rd.tasks.length * 151 ≤ 906 := by omega
  have h3 : ((if s.rd.homes = [] then [] else [numsW [104, 111, 109, 101, 115] s.rd.homes]).map (fun l : Bts => l.length + 1)).sum ≤ 31 := by
    split
    · simp
    · have : (numsW [104, 111, 109, 101, 115] s.rd.homes).length ≤ 30 := eh
      simp; omega
  have h4 : ([112, 114, 111, 116, 111, 99, 111, 108, 32] ++ protoW s.rd.proto : Bts).length ≤ 14 := by
    rw [List.length_append]
    have : (protoW s.rd.proto).length ≤ 5 := ep
    have h0 : ([112, 114, 111, 116, 111, 99, 111, 108, 32] : Bts).length = 9 := rfl
    omega
  have h5 : (numsW [99, 111, 114, 101, 115] s.rd.cores).length ≤ 30 := ec
  omega
end Go.Proofs.YtlmliefkhidpnaaGreatDoor

namespace Go.Proofs.YtlmliefkhidpnaaGreatDoor
open Go.ChangeShapes Go.WideShapes Go.ChangeAt Go.RowKit
set_option linter.unusedVariables false
set_option linter.unusedSimpArgs false
theorem joinT_end (c : UInt8) (h : Bts) (l : List Bts) : joinT c (h :: l) ++ [c] = (h :: l).flatMap (fun x => x ++ [c]) := by
  induction l generalizing h with
  | nil => simp [joinT]
  | cons a t ih =>
    show (h ++ c :: joinT c (a :: t)) ++ [c] = _
    rw [List.append_assoc, List.cons_append, ih a]; simp
/-- the lines ahead of the tasks' -/
def headL (s : SetR) : Bts := (tProto ++ protoW s.proto) ++ 10 :: (numsW tCores s.cores ++ 10 :: (if s.homes = [] then [] else numsW tHomes s.homes ++ [10]))
theorem printV_flat {s : SetR} (h : okS s = true) : printV s = headL s ++ s.tasks.flatMap (fun t => taskW t.rd ++ [10]) := by
  unfold printV
  rw [if_pos h]
  unfold printT
  rw [joinT_end]
  unfold headL SetR.rd
  dsimp only
  by_cases hh : s.homes = []
  · rw [if_pos hh, if_pos hh]
    simp [List.flatMap_map, tProto, tCores]
  · rw [if_neg hh, if_neg hh]
    simp [List.flatMap_map, tProto, tCores, tHomes]
def partsW (ps : List PartM) : Bts := ps.flatMap (fun p => 32 :: partW p.t)
theorem partsW_take {l : List PartM} {k : Nat} (h : k < l.length) {p : PartM} (hp : l.getD k default = p) : partsW (l.take (k + 1)) = partsW (l.take k) ++ 32 :: partW p.t := by
  unfold partsW
  rw [List.take_succ_eq_append_getElem h, List.flatMap_append, ← hp]
  simp [List.getD, h]
theorem taskW_rd (t : TaskR) : taskW t.rd = [116, 97, 115, 107, 32] ++ bl t.name ++ 32 :: textL t.per ++ 32 :: textL t.dl ++ 32 :: textL t.prio ++ 32 :: textL t.cl ++ partsW t.parts := by
  rw [taskW_flat]
  unfold TaskR.rd partsW
  simp [List.flatMap_map]
theorem rtext_calls (n : Int) (hn : I64 n) : ∃ r : ByteArray, Hid (bl r = textL n) ∧ r.size ≤ 7 ∧ Hid (∀ v, Calls Tryz.prog 29 #[.int .i64 n] v fun e w' => e = .returned (.string r) ∧ Below v.heap.size v w') :=
  ⟨textV n, hidp rfl, by rw [← bl_len]; exact textL_len n, hidp (fun v => rtext_any n v hn)⟩
set_option maxHeartbeats 16000000 in
set_option maxRecDepth 100000 in
theorem rprint_any (s : SetR) (w : World) (hs : SetOk w s) : Calls Tryz.prog 10 #[.agg #[.int .i64 s.proto, .slice s.ca s.cores.length s.cc, .slice s.ha s.homes.length s.hc, .slice s.ta s.tasks.length s.tc]] w (StrPost w (printV s)) := by
  obtain ⟨proto, ca, cc, cores, ha, hc, homes, ta, tc, tasks⟩ := s
  have hb0 := (Below.refl w.heap.size w).alloc (Nat.le_refl _) (.cells #[.int .i64 proto, .slice ca cores.length cc, .slice ha homes.length hc, .slice ta tasks.length tc] 25)
  have sb : SetCells (w.alloc (.cells #[.int .i64 proto, .slice ca cores.length cc, .slice ha homes.length hc, .slice ta tasks.length tc] 25)) w.heap.size ⟨proto, ca, cc, cores, ha, hc, homes, ta, tc, tasks⟩ := SetCells.new w ⟨proto, ca, cc, cores, ha, hc, homes, ta, tc, tasks⟩ _
  have hs0 := hs.keep (Keeps.of_below hb0)
  have CO := rok_any _ _ hs0
  obtain ⟨okb, Hok⟩ : ∃ v, Hid (okS ⟨proto, ca, cc, cores, ha, hc, homes, ta, tc, tasks⟩ = v) := ⟨_, hidp rfl⟩
  rw [Hok.out] at CO
  have HCO := hidp CO
  have HB0 := hidp hb0
  have SB := hidp sb
  have HS := hidp hs
  clear hb0 sb hs0 CO hs
  cases okb with
  | false =>
    have HV : Hid (printV ⟨proto, ca, cc, cores, ha, hc, homes, ta, tc, tasks⟩ = []) := hidp (by unfold printV; rw [Hok.out, if_neg (by decide)])
    obtain ⟨d0, d1, d2, d3⟩ := SB.out
    go_enter Tryz.func10, Tryz.ntmps10
    go_wp2_with fail
    refine HCO.out.mono ?_
    rintro e u ⟨rfl, hbu⟩
    have HB := hidp (HB0.out.trans (hbu.mono HB0.out.size))
    clear hbu HCO HB0
    go_wp2_with fail
    go_ret
    exact ⟨⟨#[]⟩, rfl, by rw [HV.out]; rfl, HB.out⟩
  | true =>
  have HBf := hidp (Brief.of Hok.out)
  have hc3 := HBf.out.cores
  have hh4 := HBf.out.homes
  have ht6 := HBf.out.tasks
  dsimp only at hc3 hh4 ht6
  obtain ⟨N, hN⟩ : ∃ N, tasks.length = N := ⟨_, rfl⟩
  have HN := hidp hN
  rw [hN] at ht6 HCO HB0 SB ⊢
  go_enter Tryz.func10, Tryz.ntmps10
  go_wp2_with fail
  refine HCO.out.mono ?_
  rintro e u ⟨rfl, hbu⟩
  have HB := hidp (HB0.out.trans (hbu.mono HB0.out.size))
  have sc := SB.out.keep (Keeps.of_below hbu)
  clear hbu HB0 SB HCO
  have sd : SetCells u.drew w.heap.size ⟨proto, ca, cc, cores, ha, hc, homes, ta, tc, tasks⟩ := sc
  obtain ⟨d0, d1, d2, d3⟩ := sd
  obtain ⟨W, HW⟩ : ∃ W, Hid (mkB (protoW proto) = W) := ⟨_, hidp rfl⟩
  have hW : W.size ≤ 5 := by rw [← HW.out]; exact protoW_len proto
  have CW : Hid (∀ v, Calls Tryz.prog 27 #[.int .i64 proto] v fun e w' => e = .returned (.string W) ∧ v = w') := hidp (fun v => by have := rword_any proto v; rwa [HW.out] at this)
  have k1 : ¬ 9223372036854775807 < 9 + W.size := by omega
  have k2 : ¬ 9223372036854775807 < 9 + W.size + 1 := by omega
  dsimp only at d0 d1 d2 d3
  rw [hN] at d3
  clear hN
  have hb : Below u.drew.heap.size u.drew u.drew := Below.refl _ _
  have HI : Hid (∀ v, Below u.drew.heap.size u.drew v → IntsOk v ca cc cores ∧ IntsOk v ha hc homes) := hidp (fun v hv => ⟨((HS.out.cores.keep (Keeps.of_below HB.out)).keep (Keeps.drew u)).keep (Keeps.of_below hv), ((HS.out.homes.keep (Keeps.of_below HB.out)).keep (Keeps.drew u)).keep (Keeps.of_below hv)⟩)
  have S' : u.drew.cell? ⟨w.heap.size, 0, none⟩ = some (.int .i64 proto) ∧ u.drew.cell? ⟨w.heap.size, 1, none⟩ = some (.slice ca cores.length cc) := ⟨d0, d1⟩
  have D23 := hidp (And.intro d2 d3)
  have HL3 : Hid (cores.length ≤ 100) := hidp (by omega)
  have HL4 : Hid (homes.length ≤ 100) := hidp (by omega)
  clear hc3 hh4 d0 d1 d2 d3
  go_wp2_with fail
  go_region_held3 (fun w' => w'.cell? ⟨w.heap.size, 0, none⟩ = some (.int .i64 proto) ∧ w'.cell? ⟨w.heap.size, 1, none⟩ = some (.slice ca cores.length cc)) (exact S')
    (first
    | (go_at_call 27; (with_reducible refine (CW.out _).mono ?_); rintro e w2 ⟨rfl, rfl⟩)
    | (go_at_call 28; (with_reducible refine (rnline_any _ _ _ _ _ (HI.out _ hb).1 HL3.out (by decide)).mono ?_); rintro e w2 ⟨r, rfl, hv, hb2, hr⟩; have HVr := hidp hv; replace S' := And.intro ((Keeps.of_below hb2) _ _ S'.1) ((Keeps.of_below hb2) _ _ S'.2); replace hb := hb.trans (hb2.mono hb.size); clear hv; replace hr : r.size ≤ 1005 := hr; have k3 : ¬ 9223372036854775807 < 9 + W.size + 1 + r.size := by omega))
  have HO1 : Hid (bl ((⟨#[112, 114, 111, 116, 111, 99, 111, 108, 32]⟩ : ByteArray) ++ W ++ ⟨#[10]⟩ ++ r) = (tProto ++ protoW proto) ++ 10 :: (numsW tCores cores ++ [10]) ∧ ((⟨#[112, 114, 111, 116, 111, 99, 111, 108, 32]⟩ : ByteArray) ++ W ++ ⟨#[10]⟩ ++ r).size ≤ 1020) := hidp ⟨by
    rw [bl_append, bl_append, bl_append, HVr.out, ← HW.out, bl_mk]
    show tProto ++ protoW proto ++ [10] ++ (numsW tCores cores ++ [10]) = _
    simp, by
    rw [ByteArray.size_append, ByteArray.size_append, ByteArray.size_append]
    show 9 + W.size + 1 + r.size ≤ 1020
    omega⟩
  have c2 := (Keeps.of_below hb) _ _ D23.out.1
  have HBW := hidp hb
  have HI2 := hidp (HI.out _ hb).2
  have hX := HO1.out.2
  go_upto_if 23 with fail
  generalize hO : (⟨#[112, 114, 111, 116, 111, 99, 111, 108, 32]⟩ : ByteArray) ++ W ++ ⟨#[10]⟩ ++ r = X at *
  clear hO k1 k2 k3 hr hb S' CW hW
  go_cut [3] from 23 to 28 (fun x wx => ∃ o : ByteArray, x = .string o ∧ Hid (bl o = headL ⟨proto, ca, cc, cores, ha, hc, homes, ta, tc, tasks⟩) ∧ o.size ≤ 3000 ∧ Hid (Below u.drew.heap.size u.drew wx))
  case first =>
    by_cases hh : homes = []
    · have gH : ¬ (0 : Int) < (homes.length : Int) := by rw [hh]; decide
      have HHD : Hid (bl X = headL ⟨proto, ca, cc, cores, ha, hc, homes, ta, tc, tasks⟩) := hidp (by unfold headL; dsimp only; rw [HO1.out.1, if_pos hh])
      clear hh
      go_wp2_with fail
      go_meet
      case rel => exact ⟨X, rfl, HHD, by omega, HBW⟩
    · have gH : (0 : Int) < (homes.length : Int) := by have := List.length_pos_iff.2 hh; omega
      have CH := hidp (rnline_any ⟨#[104, 111, 109, 101, 115]⟩ _ _ _ _ HI2.out HL4.out (by decide))
      have HH := hidp hh
      clear hh
      go_wp2_with fail
      refine CH.out.mono ?_
      rintro e w3 ⟨r2, rfl, hv2, hb3, hr2⟩
      have hr2 : r2.size ≤ 1005 := hr2
      have HHD : Hid (bl (X ++ r2) = headL ⟨proto, ca, cc, cores, ha, hc, homes, ta, tc, tasks⟩ ∧ (X ++ r2).size ≤ 3000) := hidp ⟨by
        rw [bl_append, HO1.out.1, hv2]
        unfold headL
        dsimp only
        rw [if_neg HH.out]
        show _ ++ (numsW tHomes homes ++ [10]) = _
        simp, by rw [ByteArray.size_append]; omega⟩
      have HB3 := hidp (HBW.out.trans (hb3.mono HBW.out.size))
      have k4 : ¬ 9223372036854775807 < X.size + r2.size := by omega
      clear hv2 hb3 CH c2
      go_wp2_with fail
      go_meet
      case rel => exact ⟨X ++ r2, rfl, hidp HHD.out.1, HHD.out.2, HB3⟩
  case rest =>
    obtain ⟨o0, rfl, HO0, ho0, HB0c⟩ := hcut
    clear c2 HBW HO1 hX HI2
    go_wp2_with fail
    go_loopg [3, 4] N (fun g out i wr => ∃ (k : Nat) (o : ByteArray), k + g = N ∧ i = .int .i64 k ∧ out = .string o ∧ Hid (bl o = headL ⟨proto, ca, cc, cores, ha, hc, homes, ta, tc, tasks⟩ ++ (tasks.take k).flatMap (fun t => taskW t.rd ++ [10])) ∧ o.size ≤ 3000 + 6000 * k ∧ Hid (Below u.drew.heap.size u.drew wr))
    case atStart => exact ⟨0, o0, by omega, rfl, rfl, hidp (by rw [HO0.out]; simp), by omega, HB0c⟩
    case round =>
      clear HO0 ho0 HB0c
      obtain ⟨k, o, hk, rfl, rfl, HI, ho, HBr⟩ := hrel
      obtain ⟨wo, rfl⟩ : ∃ x, x = wr := ⟨_, rfl⟩
      have KR := Keeps.of_below HBr.out
      have c3 := KR _ _ D23.out.2
      have wk : IntKind.i64.wrap ((k : Int) + 1) = (k : Int) + 1 := IntWalk.i64_in _ (by omega)
      by_cases hin : k < N
      · obtain ⟨gt, ot, rfl, hc⟩ := ((((HS.out.tasks.at_.keep (Keeps.of_below HB.out))).keep (Keeps.drew u)).keep KR).resolve_left (by intro e; have := HN.out; dsimp only at e; rw [e] at this; simp at this; omega)
        have hkl : k < tasks.length := by rw [HN.out]; exact hin
        obtain ⟨⟨nm, per, dl, prio, cl, pa, pc, ps⟩, Ht⟩ : ∃ t, Hid (tasks.getD k default = t) := ⟨_, hidp rfl⟩
        obtain ⟨c10, c11, c12, c13, c14, c15⟩ : TaskCells wo gt (ot + k * 6) ⟨nm, per, dl, prio, cl, pa, pc, ps⟩ := Ht.out ▸ hc k hkl
        dsimp only at c10 c11 c12 c13 c14 c15
        have HTm : Hid ((⟨nm, per, dl, prio, cl, pa, pc, ps⟩ : TaskR) ∈ tasks) := hidp (by rw [← Ht.out]; simp [List.getD, hkl])
        have HTk : Hid ((tasks.take (k + 1)).flatMap (fun t => taskW t.rd ++ [10]) = (tasks.take k).flatMap (fun t => taskW t.rd ++ [10]) ++ (taskW (TaskR.rd ⟨nm, per, dl, prio, cl, pa, pc, ps⟩) ++ [10])) := hidp (by
          rw [List.take_succ_eq_append_getElem hkl, List.flatMap_append, ← Ht.out]
          simp [List.getD, hkl])
        have TO := HS.out.tasks.ok _ HTm.out
        have hnm := HBf.out.name _ HTm.out
        have hps := HBf.out.parts _ HTm.out
        dsimp only at hnm hps
        obtain ⟨x1, H1, s1, C1⟩ := rtext_calls per TO.per
        obtain ⟨x2, H2, s2, C2⟩ := rtext_calls dl TO.dl
        obtain ⟨x3, H3, s3, C3⟩ := rtext_calls prio TO.prio
        obtain ⟨x4, H4, s4, C4⟩ := rtext_calls cl TO.cl
        have HTW := hidp (taskW_rd ⟨nm, per, dl, prio, cl, pa, pc, ps⟩)
        have HTO := hidp TO
        have b1 : (0 : Int) ≤ (k : Int) := by omega
        have b2 : (k : Int) < (N : Int) := by omega
        have BP := Bk.new wo 44 #[.string nm, .int .i64 per, .int .i64 dl, .int .i64 prio, .int .i64 cl, .slice pa ps.length pc]
        have hba : Below wo.heap.size wo (wo.alloc (.cells #[.string nm, .int .i64 per, .int .i64 dl, .int .i64 prio, .int .i64 cl, .slice pa ps.length pc] 44)) := (Below.refl _ wo).alloc (Nat.le_refl _) _
        have HB1 := hidp (HBr.out.trans (hba.mono HBr.out.size))
        have HC5 := hidp (BP.cell 5)
        have y0 : (wo.alloc (.cells #[.string nm, .int .i64 per, .int .i64 dl, .int .i64 prio, .int .i64 cl, .slice pa ps.length pc] 44)).drew.cell? ⟨wo.heap.size, 0, none⟩ = some (.string nm) := BP.cell 0
        have y1 : (wo.alloc (.cells #[.string nm, .int .i64 per, .int .i64 dl, .int .i64 prio, .int .i64 cl, .slice pa ps.length pc] 44)).drew.cell? ⟨wo.heap.size, 1, none⟩ = some (.int .i64 per) := BP.cell 1
        have y2 : (wo.alloc (.cells #[.string nm, .int .i64 per, .int .i64 dl, .int .i64 prio, .int .i64 cl, .slice pa ps.length pc] 44)).drew.cell? ⟨wo.heap.size, 2, none⟩ = some (.int .i64 dl) := BP.cell 2
        have y3 : (wo.alloc (.cells #[.string nm, .int .i64 per, .int .i64 dl, .int .i64 prio, .int .i64 cl, .slice pa ps.length pc] 44)).drew.cell? ⟨wo.heap.size, 3, none⟩ = some (.int .i64 prio) := BP.cell 3
        have y4 : (wo.alloc (.cells #[.string nm, .int .i64 per, .int .i64 dl, .int .i64 prio, .int .i64 cl, .slice pa ps.length pc] 44)).drew.cell? ⟨wo.heap.size, 4, none⟩ = some (.int .i64 cl) := BP.cell 4
        have y5 : (wo.alloc (.cells #[.string nm, .int .i64 per, .int .i64 dl, .int .i64 prio, .int .i64 cl, .slice pa ps.length pc] 44)).drew.cell? ⟨wo.heap.size, 5, none⟩ = some (.slice pa ps.length pc) := BP.cell 5
        have S' : (wo.alloc (.cells #[.string nm, .int .i64 per, .int .i64 dl, .int .i64 prio, .int .i64 cl, .slice pa ps.length pc] 44)).drew.cell? ⟨wo.heap.size, 0, none⟩ = some (.string nm) ∧ (wo.alloc (.cells #[.string nm, .int .i64 per, .int .i64 dl, .int .i64 prio, .int .i64 cl, .slice pa ps.length pc] 44)).drew.cell? ⟨wo.heap.size, 1, none⟩ = some (.int .i64 per) ∧ (wo.alloc (.cells #[.string nm, .int .i64 per, .int .i64 dl, .int .i64 prio, .int .i64 cl, .slice pa ps.length pc] 44)).drew.cell? ⟨wo.heap.size, 2, none⟩ = some (.int .i64 dl) ∧ (wo.alloc (.cells #[.string nm, .int .i64 per, .int .i64 dl, .int .i64 prio, .int .i64 cl, .slice pa ps.length pc] 44)).drew.cell? ⟨wo.heap.size, 3, none⟩ = some (.int .i64 prio) ∧ (wo.alloc (.cells #[.string nm, .int .i64 per, .int .i64 dl, .int .i64 prio, .int .i64 cl, .slice pa ps.length pc] 44)).drew.cell? ⟨wo.heap.size, 4, none⟩ = some (.int .i64 cl) := ⟨y0, y1, y2, y3, y4⟩
        have hb : Below (wo.alloc (.cells #[.string nm, .int .i64 per, .int .i64 dl, .int .i64 prio, .int .i64 cl, .slice pa ps.length pc] 44)).drew.heap.size (wo.alloc (.cells #[.string nm, .int .i64 per, .int .i64 dl, .int .i64 prio, .int .i64 cl, .slice pa ps.length pc] 44)).drew (wo.alloc (.cells #[.string nm, .int .i64 per, .int .i64 dl, .int .i64 prio, .int .i64 cl, .slice pa ps.length pc] 44)).drew := Below.refl _ _
        have hk6 : k ≤ 6 := by omega
        have m0 : ¬ 9223372036854775807 < o.size + 5 := by omega
        have m1 : ¬ 9223372036854775807 < o.size + 5 + nm.size := by omega
        have m2 : ¬ 9223372036854775807 < o.size + 5 + nm.size + 1 := by omega
        have m3 : ¬ 9223372036854775807 < o.size + 5 + nm.size + 1 + x1.size := by omega
        have m4 : ¬ 9223372036854775807 < o.size + 5 + nm.size + 1 + x1.size + 1 := by omega
        have m5 : ¬ 9223372036854775807 < o.size + 5 + nm.size + 1 + x1.size + 1 + x2.size := by omega
        have m6 : ¬ 9223372036854775807 < o.size + 5 + nm.size + 1 + x1.size + 1 + x2.size + 1 := by omega
        have m7 : ¬ 9223372036854775807 < o.size + 5 + nm.size + 1 + x1.size + 1 + x2.size + 1 + x3.size := by omega
        have m8 : ¬ 9223372036854775807 < o.size + 5 + nm.size + 1 + x1.size + 1 + x2.size + 1 + x3.size + 1 := by omega
        have m9 : ¬ 9223372036854775807 < o.size + 5 + nm.size + 1 + x1.size + 1 + x2.size + 1 + x3.size + 1 + x4.size := by omega
        have HX : Hid (bl (o ++ ⟨#[116, 97, 115, 107, 32]⟩ ++ nm ++ ⟨#[32]⟩ ++ x1 ++ ⟨#[32]⟩ ++ x2 ++ ⟨#[32]⟩ ++ x3 ++ ⟨#[32]⟩ ++ x4) = bl o ++ [116, 97, 115, 107, 32] ++ bl nm ++ 32 :: textL per ++ 32 :: textL dl ++ 32 :: textL prio ++ 32 :: textL cl ∧ (o ++ ⟨#[116, 97, 115, 107, 32]⟩ ++ nm ++ ⟨#[32]⟩ ++ x1 ++ ⟨#[32]⟩ ++ x2 ++ ⟨#[32]⟩ ++ x3 ++ ⟨#[32]⟩ ++ x4).size ≤ 3200 + 6000 * k) := hidp ⟨by
          simp only [bl_append, H1.out, H2.out, H3.out, H4.out]
          show bl o ++ [116, 97, 115, 107, 32] ++ bl nm ++ [32] ++ textL per ++ [32] ++ textL dl ++ [32] ++ textL prio ++ [32] ++ textL cl = _
          simp, by
          simp only [ByteArray.size_append]
          show o.size + 5 + nm.size + 1 + x1.size + 1 + x2.size + 1 + x3.size + 1 + x4.size ≤ _
          omega⟩
        clear hc hkl TO KR hba BP y0 y1 y2 y3 y4 y5
        go_wp2_with fail
        go_region_held3 (fun w' => w'.cell? ⟨wo.heap.size, 0, none⟩ = some (.string nm) ∧ w'.cell? ⟨wo.heap.size, 1, none⟩ = some (.int .i64 per) ∧ w'.cell? ⟨wo.heap.size, 2, none⟩ = some (.int .i64 dl) ∧ w'.cell? ⟨wo.heap.size, 3, none⟩ = some (.int .i64 prio) ∧ w'.cell? ⟨wo.heap.size, 4, none⟩ = some (.int .i64 cl)) (exact S')
          (first
          | (go_at_call 29; (with_reducible refine (C1.out _).mono ?_); rintro e w2 ⟨rfl, hb2⟩; replace S' := (And.intro ((Keeps.of_below hb2) _ _ S'.1) (And.intro ((Keeps.of_below hb2) _ _ S'.2.1) (And.intro ((Keeps.of_below hb2) _ _ S'.2.2.1) (And.intro ((Keeps.of_below hb2) _ _ S'.2.2.2.1) ((Keeps.of_below hb2) _ _ S'.2.2.2.2))))); replace hb := hb.trans (hb2.mono hb.size))
          | (go_at_call 29; (with_reducible refine (C2.out _).mono ?_); rintro e w2 ⟨rfl, hb2⟩; replace S' := (And.intro ((Keeps.of_below hb2) _ _ S'.1) (And.intro ((Keeps.of_below hb2) _ _ S'.2.1) (And.intro ((Keeps.of_below hb2) _ _ S'.2.2.1) (And.intro ((Keeps.of_below hb2) _ _ S'.2.2.2.1) ((Keeps.of_below hb2) _ _ S'.2.2.2.2))))); replace hb := hb.trans (hb2.mono hb.size))
          | (go_at_call 29; (with_reducible refine (C3.out _).mono ?_); rintro e w2 ⟨rfl, hb2⟩; replace S' := (And.intro ((Keeps.of_below hb2) _ _ S'.1) (And.intro ((Keeps.of_below hb2) _ _ S'.2.1) (And.intro ((Keeps.of_below hb2) _ _ S'.2.2.1) (And.intro ((Keeps.of_below hb2) _ _ S'.2.2.2.1) ((Keeps.of_below hb2) _ _ S'.2.2.2.2))))); replace hb := hb.trans (hb2.mono hb.size))
          | (go_at_call 29; (with_reducible refine (C4.out _).mono ?_); rintro e w2 ⟨rfl, hb2⟩; replace S' := (And.intro ((Keeps.of_below hb2) _ _ S'.1) (And.intro ((Keeps.of_below hb2) _ _ S'.2.1) (And.intro ((Keeps.of_below hb2) _ _ S'.2.2.1) (And.intro ((Keeps.of_below hb2) _ _ S'.2.2.2.1) ((Keeps.of_below hb2) _ _ S'.2.2.2.2))))); replace hb := hb.trans (hb2.mono hb.size)))
        generalize hq0 : o ++ ⟨#[116, 97, 115, 107, 32]⟩ ++ nm ++ ⟨#[32]⟩ ++ x1 ++ ⟨#[32]⟩ ++ x2 ++ ⟨#[32]⟩ ++ x3 ++ ⟨#[32]⟩ ++ x4 = q0 at *
        have HBW2 := hidp ((below_drewN HB1.out 1).trans (hb.mono (below_drewN HB1.out 1).size))
        have HC5w : Hid (w2.cell? ⟨wo.heap.size, 5, none⟩ = some (.slice pa ps.length pc)) := hidp ((Keeps.of_below hb) _ _ HC5.out)
        have HPA := hidp (((HTO.out.at_.keep (Keeps.of_below HB.out)).keep (Keeps.drew u)).keep (Keeps.of_below HBW2.out))
        obtain ⟨P, hP⟩ : ∃ P, ps.length = P := ⟨_, rfl⟩
        have HP := hidp hP
        have HBq := hidp (Below.refl w2.heap.size w2)
        have hqs := HX.out.2
        rw [hP] at HC5w hps
        clear hP hq0 hb S' C1 C2 C3 C4 m0 m1 m2 m3 m4 m5 m6 m7 m8 m9 HC5 H1 H2 H3 H4 s1 s2 s3 s4
        go_wp2_with fail
        go_loopg [3, 6] P (fun g out i wi => ∃ (j : Nat) (q : ByteArray), j + g = P ∧ i = .int .i64 j ∧ out = .string q ∧ Hid (bl q = bl q0 ++ partsW (ps.take j)) ∧ q.size ≤ 3200 + 6000 * k + 30 * j ∧ Hid (Below w2.heap.size w2 wi))
        case atStart => exact ⟨0, q0, by omega, rfl, rfl, hidp (by simp [partsW]), by omega, HBq⟩
        case round =>
          clear HBq hqs
          obtain ⟨j, q, hj, rfl, rfl, HIq, hq, HBi⟩ := hrel
          have c5 := (Keeps.of_below HBi.out) _ _ HC5w.out
          have wj : IntKind.i64.wrap ((j : Int) + 1) = (j : Int) + 1 := IntWalk.i64_in _ (by omega)
          by_cases hjn : j < P
          · obtain ⟨gp, op, rfl, hcp⟩ := (HPA.out.keep (Keeps.of_below HBi.out)).resolve_left (by intro e; have := HP.out; rw [e] at this; simp at this; omega)
            have hjl : j < ps.length := by rw [HP.out]; exact hjn
            obtain ⟨⟨kd, ln, rs⟩, Hp⟩ : ∃ p, Hid (ps.getD j default = p) := ⟨_, hidp rfl⟩
            obtain ⟨e0, e1, e2⟩ : PartCells wr gp (op + j * 3) ⟨kd, ln, rs⟩ := Hp.out ▸ hcp j hjl
            dsimp only at e0 e1 e2
            have HPk := hidp (partsW_take hjl Hp.out)
            have hwf : PartM.wf ⟨kd, ln, rs⟩ := HTO.out.wf _ (by rw [← Hp.out]; simp [List.getD, hjl])
            obtain ⟨xl, HL, sl, CL⟩ := rtext_calls ln hwf.2.1
            obtain ⟨xr, HR, sr, CR⟩ := rtext_calls rs hwf.2.2
            have b3 : (0 : Int) ≤ (j : Int) := by omega
            have b4 : (j : Int) < (P : Int) := by omega
            have BP := Bk.new wr 46 #[.int .i64 kd, .int .i64 ln, .int .i64 rs]
            have y0 : (wr.alloc (.cells #[.int .i64 kd, .int .i64 ln, .int .i64 rs] 46)).cell? ⟨wr.heap.size, 0, none⟩ = some (.int .i64 kd) := BP.cell 0
            have y1 : (wr.alloc (.cells #[.int .i64 kd, .int .i64 ln, .int .i64 rs] 46)).cell? ⟨wr.heap.size, 1, none⟩ = some (.int .i64 ln) := BP.cell 1
            have y2 : (wr.alloc (.cells #[.int .i64 kd, .int .i64 ln, .int .i64 rs] 46)).cell? ⟨wr.heap.size, 2, none⟩ = some (.int .i64 rs) := BP.cell 2
            have hbp : Below wr.heap.size wr (wr.alloc (.cells #[.int .i64 kd, .int .i64 ln, .int .i64 rs] 46)) := (Below.refl _ wr).alloc (Nat.le_refl _) _
            have HBp := hidp (HBi.out.trans (hbp.mono HBi.out.size))
            have hj100 : j ≤ 100 := by omega
            clear hcp hjl hwf BP hbp
            by_cases h1 : kd = 1
            · have f1 : (kd == 1) = true := by simpa using h1
              have n1 : ¬ 9223372036854775807 < q.size + 5 := by omega
              have n2 : ¬ 9223372036854775807 < q.size + 5 + xl.size := by omega
              have HQ : Hid (bl (q ++ ⟨#[32, 114, 117, 110, 58]⟩ ++ xl) = bl q ++ 32 :: partW (PartM.t ⟨kd, ln, rs⟩) ∧ (q ++ ⟨#[32, 114, 117, 110, 58]⟩ ++ xl).size ≤ q.size + 30) := hidp ⟨by
                simp only [bl_append, HL.out, HR.out]
                unfold partW PartM.t
                dsimp only
                rw [if_pos h1]
                show bl q ++ [32, 114, 117, 110, 58] ++ textL ln = _
                simp [tRun], by
                simp only [ByteArray.size_append]
                show q.size + 5 + xl.size ≤ _
                omega⟩

              clear h1
              go_wp2_with fail
              refine (CL.out _).mono ?_
              rintro e w3 ⟨rfl, hb3⟩
              have HB3 := hidp (HBp.out.trans (hb3.mono HBp.out.size))
              clear hb3 CL CR
              go_wp2_with fail
              go_roundg (gk - 1)
              case measure => omega
              case rel => exact ⟨j + 1, q ++ ⟨#[32, 114, 117, 110, 58]⟩ ++ xl, by omega, by go_num, rfl, hidp (by rw [HQ.out.1, HIq.out, HPk.out]; simp), by have := HQ.out.2; omega, HB3⟩

            have f1 : (kd == 1) = false := by simpa using h1
            by_cases h2 : kd = 2
            · have f2 : (kd == 2) = true := by simpa using h2
              have n1 : ¬ 9223372036854775807 < q.size + 7 := by omega
              have n2 : ¬ 9223372036854775807 < q.size + 7 + xl.size := by omega
              have HQ : Hid (bl (q ++ ⟨#[32, 115, 108, 101, 101, 112, 58]⟩ ++ xl) = bl q ++ 32 :: partW (PartM.t ⟨kd, ln, rs⟩) ∧ (q ++ ⟨#[32, 115, 108, 101, 101, 112, 58]⟩ ++ xl).size ≤ q.size + 30) := hidp ⟨by
                simp only [bl_append, HL.out, HR.out]
                unfold partW PartM.t
                dsimp only
                rw [if_neg h1, if_pos h2]
                show bl q ++ [32, 115, 108, 101, 101, 112, 58] ++ textL ln = _
                simp [tSleep], by
                simp only [ByteArray.size_append]
                show q.size + 7 + xl.size ≤ _
                omega⟩

              clear h1 h2
              go_wp2_with fail
              refine (CL.out _).mono ?_
              rintro e w3 ⟨rfl, hb3⟩
              have HB3 := hidp (HBp.out.trans (hb3.mono HBp.out.size))
              clear hb3 CL CR
              go_wp2_with fail
              go_roundg (gk - 1)
              case measure => omega
              case rel => exact ⟨j + 1, q ++ ⟨#[32, 115, 108, 101, 101, 112, 58]⟩ ++ xl, by omega, by go_num, rfl, hidp (by rw [HQ.out.1, HIq.out, HPk.out]; simp), by have := HQ.out.2; omega, HB3⟩

            have f2 : (kd == 2) = false := by simpa using h2
            have n1 : ¬ 9223372036854775807 < q.size + 6 := by omega
            have n2 : ¬ 9223372036854775807 < q.size + 6 + xr.size := by omega
            have n3 : ¬ 9223372036854775807 < q.size + 6 + xr.size + 1 := by omega
            have n4 : ¬ 9223372036854775807 < q.size + 6 + xr.size + 1 + xl.size := by omega
            have HQ : Hid (bl (q ++ ⟨#[32, 108, 111, 99, 107, 58]⟩ ++ xr ++ ⟨#[58]⟩ ++ xl) = bl q ++ 32 :: partW (PartM.t ⟨kd, ln, rs⟩) ∧ (q ++ ⟨#[32, 108, 111, 99, 107, 58]⟩ ++ xr ++ ⟨#[58]⟩ ++ xl).size ≤ q.size + 30) := hidp ⟨by
              simp only [bl_append, HL.out, HR.out]
              unfold partW PartM.t
              dsimp only
              rw [if_neg h1, if_neg h2]
              show bl q ++ [32, 108, 111, 99, 107, 58] ++ textL rs ++ [58] ++ textL ln = _
              simp [tLock], by
              simp only [ByteArray.size_append]
              show q.size + 6 + xr.size + 1 + xl.size ≤ _
              omega⟩

            have S' : (wr.alloc (.cells #[.int .i64 kd, .int .i64 ln, .int .i64 rs] 46)).drew.cell? ⟨wr.heap.size, 1, none⟩ = some (.int .i64 ln) ∧ (wr.alloc (.cells #[.int .i64 kd, .int .i64 ln, .int .i64 rs] 46)).drew.cell? ⟨wr.heap.size, 2, none⟩ = some (.int .i64 rs) := ⟨y1, y2⟩
            have hb : Below (wr.alloc (.cells #[.int .i64 kd, .int .i64 ln, .int .i64 rs] 46)).drew.heap.size (wr.alloc (.cells #[.int .i64 kd, .int .i64 ln, .int .i64 rs] 46)).drew (wr.alloc (.cells #[.int .i64 kd, .int .i64 ln, .int .i64 rs] 46)).drew := Below.refl _ _
            clear h1 h2
            go_wp2_with fail
            go_region_held3 (fun w' => w'.cell? ⟨wr.heap.size, 1, none⟩ = some (.int .i64 ln) ∧ w'.cell? ⟨wr.heap.size, 2, none⟩ = some (.int .i64 rs)) (exact S')
              (first
              | (go_at_call 29; (with_reducible refine (CL.out _).mono ?_); rintro e w3 ⟨rfl, hb2⟩; replace S' := And.intro ((Keeps.of_below hb2) _ _ S'.1) ((Keeps.of_below hb2) _ _ S'.2); replace hb := hb.trans (hb2.mono hb.size))
              | (go_at_call 29; (with_reducible refine (CR.out _).mono ?_); rintro e w3 ⟨rfl, hb2⟩; replace S' := And.intro ((Keeps.of_below hb2) _ _ S'.1) ((Keeps.of_below hb2) _ _ S'.2); replace hb := hb.trans (hb2.mono hb.size)))
            have HB3 := hidp ((below_drewN HBp.out 1).trans (hb.mono (below_drewN HBp.out 1).size))
            clear hb S' CL CR
            go_wp2_with fail
            go_roundg (gk - 1)
            case measure => omega
            case rel => exact ⟨j + 1, q ++ ⟨#[32, 108, 111, 99, 107, 58]⟩ ++ xr ++ ⟨#[58]⟩ ++ xl, by omega, by go_num, rfl, hidp (by rw [HQ.out.1, HIq.out, HPk.out]; simp), by have := HQ.out.2; omega, HB3⟩

          · obtain rfl : j = P := by omega
            have n1 : ¬ 9223372036854775807 < q.size + 1 := by omega
            have HQ : Hid (bl (q ++ ⟨#[10]⟩) = headL ⟨proto, ca, cc, cores, ha, hc, homes, some ⟨gt, ot, none⟩, tc, tasks⟩ ++ (tasks.take (k + 1)).flatMap (fun t => taskW t.rd ++ [10]) ∧ (q ++ ⟨#[10]⟩).size ≤ 3000 + 6000 * (k + 1)) := hidp ⟨by
              rw [bl_append, HIq.out, List.take_of_length_le (by rw [HP.out]; exact Nat.le_refl _), HX.out.1, HI.out, HTk.out, HTW.out]
              show _ ++ [10] = _
              simp, by
              rw [ByteArray.size_append]
              show q.size + 1 ≤ _
              omega⟩
            have HBe := hidp (HBW2.out.trans (HBi.out.mono HBW2.out.size))
            clear HBi
            go_wp2_with fail
            go_roundg (N - k - 1)
            case measure => omega
            case rel => exact ⟨k + 1, q ++ ⟨#[10]⟩, by omega, by go_num, rfl, hidp HQ.out.1, HQ.out.2, HBe⟩
      · obtain rfl : k = N := by omega
        have HV : Hid (bl o = printV ⟨proto, ca, cc, cores, ha, hc, homes, ta, tc, tasks⟩) := hidp (by
          rw [HI.out, printV_flat Hok.out, List.take_of_length_le (by rw [HN.out]; exact Nat.le_refl _)])
        have HBe := hidp ((below_drewN HB.out 1).trans (HBr.out.mono (below_drewN HB.out 1).size))
        clear KR
        go_wp2_with fail
        go_ret
        exact ⟨o, rfl, HV.out, HBe.out⟩
end Go.Proofs.YtlmliefkhidpnaaGreatDoor

namespace Go.Proofs.YtlmliefkhidpnaaGreatDoor
open Go.ChangeShapes Go.WideShapes Go.ChangeAt Go.RowKit
set_option linter.unusedVariables false
set_option linter.unusedSimpArgs false
/-- what is to be shown of the reference's Parse -/
def RParse : Prop := ∀ (t : ByteArray) (w : World), t.size ≤ 100000 → Calls Tryz.prog 8 #[.string t] w (ParsePost w (parseV (bl t)))
set_option maxHeartbeats 4000000 in
theorem reads_of (RP : RParse) (t : ByteArray) (m : Int) (w : World) (hm : w.cell? ⟨0, 0, none⟩ = some (.int .i64 m)) (ht : t.size ≤ 100000) : Calls Tryz.prog 14 #[.string t] w fun e w' => e = .returned (.bool true) ∧ Below w.heap.size w w' := by
  obtain ⟨⟨S, p, q⟩, HV⟩ : ∃ v, Hid (parseV (bl t) = v) := ⟨_, hidp rfl⟩
  have C1 := parse_any t m w hm
  have C2 : Hid (∀ u, Calls Tryz.prog 8 #[.string t] u (ParsePost u (S, p, q))) := hidp (fun u => by have := RP t u ht; rwa [HV.out] at this)
  rw [HV.out] at C1
  have HC1 := hidp C1
  have e1 : (p == p) = true := by simp
  have e2 : (q == q) = true := by simp
  clear C1 hm ht HV
  go_enter Tryz.func14, Tryz.ntmps14
  go_wp2_with fail
  refine HC1.out.mono ?_
  rintro e u1 ⟨x, rfl, hx, hxb, hb1⟩
  dsimp only at hxb ⊢
  have hb2 := hb1.alloc hb1.size (.cells #[.int .i64 x.proto, .slice x.ca x.cores.length x.cc, .slice x.ha x.homes.length x.hc, .slice x.ta x.tasks.length x.tc] 25)
  have sx := SetCells.new u1 x 25
  have hx2 := hx.keep (Keeps.of_below ((Below.refl u1.heap.size u1).alloc (Nat.le_refl _) (.cells #[.int .i64 x.proto, .slice x.ca x.cores.length x.cc, .slice x.ha x.homes.length x.hc, .slice x.ta x.tasks.length x.tc] 25)))
  have HX := hidp hx2
  have SX := hidp sx
  have HB := hidp hb2
  have HXB := hidp hxb
  clear hb1 hb2 sx hx hx2 HC1 hxb
  go_wp2_with fail
  refine (C2.out _).mono ?_
  rintro e u2 ⟨y, rfl, hy, hyb, hb3⟩
  dsimp only at hyb ⊢
  have K := Keeps.of_below ((Below.refl u2.heap.size u2).alloc (Nat.le_refl _) (.cells #[.int .i64 y.proto, .slice y.ca y.cores.length y.cc, .slice y.ha y.homes.length y.hc, .slice y.ta y.tasks.length y.tc] 25))
  have hb4 := HB.out.trans (hb3.mono HB.out.size)
  have HB2 := hidp (hb4.alloc hb4.size (.cells #[.int .i64 y.proto, .slice y.ca y.cores.length y.cc, .slice y.ha y.homes.length y.hc, .slice y.ta y.tasks.length y.tc] 25))
  have sx := (SX.out.keep (Keeps.of_below hb3)).keep K
  have sy := SetCells.new u2 y 25
  have HX2 := hidp ((HX.out.keep (Keeps.of_below hb3)).keep K)
  have HY := hidp (hy.keep K)
  have CS := rsame_any x y _ HX2.out HY.out
  rw [sameS_bare (HXB.out.trans hyb.symm)] at CS
  have HCS := hidp CS
  obtain ⟨a0, a1, a2, a3⟩ := sx
  obtain ⟨b0, b1, b2, b3⟩ := sy
  clear hb3 hb4 hy hyb K HX SX HB HXB CS C2
  go_wp2_with fail
  refine HCS.out.mono ?_
  rintro e u3 ⟨rfl, hb5⟩
  have HB3 := hidp (HB2.out.trans (hb5.mono HB2.out.size))
  clear hb5 HCS
  go_wp2_with fail
  go_ret
  exact ⟨rfl, HB3.out⟩
end Go.Proofs.YtlmliefkhidpnaaGreatDoor

set_option maxHeartbeats 16000000
set_option maxRecDepth 100000
set_option linter.unusedSimpArgs false
set_option linter.unusedVariables false
namespace Go.Proofs.YtlmliefkhidpnaaGreatDoor
open Go.ChangeShapes Go.WideShapes Go.ChangeAt Go.RowKit
theorem pl_sum (c : UInt8) (l cur : Bts) : ((pl c cur l).map (fun x => x.length + 1)).sum ≤ cur.length + l.length + 1 := by
  induction l generalizing cur with
  | nil => unfold pl; split <;> simp
  | cons y r ih =>
    unfold pl
    split
    · have := ih []
      simp at this ⊢; omega
    · have := ih (cur ++ [y])
      simp at this ⊢; omega
theorem pl_some (c : UInt8) {l : Bts} (h : l ≠ []) : ∀ cur, pl c cur l ≠ [] := by
  induction l with
  | nil => exact absurd rfl h
  | cons y r ih =>
    intro cur
    unfold pl
    split
    · simp
    · cases r with
      | nil => unfold pl; simp
      | cons z t => exact ih (by simp) _
theorem sum_take {ls : List ByteArray} {k : Nat} (h : k < ls.length) {x : ByteArray} (hx : ls.getD k ByteArray.empty = x) : ((ls.take (k + 1)).map (fun x => x.size + 1)).sum = ((ls.take k).map (fun x => x.size + 1)).sum + (x.size + 1) := by
  rw [List.take_succ_eq_append_getElem h, List.map_append, List.sum_append, ← hx]
  simp only [List.map_cons, List.map_nil, List.sum_cons, List.sum_nil]
  rw [List.getD_eq_getElem?_getD, List.getElem?_eq_getElem h]
  rfl
theorem reads_any (t : ByteArray) (m : Int) (w : World) (hm : w.cell? ⟨0, 0, none⟩ = some (.int .i64 m)) (ht : t.size ≤ 100000) : Calls Tryz.prog 14 #[.string t] w fun e w' => e = .returned (.bool true) ∧ Below w.heap.size w w' := reads_of (fun t w ht => rparse_any t w ht) t m w hm ht
/-- a row of bytes made of a text, one byte written -/
theorem back_set (s : ByteArray) (C : Array Value) (g k : Nat) (a : Int) (ha : 0 ≤ a ∧ a ≤ 255) (hk : k < s.size) (v : World) (cap : Nat) (hC : ∀ j (hj : j < s.data.size), j ≠ k → v.cell? ⟨g, j, none⟩ = some (.int .u8 (s.data[j].toNat : Int))) (h : v.cell? ⟨g, k, none⟩ = some (.int .u8 a)) :
    (convert 37 9 (.slice (some ⟨g, 0, none⟩) s.size cap)).run Tryz.prog v = .ok (.string ⟨(s.data.toList.set k (UInt8.ofNat a.toNat)).toArray⟩) v := by
  have hl : (s.data.toList.set k (UInt8.ofNat a.toNat)).length = s.size := by rw [List.length_set, Array.length_toList]; rfl
  have := run_convert_bytes_back (P := Tryz.prog) v 37 9 5 ⟨g, 0, none⟩ cap (s.data.toList.set k (UInt8.ofNat a.toNat)) Tryz.underlying37 Tryz.underlying5 Tryz.underlying9 (fun j hj => by
    rw [show ((⟨g, 0, none⟩ : Addr).add j) = ⟨g, j, none⟩ by simp [Addr.add]; intro h; exact h.symm]
    by_cases e : j = k
    · subst e
      rw [h, List.getElem_set_self]
      congr 2
      have : (UInt8.ofNat a.toNat).toNat = a.toNat := by
        rw [UInt8.toNat_ofNat']; omega
      rw [this]; omega
    · rw [List.getElem_set_ne (fun h => e h.symm)]
      rw [hl] at hj
      exact hC j hj e)
  rwa [hl] at this
end Go.Proofs.YtlmliefkhidpnaaGreatDoor
namespace Go.Proofs.YtlmliefkhidpnaaGreatDoor.textTurned
open Go.ChangeShapes Go.WideShapes Go.ChangeAt Go.RowKit
open Go.ChangeMaps (open_string shut_string)
set_option linter.unusedVariables false

/-- THE WALK: the Go text returns true, and writes nothing that was there. -/
theorem walk (s0 : SetR) (a1 : Int) (a2 : Int) (a3 : Int) (w : World) (w0 : SetOk w s0) (w1 : (Lit.int .u16 a1).wf = true) (w2 : (Lit.int .u8 a2).wf = true) (w3 : (Lit.int .u8 a3).wf = true) (mMax : Int) (hMax : w.cell? ⟨0, 0, none⟩ = some (.int .i64 mMax)) (hTab : Go.Lib.TabIs Tryz.prog w "internal/strconv.uint64pow10" .u64 Go.Lib.pow10Tab) :
    Calls Tryz.prog 4 #[.agg #[.int .i64 s0.proto, .slice s0.ca s0.cores.length s0.cc, .slice s0.ha s0.homes.length s0.hc, .slice s0.ta s0.tasks.length s0.tc], .int .u16 a1, .int .u8 a2, .int .u8 a3] w fun e w' => e = .returned (.bool true) ∧ Below w.heap.size w w' := by
  have HX := hidp hMax
  have HT : Hid (∀ u, Below w.heap.size w u → Tab u) := hidp (fun u hu => Tab.over (show Tab w from hTab) hu)
  obtain ⟨proto, ca, cc, cores, ha, hc, homes, ta, tc, tasks⟩ := s0
  have hb := (Below.refl w.heap.size w).alloc (Nat.le_refl _) (.cells #[.int .i64 proto, .slice ca cores.length cc, .slice ha homes.length hc, .slice ta tasks.length tc] 25)
  have sb : SetCells (w.alloc (.cells #[.int .i64 proto, .slice ca cores.length cc, .slice ha homes.length hc, .slice ta tasks.length tc] 25)) w.heap.size ⟨proto, ca, cc, cores, ha, hc, homes, ta, tc, tasks⟩ := SetCells.new w ⟨proto, ca, cc, cores, ha, hc, homes, ta, tc, tasks⟩ _
  have hs := w0.keep (Keeps.of_below hb)
  have HI1 := hidp (show 0 ≤ a1 ∧ a1 ≤ 65535 by simp [Lit.wf, IntKind.min, IntKind.max, IntKind.signed, IntKind.bits] at w1; omega)
  have HI2 := hidp (show 0 ≤ a2 ∧ a2 ≤ 255 by simp [Lit.wf, IntKind.min, IntKind.max, IntKind.signed, IntKind.bits] at w2; omega)
  have HI3 := hidp (show 0 ≤ a3 ∧ a3 ≤ 255 by simp [Lit.wf, IntKind.min, IntKind.max, IntKind.signed, IntKind.bits] at w3; omega)
  clear w0 w1 w2 w3 hMax hTab
  go_enter Tryz.func4, Tryz.ntmps4
  go_wp2_with fail
  refine (known9_any _ mMax (mem_max HX.out hb) (HT.out _ hb)).mono ?_
  rintro e u1 ⟨rfl, hb2⟩
  replace hb := hb.trans (hb2.mono hb.size)
  replace sb := sb.keep (Keeps.of_below hb2)
  replace hs := hs.keep (Keeps.of_below hb2)
  clear hb2
  obtain ⟨z0, z1, z2, z3⟩ := id sb
  dsimp only at z0 z1 z2 z3
  go_wp2_with fail
  refine (fews9_any ⟨proto, ca, cc, cores, ha, hc, homes, ta, tc, tasks⟩ _ hs).mono ?_
  rintro e u2 ⟨⟨b, rfl, hfew⟩, hb2⟩
  replace hb := hb.trans (hb2.mono hb.size)
  replace sb := sb.keep (Keeps.of_below hb2)
  replace hs := hs.keep (Keeps.of_below hb2)
  clear hb2 z0 z1 z2 z3 hfew
  cases b
  · go_wp2_with fail
    go_ret
    exact ⟨rfl, hb⟩
  obtain ⟨z0, z1, z2, z3⟩ := id sb
  dsimp only at z0 z1 z2 z3
  go_wp2_with fail
  refine (rok_any ⟨proto, ca, cc, cores, ha, hc, homes, ta, tc, tasks⟩ _ hs).mono ?_
  rintro e u3 ⟨rfl, hb2⟩
  replace hb := hb.trans (hb2.mono hb.size)
  replace sb := sb.keep (Keeps.of_below hb2)
  replace hs := hs.keep (Keeps.of_below hb2)
  clear hb2 z0 z1 z2 z3
  obtain ⟨ok, Hok⟩ : ∃ b, Hid (okS ⟨proto, ca, cc, cores, ha, hc, homes, ta, tc, tasks⟩ = b) := ⟨_, hidp rfl⟩
  rw [Hok.out]
  cases ok
  · go_wp2_with fail
    go_ret
    exact ⟨rfl, hb⟩
  obtain ⟨z0, z1, z2, z3⟩ := id sb
  dsimp only at z0 z1 z2 z3
  have CPr := hidp (rprint_any ⟨proto, ca, cc, cores, ha, hc, homes, ta, tc, tasks⟩ _ hs)
  go_wp2_with fail
  refine CPr.out.mono ?_
  rintro e u4 ⟨tS, rfl, hv, hb2⟩
  have HV : Hid (bl tS = printT (SetR.rd ⟨proto, ca, cc, cores, ha, hc, homes, ta, tc, tasks⟩)) := hidp (hv.trans (by unfold printV; rw [if_pos Hok.out]))
  have HB := hidp (hb.trans (hb2.mono hb.size))
  have hsz : tS.size ≤ 2000 := by rw [← bl_len, HV.out]; exact print_short Hok.out
  have hpos : 0 < tS.size := by
    rw [← bl_len, HV.out]
    unfold printT
    simp
  have hconv := run_bytes_of_string (P := Tryz.prog) u4 9 37 5 tS Tryz.underlying9 Tryz.underlying37 Tryz.underlying5
  obtain ⟨CAP, hCAP⟩ : ∃ CAP, grownCap u4 tS.size 0 5 = CAP := ⟨_, rfl⟩
  rw [hCAP] at hconv
  obtain ⟨C, hC⟩ : ∃ C, bytesRow tS CAP = C := ⟨_, rfl⟩
  rw [hC] at hconv
  have HC : Hid (∀ j (hj : j < tS.data.size), C[j]? = some (.int .u8 (tS.data[j].toNat : Int))) := hidp (fun j hj => by rw [← hC]; exact bytesRow_at tS CAP j hj)
  obtain ⟨k, hk⟩ : ∃ k : Nat, a1.tmod (tS.size : Int) = (k : Int) := ⟨(a1 % (tS.size : Int)).toNat, by
    have := HI1.out
    have h2 := Int.emod_nonneg a1 (show (tS.size : Int) ≠ 0 by omega)
    rw [Int.tmod_eq_emod_of_nonneg (by omega)]; omega⟩
  have hkl : k < tS.size := by
    have := HI1.out
    have h2 := Int.emod_lt_of_pos a1 (show (0 : Int) < (tS.size : Int) by omega)
    rw [Int.tmod_eq_emod_of_nonneg (by omega)] at hk; omega
  have wa1 : IntKind.i64.wrap a1 = a1 := IntWalk.i64_in _ (by have := HI1.out; omega)
  have wa3 : IntKind.i64.wrap a3 = a3 := IntWalk.i64_in _ (by have := HI3.out; omega)
  have hz1 : ¬ (tS.size : Int) = 0 := by omega
  have hz2 : ¬ tS.size = 0 := by omega
  have hkI : (0 : Int) ≤ (k : Int) := by omega
  have hkI2 : (k : Int) < (tS.size : Int) := by omega
  obtain ⟨c0, hc0⟩ : ∃ c0, (u4.alloc (.cells C 5 (C.size, C.size + 1))).cell? ⟨u4.heap.size, k, none⟩ = some c0 := ⟨_, by rw [World.cell?_alloc_mark]; exact HC.out k hkl⟩
  have hCs : k < C.size := by
    have := HC.out k hkl
    exact (Array.getElem?_eq_some_iff.1 this).1
  have hzz : (u4.alloc (.cells C 5 (C.size, C.size + 1))).frozen? ⟨u4.heap.size, k, none⟩ = false := by
    rw [World.frozen?_alloc_mark]
    have : ∀ n : Nat, k < n → (decide (n ≤ k) && decide (k < n + 1)) = false := fun n hn => by simp; omega
    exact this _ hCs
  have hB5 := HB.out.alloc HB.out.size (.cells C 5 (C.size, C.size + 1))
  have HB6 := hidp (below_drewN (hB5.setCell (p := ⟨u4.heap.size, k, none⟩) HB.out.size (.int .u8 a2)) 1)
  have HCB : Hid (∀ j (hj : j < tS.data.size), j ≠ k → ((u4.alloc (.cells C 5 (C.size, C.size + 1))).setCell ⟨u4.heap.size, k, none⟩ (.int .u8 a2)).drew.cell? ⟨u4.heap.size, j, none⟩ = some (.int .u8 (tS.data[j].toNat : Int))) := hidp (fun j hj hne => by
    show ((u4.alloc (.cells C 5 (C.size, C.size + 1))).setCell ⟨u4.heap.size, k, none⟩ (.int .u8 a2)).cell? ⟨u4.heap.size, j, none⟩ = _
    rw [World.cell?_setCell_other _ _ _ _ (by simp <;> omega), World.cell?_alloc_mark]
    exact HC.out j hj)
  have HCK : Hid (((u4.alloc (.cells C 5 (C.size, C.size + 1))).setCell ⟨u4.heap.size, k, none⟩ (.int .u8 a2)).drew.cell? ⟨u4.heap.size, k, none⟩ = some (.int .u8 a2)) := hidp (World.cell?_setCell_same _ _ _ hc0)
  have CLn := hidp (fun v => rlines_any tS v (by omega))
  clear hb hb2 sb hs z0 z1 z2 z3 hv CPr hCAP hC hCs hB5
  go_wp2_with fail
  refine (CLn.out _).mono ?_
  rintro e v ⟨ls, h1, h2, A, c, rfl, ho, hb5⟩
  have HBv := hidp (HB6.out.trans (hb5.mono HB6.out.size))
  have HB7 := hidp (fun j hj hne => (Keeps.of_below hb5) _ _ (HCB.out j hj hne))
  have HB8 := hidp ((Keeps.of_below hb5) _ _ HCK.out)
  have HL := hidp h1
  have HA := hidp ho.at_
  obtain ⟨N, hN⟩ : ∃ N, ls.length = N := ⟨_, rfl⟩
  have HN := hidp hN
  rw [hN] at h2 ⊢
  have hNp : 0 < N := by
    have h5 := pl_some 10 (l := bl tS) (fun e => absurd (congrArg List.length e) (by rw [bl_len]; exact Nat.ne_of_gt hpos)) []
    have h6 : ls.map bl = pl 10 [] (bl tS) := h1
    rw [← h6] at h5
    rcases Nat.eq_zero_or_pos N with h7 | h7
    · rw [h7] at hN; rw [List.eq_nil_of_length_eq_zero hN] at h5; exact absurd rfl h5
    · exact h7
  have HZ : Hid (∀ x ∈ ls, x.size ≤ 2000) := hidp (fun x hx => by
    have h5 : bl x ∈ pl 10 [] (bl tS) := by have : ls.map bl = pl 10 [] (bl tS) := h1; rw [← this]; exact List.mem_map.2 ⟨x, hx, rfl⟩
    have h6 := pl_mem 10 (bl tS) [] _ h5
    rw [bl_len, bl_len] at h6
    simp at h6
    omega)
  have HSUM : Hid ((ls.map (fun x => x.size + 1)).sum ≤ 2001) := hidp (by
    have h5 := pl_sum 10 (bl tS) []
    have h6 : ls.map bl = pl 10 [] (bl tS) := h1
    rw [← h6, List.map_map, bl_len] at h5
    have h7 : ((fun x : Bts => x.length + 1) ∘ bl) = (fun x : ByteArray => x.size + 1) := by funext x; simp [bl_len]
    rw [h7] at h5
    simp at h5
    omega)
  obtain ⟨j, hj⟩ : ∃ j : Nat, a3.tmod (N : Int) = (j : Int) := ⟨(a3 % (N : Int)).toNat, by
    have := HI3.out
    have h2 := Int.emod_nonneg a3 (show (N : Int) ≠ 0 by omega)
    rw [Int.tmod_eq_emod_of_nonneg (by omega)]; omega⟩
  have hz3 : ¬ (N : Int) = 0 := by omega
  have hz4 : ¬ N = 0 := by omega
  clear ho hb5 h1 hN HB6 HCB HCK HC hconv hc0 hzz
  go_wp2_with fail
  go_loopg [14, 15] N (fun g uS i wr => ∃ (m : Nat) (U : ByteArray), m + g = N ∧ i = .int .i64 m ∧ uS = .string U ∧ Hid (U.size ≤ ((ls.take m).map (fun x => x.size + 1)).sum) ∧ U.size ≤ 2001 * m ∧ v = wr)
  case atStart => exact ⟨0, ⟨#[]⟩, by omega, rfl, rfl, hidp (Nat.zero_le _), by decide, rfl⟩
  case round =>
    obtain ⟨m, U, hm, rfl, rfl, HU, hU, rfl⟩ := hrel
    have wm : IntKind.i64.wrap ((m : Int) + 1) = (m : Int) + 1 := IntWalk.i64_in _ (by omega)
    by_cases hin : m < N
    · obtain ⟨gl, off, rfl, hcl⟩ := HA.out.resolve_left (by intro e; have := HN.out; rw [e] at this; simp at this; omega)
      have hml : m < ls.length := by rw [HN.out]; exact hin
      obtain ⟨x, Hx⟩ : ∃ x, Hid (ls.getD m ByteArray.empty = x) := ⟨_, hidp rfl⟩
      have c1 : v.cell? ⟨gl, off + m, none⟩ = some (.string x) := Hx.out ▸ hcl m hml
      have hx2 := HZ.out x (strs_mem hml Hx.out)
      have HST := hidp (sum_take hml Hx.out)
      have b1 : (0 : Int) ≤ (m : Int) := by omega
      have b2 : (m : Int) < (N : Int) := by omega
      have t1 : ¬ 9223372036854775807 < U.size + x.size := by omega
      have t2 : ¬ 9223372036854775807 < U.size + x.size + 1 := by omega
      clear hcl hml hk hj
      by_cases d : m = j
      · have f1 : ((m : Int) != (j : Int)) = false := by rw [d]; simp
        clear d
        go_wp2_with fail
        go_roundg (gk - 1)
        case measure => omega
        case rel => exact ⟨m + 1, U, by omega, by go_num, rfl, hidp (by have := HU.out; have := HST.out; omega), by omega, rfl⟩
      · have f1 : ((m : Int) != (j : Int)) = true := by rw [bne_iff_ne]; omega
        have HUx : Hid ((U ++ x ++ ⟨#[10]⟩).size = U.size + x.size + 1) := hidp (by rw [ByteArray.size_append, ByteArray.size_append]; rfl)
        clear d
        go_wp2_with fail
        go_roundg (gk - 1)
        case measure => omega
        case rel => exact ⟨m + 1, U ++ x ++ ⟨#[10]⟩, by omega, by go_num, rfl, hidp (by have := HU.out; have := HST.out; have := HUx.out; omega), by have := HUx.out; omega, rfl⟩
    · obtain rfl : m = N := by omega
      have hback := back_set tS C u4.heap.size k a2 HI2.out hkl v CAP HB7.out HB8.out
      have HLn : Hid ((⟨(tS.data.toList.set k (UInt8.ofNat a2.toNat)).toArray⟩ : ByteArray).size ≤ 100000) := hidp (by
        show (tS.data.toList.set k (UInt8.ofNat a2.toNat)).toArray.size ≤ 100000
        have h8 : tS.data.toList.length = tS.size := by rw [Array.length_toList]; rfl
        rw [List.size_toArray, List.length_set, h8]; omega)
      obtain ⟨V, hVV⟩ : ∃ V, (⟨(tS.data.toList.set k (UInt8.ofNat a2.toNat)).toArray⟩ : ByteArray) = V := ⟨_, rfl⟩
      rw [hVV] at hback HLn
      have CR1 := hidp (reads_any V mMax v (mem_max HX.out HBv.out) HLn.out)
      have HU2 : Hid (U.size ≤ 100000) := hidp (by
        have h5 := HU.out
        rw [List.take_of_length_le (by rw [HN.out]; exact Nat.le_refl _)] at h5
        have := HSUM.out; omega)
      clear hVV hk hj
      go_wp2_with fail
      refine CR1.out.mono ?_
      rintro e v2 ⟨rfl, hb9⟩
      have HB9 := hidp (HBv.out.trans (hb9.mono HBv.out.size))
      have CR2 := hidp (reads_any U mMax v2 (mem_max HX.out HB9.out) HU2.out)
      clear hb9 hback
      go_wp2_with fail
      refine CR2.out.mono ?_
      rintro e v3 ⟨rfl, hb9⟩
      have HBf := hidp (HB9.out.trans (hb9.mono HB9.out.size))
      clear hb9
      go_wp2_with fail
      go_ret
      exact ⟨rfl, HBf.out⟩

theorem own : ownKnob Tryz.prog.godebug = none := by kernel_rfl
theorem laidOut : laidOutB Tryz.prog = true := by kernel_rfl
def cellsD : DataW Unit → List Value
  | .agg ds => ds.flatMap fun
    | .lit (.int k z) => [Value.int k z]
    | .agg es => es.flatMap fun
      | .lit (.int k z) => [Value.int k z]
      | _ => []
    | _ => []
  | _ => []
def layTab (d : DataW Unit) : Obj → Obj
  | .cells _ t frozen => .cells (cellsD d).toArray t frozen
  | o => o
/-- a world in which the listed tables lie: the witness -/
noncomputable def laidWorld (os : Os) : World := { World.holding Tryz.prog os ⟨#[], #[], []⟩ with heap := ((((((World.holding Tryz.prog os ⟨#[], #[], []⟩).heap.modify 4 (layTab Rows.laid_math_bits_deBruijn32tab)).modify 5 (layTab Rows.laid_math_bits_deBruijn64tab)).modify 3 (layTab Rows.laid_internal_strconv_uint64pow10)).modify 2 (layTab Rows.laid_unicode_utf8_acceptRanges)).modify 1 (layTab Rows.laid_unicode_utf8_first)) }
theorem laid_met (os : Os) (args : Array Value) : laidMetH Tryz.prog Rows.textTurnedRow.laid ((laidWorld os).forCall (fun _ _ => 0) ⟨#[], args, []⟩).memory :=
  laidMet_of_run' 8 (by kernel_rfl) (by kernel_rfl)
theorem witness_row (os : Os) {H : Type} (enc : TypeId × Value → H) :
    (OpenSpec.ofChange Rows.textTurnedSpec).preRow enc Tryz.prog Tryz.f4 Rows.textTurnedRow.domain false Rows.textTurnedRow.laid ((laidWorld os).forCall (fun _ _ => 0) ⟨#[], #[.agg #[.int .i64 0, .slice none 0 0, .slice none 0 0, .slice none 0 0], .int .u16 0, .int .u8 0, .int .u8 0], []⟩).memory #[.agg #[.int .i64 0, .slice none 0 0, .slice none 0 0, .slice none 0 0], .int .u16 0, .int .u8 0, .int .u8 0] := by
  have hw : (DataW.whole enc Tryz.prog ((laidWorld os).forCall (fun _ _ => 0) ⟨#[], #[.agg #[.int .i64 0, .slice none 0 0, .slice none 0 0, .slice none 0 0], .int .u16 0, .int .u8 0, .int .u8 0], []⟩).memory Tryz.f4.params.toList (OpenSpec.ofChange Rows.textTurnedSpec).vars false (#[.agg #[.int .i64 0, .slice none 0 0, .slice none 0 0, .slice none 0 0], .int .u16 0, .int .u8 0, .int .u8 0] : Array Value).toList 8).map (fun x => (x.1, x.2.1)) =
      some ([.agg [.lit (.int .i64 0), .nil, .nil, .nil], .lit (.int .u16 0), .lit (.int .u8 0), .lit (.int .u8 0)], []) := by kernel_rfl
  obtain ⟨⟨x1, x2, x3⟩, hx, hx1⟩ := Option.map_eq_some_iff.1 hw
  simp only [Prod.mk.injEq] at hx1
  obtain ⟨rfl, rfl⟩ := hx1
  exact OpenSpec.preRow_of_cond 8 hx (by kernel_rfl) (fun k hk => by cases hk) (by kernel_rfl) (laid_met os _)

set_option maxRecDepth 100000 in
theorem lifted (os : Os) (started : os.Started) (H : Type) (enc : TypeId × Value → H) (F0 : Stop.Interp) :
    ReturnsInHanded {} Tryz.checked os 4 .any ((OpenSpec.ofChange Rows.textTurnedSpec).preRow enc Tryz.prog Tryz.f4 Rows.textTurnedRow.domain false Rows.textTurnedRow.laid) (((OpenSpec.ofChange Rows.textTurnedSpec).at F0).post enc Tryz.prog Tryz.f4 false true false false) := by
  refine returnsInHanded_of_row (C := Tryz.checked) (s := OpenSpec.ofChange Rows.textTurnedSpec) own started (by kernel_rfl) Tryz.func4
    (witness_row_at (enc := enc) (C := Tryz.checked) false (laidWorld os) #[.agg #[.int .i64 0, .slice none 0 0, .slice none 0 0, .slice none 0 0], .int .u16 0, .int .u8 0, .int .u8 0] rfl (by kernel_rfl) (by kernel_rfl) (by kernel_rfl) (witness_row os enc)) ?_
  intro W base args ds gs before hval0 hW _ _ _ hL hsh _
  obtain ⟨mMax, hMax⟩ : ∃ m, W.cell? ⟨0, 0, none⟩ = some (.int .i64 m) := Tryz.laysM219.s1_3 W hsh
  have hTab : Go.Lib.TabIs Tryz.prog W "internal/strconv.uint64pow10" .u64 Go.Lib.pow10Tab := tabPow hL
  have hval : ∀ (j : Nat) t v, Tryz.f4.params[j]? = some t → args[j]? = some v → Value.okWide Tryz.prog W .any base t v := hval0
  have hW' := hW
  obtain ⟨p, q, hA0, hV, rfl, hfz, hnd⟩ := hW
  have hA : DataW.TrodAll enc Tryz.prog W 0 (fun _ => true) true Tryz.f4.params.toList args.toList ds p := hA0
  rw [Tryz.params4] at hA hval
  obtain ⟨v0, vs0, d0, ds0, p0, q0, hargs, rfl, rfl, h0, r0⟩ := trodAll_cons hA
  obtain ⟨v1, vs1, d1, ds1, p1, q1, rfl, rfl, rfl, h1, r1⟩ := trodAll_cons r0
  obtain ⟨v2, vs2, d2, ds2, p2, q2, rfl, rfl, rfl, h2, r2⟩ := trodAll_cons r1
  obtain ⟨v3, vs3, d3, ds3, p3, q3, rfl, rfl, rfl, h3, r3⟩ := trodAll_cons r2
  obtain ⟨rfl, rfl, rfl⟩ := trodAll_nil r3
  obtain rfl : args = #[v0, v1, v2, v3] := by cases args; simp_all
  obtain ⟨rfl, rfl⟩ := trodVars_none hV
  have k0 := h0
  have lt0 : ∀ x ∈ p0, x.block < W.heap.size := by obtain ⟨m, hm⟩ := k0; exact DataW.trod_lt m _ _ _ hm
  obtain ⟨s0, w0, rfl⟩ := setTypes.arg_set (hval 0 25 v0 rfl rfl) h0
  obtain ⟨a1, rfl, rfl, rfl, w1⟩ := open_int Tryz.underlying36 (hval 1 36 v1 rfl rfl) h1
  obtain ⟨a2, rfl, rfl, rfl, w2⟩ := open_int Tryz.underlying5 (hval 2 5 v2 rfl rfl) h2
  obtain ⟨a3, rfl, rfl, rfl, w3⟩ := open_int Tryz.underlying5 (hval 3 5 v3 rfl rfl) h3
  clear hA0 hval0
  refine (walk s0 a1 a2 a3  W w0 w1 w2 w3 mMax hMax hTab).mono fun e W' ⟨he, bel⟩ => ?_
  subst he
  exact ⟨_, rfl, _, _, _, [], _, [], hW', trodAll_mk1 (shut_bool Tryz.underlying4 _), (trodAll_cons_mk (Below.trod laidOut (by kernel_rfl) (of_decide_eq_true (by kernel_rfl)) k0 bel lt0) (trodAll_cons_mk (shut_int Tryz.underlying36 w1) (trodAll_cons_mk (shut_int Tryz.underlying5 w2) (trodAll_cons_mk (shut_int Tryz.underlying5 w3) trodAll_mk0)))), rfl, bel.frame _, fun h => by cases h⟩

theorem over : Rows.TextTurnedSaid :=
  OpenClaim.holds_of_cond 4 Tryz.f4 rfl rfl rfl rfl rfl rfl rfl ⟨rfl, rfl, rfl, rfl, rfl⟩ rfl rfl rfl rfl rfl (by kernel_rfl) Tryz.func4 (by kernel_rfl)
    (of_decide_eq_true (by kernel_rfl)) (by unfold Func.isWrapper; first | (rw [if_pos (by decide +kernel)]; kernel_rfl) | (rw [if_neg (by decide +kernel)]; exact ⟨rfl, rfl⟩))
    (fun os started H enc _ F0 => by rw [OpenClaim.pre_eq_preRow]; exact lifted os started H enc F0)

/-- THE STATEMENT: the tied card -/
theorem proved : Rows.TextTurnedCardSaid :=
  Claim7.holds_tied_plain_at .later [] [.data, .data, .data, .data, .pinned] true (true, "7e3294c64afcb9e34e4f7c8530f7f5912c90ab2d486ee4a318f4807f4abcc240") false
    over (fun _ h => by cases h) (by kernel_rfl) (fun _ h => by cases h) textTurned_row_tie rfl ⟨rfl, rfl⟩ (by kernel_rfl) rfl
    (fun f fn hf hfn => by
      obtain rfl : f = 4 := Option.some.inj ((show Tryz.prog.funcNamed Rows.textTurnedRow.func = some 4 by kernel_rfl).symm.trans hf) |>.symm
      obtain rfl : fn = Tryz.f4 := (Option.some.inj (Tryz.func4.symm.trans hfn)).symm
      refine ⟨by kernel_rfl, fun j t ht => ?_⟩
      rw [Tryz.params4] at ht
      exact standIns _ (by kernel_rfl) j t ht)
    (by kernel_rfl)
#print axioms proved
end Go.Proofs.YtlmliefkhidpnaaGreatDoor.textTurned

