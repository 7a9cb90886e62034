/- words.Lines; the document's Words; rows of texts compared. -/
import Derived.Test.YtlmliefkhidpnaaGreatDoorWdCut
import Derived.Lib.SplitLaws
import Derived.Deep.QuietTactic
import Derived.BigQuiet
namespace Go.Proofs.YtlmliefkhidpnaaGreatDoor
open Go.ChangeShapes Go.WideShapes Go.ChangeAt Go.RowKit
set_option linter.unusedVariables false
set_option linter.unusedSimpArgs false
/-- all pieces of a text, the last one too -/
def sp (c : UInt8) (cur : Bts) : Bts → List Bts
  | [] => [cur]
  | x :: r => if x = c then cur :: sp c [] r else sp c (cur ++ [x]) r
def dropE (l : List Bts) : List Bts := if l.getLast? = some [] then l.dropLast else l
theorem sp_ne (c : UInt8) (l cur : Bts) : sp c cur l ≠ [] := by
  induction l generalizing cur with
  | nil => simp [sp]
  | cons x r ih => unfold sp; split; exact List.cons_ne_nil _ _; exact ih _
theorem pl_sp (c : UInt8) (l cur : Bts) : pl c cur l = dropE (sp c cur l) := by
  induction l generalizing cur with
  | nil => unfold pl sp dropE; by_cases h : cur = [] <;> simp [h]
  | cons x r ih =>
    unfold pl sp
    split
    · rw [ih]
      unfold dropE
      obtain ⟨a, t, ht⟩ := List.exists_cons_of_ne_nil (sp_ne c r [])
      rw [ht, List.getLast?_cons_cons, List.dropLast_cons_cons]
      split <;> rfl
    · exact ih _
theorem sp_cons (c b : UInt8) (l cur : Bts) : sp c (b :: cur) l = (b :: (sp c cur l).headD []) :: (sp c cur l).tail := by
  induction l generalizing cur with
  | nil => rfl
  | cons x r ih =>
    unfold sp
    split
    · rfl
    · rw [List.cons_append, ih]
theorem splitK_sp (c : UInt8) (l : Bts) : Lib.splitK [c] 0 (Lib.count l [c]) l = sp c [] l := by
  induction l with
  | nil => rw [Lib.count_miss (by simp [Lib.index])]; rfl
  | cons b r ih =>
    by_cases h : b = c
    · subst h
      rw [Lib.count_cons_eq, Nat.add_comm]
      unfold Lib.splitK sp
      have hix : Lib.index (b :: r) [b] = 0 := by rw [Lib.index]; simp [List.isPrefixOf]
      rw [hix, if_neg (by decide), if_pos rfl]
      simp only [Int.toNat_zero, Nat.add_zero, List.take_zero, List.length_cons, List.length_nil, Nat.zero_add, List.drop_succ_cons, List.drop_zero]
      rw [ih]
    · rw [Lib.count_cons_ne b c r h]
      unfold sp
      rw [if_neg h, List.nil_append, sp_cons, ← ih]
      have hp : ([c] : List UInt8).isPrefixOf (b :: r) = false := by simp [List.isPrefixOf, Ne.symm h]
      have hix : Lib.index (b :: r) [c] = if Lib.index r [c] == -1 then -1 else Lib.index r [c] + 1 := by rw [Lib.index, hp]; simp
      cases hk : Lib.count r [c] with
      | zero => rfl
      | succ k =>
        have hm : Lib.index r [c] ≠ -1 := fun e => by rw [Lib.count_miss e] at hk; omega
        have hge := Lib.index_ge r [c]
        obtain ⟨j, hj⟩ : ∃ j : Nat, Lib.index r [c] = j := ⟨(Lib.index r [c]).toNat, by omega⟩
        have e1 : ((j : Int) == -1) = false := by rw [beq_eq_false_iff_ne]; omega
        have e2 : ((j : Int) + 1 == -1) = false := by rw [beq_eq_false_iff_ne]; omega
        unfold Lib.splitK
        rw [hix, hj, e1]
        simp only [Bool.false_eq_true, if_false, e2, Nat.add_zero, List.headD_cons, List.tail_cons, List.length_cons, List.length_nil, Nat.zero_add]
        rw [show ((j : Int) + 1).toNat = j + 1 by omega, show ((j : Int)).toNat = j by omega]
        rfl
theorem splitB_lines (s : ByteArray) : (Lib.splitB ⟨#[10]⟩ 0 (Lib.countB s ⟨#[10]⟩) s).map bl = sp 10 [] (bl s) := by
  have h := Lib.splitB_data ⟨#[10]⟩ 0 (Lib.countB s ⟨#[10]⟩) s
  exact h.trans (splitK_sp 10 (bl s))
def RowPost (w : World) (ls : List ByteArray) (e : Ending) (w' : World) : Prop := ∃ A c, e = .returned (.slice A ls.length c) ∧ StrsAt w' A ls ∧ (A = none → ls.length = 0 ∧ c = 0) ∧ ls.length ≤ c ∧ c ≤ maxLen ∧ Below w.heap.size w w'
theorem StrsPost.row {w : World} {ls : List ByteArray} {e : Ending} {w' : World} (h : StrsPost w ls e w') : RowPost w ls e w' := by
  obtain ⟨A, c, he, ho, hb⟩ := h
  exact ⟨A, c, he, ho.at_, ho.nil, ho.cap.1, ho.cap.2, hb⟩
theorem toList_nil {x : ByteArray} : (x.toList == []) = decide (bl x = []) := by
  have : x.toList = bl x := by simp [bl, ByteArray.toList_eq]
  rw [this]
  cases bl x <;> rfl
theorem map_bl_inj {a b : List ByteArray} (h : a.map bl = b.map bl) : a = b := by
  induction a generalizing b with
  | nil => cases b with
    | nil => rfl
    | cons y t => simp at h
  | cons x r ih => cases b with
    | nil => simp at h
    | cons y t =>
      simp only [List.map_cons, List.cons.injEq] at h
      rw [bl_inj h.1, ih h.2]
set_option maxHeartbeats 2000000 in
theorem lines_any (s : ByteArray) (m : Int) (w : World) (hm : w.cell? ⟨0, 0, none⟩ = some (.int .i64 m)) (hs : s.size ≤ 100000) : Calls Tryz.prog 15 #[.string s] w fun e w' => ∃ ls, ls.map bl = linesL (bl s) ∧ ls.length ≤ s.size ∧ RowPost w ls e w' := by
  have hq1 := Lib.countB_le ⟨#[10]⟩ (by decide) s.size s (Nat.le_refl _)
  have hL1 := Lib.splitB_all ⟨#[10]⟩ (by decide) 0 (Lib.countB s ⟨#[10]⟩) s rfl
  have hS := splitB_lines s
  have C := Tryz.strings_Split s ⟨#[10]⟩ m w (by omega) hm (by decide)
  obtain ⟨L, hL⟩ : ∃ L, Lib.splitB ⟨#[10]⟩ 0 (Lib.countB s ⟨#[10]⟩) s = L := ⟨_, rfl⟩
  obtain ⟨q, hq⟩ : ∃ q, Lib.countB s ⟨#[10]⟩ = q := ⟨_, rfl⟩
  rw [hL] at hL1 hS C
  rw [hq] at hL1 C hq1
  clear hL hq hm
  have HC := hidp C
  have HL := hidp hL1
  have HLb : Hid (∀ ls : List ByteArray, ls.map bl = linesL (bl s) → ls.length ≤ s.size) := hidp (fun ls h => by
    have h2 := pl_len 10 (bl s) []
    have h3 := congrArg List.length h
    unfold linesL at h3
    rw [List.length_map] at h3
    rw [bl_len] at h2
    simp at h2
    omega)
  have HS : Hid (linesL (bl s) = dropE (L.map bl)) := hidp (by unfold linesL; rw [pl_sp, hS])
  obtain ⟨x, hx⟩ : ∃ x, L.getD q ByteArray.empty = x := ⟨_, rfl⟩
  have hqL : q < L.length := by omega
  have hx2 : L[q] = x := by rw [← hx]; simp [List.getD, hqL]
  have HX : Hid ((L.map bl).getLast? = some (bl x)) := hidp (by
    rw [List.getLast?_eq_getElem?, List.length_map, hL1, Nat.add_sub_cancel, List.getElem?_map, List.getElem?_eq_getElem hqL, hx2]; rfl)
  have HXL := hidp hx2
  clear C hL1 hS hx hx2
  have HB : Hid (Bk (w.alloc (.cells (L.map Value.string).toArray 9)) w.heap.size 9 (L.map Value.string).toArray) := hidp (Bk.new _ _ _)
  have cx : (w.alloc (.cells (L.map Value.string).toArray 9)).cell? ⟨w.heap.size, q, none⟩ = some (.string x) := by
    rw [HB.out.cell q]
    simp [hqL, HXL.out]
  have HA : Hid (StrsAt (w.alloc (.cells (L.map Value.string).toArray 9)) (some ⟨w.heap.size, 0, none⟩) L) := hidp (.inr ⟨_, 0, rfl, fun i hi => by
    rw [Nat.zero_add, HB.out.cell i]
    simp [List.getD, hi]⟩)
  have hb : Below w.heap.size w (w.alloc (.cells (L.map Value.string).toArray 9)) := (Below.refl _ w).alloc (Nat.le_refl _) _
  have HBe := hidp hb
  obtain ⟨u, hu⟩ : ∃ u, w.alloc (.cells (L.map Value.string).toArray 9) = u := ⟨_, rfl⟩
  rw [hu] at cx HA HBe HC
  obtain ⟨g, hg⟩ : ∃ g, w.heap.size = g := ⟨_, rfl⟩
  have Hg := hidp hg
  rw [hg] at cx HA HC
  clear hu hg hb HB
  have kI : (q : Int) ≤ 100000 := by omega
  have wq : IntKind.i64.wrap (q : Int) = (q : Int) := IntWalk.i64_in _ (by omega)
  have iq0 : (0 : Int) ≤ (q : Int) := by omega
  have iq1 : (q : Int) < (q : Int) + 1 := by omega
  have iq2 : (q : Int) ≤ (q : Int) + 1 := by omega
  by_cases he : bl x = []
  · have f1 : (x.toList == []) = true := by rw [toList_nil]; simpa using he
    have HN : Hid ((L.take q).map bl = linesL (bl s)) := hidp (by
      rw [HS.out]; unfold dropE; rw [HX.out, if_pos (by rw [he]), List.dropLast_eq_take, List.length_map, HL.out, Nat.add_sub_cancel, List.map_take])
    have HA2 : Hid (StrsAt u (some ⟨g, 0, none⟩) (L.take q)) := hidp (by
      rcases HA.out with h | ⟨b, off, e, hc⟩
      · rw [h] at hqL; simp at hqL
      · exact .inr ⟨b, off, e, fun i hi => by
          have hi2 : i < q := by simp at hi; omega
          rw [hc i (by omega)]; simp [List.getD, hi2]⟩)
    have HT : Hid ((L.take q).length = q) := hidp (by rw [List.length_take, HL.out]; omega)
    have hq5 : q + 1 ≤ maxLen := by unfold maxLen; omega
    clear he
    go_enter Tryz.func15, Tryz.ntmps15
    go_wp2_with fail
    refine HC.out.mono ?_
    rintro e w1 ⟨rfl, rfl⟩
    go_wp2
    go_ret
    exact ⟨L.take q, HN.out, HLb.out _ HN.out, some ⟨g, 0, none⟩, q + 1, congrArg (fun z => Ending.returned (.slice (some ⟨g, 0, none⟩) z (q + 1))) HT.out.symm, HA2.out, (fun e => by cases e), (by rw [HT.out]; omega), hq5, HBe.out⟩
  · have f1 : (x.toList == []) = false := by rw [toList_nil]; simpa using he
    have HN : Hid (L.map bl = linesL (bl s)) := hidp (by
      rw [HS.out]; unfold dropE; rw [HX.out, if_neg (fun e => he (by injection e))])
    have hq5 : q + 1 ≤ maxLen := by unfold maxLen; omega
    clear he
    go_enter Tryz.func15, Tryz.ntmps15
    go_wp2_with fail
    refine HC.out.mono ?_
    rintro e w1 ⟨rfl, rfl⟩
    go_wp2
    go_ret
    exact ⟨L, HN.out, HLb.out _ HN.out, some ⟨g, 0, none⟩, q + 1, congrArg (fun z => Ending.returned (.slice (some ⟨g, 0, none⟩) z (q + 1))) HL.out.symm, HA.out, (fun e => by cases e), (by rw [HL.out]; omega), hq5, HBe.out⟩
end Go.Proofs.YtlmliefkhidpnaaGreatDoor
