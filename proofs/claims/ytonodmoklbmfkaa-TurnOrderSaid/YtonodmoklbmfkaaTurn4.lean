/- turn: the library's stable sort of few, Clone; First of few. -/
import Derived.Test.YtonodmoklbmfkaaTurn3
import Derived.WalkSpells
import Derived.Lib.SliceRun
namespace Go.Proofs.Ytonodmoklbmfkaa
open Go.ChangeShapes Go.WideShapes Go.ChangeAt Go.RowKit
set_option linter.unusedVariables false
set_option linter.unusedSimpArgs false
theorem partW_all (l : List WhoM) : partW l 0 l.length = sortW l := by
  unfold partW
  simp
set_option maxHeartbeats 2000000 in
theorem stable_any (B : Nat) (g n c : Nat) (l : List WhoM) (w : World) (ho : OwnW B w (some ⟨g, 0, none⟩) n c l) (hn : n ≤ 20) (wf : ∀ x ∈ l, x.wf) :
    Calls Try.prog 14 #[.slice (some ⟨g, 0, none⟩) n c, .int .i64 n, .func (Fn.func 13) #[] #[]] w (InsPost w B g n c (sortW l)) := by
  have hl := ho.len
  have H0 : Hid (partW l 0 n = sortW l) := hidp (by rw [hl]; exact partW_all l)
  have HW : Hid (∀ x ∈ sortW l, x.wf) := hidp (fun x hx => wf x ((sortW_perm l).mem_iff.1 hx))
  have HL : Hid ((sortW l).length = n) := hidp (by rw [sortW_len, hl])
  have C1 := ins_any B g n c 0 n l w ho (Nat.zero_le _) (Nat.le_refl _) (by omega) wf
  rw [H0.out] at C1
  have HC := hidp C1
  clear C1
  by_cases e : n = 20
  · subst e
    clear hl wf
    go_enter Try.func14, Try.ntmps14
    go_wp2
    go_loopg [7, 8] 1 (fun gg a b wr => (gg = 1 ∧ a = .int .i64 0 ∧ b = .int .i64 20 ∧ w = wr) ∨ (gg = 0 ∧ a = .int .i64 20 ∧ b = .int .i64 40 ∧ OwnW B wr (some ⟨g, 0, none⟩) 20 c (sortW l) ∧ Turned [g] w wr))
    case atStart => exact .inl ⟨rfl, rfl, rfl, rfl⟩
    case round =>
      rcases hrel with ⟨hg, rfl, rfl, rfl⟩ | ⟨hg, rfl, rfl, ho, ht⟩
      · go_wp2_with fail
        refine HC.out.mono ?_
        rintro e w2 ⟨rfl, ho2, ht2⟩
        go_wp2_with fail
        go_roundg 0
        case measure => omega
        case rel => exact .inr ⟨rfl, rfl, rfl, ho2, ht2⟩
      · have C2 := ins_any B g 20 c 20 20 (sortW l) wr ho (Nat.le_refl _) (Nat.le_refl _) (by omega) HW.out
        rw [partW_one 20 (by omega) (Nat.le_refl _)] at C2
        go_wp2_with fail
        refine C2.mono ?_
        rintro e w2 ⟨rfl, ho2, ht2⟩
        go_wp2_with fail
        go_loopg [6] 0 (fun gg a w5 => a = .int .i64 20 ∧ w2 = w5)
        case atStart => exact ⟨rfl, rfl⟩
        case round =>
          obtain ⟨rfl, rfl⟩ := hrel
          go_wp2_with fail
          refine bodyPost_ret (v := .tuple #[]) (by simp [results, Try.results14, go_sem]) rfl ⟨rfl, ho2, ht.trans ht2 (by simp)⟩
  · have hlt : n < 20 := by omega
    have h20 : ¬ (20 : Int) ≤ (n : Int) := by omega
    have h21 : ¬ (20 : Int) < (n : Int) := by omega
    clear hl wf ho
    go_enter Try.func14, Try.ntmps14
    go_wp2
    go_loopg [7, 8] 0 (fun gg a b wr => a = .int .i64 0 ∧ b = .int .i64 20 ∧ w = wr)
    case atStart => exact ⟨rfl, rfl, rfl⟩
    case round =>
      obtain ⟨rfl, rfl, rfl⟩ := hrel
      go_wp2_with fail
      refine HC.out.mono ?_
      rintro e w2 ⟨rfl, ho2, ht2⟩
      go_wp2_with fail
      go_loopg [6] 0 (fun gg a w5 => a = .int .i64 20 ∧ w2 = w5)
      case atStart => exact ⟨rfl, rfl⟩
      case round =>
        obtain ⟨rfl, rfl⟩ := hrel
        go_wp2_with fail
        refine bodyPost_ret (v := .tuple #[]) (by simp [results, Try.results14, go_sem]) rfl ⟨rfl, ho2, ht2⟩
theorem sortStable_any (B : Nat) (g n c : Nat) (l : List WhoM) (w : World) (ho : OwnW B w (some ⟨g, 0, none⟩) n c l) (hn : n ≤ 20) (wf : ∀ x ∈ l, x.wf) :
    Calls Try.prog 12 #[.slice (some ⟨g, 0, none⟩) n c, .func (Fn.func 13) #[] #[]] w (InsPost w B g n c (sortW l)) := by
  go_enter Try.func12, Try.ntmps12
  go_wp2_with fail
  refine (stable_any B g n c l w ho hn wf).mono ?_
  rintro e w2 ⟨rfl, ho2, ht2⟩
  go_wp2_with fail
  refine bodyPost_ret (v := .tuple #[]) (by simp [results, Try.results12, go_sem]) rfl ⟨rfl, ho2, ht2⟩
def NilPost (w : World) (e : Ending) (w' : World) : Prop := e = .returned (.tuple #[]) ∧ w = w'
/-- of no row nothing is turned -/
theorem sortNil_any (w : World) : Calls Try.prog 12 #[.slice none 0 0, .func (Fn.func 13) #[] #[]] w (NilPost w) := by
  have I0 : Calls Try.prog 15 #[.slice none 0 0, .int .i64 0, .int .i64 0, .func (Fn.func 13) #[] #[]] w (NilPost w) := by
    go_enter Try.func15, Try.ntmps15
    go_wp2
    go_loopg [8] 0 (fun gg a w5 => a = .int .i64 1 ∧ w = w5)
    case atStart => exact ⟨rfl, rfl⟩
    case round =>
      obtain ⟨rfl, rfl⟩ := hrel
      go_wp2
      refine bodyPost_ret (v := .tuple #[]) (by simp [results, Try.results15, go_sem]) rfl ⟨rfl, rfl⟩
  have I1 : Calls Try.prog 14 #[.slice none 0 0, .int .i64 0, .func (Fn.func 13) #[] #[]] w (NilPost w) := by
    go_enter Try.func14, Try.ntmps14
    go_wp2
    go_loopg [7, 8] 0 (fun gg a b wr => a = .int .i64 0 ∧ b = .int .i64 20 ∧ w = wr)
    case atStart => exact ⟨rfl, rfl, rfl⟩
    case round =>
      obtain ⟨rfl, rfl, rfl⟩ := hrel
      go_wp2_with fail
      refine I0.mono ?_
      rintro e w2 ⟨rfl, rfl⟩
      go_wp2_with fail
      go_loopg [6] 0 (fun gg a w5 => a = .int .i64 20 ∧ w = w5)
      case atStart => exact ⟨rfl, rfl⟩
      case round =>
        obtain ⟨rfl, rfl⟩ := hrel
        go_wp2_with fail
        refine bodyPost_ret (v := .tuple #[]) (by simp [results, Try.results14, go_sem]) rfl ⟨rfl, rfl⟩
  go_enter Try.func12, Try.ntmps12
  go_wp2_with fail
  refine I1.mono ?_
  rintro e w2 ⟨rfl, rfl⟩
  go_wp2_with fail
  refine bodyPost_ret (v := .tuple #[]) (by simp [results, Try.results12, go_sem]) rfl ⟨rfl, rfl⟩
/-- a slice of who runs somewhere, that is only read -/
structure WhosOk (w : World) (A : Option Addr) (c : Nat) (l : List WhoM) : Prop where
  lies : Lies w.heap.size w A (wtc l)
  nil : A = none → l.length = 0 ∧ c = 0
  cap : l.length ≤ c ∧ c ≤ maxLen
  wf : ∀ x ∈ l, x.wf
theorem WhosOk.over {w w' : World} {A : Option Addr} {c : Nat} {l : List WhoM} (h : WhosOk w A c l) (hb : Below w.heap.size w w') : WhosOk w' A c l := ⟨(h.lies.below hb).mono hb.size, h.nil, h.cap, h.wf⟩
def ClonePost (w : World) (n : Nat) (l : List WhoM) (e : Ending) (w' : World) : Prop := ∃ A c, e = .returned (.slice A n c) ∧ OwnW w.heap.size w' A n c l ∧ Below w.heap.size w w' ∧ (A = none → l = [])
theorem clone_any (A : Option Addr) (c : Nat) (l : List WhoM) (w : World) (h : WhosOk w A c l) (hl : l.length ≤ 1000) : Calls Try.prog 11 #[.slice A l.length c] w (ClonePost w l.length l) := by
  obtain ⟨i0, hi0, hy0, hy1, hy2⟩ := info_parts infoWho
  cases A with
  | none =>
    have h0 := h.nil rfl
    have hz : l = [] := List.eq_nil_of_length_eq_zero h0.1
    have hc := h0.2
    subst hz
    subst hc
    have P : ClonePost w 0 [] (.returned (.slice none 0 0)) w := ⟨none, 0, rfl, OwnW.empty _ _, Below.refl _ _, fun _ => rfl⟩
    have HP := hidp P
    clear P h h0
    have hnl := fun (w : World) (a : Option Addr) (n c : Nat) => Lib.run_eql_slice_nil (P := Try.prog) w 24 23 a n c 0 0 Try.underlying24
    go_enter Try.func11, Try.ntmps11
    go_wp2
    go_ret
    exact HP.out
  | some a =>
    have Q2 : Hid ((some a : Option Addr) = none → l.length = 0 ∧ c = 0) := hidp h.nil
    have L2 : Hid ((wtc l).length = l.length * 3) := hidp (wtc_len l)
    have O2 := hidp (wtc_one l)
    have N2 : Hid (0 + l.length ≤ maxLen) := hidp (by unfold maxLen; omega)
    have T2 : Hid ((0 + l.length) * 24 ≤ 140737488355328) := hidp (by omega)
    have S2 := hidp (((h.lies.alloc (Nat.le_refl _) (.cells (([] : List Value)).toArray 23))).mono (by simp : w.heap.size ≤ (w.alloc (.cells (([] : List Value)).toArray 23)).heap.size))
    have o0 : (w.alloc (.cells (([] : List Value)).toArray 23)).ownsRow w.heap.size 23 3 (.slice (some ⟨w.heap.size, 0, none⟩) 0 0) 0 [] := ⟨rfl, .inr ⟨w.heap.size, 0, _, rfl, Nat.le_refl _, Bk.new w _ _, Nat.le_refl _, by decide, by simp, by simp⟩⟩
    have hb := (Below.refl w.heap.size w).alloc (Nat.le_refl _) (.cells (([] : List Value)).toArray 23)
    have Z2 : Hid (w.heap.size ≤ (w.alloc (.cells (([] : List Value)).toArray 23)).heap.size) := hidp (by simp)
    have hm : l.length ≤ 9223372036854775807 := by omega
    have hnl := fun (w : World) (a : Option Addr) (n c : Nat) => Lib.run_eql_slice_nil (P := Try.prog) w 24 23 a n c 0 0 Try.underlying24
    clear h
    go_enter Try.func11, Try.ntmps11
    go_wp2_with (at_builtin; go_loud (refine wpList_app2 _ rfl (.tmp 5) (.tmp 6) 24 rfl w.heap.size 23 i0 _ 3 24 Try.underlying24 hi0 hy0 hy1 hy2 rfl (by decide) (some ⟨w.heap.size, 0, none⟩) 0 0 [] rfl o0 _ (some a) l.length c (wtc l) rfl Q2.out L2.out S2.out O2.out N2.out T2.out Z2.out ?_); intro A' c' w4 happ)
    rw [Nat.zero_add, List.nil_append] at happ
    have P : ClonePost w l.length l (.returned (.slice A' l.length c')) w4 := ⟨A', c', rfl, ⟨happ.own, rfl, happ.cap, happ.nil⟩, hb.trans (happ.turned.below hb.size (by simp [fp])), fun e => List.eq_nil_of_length_eq_zero (happ.nil e).1⟩
    have HP := hidp P
    clear P happ
    go_wp2
    go_ret
    exact HP.out
end Go.Proofs.Ytonodmoklbmfkaa
