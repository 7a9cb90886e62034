/- turn: the library's symMerge of a row and one more, at rows of who runs. Printed by tools/turn/turn8.py. -/
import Derived.Test.YtonodmoklbmfkaaTurn7
namespace Go.Proofs.Ytonodmoklbmfkaa
open Go.ChangeShapes Go.WideShapes Go.ChangeAt Go.RowKit
set_option linter.unusedVariables false
set_option linter.unusedSimpArgs false
def SymPost (w : World) (B : Nat) (g n c : Nat) (P L Q : List WhoM) (e : Ending) (w' : World) : Prop := e = .returned (.tuple #[]) ∧ ∃ C, Srt C ∧ C.Perm L ∧ OwnW B w' (some ⟨g, 0, none⟩) n c (P ++ C ++ Q) ∧ Turned [g] w w'
theorem getD_at (P A Q : List WhoM) {t i : Nat} (h : t < A.length) (hi : i = P.length + t) : (P ++ A ++ Q).getD i default = A.getD t default := by
  subst hi
  rw [List.append_assoc, List.getD_eq_getElem?_getD, List.getElem?_append_right (by omega), Nat.add_sub_cancel_left, List.getElem?_append_left h, List.getD_eq_getElem?_getD]
theorem take_more {A : List WhoM} {k : Nat} (h : k < A.length) : A.take (k + 1) = A.take k ++ [A.getD k default] := by
  rw [List.take_succ_eq_append_getElem h]; simp [List.getD, h]
theorem drop_more {A : List WhoM} {k : Nat} (h : k < A.length) : A.drop k = A.getD k default :: A.drop (k + 1) := by
  rw [List.drop_eq_getElem_cons h]; simp [List.getD, h]
theorem Srt.take {A : List WhoM} (h : Srt A) (k : Nat) : Srt (A.take k) := List.Pairwise.sublist (List.take_sublist _ _) h
theorem Srt.drop {A : List WhoM} (h : Srt A) (k : Nat) : Srt (A.drop k) := List.Pairwise.sublist (List.drop_sublist _ _) h
/-- one, t places into a row -/
def mvR (P : List WhoM) (x : WhoM) (A Q : List WhoM) (t : Nat) : List WhoM := P ++ (A.take t ++ x :: A.drop t) ++ Q
theorem mvR_zero (P : List WhoM) (x : WhoM) (A Q : List WhoM) : mvR P x A Q 0 = P ++ x :: A ++ Q := by simp [mvR]
theorem mvR_all (P : List WhoM) (x : WhoM) (A Q : List WhoM) : mvR P x A Q A.length = P ++ (A ++ [x]) ++ Q := by simp [mvR]
theorem mvR_len (P : List WhoM) (x : WhoM) (A Q : List WhoM) (t : Nat) : (mvR P x A Q t).length = P.length + 1 + A.length + Q.length := by
  unfold mvR; simp; omega
theorem mvR_next (P : List WhoM) (x : WhoM) (A Q : List WhoM) {t i j : Nat} (h : t < A.length) (hi : i = P.length + t) (hj : j = P.length + t + 1) :
    (mvR P x A Q t).getD i default = x ∧ (mvR P x A Q t).getD j default = A.getD t default ∧ swp (mvR P x A Q t) i j = mvR P x A Q (t + 1) ∧
    (mvR P x A Q (t + 1)).getD i default = A.getD t default ∧ (mvR P x A Q (t + 1)).getD j default = x ∧ swp (mvR P x A Q (t + 1)) j i = mvR P x A Q t := by
  have e0 : mvR P x A Q t = (P ++ A.take t) ++ x :: ([] ++ A.getD t default :: (A.drop (t + 1) ++ Q)) := by unfold mvR; rw [drop_more h]; simp
  have e1 : mvR P x A Q (t + 1) = (P ++ A.take t) ++ A.getD t default :: ([] ++ x :: (A.drop (t + 1) ++ Q)) := by unfold mvR; rw [take_more h]; simp
  obtain ⟨h1, h2, h3, _⟩ := swp_mid (P ++ A.take t) [] (A.drop (t + 1) ++ Q) x (A.getD t default) (i := i) (j := j) (by simp; omega) (by simp; omega)
  obtain ⟨g1, g2, _, g4⟩ := swp_mid (P ++ A.take t) [] (A.drop (t + 1) ++ Q) (A.getD t default) x (i := i) (j := j) (by simp; omega) (by simp; omega)
  rw [← e0] at h1 h2 h3
  rw [← e1] at g1 g2 g4
  exact ⟨h1, h2, by rw [h3, e1], g1, g2, by rw [g4, e0]⟩
theorem srt_ins {A : List WhoM} {s : Nat} {x : WhoM} (h : Srt A) (hs : s ≤ A.length) (h1 : s = 0 ∨ Lew (A.getD (s - 1) default) x) (h2 : s = A.length ∨ Lew x (A.getD s default)) : Srt (A.take s ++ x :: A.drop s) ∧ (A.take s ++ x :: A.drop s).Perm (x :: A) := by
  have one : Srt [x] := List.pairwise_singleton _ _
  have l1 : ∀ y ∈ A.take s, Lew y x := fun y hy => all_le (h.take s) one (by
    rcases h1 with rfl | h1
    · exact .inl (by simp)
    · by_cases e : s = 0
      · exact .inl (by rw [e]; simp)
      · refine .inr (.inr ⟨A.take (s - 1), A.getD (s - 1) default, x, [], ?_, rfl, h1⟩)
        rw [← take_more (by omega), show s - 1 + 1 = s by omega]) y hy x (by simp)
  have l2 : ∀ y ∈ A.drop s, Lew x y := fun y hy => all_le one (h.drop s) (by
    rcases h2 with rfl | h2
    · exact .inr (.inl (by simp))
    · by_cases e : s = A.length
      · exact .inr (.inl (by rw [e]; simp))
      · exact .inr (.inr ⟨[], x, A.getD s default, A.drop (s + 1), rfl, drop_more (by omega), h2⟩)) x (by simp) y hy
  refine ⟨List.pairwise_append.2 ⟨h.take s, List.pairwise_cons.2 ⟨l2, h.drop s⟩, fun a ha b hb => ?_⟩, ?_⟩
  · rcases List.mem_cons.1 hb with rfl | hb
    · exact l1 a ha
    · exact (l1 a ha).tr (l2 b hb)
  · refine List.perm_middle.trans ?_
    rw [List.take_append_drop]

set_option maxHeartbeats 8000000 in
set_option maxRecDepth 100000 in
theorem symA_any (B : Nat) (g n c : Nat) (P : List WhoM) (x : WhoM) (A Q : List WhoM) (w : World) (ho : OwnW B w (some ⟨g, 0, none⟩) n c (mvR P x A Q 0)) (hn : n ≤ 1000) (hA : Srt A) (wf : ∀ y ∈ x :: A, y.wf) (a m b : Nat) (ha : a = P.length) (hm : m = P.length + 1) (hb : b = P.length + 1 + A.length) (h0 : 1 ≤ A.length) :
    Calls Try.prog 16 #[.slice (some ⟨g, 0, none⟩) n c, .int .i64 a, .int .i64 m, .int .i64 b, .func (Fn.func 13) #[] #[]] w (SymPost w B g n c P (x :: A) Q) := by
  have HN : Hid (n = P.length + 1 + A.length + Q.length) := hidp (by have := ho.len; rw [mvR_len] at this; omega)
  have HD : Hid (a = P.length ∧ m = P.length + 1 ∧ b = P.length + 1 + A.length ∧ 1 ≤ A.length ∧ n ≤ 1000) := hidp ⟨ha, hm, hb, h0, hn⟩
  have HWF := hidp wf
  have HSA := hidp hA
  have hwx : x.wf := wf x (by simp)
  have hN := HN.out
  obtain ⟨M, hM⟩ : ∃ M, M = A.length := ⟨_, rfl⟩
  have HM := hidp hM
  have w0 : IntKind.i64.wrap ((m : Int) - (a : Int)) = 1 := by rw [IntWalk.i64_in _ (by omega)]; omega
  clear wf hA hN ha hm hb h0 hn hM
  go_enter Try.func16, Try.ntmps16
  go_wp2
  go_loopg [10, 11] M (fun gg i j wr => ∃ ua va i0 j0 : Nat, i = .int .i64 (i0 : Int) ∧ j = .int .i64 (j0 : Int) ∧ Hid (ua ≤ va ∧ va ≤ M ∧ gg = va - ua ∧ i0 = m + ua ∧ j0 = m + va) ∧ Hid (ua = 0 ∨ aheadB (A.getD (ua - 1) default) x = true) ∧ Hid (va = M ∨ aheadB (A.getD va default) x = false) ∧ OwnW B wr (some ⟨g, 0, none⟩) n c (mvR P x A Q 0) ∧ Turned [g] w wr)
  case atStart => exact ⟨0, M, m, b, rfl, rfl, hidp ⟨by omega, by omega, by omega, by omega, by have := HD.out; have := HM.out; omega⟩, hidp (.inl rfl), hidp (.inl rfl), ho, Turned.refl _ _⟩
  case round =>
    clear ho
    obtain ⟨ua, va, i0, j0, rfl, rfl, HR, HL, HG, ho1, ht1⟩ := hrel
    obtain ⟨hd1, hd2, hd3, hd4, hd5⟩ := HD.out
    have hN := HN.out
    have hM := HM.out
    obtain ⟨r1, r2, r3, r4, r5⟩ := HR.out
    by_cases hlt : ua < va
    · obtain ⟨t, h, ht, hh⟩ : ∃ t h : Nat, h = (i0 + j0) / 2 ∧ h = m + t := ⟨(i0 + j0) / 2 - m, _, rfl, by omega⟩
      have hu : (i0 : Int) < (j0 : Int) := by omega
      have x1 : IntKind.i64.wrap ((i0 : Int) + (j0 : Int)) = (i0 : Int) + (j0 : Int) := IntWalk.i64_in _ (by omega)
      have x2 : IntKind.u64.wrap ((i0 : Int) + (j0 : Int)) = (i0 : Int) + (j0 : Int) := IntWalk.u64_in _ (by omega)
      have x3 : ((i0 : Int) + (j0 : Int)) / 2 = (h : Int) := by omega
      have x4 : IntKind.i64.wrap (h : Int) = (h : Int) := IntWalk.i64_in _ (by omega)
      have x5 : IntKind.u64.wrap (h : Int) = (h : Int) := IntWalk.u64_in _ (by omega)
      have x6 : IntKind.i64.wrap ((h : Int) + 1) = (h : Int) + 1 := IntWalk.i64_in _ (by omega)
      obtain ⟨y, hy⟩ : ∃ y, A.getD t default = y := ⟨_, rfl⟩
      have htA : t < A.length := by omega
      have ey : (mvR P x A Q 0).getD h default = y := by
        rw [← hy, mvR_zero, show P ++ x :: A ++ Q = P ++ (x :: A) ++ Q from by simp, getD_at P (x :: A) Q (t := t + 1) (by simp; omega) (by omega)]
        rfl
      have ex : (mvR P x A Q 0).getD a default = x := by
        rw [mvR_zero, show P ++ x :: A ++ Q = P ++ (x :: A) ++ Q from by simp, getD_at P (x :: A) Q (t := 0) (by simp) (by omega)]
        rfl
      have cy := ho1.at_ (i := h) (by rw [mvR_len]; omega)
      have cx := ho1.at_ (i := a) (by rw [mvR_len]; omega)
      rw [ey] at cy
      rw [ex] at cx
      have hwy : y.wf := HWF.out y (by rw [← hy]; simp [List.getD, htA])
      have b0 : (0 : Int) ≤ (h : Int) := by omega
      have b1 : (h : Int) < (n : Int) := by omega
      have b2 : (0 : Int) ≤ (a : Int) := by omega
      have b3 : (a : Int) < (n : Int) := by omega
      have HH : Hid (h = m + t ∧ ua ≤ t ∧ t < va ∧ A.getD t default = y) := hidp ⟨hh, by omega, by omega, hy⟩
      clear hd1 hd2 hd3 hd4 hd5 hN hM r1 r2 r3 r4 r5 hlt ht hh hy htA ey ex
      go_wp2
      have hS : wr.drew.cell? ⟨g, h * 3, none⟩ = some (.int .i64 y.task) ∧ wr.drew.cell? ⟨g, h * 3 + 1, none⟩ = some (.int .i64 y.prio) ∧ wr.drew.cell? ⟨g, h * 3 + 2, none⟩ = some (.int .i64 y.boost) ∧ wr.drew.cell? ⟨g, a * 3, none⟩ = some (.int .i64 x.task) ∧ wr.drew.cell? ⟨g, a * 3 + 1, none⟩ = some (.int .i64 x.prio) ∧ wr.drew.cell? ⟨g, a * 3 + 2, none⟩ = some (.int .i64 x.boost) := ⟨cy.1, cy.2.1, cy.2.2, cx.1, cx.2.1, cx.2.2⟩
      have ho2 := ho1.turned (Turned.refl [] wr).drew (by simp)
      have ht2 := ht1.drew
      have ob := orderV_bd y x
      obtain ⟨o, Ho⟩ : ∃ o, Hid (orderV y x = o) := ⟨_, hidp rfl⟩
      have Hord := hidp (orderV_neg y x)
      rw [Ho.out] at ob Hord
      clear cx cy ho1 ht1
      go_region_held3 (fun w' => w'.cell? ⟨g, h * 3, none⟩ = some (.int .i64 y.task) ∧ w'.cell? ⟨g, h * 3 + 1, none⟩ = some (.int .i64 y.prio) ∧ w'.cell? ⟨g, h * 3 + 2, none⟩ = some (.int .i64 y.boost) ∧ w'.cell? ⟨g, a * 3, none⟩ = some (.int .i64 x.task) ∧ w'.cell? ⟨g, a * 3 + 1, none⟩ = some (.int .i64 x.prio) ∧ w'.cell? ⟨g, a * 3 + 2, none⟩ = some (.int .i64 x.boost)) (exact hS)
        (first
          | (go_at_call 13; refine (order_any y x _ hwy hwx).mono ?_; rintro e uw ⟨rfl, hb3⟩; have k3 := Keeps2 hb3; have hS := And.intro (k3 _ _ hS.1) (And.intro (k3 _ _ hS.2.1) (And.intro (k3 _ _ hS.2.2.1) (And.intro (k3 _ _ hS.2.2.2.1) (And.intro (k3 _ _ hS.2.2.2.2.1) (k3 _ _ hS.2.2.2.2.2))))); have ho2 := ho2.turned (Turned.of_below hb3 []) (by simp); have ht2 := ht2.trans (Turned.of_below hb3 []) (by simp); clear k3; rw [Ho.out]))
      by_cases hxy : aheadB y x = true
      · have hod : decide (o < 0) = true := by have := Hord.out.2 hxy; simpa using this
        have hod2 : o < 0 := Hord.out.2 hxy
        have hod3 : ¬ 0 ≤ o := by omega
        have hod4 : (!decide (o < 0)) = false := by rw [hod]; rfl
        have Hxy := hidp hxy
        clear hxy hS
        try simp only [hod, Bool.not_true, Bool.not_false]
        go_wp2
        go_roundg (va - (t + 1))
        case measure => have := HR.out; have := HH.out; omega
        case rel => exact ⟨(t + 1), va, h + 1, j0, by first | rfl | go_num, by first | rfl | go_num, hidp (by have := HR.out; have := HH.out; omega), hidp (.inr (by rw [Nat.add_sub_cancel, HH.out.2.2.2]; exact Hxy.out)), HG, ho2, ht2⟩
      · have hx0 : aheadB y x = false := by simpa using hxy
        have hod2 : ¬ o < 0 := fun h => hxy (Hord.out.1 h)
        have hod : decide (o < 0) = false := by simpa using hod2
        have hod3 : 0 ≤ o := by omega
        have hod4 : (!decide (o < 0)) = true := by rw [hod]; rfl
        have Hxy := hidp hx0
        clear hxy hS hx0
        try simp only [hod, Bool.not_true, Bool.not_false]
        go_wp2
        go_roundg (t - ua)
        case measure => have := HR.out; have := HH.out; omega
        case rel => exact ⟨ua, t, i0, h, by first | rfl | go_num, by first | rfl | go_num, hidp (by have := HR.out; have := HH.out; omega), HL, hidp (.inr (by rw [HH.out.2.2.2]; exact Hxy.out)), ho2, ht2⟩
    · obtain rfl : ua = va := by omega
      obtain rfl : i0 = j0 := by omega
      have hu : ¬ (i0 : Int) < (i0 : Int) := by omega
      have HI0 : Hid (i0 = m + ua) := hidp r4
      have HU : Hid (ua ≤ A.length) := hidp (by omega)
      obtain ⟨e0, he⟩ : ∃ e0, e0 = a + ua := ⟨_, rfl⟩
      have HE := hidp he
      have w2 : IntKind.i64.wrap ((i0 : Int) - 1) = (e0 : Int) := by rw [IntWalk.i64_in _ (by omega)]; omega
      clear he
      clear hd1 hd2 hd3 hd4 hd5 hN hM r1 r2 r3 r4 r5 hlt
      go_wp2
      go_loopg [13] ua (fun gg k wr => ∃ t k0 : Nat, k = .int .i64 (k0 : Int) ∧ Hid ((t ≤ ua ∧ gg = ua - t) ∧ k0 = a + t) ∧ OwnW B wr (some ⟨g, 0, none⟩) n c (mvR P x A Q t) ∧ Turned [g] w wr)
      case atStart => exact ⟨0, a, rfl, hidp (by have := HD.out; have := HU.out; omega), ho1, ht1⟩
      case round =>
        clear ho1 ht1
        obtain ⟨t, I, rfl, HT, ho1, ht1⟩ := hrel
        by_cases hlt : t < ua
        · obtain ⟨hd1, hd2, hd3, hd4, hd5⟩ := HD.out
          have hN := HN.out
          have hU := HU.out
          have hT := HT.out
          have hI0 := HI0.out
          obtain ⟨J, hJ⟩ : ∃ J, J = a + t + 1 := ⟨_, rfl⟩
          obtain ⟨e1, e2, e3, q1, q2, q3⟩ := mvR_next P x A Q (t := t) (i := I) (j := J) (by omega) (by omega) (by omega)
          have q4 := q3
          have q5 := q3
          have hc : (I : Int) < (e0 : Int) := by have := HE.out; omega
          have x1 : IntKind.i64.wrap ((I : Int) + 1) = (J : Int) := by rw [IntWalk.i64_in _ (by omega)]; omega
          obtain ⟨y, hy⟩ : ∃ y, A.getD t default = y := ⟨_, rfl⟩
          rw [hy] at e2
          have HSW := hidp e3
          have HI : I < (mvR P x A Q t).length := by rw [mvR_len]; omega
          have HJ : J < (mvR P x A Q t).length := by rw [mvR_len]; omega
          have hne : I ≠ J := by omega
          have k0 : (0 : Int) ≤ (I : Int) := by omega
          have k1 : (I : Int) < (n : Int) := by omega
          have k2 : (0 : Int) ≤ (J : Int) := by omega
          have k3 : (J : Int) < (n : Int) := by omega
          have HIJ : Hid (J = a + (t + 1) ∧ t < ua) := hidp (by omega)
          clear hd1 hd2 hd3 hd4 hd5 hN hU hT hI0 e3 hy hJ hlt q1 q2 q3 q4 q5
          have cx := ho1.at_ HI
          rw [e1] at cx
          have cy := ho1.at_ HJ
          rw [e2] at cy
          obtain ⟨x0, x1, x2⟩ := id cx
          obtain ⟨y0, y1, y2⟩ := id cy
          have f0 := ho1.free (I * 3)
          have f1 := ho1.free (I * 3 + 1)
          have f2 := ho1.free (I * 3 + 2)
          have f3 := ho1.free (J * 3)
          have f4 := ho1.free (J * 3 + 1)
          have f5 := ho1.free (J * 3 + 2)
          have ho2 := ho1.set HI y
          have ho3 := ho2.set (i := J) (by rw [List.length_set]; exact HJ) x
          have Hsw : Hid (((mvR P x A Q t).set I y).set J x = mvR P x A Q (t + 1)) := hidp (by have := HSW.out; unfold swp at this; rw [e1, e2] at this; exact this)
          have e9 : ((mvR P x A Q t).set I y).getD J default = y := by
            simp only [List.getD, List.getElem?_set, hne, if_false] at e2 ⊢
            exact e2
          have cz := ho2.at_ (i := J) (by rw [List.length_set]; exact HJ)
          rw [e9] at cz
          have z0 : (((wr.setCell ⟨g, I * 3, none⟩ (.int .i64 y.task)).setCell ⟨g, I * 3 + 1, none⟩ (.int .i64 y.prio)).setCell ⟨g, I * 3 + 2, none⟩ (.int .i64 y.boost)).drew.cell? ⟨g, J * 3, none⟩ = some (.int .i64 y.task) := cz.1
          have z1 : (((wr.setCell ⟨g, I * 3, none⟩ (.int .i64 y.task)).setCell ⟨g, I * 3 + 1, none⟩ (.int .i64 y.prio)).setCell ⟨g, I * 3 + 2, none⟩ (.int .i64 y.boost)).drew.cell? ⟨g, J * 3 + 1, none⟩ = some (.int .i64 y.prio) := cz.2.1
          have z2 : (((wr.setCell ⟨g, I * 3, none⟩ (.int .i64 y.task)).setCell ⟨g, I * 3 + 1, none⟩ (.int .i64 y.prio)).setCell ⟨g, I * 3 + 2, none⟩ (.int .i64 y.boost)).drew.cell? ⟨g, J * 3 + 2, none⟩ = some (.int .i64 y.boost) := cz.2.2
          have g3 : (((wr.setCell ⟨g, I * 3, none⟩ (.int .i64 y.task)).setCell ⟨g, I * 3 + 1, none⟩ (.int .i64 y.prio)).setCell ⟨g, I * 3 + 2, none⟩ (.int .i64 y.boost)).drew.frozen? ⟨g, J * 3, none⟩ = false := ho2.free (J * 3)
          have g4 : (((wr.setCell ⟨g, I * 3, none⟩ (.int .i64 y.task)).setCell ⟨g, I * 3 + 1, none⟩ (.int .i64 y.prio)).setCell ⟨g, I * 3 + 2, none⟩ (.int .i64 y.boost)).drew.frozen? ⟨g, J * 3 + 1, none⟩ = false := ho2.free (J * 3 + 1)
          have g5 : (((wr.setCell ⟨g, I * 3, none⟩ (.int .i64 y.task)).setCell ⟨g, I * 3 + 1, none⟩ (.int .i64 y.prio)).setCell ⟨g, I * 3 + 2, none⟩ (.int .i64 y.boost)).drew.frozen? ⟨g, J * 3 + 2, none⟩ = false := ho2.free (J * 3 + 2)
          have n0 : ¬ I = J := hne
          have n1 : ¬ I * 3 + 1 = J * 3 := by omega
          have n2 : ¬ I * 3 + 2 = J * 3 := by omega
          have n3 : ¬ I * 3 = J * 3 + 1 := by omega
          have n4 : ¬ I * 3 = J * 3 + 2 := by omega
          have n5 : ¬ J = I := fun e => n0 e.symm
          have n6 : ¬ J * 3 + 1 = I * 3 := fun e => n3 e.symm
          have n7 : ¬ J * 3 + 2 = I * 3 := fun e => n4 e.symm
          have n8 : ¬ J * 3 = I * 3 + 1 := fun e => n1 e.symm
          have n9 : ¬ J * 3 = I * 3 + 2 := fun e => n2 e.symm
          have ho4 := ho3.turned (Turned.refl [] _).drew (by simp)
          rw [Hsw.out] at ho4
          have ht4 := ((ht1.trans (put3w_turned wr g (I * 3) y) (by simp)).trans (put3w_turned _ g (J * 3) x) (by simp)).drew
          clear e9 cz cx cy hne e1 e2 ho1 ho2 ho3 ht1 Hsw HSW
          go_wp2
          refine wp_region_held_drew (S := fun _ => True) (by kernel_rfl) trivial (fun hHeld => ?_)
          refine wpAnyH_take (i := 0) (v := ?_) rfl (by kernel_rfl) (by kernel_rfl) (by kernel_rfl) (fun _ _ _ h => h) (Or.inl ⟨by rfl, ?_⟩) (by assumption) ?_
          rotate_left 1
          · ((intro w hSw; (try dsimp only at hSw); go_simp); (try with_reducible rfl))
          simp only [Act.put, List.setIfInBounds_toArray, List.set_cons_zero, List.set_cons_succ, List.getElem_toArray, List.getElem_cons_zero, List.getElem_cons_succ]
          refine wpAnyH_take (i := 1) (v := ?_) rfl (by kernel_rfl) (by kernel_rfl) (by kernel_rfl) (fun _ _ _ h => h) (Or.inl ⟨by rfl, ?_⟩) (by assumption) ?_
          rotate_left 1
          · ((intro w hSw; (try dsimp only at hSw); go_simp); (try with_reducible rfl))
          simp only [Act.put, List.setIfInBounds_toArray, List.set_cons_zero, List.set_cons_succ, List.getElem_toArray, List.getElem_cons_zero, List.getElem_cons_succ]
          refine wpAnyH_take (i := 2) (v := ?_) rfl (by kernel_rfl) (by kernel_rfl) (by kernel_rfl) (fun _ _ _ h => h) (Or.inl ⟨by rfl, ?_⟩) (by assumption) ?_
          rotate_left 1
          · ((intro w hSw; (try dsimp only at hSw); go_simp); (try with_reducible rfl))
          simp only [Act.put, List.setIfInBounds_toArray, List.set_cons_zero, List.set_cons_succ, List.getElem_toArray, List.getElem_cons_zero, List.getElem_cons_succ]
          refine wpAnyH_take (i := 3) (v := ?_) rfl (by kernel_rfl) (by kernel_rfl) (by kernel_rfl) (fun _ _ _ h => h) (Or.inl ⟨by rfl, ?_⟩) (by assumption) ?_
          rotate_left 1
          · ((intro w hSw; (try dsimp only at hSw); go_simp); (try with_reducible rfl))
          simp only [Act.put, List.setIfInBounds_toArray, List.set_cons_zero, List.set_cons_succ, List.getElem_toArray, List.getElem_cons_zero, List.getElem_cons_succ]
          refine wpAnyH_take (i := 4) (v := ?_) rfl (by kernel_rfl) (by kernel_rfl) (by kernel_rfl) (fun _ _ _ h => h) (Or.inl ⟨by rfl, ?_⟩) (by assumption) ?_
          rotate_left 1
          · ((intro w hSw; (try dsimp only at hSw); go_simp); (try with_reducible rfl))
          simp only [Act.put, List.setIfInBounds_toArray, List.set_cons_zero, List.set_cons_succ, List.getElem_toArray, List.getElem_cons_zero, List.getElem_cons_succ]
          refine wpAnyH_take (i := 5) (v := ?_) rfl (by kernel_rfl) (by kernel_rfl) (by kernel_rfl) (fun _ _ _ h => h) (Or.inl ⟨by rfl, ?_⟩) (by assumption) ?_
          rotate_left 1
          · ((intro w hSw; (try dsimp only at hSw); go_simp); (try with_reducible rfl))
          simp only [Act.put, List.setIfInBounds_toArray, List.set_cons_zero, List.set_cons_succ, List.getElem_toArray, List.getElem_cons_zero, List.getElem_cons_succ]
          refine wpAnyH_take (i := 6) (v := ?_) rfl (by kernel_rfl) (by kernel_rfl) (by kernel_rfl) (fun _ _ _ h => h) (Or.inl ⟨by rfl, ?_⟩) (by assumption) ?_
          rotate_left 1
          · ((intro w hSw; (try dsimp only at hSw); go_simp); (try with_reducible rfl))
          simp only [Act.put, List.setIfInBounds_toArray, List.set_cons_zero, List.set_cons_succ, List.getElem_toArray, List.getElem_cons_zero, List.getElem_cons_succ]
          refine wpAnyH_take (i := 7) (v := ?_) rfl (by kernel_rfl) (by kernel_rfl) (by kernel_rfl) (fun _ _ _ h => h) (Or.inl ⟨by rfl, ?_⟩) (by assumption) ?_
          rotate_left 1
          · ((intro w hSw; (try dsimp only at hSw); go_simp); (try with_reducible rfl))
          simp only [Act.put, List.setIfInBounds_toArray, List.set_cons_zero, List.set_cons_succ, List.getElem_toArray, List.getElem_cons_zero, List.getElem_cons_succ]
          refine wpAnyH_take (i := 8) (v := ?_) rfl (by kernel_rfl) (by kernel_rfl) (by kernel_rfl) (fun _ _ _ h => h) (Or.inl ⟨by rfl, ?_⟩) (by assumption) ?_
          rotate_left 1
          · ((intro w hSw; (try dsimp only at hSw); go_simp); (try with_reducible rfl))
          simp only [Act.put, List.setIfInBounds_toArray, List.set_cons_zero, List.set_cons_succ, List.getElem_toArray, List.getElem_cons_zero, List.getElem_cons_succ]
          refine wpAnyH_take (i := 10) (v := ?_) rfl (by kernel_rfl) (by kernel_rfl) (by kernel_rfl) (fun _ _ _ h => h) (Or.inl ⟨by rfl, ?_⟩) (by assumption) ?_
          rotate_left 1
          · ((intro w hSw; (try dsimp only at hSw); go_simp); (try with_reducible rfl))
          simp only [Act.put, List.setIfInBounds_toArray, List.set_cons_zero, List.set_cons_succ, List.getElem_toArray, List.getElem_cons_zero, List.getElem_cons_succ]
          refine wpAnyH_take (i := 11) (v := ?_) rfl (by kernel_rfl) (by kernel_rfl) (by kernel_rfl) (fun _ _ _ h => h) (Or.inl ⟨by rfl, ?_⟩) (by assumption) ?_
          rotate_left 1
          · ((intro w hSw; (try dsimp only at hSw); go_simp); (try with_reducible rfl))
          simp only [Act.put, List.setIfInBounds_toArray, List.set_cons_zero, List.set_cons_succ, List.getElem_toArray, List.getElem_cons_zero, List.getElem_cons_succ]
          refine wpAnyH_take (i := 12) (v := ?_) rfl (by kernel_rfl) (by kernel_rfl) (by kernel_rfl) (fun _ _ _ h => h) (Or.inl ⟨by rfl, ?_⟩) (by assumption) ?_
          rotate_left 1
          · ((intro w hSw; (try dsimp only at hSw); go_simp); (try with_reducible rfl))
          simp only [Act.put, List.setIfInBounds_toArray, List.set_cons_zero, List.set_cons_succ, List.getElem_toArray, List.getElem_cons_zero, List.getElem_cons_succ]
          refine wpAnyH_ready (rs := [9, 13]) (by kernel_rfl) (by simp) ?_
          refine AllReadyH.cons rfl (fun K hK => ?_) (AllReadyH.cons rfl (fun K hK => ?_) AllReadyH.nil)
          go_simp
          refine hK.out _ _ trivial (fun hHeld => ?_)
          clear hK K
          try simp only [Act.put, List.setIfInBounds_toArray, List.set_cons_zero, List.set_cons_succ, List.getElem_toArray, List.getElem_cons_zero, List.getElem_cons_succ]
          refine wpAnyH_ready (rs := [13]) (by kernel_rfl) (by simp) ?_
          refine AllReadyH.cons rfl (fun K hK => ?_) AllReadyH.nil
          go_simp
          refine hK.out _ _ trivial (fun hHeld => ?_)
          clear hK K
          try simp only [Act.put, List.setIfInBounds_toArray, List.set_cons_zero, List.set_cons_succ, List.getElem_toArray, List.getElem_cons_zero, List.getElem_cons_succ]
          rotate_left 1
          go_simp
          refine hK.out _ _ trivial (fun hHeld => ?_)
          clear hK K
          try simp only [Act.put, List.setIfInBounds_toArray, List.set_cons_zero, List.set_cons_succ, List.getElem_toArray, List.getElem_cons_zero, List.getElem_cons_succ]
          refine wpAnyH_ready (rs := [9]) (by kernel_rfl) (by simp) ?_
          refine AllReadyH.cons rfl (fun K hK => ?_) AllReadyH.nil
          go_simp
          refine hK.out _ _ trivial (fun hHeld => ?_)
          clear hK K
          try simp only [Act.put, List.setIfInBounds_toArray, List.set_cons_zero, List.set_cons_succ, List.getElem_toArray, List.getElem_cons_zero, List.getElem_cons_succ]
          all_goals
            skip
            refine wpAnyH_take (i := 14) (v := ?_) rfl (by kernel_rfl) (by kernel_rfl) (by kernel_rfl) (fun _ _ _ h => h) (Or.inl ⟨by rfl, ?_⟩) (by assumption) ?_
            rotate_left 1
            · ((intro w hSw; (try dsimp only at hSw); go_simp); (try with_reducible rfl))
            simp only [Act.put, List.setIfInBounds_toArray, List.set_cons_zero, List.set_cons_succ, List.getElem_toArray, List.getElem_cons_zero, List.getElem_cons_succ]
            refine wpAnyH_ready (rs := [15]) (by kernel_rfl) (by simp) ?_
            refine AllReadyH.cons rfl (fun K hK => ?_) AllReadyH.nil
            go_simp
            refine hK.out _ _ trivial (fun hHeld => ?_)
            clear hK K
            try simp only [Act.put, List.setIfInBounds_toArray, List.set_cons_zero, List.set_cons_succ, List.getElem_toArray, List.getElem_cons_zero, List.getElem_cons_succ]
            refine wpAnyH_take (i := 16) (v := ?_) rfl (by kernel_rfl) (by kernel_rfl) (by kernel_rfl) (fun _ _ _ h => h) (Or.inl ⟨by rfl, ?_⟩) (by assumption) ?_
            rotate_left 1
            · ((intro w hSw; (try dsimp only at hSw); go_simp); (try with_reducible rfl))
            simp only [Act.put, List.setIfInBounds_toArray, List.set_cons_zero, List.set_cons_succ, List.getElem_toArray, List.getElem_cons_zero, List.getElem_cons_succ]
            refine wpAnyH_ready (rs := [17]) (by kernel_rfl) (by simp) ?_
            refine AllReadyH.cons rfl (fun K hK => ?_) AllReadyH.nil
            go_simp
            refine hK.out _ _ trivial (fun hHeld => ?_)
            clear hK K
            try simp only [Act.put, List.setIfInBounds_toArray, List.set_cons_zero, List.set_cons_succ, List.getElem_toArray, List.getElem_cons_zero, List.getElem_cons_succ]
            refine wpAnyH_done (by kernel_rfl) ?_ _
            go_wp2
            go_roundg (gk - 1)
            case measure => have := HT.out; have := HIJ.out; omega
            case rel => exact ⟨t + 1, J, rfl, hidp (by have := HT.out; have := HU.out; have := HIJ.out; omega), ho4, ht4⟩
        · have hf : t = ua := by have := HT.out; omega
          rw [hf] at ho1
          have hc : ¬ (I : Int) < (e0 : Int) := by have := HE.out; have := HT.out; omega
          go_wp2
          obtain ⟨s1, s2⟩ := srt_ins HSA.out HU.out (HL.out.imp id (fun h => Lew.of h)) (HG.out.imp (fun h => h.trans HM.out) (fun h => h))
          refine bodyPost_ret (v := .tuple #[]) (by simp [results, Try.results16, go_sem]) rfl ⟨rfl, _, s1, s2, ho1, ht1⟩

set_option maxHeartbeats 8000000 in
set_option maxRecDepth 100000 in
theorem symB_any (B : Nat) (g n c : Nat) (P : List WhoM) (x : WhoM) (A Q : List WhoM) (w : World) (ho : OwnW B w (some ⟨g, 0, none⟩) n c (mvR P x A Q A.length)) (hn : n ≤ 1000) (hA : Srt A) (wf : ∀ y ∈ x :: A, y.wf) (a m b : Nat) (ha : a = P.length) (hm : m = P.length + A.length) (hb : b = P.length + 1 + A.length) (h0 : 2 ≤ A.length) :
    Calls Try.prog 16 #[.slice (some ⟨g, 0, none⟩) n c, .int .i64 a, .int .i64 m, .int .i64 b, .func (Fn.func 13) #[] #[]] w (SymPost w B g n c P (A ++ [x]) Q) := by
  have HN : Hid (n = P.length + 1 + A.length + Q.length) := hidp (by have := ho.len; rw [mvR_len] at this; omega)
  have HD : Hid (a = P.length ∧ m = P.length + A.length ∧ b = P.length + 1 + A.length ∧ 2 ≤ A.length ∧ n ≤ 1000) := hidp ⟨ha, hm, hb, h0, hn⟩
  have HWF := hidp wf
  have HSA := hidp hA
  have hwx : x.wf := wf x (by simp)
  have hN := HN.out
  obtain ⟨M, hM⟩ : ∃ M, M = A.length := ⟨_, rfl⟩
  have HM := hidp hM
  obtain ⟨d0, hd0⟩ : ∃ d0, d0 = A.length := ⟨_, rfl⟩
  have w0 : IntKind.i64.wrap ((m : Int) - (a : Int)) = (d0 : Int) := by rw [IntWalk.i64_in _ (by omega)]; omega
  have w1 : IntKind.i64.wrap ((b : Int) - (m : Int)) = 1 := by rw [IntWalk.i64_in _ (by omega)]; omega
  have f0 : ((d0 : Int) == 1) = false := by rw [beq_eq_false_iff_ne]; omega
  clear hd0
  clear wf hA hN ha hm hb h0 hn hM
  go_enter Try.func16, Try.ntmps16
  go_wp2
  go_loopg [14, 15] M (fun gg i j wr => ∃ ua va i0 j0 : Nat, i = .int .i64 (i0 : Int) ∧ j = .int .i64 (j0 : Int) ∧ Hid (ua ≤ va ∧ va ≤ M ∧ gg = va - ua ∧ i0 = a + ua ∧ j0 = a + va) ∧ Hid (ua = 0 ∨ aheadB x (A.getD (ua - 1) default) = false) ∧ Hid (va = M ∨ aheadB x (A.getD va default) = true) ∧ OwnW B wr (some ⟨g, 0, none⟩) n c (mvR P x A Q A.length) ∧ Turned [g] w wr)
  case atStart => exact ⟨0, M, a, m, rfl, rfl, hidp ⟨by omega, by omega, by omega, by omega, by have := HD.out; have := HM.out; omega⟩, hidp (.inl rfl), hidp (.inl rfl), ho, Turned.refl _ _⟩
  case round =>
    clear ho
    obtain ⟨ua, va, i0, j0, rfl, rfl, HR, HL, HG, ho1, ht1⟩ := hrel
    obtain ⟨hd1, hd2, hd3, hd4, hd5⟩ := HD.out
    have hN := HN.out
    have hM := HM.out
    obtain ⟨r1, r2, r3, r4, r5⟩ := HR.out
    by_cases hlt : ua < va
    · obtain ⟨t, h, ht, hh⟩ : ∃ t h : Nat, h = (i0 + j0) / 2 ∧ h = a + t := ⟨(i0 + j0) / 2 - a, _, rfl, by omega⟩
      have hu : (i0 : Int) < (j0 : Int) := by omega
      have x1 : IntKind.i64.wrap ((i0 : Int) + (j0 : Int)) = (i0 : Int) + (j0 : Int) := IntWalk.i64_in _ (by omega)
      have x2 : IntKind.u64.wrap ((i0 : Int) + (j0 : Int)) = (i0 : Int) + (j0 : Int) := IntWalk.u64_in _ (by omega)
      have x3 : ((i0 : Int) + (j0 : Int)) / 2 = (h : Int) := by omega
      have x4 : IntKind.i64.wrap (h : Int) = (h : Int) := IntWalk.i64_in _ (by omega)
      have x5 : IntKind.u64.wrap (h : Int) = (h : Int) := IntWalk.u64_in _ (by omega)
      have x6 : IntKind.i64.wrap ((h : Int) + 1) = (h : Int) + 1 := IntWalk.i64_in _ (by omega)
      obtain ⟨y, hy⟩ : ∃ y, A.getD t default = y := ⟨_, rfl⟩
      have htA : t < A.length := by omega
      have ey : (mvR P x A Q A.length).getD h default = y := by
        rw [← hy, mvR_all, getD_at P (A ++ [x]) Q (t := t) (by simp; omega) (by omega)]
        rw [List.getD_eq_getElem?_getD, List.getElem?_append_left htA, List.getD_eq_getElem?_getD]
      have ex : (mvR P x A Q A.length).getD m default = x := by
        rw [mvR_all, getD_at P (A ++ [x]) Q (t := A.length) (by simp) (by omega)]
        simp [List.getD]
      have cy := ho1.at_ (i := h) (by rw [mvR_len]; omega)
      have cx := ho1.at_ (i := m) (by rw [mvR_len]; omega)
      rw [ey] at cy
      rw [ex] at cx
      have hwy : y.wf := HWF.out y (by rw [← hy]; simp [List.getD, htA])
      have b0 : (0 : Int) ≤ (h : Int) := by omega
      have b1 : (h : Int) < (n : Int) := by omega
      have b2 : (0 : Int) ≤ (m : Int) := by omega
      have b3 : (m : Int) < (n : Int) := by omega
      have HH : Hid (h = a + t ∧ ua ≤ t ∧ t < va ∧ A.getD t default = y) := hidp ⟨hh, by omega, by omega, hy⟩
      clear hd1 hd2 hd3 hd4 hd5 hN hM r1 r2 r3 r4 r5 hlt ht hh hy htA ey ex
      go_wp2
      have hS : wr.drew.cell? ⟨g, m * 3, none⟩ = some (.int .i64 x.task) ∧ wr.drew.cell? ⟨g, m * 3 + 1, none⟩ = some (.int .i64 x.prio) ∧ wr.drew.cell? ⟨g, m * 3 + 2, none⟩ = some (.int .i64 x.boost) ∧ wr.drew.cell? ⟨g, h * 3, none⟩ = some (.int .i64 y.task) ∧ wr.drew.cell? ⟨g, h * 3 + 1, none⟩ = some (.int .i64 y.prio) ∧ wr.drew.cell? ⟨g, h * 3 + 2, none⟩ = some (.int .i64 y.boost) := ⟨cx.1, cx.2.1, cx.2.2, cy.1, cy.2.1, cy.2.2⟩
      have ho2 := ho1.turned (Turned.refl [] wr).drew (by simp)
      have ht2 := ht1.drew
      have ob := orderV_bd x y
      obtain ⟨o, Ho⟩ : ∃ o, Hid (orderV x y = o) := ⟨_, hidp rfl⟩
      have Hord := hidp (orderV_neg x y)
      rw [Ho.out] at ob Hord
      clear cx cy ho1 ht1
      go_region_held3 (fun w' => w'.cell? ⟨g, m * 3, none⟩ = some (.int .i64 x.task) ∧ w'.cell? ⟨g, m * 3 + 1, none⟩ = some (.int .i64 x.prio) ∧ w'.cell? ⟨g, m * 3 + 2, none⟩ = some (.int .i64 x.boost) ∧ w'.cell? ⟨g, h * 3, none⟩ = some (.int .i64 y.task) ∧ w'.cell? ⟨g, h * 3 + 1, none⟩ = some (.int .i64 y.prio) ∧ w'.cell? ⟨g, h * 3 + 2, none⟩ = some (.int .i64 y.boost)) (exact hS)
        (first
          | (go_at_call 13; refine (order_any x y _ hwx hwy).mono ?_; rintro e uw ⟨rfl, hb3⟩; have k3 := Keeps2 hb3; have hS := And.intro (k3 _ _ hS.1) (And.intro (k3 _ _ hS.2.1) (And.intro (k3 _ _ hS.2.2.1) (And.intro (k3 _ _ hS.2.2.2.1) (And.intro (k3 _ _ hS.2.2.2.2.1) (k3 _ _ hS.2.2.2.2.2))))); have ho2 := ho2.turned (Turned.of_below hb3 []) (by simp); have ht2 := ht2.trans (Turned.of_below hb3 []) (by simp); clear k3; rw [Ho.out]))
      by_cases hxy : aheadB x y = true
      · have hod : decide (o < 0) = true := by have := Hord.out.2 hxy; simpa using this
        have hod2 : o < 0 := Hord.out.2 hxy
        have hod3 : ¬ 0 ≤ o := by omega
        have hod4 : (!decide (o < 0)) = false := by rw [hod]; rfl
        have Hxy := hidp hxy
        clear hxy hS
        try simp only [hod, Bool.not_true, Bool.not_false]
        go_wp2
        go_roundg (t - ua)
        case measure => have := HR.out; have := HH.out; omega
        case rel => exact ⟨ua, t, i0, h, by first | rfl | go_num, by first | rfl | go_num, hidp (by have := HR.out; have := HH.out; omega), HL, hidp (.inr (by rw [HH.out.2.2.2]; exact Hxy.out)), ho2, ht2⟩
      · have hx0 : aheadB x y = false := by simpa using hxy
        have hod2 : ¬ o < 0 := fun h => hxy (Hord.out.1 h)
        have hod : decide (o < 0) = false := by simpa using hod2
        have hod3 : 0 ≤ o := by omega
        have hod4 : (!decide (o < 0)) = true := by rw [hod]; rfl
        have Hxy := hidp hx0
        clear hxy hS hx0
        try simp only [hod, Bool.not_true, Bool.not_false]
        go_wp2
        go_roundg (va - (t + 1))
        case measure => have := HR.out; have := HH.out; omega
        case rel => exact ⟨(t + 1), va, h + 1, j0, by first | rfl | go_num, by first | rfl | go_num, hidp (by have := HR.out; have := HH.out; omega), hidp (.inr (by rw [Nat.add_sub_cancel, HH.out.2.2.2]; exact Hxy.out)), HG, ho2, ht2⟩
    · obtain rfl : ua = va := by omega
      obtain rfl : i0 = j0 := by omega
      have hu : ¬ (i0 : Int) < (i0 : Int) := by omega
      have HI0 : Hid (i0 = a + ua) := hidp r4
      have HU : Hid (ua ≤ A.length) := hidp (by omega)

      clear hd1 hd2 hd3 hd4 hd5 hN hM r1 r2 r3 r4 r5 hlt
      go_wp2
      go_loopg [17] (A.length - ua) (fun gg k wr => ∃ t k0 : Nat, k = .int .i64 (k0 : Int) ∧ Hid ((t ≤ A.length ∧ ua ≤ t ∧ gg = t - ua) ∧ k0 = a + t) ∧ OwnW B wr (some ⟨g, 0, none⟩) n c (mvR P x A Q t) ∧ Turned [g] w wr)
      case atStart => exact ⟨A.length, m, rfl, hidp (by have := HD.out; have := HU.out; omega), ho1, ht1⟩
      case round =>
        clear ho1 ht1
        obtain ⟨t, I, rfl, HT, ho1, ht1⟩ := hrel
        by_cases hlt : ua < t
        · obtain ⟨hd1, hd2, hd3, hd4, hd5⟩ := HD.out
          have hN := HN.out
          have hU := HU.out
          have hT := HT.out
          have hI0 := HI0.out
          obtain ⟨J, hJ⟩ : ∃ J, J = a + (t - 1) := ⟨_, rfl⟩
          obtain ⟨q4, q5, _, e2, e1, e3⟩ := mvR_next P x A Q (t := t - 1) (i := J) (j := I) (by omega) (by omega) (by omega)
          rw [show t - 1 + 1 = t by omega] at e1 e2 e3
          have q1 := e3
          have q2 := e3
          have q3 := e3
          have hc : (i0 : Int) < (I : Int) := by omega
          have x1 : IntKind.i64.wrap ((I : Int) - 1) = (J : Int) := by rw [IntWalk.i64_in _ (by omega)]; omega
          obtain ⟨y, hy⟩ : ∃ y, A.getD (t - 1) default = y := ⟨_, rfl⟩
          rw [hy] at e2
          have HSW := hidp e3
          have HI : I < (mvR P x A Q t).length := by rw [mvR_len]; omega
          have HJ : J < (mvR P x A Q t).length := by rw [mvR_len]; omega
          have hne : I ≠ J := by omega
          have k0 : (0 : Int) ≤ (I : Int) := by omega
          have k1 : (I : Int) < (n : Int) := by omega
          have k2 : (0 : Int) ≤ (J : Int) := by omega
          have k3 : (J : Int) < (n : Int) := by omega
          have HIJ : Hid (I = J + 1 ∧ ua < t ∧ J = a + (t - 1)) := hidp (by omega)
          clear hd1 hd2 hd3 hd4 hd5 hN hU hT hI0 e3 hy hJ hlt q1 q2 q3 q4 q5
          have cx := ho1.at_ HI
          rw [e1] at cx
          have cy := ho1.at_ HJ
          rw [e2] at cy
          obtain ⟨x0, x1, x2⟩ := id cx
          obtain ⟨y0, y1, y2⟩ := id cy
          have f0 := ho1.free (I * 3)
          have f1 := ho1.free (I * 3 + 1)
          have f2 := ho1.free (I * 3 + 2)
          have f3 := ho1.free (J * 3)
          have f4 := ho1.free (J * 3 + 1)
          have f5 := ho1.free (J * 3 + 2)
          have ho2 := ho1.set HI y
          have ho3 := ho2.set (i := J) (by rw [List.length_set]; exact HJ) x
          have Hsw : Hid (((mvR P x A Q t).set I y).set J x = mvR P x A Q (t - 1)) := hidp (by have := HSW.out; unfold swp at this; rw [e1, e2] at this; exact this)
          have e9 : ((mvR P x A Q t).set I y).getD J default = y := by
            simp only [List.getD, List.getElem?_set, hne, if_false] at e2 ⊢
            exact e2
          have cz := ho2.at_ (i := J) (by rw [List.length_set]; exact HJ)
          rw [e9] at cz
          have z0 : (((wr.setCell ⟨g, I * 3, none⟩ (.int .i64 y.task)).setCell ⟨g, I * 3 + 1, none⟩ (.int .i64 y.prio)).setCell ⟨g, I * 3 + 2, none⟩ (.int .i64 y.boost)).drew.cell? ⟨g, J * 3, none⟩ = some (.int .i64 y.task) := cz.1
          have z1 : (((wr.setCell ⟨g, I * 3, none⟩ (.int .i64 y.task)).setCell ⟨g, I * 3 + 1, none⟩ (.int .i64 y.prio)).setCell ⟨g, I * 3 + 2, none⟩ (.int .i64 y.boost)).drew.cell? ⟨g, J * 3 + 1, none⟩ = some (.int .i64 y.prio) := cz.2.1
          have z2 : (((wr.setCell ⟨g, I * 3, none⟩ (.int .i64 y.task)).setCell ⟨g, I * 3 + 1, none⟩ (.int .i64 y.prio)).setCell ⟨g, I * 3 + 2, none⟩ (.int .i64 y.boost)).drew.cell? ⟨g, J * 3 + 2, none⟩ = some (.int .i64 y.boost) := cz.2.2
          have g3 : (((wr.setCell ⟨g, I * 3, none⟩ (.int .i64 y.task)).setCell ⟨g, I * 3 + 1, none⟩ (.int .i64 y.prio)).setCell ⟨g, I * 3 + 2, none⟩ (.int .i64 y.boost)).drew.frozen? ⟨g, J * 3, none⟩ = false := ho2.free (J * 3)
          have g4 : (((wr.setCell ⟨g, I * 3, none⟩ (.int .i64 y.task)).setCell ⟨g, I * 3 + 1, none⟩ (.int .i64 y.prio)).setCell ⟨g, I * 3 + 2, none⟩ (.int .i64 y.boost)).drew.frozen? ⟨g, J * 3 + 1, none⟩ = false := ho2.free (J * 3 + 1)
          have g5 : (((wr.setCell ⟨g, I * 3, none⟩ (.int .i64 y.task)).setCell ⟨g, I * 3 + 1, none⟩ (.int .i64 y.prio)).setCell ⟨g, I * 3 + 2, none⟩ (.int .i64 y.boost)).drew.frozen? ⟨g, J * 3 + 2, none⟩ = false := ho2.free (J * 3 + 2)
          have n0 : ¬ I = J := hne
          have n1 : ¬ I * 3 + 1 = J * 3 := by omega
          have n2 : ¬ I * 3 + 2 = J * 3 := by omega
          have n3 : ¬ I * 3 = J * 3 + 1 := by omega
          have n4 : ¬ I * 3 = J * 3 + 2 := by omega
          have n5 : ¬ J = I := fun e => n0 e.symm
          have n6 : ¬ J * 3 + 1 = I * 3 := fun e => n3 e.symm
          have n7 : ¬ J * 3 + 2 = I * 3 := fun e => n4 e.symm
          have n8 : ¬ J * 3 = I * 3 + 1 := fun e => n1 e.symm
          have n9 : ¬ J * 3 = I * 3 + 2 := fun e => n2 e.symm
          have ho4 := ho3.turned (Turned.refl [] _).drew (by simp)
          rw [Hsw.out] at ho4
          have ht4 := ((ht1.trans (put3w_turned wr g (I * 3) y) (by simp)).trans (put3w_turned _ g (J * 3) x) (by simp)).drew
          clear e9 cz cx cy hne e1 e2 ho1 ho2 ho3 ht1 Hsw HSW
          go_wp2
          refine wp_region_held_drew (S := fun _ => True) (by kernel_rfl) trivial (fun hHeld => ?_)
          refine wpAnyH_take (i := 0) (v := ?_) rfl (by kernel_rfl) (by kernel_rfl) (by kernel_rfl) (fun _ _ _ h => h) (Or.inl ⟨by rfl, ?_⟩) (by assumption) ?_
          rotate_left 1
          · ((intro w hSw; (try dsimp only at hSw); go_simp); (try with_reducible rfl))
          simp only [Act.put, List.setIfInBounds_toArray, List.set_cons_zero, List.set_cons_succ, List.getElem_toArray, List.getElem_cons_zero, List.getElem_cons_succ]
          refine wpAnyH_take (i := 1) (v := ?_) rfl (by kernel_rfl) (by kernel_rfl) (by kernel_rfl) (fun _ _ _ h => h) (Or.inl ⟨by rfl, ?_⟩) (by assumption) ?_
          rotate_left 1
          · ((intro w hSw; (try dsimp only at hSw); go_simp); (try with_reducible rfl))
          simp only [Act.put, List.setIfInBounds_toArray, List.set_cons_zero, List.set_cons_succ, List.getElem_toArray, List.getElem_cons_zero, List.getElem_cons_succ]
          refine wpAnyH_take (i := 2) (v := ?_) rfl (by kernel_rfl) (by kernel_rfl) (by kernel_rfl) (fun _ _ _ h => h) (Or.inl ⟨by rfl, ?_⟩) (by assumption) ?_
          rotate_left 1
          · ((intro w hSw; (try dsimp only at hSw); go_simp); (try with_reducible rfl))
          simp only [Act.put, List.setIfInBounds_toArray, List.set_cons_zero, List.set_cons_succ, List.getElem_toArray, List.getElem_cons_zero, List.getElem_cons_succ]
          refine wpAnyH_take (i := 3) (v := ?_) rfl (by kernel_rfl) (by kernel_rfl) (by kernel_rfl) (fun _ _ _ h => h) (Or.inl ⟨by rfl, ?_⟩) (by assumption) ?_
          rotate_left 1
          · ((intro w hSw; (try dsimp only at hSw); go_simp); (try with_reducible rfl))
          simp only [Act.put, List.setIfInBounds_toArray, List.set_cons_zero, List.set_cons_succ, List.getElem_toArray, List.getElem_cons_zero, List.getElem_cons_succ]
          refine wpAnyH_take (i := 4) (v := ?_) rfl (by kernel_rfl) (by kernel_rfl) (by kernel_rfl) (fun _ _ _ h => h) (Or.inl ⟨by rfl, ?_⟩) (by assumption) ?_
          rotate_left 1
          · ((intro w hSw; (try dsimp only at hSw); go_simp); (try with_reducible rfl))
          simp only [Act.put, List.setIfInBounds_toArray, List.set_cons_zero, List.set_cons_succ, List.getElem_toArray, List.getElem_cons_zero, List.getElem_cons_succ]
          refine wpAnyH_take (i := 5) (v := ?_) rfl (by kernel_rfl) (by kernel_rfl) (by kernel_rfl) (fun _ _ _ h => h) (Or.inl ⟨by rfl, ?_⟩) (by assumption) ?_
          rotate_left 1
          · ((intro w hSw; (try dsimp only at hSw); go_simp); (try with_reducible rfl))
          simp only [Act.put, List.setIfInBounds_toArray, List.set_cons_zero, List.set_cons_succ, List.getElem_toArray, List.getElem_cons_zero, List.getElem_cons_succ]
          refine wpAnyH_take (i := 6) (v := ?_) rfl (by kernel_rfl) (by kernel_rfl) (by kernel_rfl) (fun _ _ _ h => h) (Or.inl ⟨by rfl, ?_⟩) (by assumption) ?_
          rotate_left 1
          · ((intro w hSw; (try dsimp only at hSw); go_simp); (try with_reducible rfl))
          simp only [Act.put, List.setIfInBounds_toArray, List.set_cons_zero, List.set_cons_succ, List.getElem_toArray, List.getElem_cons_zero, List.getElem_cons_succ]
          refine wpAnyH_take (i := 7) (v := ?_) rfl (by kernel_rfl) (by kernel_rfl) (by kernel_rfl) (fun _ _ _ h => h) (Or.inl ⟨by rfl, ?_⟩) (by assumption) ?_
          rotate_left 1
          · ((intro w hSw; (try dsimp only at hSw); go_simp); (try with_reducible rfl))
          simp only [Act.put, List.setIfInBounds_toArray, List.set_cons_zero, List.set_cons_succ, List.getElem_toArray, List.getElem_cons_zero, List.getElem_cons_succ]
          refine wpAnyH_take (i := 8) (v := ?_) rfl (by kernel_rfl) (by kernel_rfl) (by kernel_rfl) (fun _ _ _ h => h) (Or.inl ⟨by rfl, ?_⟩) (by assumption) ?_
          rotate_left 1
          · ((intro w hSw; (try dsimp only at hSw); go_simp); (try with_reducible rfl))
          simp only [Act.put, List.setIfInBounds_toArray, List.set_cons_zero, List.set_cons_succ, List.getElem_toArray, List.getElem_cons_zero, List.getElem_cons_succ]
          refine wpAnyH_take (i := 10) (v := ?_) rfl (by kernel_rfl) (by kernel_rfl) (by kernel_rfl) (fun _ _ _ h => h) (Or.inl ⟨by rfl, ?_⟩) (by assumption) ?_
          rotate_left 1
          · ((intro w hSw; (try dsimp only at hSw); go_simp); (try with_reducible rfl))
          simp only [Act.put, List.setIfInBounds_toArray, List.set_cons_zero, List.set_cons_succ, List.getElem_toArray, List.getElem_cons_zero, List.getElem_cons_succ]
          refine wpAnyH_take (i := 11) (v := ?_) rfl (by kernel_rfl) (by kernel_rfl) (by kernel_rfl) (fun _ _ _ h => h) (Or.inl ⟨by rfl, ?_⟩) (by assumption) ?_
          rotate_left 1
          · ((intro w hSw; (try dsimp only at hSw); go_simp); (try with_reducible rfl))
          simp only [Act.put, List.setIfInBounds_toArray, List.set_cons_zero, List.set_cons_succ, List.getElem_toArray, List.getElem_cons_zero, List.getElem_cons_succ]
          refine wpAnyH_take (i := 12) (v := ?_) rfl (by kernel_rfl) (by kernel_rfl) (by kernel_rfl) (fun _ _ _ h => h) (Or.inl ⟨by rfl, ?_⟩) (by assumption) ?_
          rotate_left 1
          · ((intro w hSw; (try dsimp only at hSw); go_simp); (try with_reducible rfl))
          simp only [Act.put, List.setIfInBounds_toArray, List.set_cons_zero, List.set_cons_succ, List.getElem_toArray, List.getElem_cons_zero, List.getElem_cons_succ]
          refine wpAnyH_ready (rs := [9, 13]) (by kernel_rfl) (by simp) ?_
          refine AllReadyH.cons rfl (fun K hK => ?_) (AllReadyH.cons rfl (fun K hK => ?_) AllReadyH.nil)
          go_simp
          refine hK.out _ _ trivial (fun hHeld => ?_)
          clear hK K
          try simp only [Act.put, List.setIfInBounds_toArray, List.set_cons_zero, List.set_cons_succ, List.getElem_toArray, List.getElem_cons_zero, List.getElem_cons_succ]
          refine wpAnyH_ready (rs := [13]) (by kernel_rfl) (by simp) ?_
          refine AllReadyH.cons rfl (fun K hK => ?_) AllReadyH.nil
          go_simp
          refine hK.out _ _ trivial (fun hHeld => ?_)
          clear hK K
          try simp only [Act.put, List.setIfInBounds_toArray, List.set_cons_zero, List.set_cons_succ, List.getElem_toArray, List.getElem_cons_zero, List.getElem_cons_succ]
          rotate_left 1
          go_simp
          refine hK.out _ _ trivial (fun hHeld => ?_)
          clear hK K
          try simp only [Act.put, List.setIfInBounds_toArray, List.set_cons_zero, List.set_cons_succ, List.getElem_toArray, List.getElem_cons_zero, List.getElem_cons_succ]
          refine wpAnyH_ready (rs := [9]) (by kernel_rfl) (by simp) ?_
          refine AllReadyH.cons rfl (fun K hK => ?_) AllReadyH.nil
          go_simp
          refine hK.out _ _ trivial (fun hHeld => ?_)
          clear hK K
          try simp only [Act.put, List.setIfInBounds_toArray, List.set_cons_zero, List.set_cons_succ, List.getElem_toArray, List.getElem_cons_zero, List.getElem_cons_succ]
          all_goals
            skip
            refine wpAnyH_take (i := 14) (v := ?_) rfl (by kernel_rfl) (by kernel_rfl) (by kernel_rfl) (fun _ _ _ h => h) (Or.inl ⟨by rfl, ?_⟩) (by assumption) ?_
            rotate_left 1
            · ((intro w hSw; (try dsimp only at hSw); go_simp); (try with_reducible rfl))
            simp only [Act.put, List.setIfInBounds_toArray, List.set_cons_zero, List.set_cons_succ, List.getElem_toArray, List.getElem_cons_zero, List.getElem_cons_succ]
            refine wpAnyH_ready (rs := [15]) (by kernel_rfl) (by simp) ?_
            refine AllReadyH.cons rfl (fun K hK => ?_) AllReadyH.nil
            go_simp
            refine hK.out _ _ trivial (fun hHeld => ?_)
            clear hK K
            try simp only [Act.put, List.setIfInBounds_toArray, List.set_cons_zero, List.set_cons_succ, List.getElem_toArray, List.getElem_cons_zero, List.getElem_cons_succ]
            refine wpAnyH_take (i := 16) (v := ?_) rfl (by kernel_rfl) (by kernel_rfl) (by kernel_rfl) (fun _ _ _ h => h) (Or.inl ⟨by rfl, ?_⟩) (by assumption) ?_
            rotate_left 1
            · ((intro w hSw; (try dsimp only at hSw); go_simp); (try with_reducible rfl))
            simp only [Act.put, List.setIfInBounds_toArray, List.set_cons_zero, List.set_cons_succ, List.getElem_toArray, List.getElem_cons_zero, List.getElem_cons_succ]
            refine wpAnyH_ready (rs := [17]) (by kernel_rfl) (by simp) ?_
            refine AllReadyH.cons rfl (fun K hK => ?_) AllReadyH.nil
            go_simp
            refine hK.out _ _ trivial (fun hHeld => ?_)
            clear hK K
            try simp only [Act.put, List.setIfInBounds_toArray, List.set_cons_zero, List.set_cons_succ, List.getElem_toArray, List.getElem_cons_zero, List.getElem_cons_succ]
            refine wpAnyH_done (by kernel_rfl) ?_ _
            go_wp2
            go_roundg (gk - 1)
            case measure => have := HT.out; have := HIJ.out; omega
            case rel => exact ⟨t - 1, J, rfl, hidp (by have := HT.out; have := HU.out; have := HIJ.out; omega), ho4, ht4⟩
        · have hf : t = ua := by have := HT.out; omega
          rw [hf] at ho1
          have hc : ¬ (i0 : Int) < (I : Int) := by have := HI0.out; have := HT.out; omega
          go_wp2
          obtain ⟨s1, s2⟩ := srt_ins HSA.out HU.out (HL.out.imp id (fun h => h)) (HG.out.imp (fun h => h.trans HM.out) (fun h => Lew.of h))
          refine bodyPost_ret (v := .tuple #[]) (by simp [results, Try.results16, go_sem]) rfl ⟨rfl, _, s1, s2.trans (List.perm_append_singleton x A).symm, ho1, ht1⟩
end Go.Proofs.Ytonodmoklbmfkaa
