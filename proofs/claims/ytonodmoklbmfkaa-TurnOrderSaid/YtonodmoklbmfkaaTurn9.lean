/- turn: the library's symMerge, at rows of who runs. Printed by tools/turn/turn9.py. -/
import Derived.Test.YtonodmoklbmfkaaTurn8
namespace Go.Proofs.Ytonodmoklbmfkaa
open Go.ChangeShapes Go.WideShapes Go.ChangeAt Go.RowKit
set_option linter.unusedVariables false
set_option linter.unusedSimpArgs false
theorem split_le {P A Bs Q R : List WhoM} {a m b mid s : Nat} (hR : R = P ++ A ++ Bs ++ Q) (ha : a = P.length) (hm : m = P.length + A.length) (hb : b = P.length + A.length + Bs.length) (hmid : mid = (a + b) / 2) (sA : Srt A) (sB : Srt Bs) (s1 : a ≤ s) (s2 : mid + m ≤ s + b) (s3 : s ≤ m) (s4 : s ≤ mid)
    (h1 : s = a ∨ s + b = mid + m ∨ aheadB (R.getD (mid + m - s) default) (R.getD (s - 1) default) = false)
    (h2 : s = m ∨ s = mid ∨ aheadB (R.getD (mid + m - 1 - s) default) (R.getD s default) = true) :
    ∃ A1 A2 B1 B2, A = A1 ++ A2 ∧ Bs = B1 ++ B2 ∧ A1.length = s - a ∧ B1.length = mid - s ∧ (∀ x ∈ A1, ∀ y ∈ B2, Lew x y) ∧ (∀ x ∈ B1, ∀ y ∈ A2, Lew x y) := by
  obtain ⟨k, hk⟩ : ∃ k, k = s - a := ⟨_, rfl⟩
  obtain ⟨q, hq⟩ : ∃ q, q = mid - s := ⟨_, rfl⟩
  have gA : ∀ t i, t < A.length → i = P.length + t → R.getD i default = A.getD t default := fun t i h1 h2 => by
    rw [hR, show P ++ A ++ Bs ++ Q = P ++ A ++ (Bs ++ Q) by simp]; exact getD_at P A _ h1 h2
  have gB : ∀ t i, t < Bs.length → i = P.length + A.length + t → R.getD i default = Bs.getD t default := fun t i h1 h2 => by
    rw [hR]; exact getD_at (P ++ A) Bs _ h1 (by simp; omega)
  refine ⟨A.take k, A.drop k, Bs.take q, Bs.drop q, (List.take_append_drop _ _).symm, (List.take_append_drop _ _).symm, by rw [List.length_take]; omega, by rw [List.length_take]; omega, all_le (sA.take k) (sB.drop q) ?_, all_le (sB.take q) (sA.drop k) ?_⟩
  · by_cases e1 : k = 0
    · exact .inl (by rw [e1]; simp)
    by_cases e2 : q = Bs.length
    · exact .inr (.inl (by rw [e2]; simp))
    refine .inr (.inr ⟨A.take (k - 1), A.getD (k - 1) default, Bs.getD q default, Bs.drop (q + 1), ?_, drop_more (by omega), ?_⟩)
    · rw [← take_more (by omega), show k - 1 + 1 = k by omega]
    · have h := (h1.resolve_left (by omega)).resolve_left (by omega)
      rw [gB q _ (by omega) (by omega), gA (k - 1) _ (by omega) (by omega)] at h
      exact h
  · by_cases e1 : q = 0
    · exact .inl (by rw [e1]; simp)
    by_cases e2 : k = A.length
    · exact .inr (.inl (by rw [e2]; simp))
    refine .inr (.inr ⟨Bs.take (q - 1), Bs.getD (q - 1) default, A.getD k default, A.drop (k + 1), ?_, drop_more (by omega), ?_⟩)
    · rw [← take_more (by omega), show q - 1 + 1 = q by omega]
    · have h := (h2.resolve_left (by omega)).resolve_left (by omega)
      rw [gB (q - 1) _ (by omega) (by omega), gA k _ (by omega) (by omega)] at h
      exact Lew.of h
def SymTo (N : Nat) : Prop := ∀ (B g n c : Nat) (P A Bs Q : List WhoM) (w : World), OwnW B w (some ⟨g, 0, none⟩) n c (P ++ A ++ Bs ++ Q) → n ≤ 1000 → Srt A → Srt Bs → (∀ y ∈ A ++ Bs, y.wf) → ∀ a m b : Nat, a = P.length → m = P.length + A.length → b = P.length + A.length + Bs.length → 1 ≤ A.length → 1 ≤ Bs.length → A.length + Bs.length < N →
    Calls Try.prog 16 #[.slice (some ⟨g, 0, none⟩) n c, .int .i64 a, .int .i64 m, .int .i64 b, .func (Fn.func 13) #[] #[]] w (SymPost w B g n c P (A ++ Bs) Q)
theorem srt_e {A B : List WhoM} (ha : Srt A) (hb : Srt B) (h : A.length = 0 ∨ B.length = 0) : Srt (A ++ B) := by
  rcases h with h | h
  · rw [List.eq_nil_of_length_eq_zero h]; simpa using hb
  · rw [List.eq_nil_of_length_eq_zero h]; simpa using ha
theorem sym_done {w w' : World} {B g n c : Nat} {P A1 A2 B1 B2 C1 C2 Q L : List WhoM} (hL : L = (A1 ++ A2) ++ (B1 ++ B2)) (ha : Srt (A1 ++ A2)) (hb : Srt (B1 ++ B2)) (le1 : ∀ x ∈ A1, ∀ y ∈ B2, Lew x y) (le2 : ∀ x ∈ B1, ∀ y ∈ A2, Lew x y) (s1 : Srt C1) (s2 : Srt C2) (p1 : C1.Perm (A1 ++ B1)) (p2 : C2.Perm (A2 ++ B2)) (ho : OwnW B w' (some ⟨g, 0, none⟩) n c (P ++ C1 ++ C2 ++ Q)) (ht : Turned [g] w w') :
    SymPost w B g n c P L Q (.returned (.tuple #[])) w' := by
  obtain ⟨h1, h2⟩ := srt_join ha hb le1 le2 s1 s2 p1 p2
  exact ⟨rfl, C1 ++ C2, h1, hL ▸ h2, by simpa using ho, ht⟩
set_option maxHeartbeats 16000000 in
set_option maxRecDepth 100000 in
theorem symC_any (N : Nat) (ih : SymTo N) (B g n c : Nat) (P A Bs Q : List WhoM) (w : World) (ho : OwnW B w (some ⟨g, 0, none⟩) n c (P ++ A ++ Bs ++ Q)) (hn : n ≤ 1000) (sA : Srt A) (sB : Srt Bs) (wf : ∀ y ∈ A ++ Bs, y.wf) (a m b : Nat) (ha : a = P.length) (hm : m = P.length + A.length) (hb : b = P.length + A.length + Bs.length) (h1 : 2 ≤ A.length) (h2 : 2 ≤ Bs.length) (hN : A.length + Bs.length = N) :
    Calls Try.prog 16 #[.slice (some ⟨g, 0, none⟩) n c, .int .i64 a, .int .i64 m, .int .i64 b, .func (Fn.func 13) #[] #[]] w (SymPost w B g n c P (A ++ Bs) Q) := by
  have HIH := hidp ih
  have HSA := hidp sA
  have HSB := hidp sB
  have HWF := hidp wf
  have hln : n = P.length + A.length + Bs.length + Q.length := by have := ho.len; simp at this; omega
  have HD : Hid (a = P.length ∧ m = P.length + A.length ∧ b = P.length + A.length + Bs.length ∧ 2 ≤ A.length ∧ 2 ≤ Bs.length ∧ A.length + Bs.length = N ∧ n = P.length + A.length + Bs.length + Q.length ∧ n ≤ 1000) := hidp ⟨ha, hm, hb, h1, h2, hN, hln, hn⟩
  obtain ⟨d1, hd1⟩ : ∃ d1, d1 = A.length := ⟨_, rfl⟩
  obtain ⟨d2, hd2⟩ : ∃ d2, d2 = Bs.length := ⟨_, rfl⟩
  obtain ⟨mid, hmid⟩ : ∃ mid, mid = (a + b) / 2 := ⟨_, rfl⟩
  obtain ⟨nn, hnn⟩ : ∃ nn, nn = mid + m := ⟨_, rfl⟩
  obtain ⟨pp, hpp⟩ : ∃ pp, pp = nn - 1 := ⟨_, rfl⟩
  have w0 : IntKind.i64.wrap ((m : Int) - (a : Int)) = (d1 : Int) := by rw [IntWalk.i64_in _ (by omega)]; omega
  have w1 : IntKind.i64.wrap ((b : Int) - (m : Int)) = (d2 : Int) := by rw [IntWalk.i64_in _ (by omega)]; omega
  have f0 : ((d1 : Int) == 1) = false := by rw [beq_eq_false_iff_ne]; omega
  have f1 : ((d2 : Int) == 1) = false := by rw [beq_eq_false_iff_ne]; omega
  have w2 : IntKind.i64.wrap ((a : Int) + (b : Int)) = (a : Int) + (b : Int) := IntWalk.i64_in _ (by omega)
  have w3 : IntKind.u64.wrap ((a : Int) + (b : Int)) = (a : Int) + (b : Int) := IntWalk.u64_in _ (by omega)
  have w4 : ((a : Int) + (b : Int)) / 2 = (mid : Int) := by omega
  have w5 : IntKind.i64.wrap (mid : Int) = (mid : Int) := IntWalk.i64_in _ (by omega)
  have w6 : IntKind.u64.wrap (mid : Int) = (mid : Int) := IntWalk.u64_in _ (by omega)
  have w7 : IntKind.i64.wrap ((mid : Int) + (m : Int)) = (nn : Int) := by rw [IntWalk.i64_in _ (by omega)]; omega
  have w8 : IntKind.i64.wrap ((nn : Int) - 1) = (pp : Int) := by rw [IntWalk.i64_in _ (by omega)]; omega
  have HM : Hid (mid = (a + b) / 2 ∧ nn = mid + m ∧ pp = nn - 1) := hidp ⟨hmid, hnn, hpp⟩
  obtain ⟨R, HR⟩ : ∃ R, Hid (R = P ++ A ++ Bs ++ Q) := ⟨_, hidp rfl⟩
  rw [← HR.out] at ho
  have HWR : Hid (∀ i, a ≤ i → i < b → (R.getD i default).wf) := hidp (fun i hi hj => by
    rw [HR.out, show P ++ A ++ Bs ++ Q = P ++ (A ++ Bs) ++ Q by simp, getD_at P (A ++ Bs) Q (t := i - P.length) (by simp; omega) (by omega)]
    refine wf _ ?_
    have hl : i - P.length < (A ++ Bs).length := by simp; omega
    rw [List.getD_eq_getElem?_getD, List.getElem?_eq_getElem hl]
    simp)
  obtain ⟨s0, r0, HS0⟩ : ∃ s0 r0, Hid ((mid < m ∧ s0 = nn - b ∧ r0 = mid) ∨ (m ≤ mid ∧ s0 = a ∧ r0 = m)) := by
    by_cases e : mid < m
    · exact ⟨_, _, hidp (.inl ⟨e, rfl, rfl⟩)⟩
    · exact ⟨_, _, hidp (.inr ⟨by omega, rfl, rfl⟩)⟩
  have w9 : IntKind.i64.wrap ((nn : Int) - (b : Int)) = (nn : Int) - (b : Int) := IntWalk.i64_in _ (by omega)
  have HZ : Hid (s0 ≤ r0) := hidp (by rcases HS0.out with h | h <;> omega)
  have fin : ∀ (r w5 : World) (h : OwnW B w5 (some ⟨g, 0, none⟩) n c R), True := fun _ _ _ => trivial
  clear fin ih sA sB wf ha hm hb h1 h2 hN hln hn hd1 hd2 hmid hnn hpp
  go_enter Try.func16, Try.ntmps16
  by_cases hmm : (mid : Int) < (m : Int)
  · go_wp2
    go_loopg [20, 21] (r0 - s0) (fun gg u v wr => ∃ s r : Nat, u = .int .i64 (s : Int) ∧ v = .int .i64 (r : Int) ∧ Hid (s0 ≤ s ∧ s ≤ r ∧ r ≤ r0 ∧ gg = r - s) ∧ Hid (s = s0 ∨ aheadB (R.getD (nn - s) default) (R.getD (s - 1) default) = false) ∧ Hid (r = r0 ∨ aheadB (R.getD (nn - 1 - r) default) (R.getD r default) = true) ∧ OwnW B wr (some ⟨g, 0, none⟩) n c R ∧ Turned [g] w wr)
    case atStart => exact ⟨s0, r0, (by have := HS0.out; have := HM.out; rw [show (s0 : Int) = (nn : Int) - (b : Int) by omega]), (by have := HS0.out; rw [show r0 = mid by omega]), hidp (by have := HZ.out; omega), hidp (.inl rfl), hidp (.inl rfl), ho, Turned.refl _ _⟩
    case round =>
      clear ho hmm w9
      obtain ⟨s, r, rfl, rfl, HRR, HL, HG, ho1, ht1⟩ := hrel
      obtain ⟨hd1, hd2, hd3, hd4, hd5, hd6, hd7, hd8⟩ := HD.out
      obtain ⟨hm1, hm2, hm3⟩ := HM.out
      obtain ⟨r1, r2, r3, r4⟩ := HRR.out
      have hs0 := HS0.out
      by_cases hlt : s < r
      · obtain ⟨h, hh⟩ : ∃ h, h = (s + r) / 2 := ⟨_, rfl⟩
        obtain ⟨ip, hip⟩ : ∃ ip, ip = nn - 1 - h := ⟨_, rfl⟩
        have hu : (s : Int) < (r : Int) := by omega
        have x1 : IntKind.i64.wrap ((s : Int) + (r : Int)) = (s : Int) + (r : Int) := IntWalk.i64_in _ (by omega)
        have x2 : IntKind.u64.wrap ((s : Int) + (r : Int)) = (s : Int) + (r : Int) := IntWalk.u64_in _ (by omega)
        have x3 : ((s : Int) + (r : Int)) / 2 = (h : Int) := by omega
        have x4 : IntKind.i64.wrap (h : Int) = (h : Int) := IntWalk.i64_in _ (by omega)
        have x5 : IntKind.u64.wrap (h : Int) = (h : Int) := IntWalk.u64_in _ (by omega)
        have x6 : IntKind.i64.wrap ((h : Int) + 1) = (h : Int) + 1 := IntWalk.i64_in _ (by omega)
        have x7 : IntKind.i64.wrap ((pp : Int) - (h : Int)) = (ip : Int) := by rw [IntWalk.i64_in _ (by omega)]; omega
        have y1 : a ≤ h ∧ h < b ∧ a ≤ ip ∧ ip < b := by rcases hs0 with q | q <;> omega
        have hln := ho1.len
        obtain ⟨y, hy⟩ : ∃ y, R.getD ip default = y := ⟨_, rfl⟩
        obtain ⟨x, hx⟩ : ∃ x, R.getD h default = x := ⟨_, rfl⟩
        have cy := ho1.at_ (i := ip) (by omega)
        have cx := ho1.at_ (i := h) (by omega)
        rw [hy] at cy
        rw [hx] at cx
        have hwy : y.wf := hy ▸ HWR.out ip y1.2.2.1 y1.2.2.2
        have hwx : x.wf := hx ▸ HWR.out h y1.1 y1.2.1
        have b0 : (0 : Int) ≤ (h : Int) := by omega
        have b1 : (h : Int) < (n : Int) := by omega
        have b2 : (0 : Int) ≤ (ip : Int) := by omega
        have b3 : (ip : Int) < (n : Int) := by omega
        have HH : Hid (ip = nn - 1 - h ∧ s ≤ h ∧ h < r ∧ R.getD ip default = y ∧ R.getD h default = x) := hidp ⟨hip, by omega, by omega, hy, hx⟩
        clear hd1 hd2 hd3 hd4 hd5 hd6 hd7 hd8 hm1 hm2 hm3 r1 r2 r3 r4 hs0 hlt hh hip y1 hln hy hx
        go_wp2
        have hS : wr.drew.cell? ⟨g, ip * 3, none⟩ = some (.int .i64 y.task) ∧ wr.drew.cell? ⟨g, ip * 3 + 1, none⟩ = some (.int .i64 y.prio) ∧ wr.drew.cell? ⟨g, ip * 3 + 2, none⟩ = some (.int .i64 y.boost) ∧ wr.drew.cell? ⟨g, h * 3, none⟩ = some (.int .i64 x.task) ∧ wr.drew.cell? ⟨g, h * 3 + 1, none⟩ = some (.int .i64 x.prio) ∧ wr.drew.cell? ⟨g, h * 3 + 2, none⟩ = some (.int .i64 x.boost) := ⟨cy.1, cy.2.1, cy.2.2, cx.1, cx.2.1, cx.2.2⟩
        have ho2 := ho1.turned (Turned.refl [] wr).drew (by simp)
        have ht2 := ht1.drew
        have ob := orderV_bd y x
        obtain ⟨o, Ho⟩ : ∃ o, Hid (orderV y x = o) := ⟨_, hidp rfl⟩
        have Hord := hidp (orderV_neg y x)
        rw [Ho.out] at ob Hord
        clear cx cy ho1 ht1
        go_region_held3 (fun w' => w'.cell? ⟨g, ip * 3, none⟩ = some (.int .i64 y.task) ∧ w'.cell? ⟨g, ip * 3 + 1, none⟩ = some (.int .i64 y.prio) ∧ w'.cell? ⟨g, ip * 3 + 2, none⟩ = some (.int .i64 y.boost) ∧ w'.cell? ⟨g, h * 3, none⟩ = some (.int .i64 x.task) ∧ w'.cell? ⟨g, h * 3 + 1, none⟩ = some (.int .i64 x.prio) ∧ w'.cell? ⟨g, h * 3 + 2, none⟩ = some (.int .i64 x.boost)) (exact hS)
          (first
            | (go_at_call 13; refine (order_any y x _ hwy hwx).mono ?_; rintro e uw ⟨rfl, hb3⟩; have k3 := Keeps2 hb3; have hS := And.intro (k3 _ _ hS.1) (And.intro (k3 _ _ hS.2.1) (And.intro (k3 _ _ hS.2.2.1) (And.intro (k3 _ _ hS.2.2.2.1) (And.intro (k3 _ _ hS.2.2.2.2.1) (k3 _ _ hS.2.2.2.2.2))))); have ho2 := ho2.turned (Turned.of_below hb3 []) (by simp); have ht2 := ht2.trans (Turned.of_below hb3 []) (by simp); clear k3; rw [Ho.out]))
        by_cases hxy : aheadB y x = true
        · have hod : decide (o < 0) = true := by have := Hord.out.2 hxy; simpa using this
          have hod2 : o < 0 := Hord.out.2 hxy
          have Hxy := hidp hxy
          clear hxy hS
          try simp only [hod, Bool.not_true, Bool.not_false]
          go_wp2
          go_roundg (h - s)
          case measure => have := HRR.out; have := HH.out; omega
          case rel => exact ⟨s, h, by first | rfl | go_num, by first | rfl | go_num, hidp (by have := HRR.out; have := HH.out; omega), HL, hidp (.inr (by rw [← HH.out.1, HH.out.2.2.2.1, HH.out.2.2.2.2]; exact Hxy.out)), ho2, ht2⟩
        · have hx0 : aheadB y x = false := by simpa using hxy
          have hod2 : ¬ o < 0 := fun h => hxy (Hord.out.1 h)
          have hod : decide (o < 0) = false := by simpa using hod2
          have Hxy := hidp hx0
          clear hxy hS hx0
          try simp only [hod, Bool.not_true, Bool.not_false]
          go_wp2
          go_roundg (r - (h + 1))
          case measure => have := HRR.out; have := HH.out; omega
          case rel => exact ⟨h + 1, r, by first | rfl | go_num, by first | rfl | go_num, hidp (by have := HRR.out; have := HH.out; omega), hidp (.inr (by rw [show nn - (h + 1) = ip by have := HH.out.1; omega, Nat.add_sub_cancel, HH.out.2.2.2.1, HH.out.2.2.2.2]; exact Hxy.out)), HG, ho2, ht2⟩
      · obtain rfl : s = r := by omega
        have hu : ¬ (s : Int) < (s : Int) := by omega
        obtain ⟨E, hE⟩ : ∃ E, E = nn - s := ⟨_, rfl⟩
        have x1 : IntKind.i64.wrap ((nn : Int) - (s : Int)) = (E : Int) := by rw [IntWalk.i64_in _ (by omega)]; rcases hs0 with q | q <;> omega
        have z1 : a ≤ s ∧ mid + m ≤ s + b ∧ s ≤ m ∧ s ≤ mid := by rcases hs0 with q | q <;> omega
        obtain ⟨A1, A2, B1, B2, rfl, rfl, l1, l2, le1, le2⟩ := split_le HR.out hd1 hd2 hd3 hm1 HSA.out HSB.out z1.1 z1.2.1 z1.2.2.1 z1.2.2.2 (by
            rcases HL.out with h | h
            · rcases hs0 with q | q
              · exact .inr (.inl (by omega))
              · exact .inl (by omega)
            · exact .inr (.inr (hm2 ▸ h))) (by
            rcases HG.out with h | h
            · rcases hs0 with q | q
              · exact .inr (.inl (by omega))
              · exact .inl (by omega)
            · exact .inr (.inr (hm2 ▸ h)))
        simp only [List.length_append] at hd2 hd3 hd4 hd5 hd6 hd7
        have sA1 := (List.pairwise_append.1 HSA.out).1
        have sA2 := (List.pairwise_append.1 HSA.out).2.1
        have sB1 := (List.pairwise_append.1 HSB.out).1
        have sB2 := (List.pairwise_append.1 HSB.out).2.1
        have HLE := hidp (And.intro le1 le2)
        have HS4 := hidp (And.intro sA1 (And.intro sA2 (And.intro sB1 sB2)))
        have wf1 : ∀ y ∈ A1 ++ B1, y.wf := fun y hy => HWF.out y (by simp at hy ⊢; rcases hy with h | h <;> simp [h])
        have wf2 : ∀ y ∈ A2 ++ B2, y.wf := fun y hy => HWF.out y (by simp at hy ⊢; rcases hy with h | h <;> simp [h])
        have HW := hidp (And.intro wf1 wf2)
        have HNU : Hid (a = P.length ∧ m = P.length + (A1.length + A2.length) ∧ b = P.length + (A1.length + A2.length) + (B1.length + B2.length) ∧ A1.length = s - a ∧ B1.length = mid - s ∧ E = nn - s ∧ nn = mid + m ∧ A1.length + A2.length + (B1.length + B2.length) = N ∧ n ≤ 1000 ∧ a ≤ s ∧ s ≤ m ∧ s ≤ mid ∧ mid + m ≤ s + b ∧ a < mid ∧ mid < b) := hidp ⟨hd1, hd2, hd3, l1, l2, hE, hm2, hd6, hd8, z1.1, z1.2.2.1, z1.2.2.2, z1.2.1, by omega, by omega⟩
        rw [HR.out] at ho1
        clear le1 le2 sA1 sA2 sB1 sB2 wf1 wf2 hs0 r1 r2 r3 r4 hlt
        by_cases c1 : s < m
        · by_cases c2 : s < mid
          · by_cases c3 : a < s
            · by_cases c4 : E < b
              · have g1 : (s : Int) < (m : Int) := by omega
                have g2 : (m : Int) < (E : Int) := by omega
                have g3 : (a : Int) < (s : Int) := by omega
                have g4 : (s : Int) < (mid : Int) := by omega
                have g5 : (mid : Int) < (E : Int) := by omega
                have g6 : (E : Int) < (b : Int) := by omega
                have C0 := rot_any B g n c (P ++ A1) A2 B1 (B2 ++ Q) wr (by simpa using ho1) hd8 s m E (by simp; omega) (by simp; omega) (by simp; omega) (by omega) (by omega)
                have HC0 := hidp C0
                clear C0
                clear hd1 hd2 hd3 hd4 hd5 hd6 hd7 hd8 hm1 hm2 hm3 l1 l2 z1 hE
                go_wp2_with fail
                refine HC0.out.mono ?_
                rintro e w4 ⟨rfl, ho4, ht4⟩
                have ht4 := ht1.trans ht4 (by simp)
                have ho4 : OwnW B w4 (some ⟨g, 0, none⟩) n c (P ++ A1 ++ B1 ++ (A2 ++ B2 ++ Q)) := by simpa using ho4
                have C1 := HIH.out B g n c P A1 B1 (A2 ++ B2 ++ Q) w4 ho4 (by have := HNU.out; omega) HS4.out.1 HS4.out.2.2.1 HW.out.1 a s mid (by have := HNU.out; omega) (by have := HNU.out; omega) (by have := HNU.out; omega) (by have := HNU.out; omega) (by have := HNU.out; omega) (by have := HNU.out; omega)
                go_wp2_with fail
                refine C1.mono ?_
                rintro e w5 ⟨rfl, C1, s1, p1, ho5, ht5⟩
                have ht5 := ht4.trans ht5 (by simp)
                have HP1 := hidp (And.intro s1 p1)
                clear s1 p1
                have C2 := HIH.out B g n c (P ++ C1) A2 B2 Q w5 (by simpa using ho5) (by have := HNU.out; omega) HS4.out.2.1 HS4.out.2.2.2 HW.out.2 mid E b (by have := HNU.out; have hl := HP1.out.2.length_eq; simp at hl ⊢; omega) (by have := HNU.out; have hl := HP1.out.2.length_eq; simp at hl ⊢; omega) (by have := HNU.out; have hl := HP1.out.2.length_eq; simp at hl ⊢; omega) (by have := HNU.out; omega) (by have := HNU.out; omega) (by have := HNU.out; omega)
                go_wp2_with fail
                refine C2.mono ?_
                rintro e w6 ⟨rfl, C2, s2, p2, ho6, ht6⟩
                have ht6 := ht5.trans ht6 (by simp)
                obtain ⟨s1, p1⟩ := HP1.out
                have HF := hidp (And.intro s2 (And.intro p2 (And.intro ho6 ht6)))
                clear s1 p1 s2 p2 ho6 ht6
                go_wp2_with fail
                obtain ⟨s2, p2, ho6, ht6⟩ := HF.out
                obtain ⟨s1, p1⟩ := HP1.out
                refine bodyPost_ret (v := .tuple #[]) (by simp [results, Try.results16, go_sem]) rfl (sym_done (by simp) HSA.out HSB.out HLE.out.1 HLE.out.2 s1 s2 p1 p2 ho6 ht6)
              · have g1 : (s : Int) < (m : Int) := by omega
                have g2 : (m : Int) < (E : Int) := by omega
                have g3 : (a : Int) < (s : Int) := by omega
                have g4 : (s : Int) < (mid : Int) := by omega
                have g5 : (mid : Int) < (E : Int) := by omega
                have g6 : ¬ (E : Int) < (b : Int) := by omega
                have C0 := rot_any B g n c (P ++ A1) A2 B1 (B2 ++ Q) wr (by simpa using ho1) hd8 s m E (by simp; omega) (by simp; omega) (by simp; omega) (by omega) (by omega)
                have HC0 := hidp C0
                clear C0
                clear hd1 hd2 hd3 hd4 hd5 hd6 hd7 hd8 hm1 hm2 hm3 l1 l2 z1 hE
                go_wp2_with fail
                refine HC0.out.mono ?_
                rintro e w4 ⟨rfl, ho4, ht4⟩
                have ht4 := ht1.trans ht4 (by simp)
                have ho4 : OwnW B w4 (some ⟨g, 0, none⟩) n c (P ++ A1 ++ B1 ++ (A2 ++ B2 ++ Q)) := by simpa using ho4
                have C1 := HIH.out B g n c P A1 B1 (A2 ++ B2 ++ Q) w4 ho4 (by have := HNU.out; omega) HS4.out.1 HS4.out.2.2.1 HW.out.1 a s mid (by have := HNU.out; omega) (by have := HNU.out; omega) (by have := HNU.out; omega) (by have := HNU.out; omega) (by have := HNU.out; omega) (by have := HNU.out; omega)
                go_wp2_with fail
                refine C1.mono ?_
                rintro e w5 ⟨rfl, C1, s1, p1, ho5, ht5⟩
                have ht5 := ht4.trans ht5 (by simp)
                have HP1 := hidp (And.intro s1 p1)
                clear s1 p1
                have s2 := srt_e HS4.out.2.1 HS4.out.2.2.2 (by have := HNU.out; omega)
                obtain ⟨C2, hC2⟩ : ∃ C2, A2 ++ B2 = C2 := ⟨_, rfl⟩
                have ho6 : OwnW B w5 (some ⟨g, 0, none⟩) n c (P ++ C1 ++ C2 ++ Q) := by rw [← hC2]; simpa using ho5
                rw [hC2] at s2
                have p2 : C2.Perm (A2 ++ B2) := by rw [hC2]
                have ht6 := ht5
                clear hC2
                obtain ⟨s1, p1⟩ := HP1.out
                have HF := hidp (And.intro s2 (And.intro p2 (And.intro ho6 ht6)))
                clear s1 p1 s2 p2 ho6 ht6
                go_wp2_with fail
                obtain ⟨s2, p2, ho6, ht6⟩ := HF.out
                obtain ⟨s1, p1⟩ := HP1.out
                refine bodyPost_ret (v := .tuple #[]) (by simp [results, Try.results16, go_sem]) rfl (sym_done (by simp) HSA.out HSB.out HLE.out.1 HLE.out.2 s1 s2 p1 p2 ho6 ht6)
            · by_cases c4 : E < b
              · have g1 : (s : Int) < (m : Int) := by omega
                have g2 : (m : Int) < (E : Int) := by omega
                have g3 : ¬ (a : Int) < (s : Int) := by omega
                have g4 : (s : Int) < (mid : Int) := by omega
                have g5 : (mid : Int) < (E : Int) := by omega
                have g6 : (E : Int) < (b : Int) := by omega
                have C0 := rot_any B g n c (P ++ A1) A2 B1 (B2 ++ Q) wr (by simpa using ho1) hd8 s m E (by simp; omega) (by simp; omega) (by simp; omega) (by omega) (by omega)
                have HC0 := hidp C0
                clear C0
                clear hd1 hd2 hd3 hd4 hd5 hd6 hd7 hd8 hm1 hm2 hm3 l1 l2 z1 hE
                go_wp2_with fail
                refine HC0.out.mono ?_
                rintro e w4 ⟨rfl, ho4, ht4⟩
                have ht4 := ht1.trans ht4 (by simp)
                have ho4 : OwnW B w4 (some ⟨g, 0, none⟩) n c (P ++ A1 ++ B1 ++ (A2 ++ B2 ++ Q)) := by simpa using ho4
                have s1 := srt_e HS4.out.1 HS4.out.2.2.1 (by have := HNU.out; omega)
                have p1 := List.Perm.refl (A1 ++ B1)
                obtain ⟨C1, hC1⟩ : ∃ C1, A1 ++ B1 = C1 := ⟨_, rfl⟩
                have ho5 : OwnW B w4 (some ⟨g, 0, none⟩) n c (P ++ C1 ++ (A2 ++ B2 ++ Q)) := by rw [← hC1]; simpa using ho4
                rw [hC1] at s1
                have p1 : C1.Perm (A1 ++ B1) := by rw [hC1]
                have ht5 := ht4
                clear hC1
                have HP1 := hidp (And.intro s1 p1)
                clear s1 p1
                have C2 := HIH.out B g n c (P ++ C1) A2 B2 Q w4 (by simpa using ho5) (by have := HNU.out; omega) HS4.out.2.1 HS4.out.2.2.2 HW.out.2 mid E b (by have := HNU.out; have hl := HP1.out.2.length_eq; simp at hl ⊢; omega) (by have := HNU.out; have hl := HP1.out.2.length_eq; simp at hl ⊢; omega) (by have := HNU.out; have hl := HP1.out.2.length_eq; simp at hl ⊢; omega) (by have := HNU.out; omega) (by have := HNU.out; omega) (by have := HNU.out; omega)
                go_wp2_with fail
                refine C2.mono ?_
                rintro e w6 ⟨rfl, C2, s2, p2, ho6, ht6⟩
                have ht6 := ht5.trans ht6 (by simp)
                obtain ⟨s1, p1⟩ := HP1.out
                have HF := hidp (And.intro s2 (And.intro p2 (And.intro ho6 ht6)))
                clear s1 p1 s2 p2 ho6 ht6
                go_wp2_with fail
                obtain ⟨s2, p2, ho6, ht6⟩ := HF.out
                obtain ⟨s1, p1⟩ := HP1.out
                refine bodyPost_ret (v := .tuple #[]) (by simp [results, Try.results16, go_sem]) rfl (sym_done (by simp) HSA.out HSB.out HLE.out.1 HLE.out.2 s1 s2 p1 p2 ho6 ht6)
              · have g1 : (s : Int) < (m : Int) := by omega
                have g2 : (m : Int) < (E : Int) := by omega
                have g3 : ¬ (a : Int) < (s : Int) := by omega
                have g4 : (s : Int) < (mid : Int) := by omega
                have g5 : (mid : Int) < (E : Int) := by omega
                have g6 : ¬ (E : Int) < (b : Int) := by omega
                have C0 := rot_any B g n c (P ++ A1) A2 B1 (B2 ++ Q) wr (by simpa using ho1) hd8 s m E (by simp; omega) (by simp; omega) (by simp; omega) (by omega) (by omega)
                have HC0 := hidp C0
                clear C0
                clear hd1 hd2 hd3 hd4 hd5 hd6 hd7 hd8 hm1 hm2 hm3 l1 l2 z1 hE
                go_wp2_with fail
                refine HC0.out.mono ?_
                rintro e w4 ⟨rfl, ho4, ht4⟩
                have ht4 := ht1.trans ht4 (by simp)
                have ho4 : OwnW B w4 (some ⟨g, 0, none⟩) n c (P ++ A1 ++ B1 ++ (A2 ++ B2 ++ Q)) := by simpa using ho4
                have s1 := srt_e HS4.out.1 HS4.out.2.2.1 (by have := HNU.out; omega)
                have p1 := List.Perm.refl (A1 ++ B1)
                obtain ⟨C1, hC1⟩ : ∃ C1, A1 ++ B1 = C1 := ⟨_, rfl⟩
                have ho5 : OwnW B w4 (some ⟨g, 0, none⟩) n c (P ++ C1 ++ (A2 ++ B2 ++ Q)) := by rw [← hC1]; simpa using ho4
                rw [hC1] at s1
                have p1 : C1.Perm (A1 ++ B1) := by rw [hC1]
                have ht5 := ht4
                clear hC1
                have HP1 := hidp (And.intro s1 p1)
                clear s1 p1
                have s2 := srt_e HS4.out.2.1 HS4.out.2.2.2 (by have := HNU.out; omega)
                obtain ⟨C2, hC2⟩ : ∃ C2, A2 ++ B2 = C2 := ⟨_, rfl⟩
                have ho6 : OwnW B w4 (some ⟨g, 0, none⟩) n c (P ++ C1 ++ C2 ++ Q) := by rw [← hC2]; simpa using ho5
                rw [hC2] at s2
                have p2 : C2.Perm (A2 ++ B2) := by rw [hC2]
                have ht6 := ht5
                clear hC2
                obtain ⟨s1, p1⟩ := HP1.out
                have HF := hidp (And.intro s2 (And.intro p2 (And.intro ho6 ht6)))
                clear s1 p1 s2 p2 ho6 ht6
                go_wp2_with fail
                obtain ⟨s2, p2, ho6, ht6⟩ := HF.out
                obtain ⟨s1, p1⟩ := HP1.out
                refine bodyPost_ret (v := .tuple #[]) (by simp [results, Try.results16, go_sem]) rfl (sym_done (by simp) HSA.out HSB.out HLE.out.1 HLE.out.2 s1 s2 p1 p2 ho6 ht6)
          · have g1 : (s : Int) < (m : Int) := by omega
            have g2 : ¬ (m : Int) < (E : Int) := by omega
            have g3 : (a : Int) < (s : Int) := by omega
            have g4 : ¬ (s : Int) < (mid : Int) := by omega
            have g5 : (mid : Int) < (E : Int) := by omega
            have g6 : (E : Int) < (b : Int) := by omega
            clear hd1 hd2 hd3 hd4 hd5 hd6 hd7 hd8 hm1 hm2 hm3 l1 l2 z1 hE
            go_wp2_with fail
            have ho4 : OwnW B wr (some ⟨g, 0, none⟩) n c (P ++ A1 ++ B1 ++ (A2 ++ B2 ++ Q)) := by
              have e : A2.length = 0 ∨ B1.length = 0 := by have := HNU.out; omega
              rcases e with e | e
              · have e2 := List.eq_nil_of_length_eq_zero e
                rw [e2] at ho1 ⊢
                simpa using ho1
              · have e2 := List.eq_nil_of_length_eq_zero e
                rw [e2] at ho1 ⊢
                simpa using ho1
            have ht4 := ht1
            have s1 := srt_e HS4.out.1 HS4.out.2.2.1 (by have := HNU.out; omega)
            have p1 := List.Perm.refl (A1 ++ B1)
            obtain ⟨C1, hC1⟩ : ∃ C1, A1 ++ B1 = C1 := ⟨_, rfl⟩
            have ho5 : OwnW B wr (some ⟨g, 0, none⟩) n c (P ++ C1 ++ (A2 ++ B2 ++ Q)) := by rw [← hC1]; simpa using ho4
            rw [hC1] at s1
            have p1 : C1.Perm (A1 ++ B1) := by rw [hC1]
            have ht5 := ht4
            clear hC1
            have HP1 := hidp (And.intro s1 p1)
            clear s1 p1
            have C2 := HIH.out B g n c (P ++ C1) A2 B2 Q wr (by simpa using ho5) (by have := HNU.out; omega) HS4.out.2.1 HS4.out.2.2.2 HW.out.2 mid E b (by have := HNU.out; have hl := HP1.out.2.length_eq; simp at hl ⊢; omega) (by have := HNU.out; have hl := HP1.out.2.length_eq; simp at hl ⊢; omega) (by have := HNU.out; have hl := HP1.out.2.length_eq; simp at hl ⊢; omega) (by have := HNU.out; omega) (by have := HNU.out; omega) (by have := HNU.out; omega)
            refine C2.mono ?_
            rintro e w6 ⟨rfl, C2, s2, p2, ho6, ht6⟩
            have ht6 := ht5.trans ht6 (by simp)
            obtain ⟨s1, p1⟩ := HP1.out
            have HF := hidp (And.intro s2 (And.intro p2 (And.intro ho6 ht6)))
            clear s1 p1 s2 p2 ho6 ht6
            go_wp2_with fail
            obtain ⟨s2, p2, ho6, ht6⟩ := HF.out
            obtain ⟨s1, p1⟩ := HP1.out
            refine bodyPost_ret (v := .tuple #[]) (by simp [results, Try.results16, go_sem]) rfl (sym_done (by simp) HSA.out HSB.out HLE.out.1 HLE.out.2 s1 s2 p1 p2 ho6 ht6)
        · by_cases c2 : s < mid
          · have g1 : ¬ (s : Int) < (m : Int) := by omega
            have g2 : (m : Int) < (E : Int) := by omega
            have g3 : (a : Int) < (s : Int) := by omega
            have g4 : (s : Int) < (mid : Int) := by omega
            have g5 : ¬ (mid : Int) < (E : Int) := by omega
            have g6 : (E : Int) < (b : Int) := by omega
            clear hd1 hd2 hd3 hd4 hd5 hd6 hd7 hd8 hm1 hm2 hm3 l1 l2 z1 hE
            go_wp2_with fail
            have ho4 : OwnW B wr (some ⟨g, 0, none⟩) n c (P ++ A1 ++ B1 ++ (A2 ++ B2 ++ Q)) := by
              have e : A2.length = 0 ∨ B1.length = 0 := by have := HNU.out; omega
              rcases e with e | e
              · have e2 := List.eq_nil_of_length_eq_zero e
                rw [e2] at ho1 ⊢
                simpa using ho1
              · have e2 := List.eq_nil_of_length_eq_zero e
                rw [e2] at ho1 ⊢
                simpa using ho1
            have ht4 := ht1
            have C1 := HIH.out B g n c P A1 B1 (A2 ++ B2 ++ Q) wr ho4 (by have := HNU.out; omega) HS4.out.1 HS4.out.2.2.1 HW.out.1 a s mid (by have := HNU.out; omega) (by have := HNU.out; omega) (by have := HNU.out; omega) (by have := HNU.out; omega) (by have := HNU.out; omega) (by have := HNU.out; omega)
            refine C1.mono ?_
            rintro e w5 ⟨rfl, C1, s1, p1, ho5, ht5⟩
            have ht5 := ht4.trans ht5 (by simp)
            have HP1 := hidp (And.intro s1 p1)
            clear s1 p1
            have s2 := srt_e HS4.out.2.1 HS4.out.2.2.2 (by have := HNU.out; omega)
            obtain ⟨C2, hC2⟩ : ∃ C2, A2 ++ B2 = C2 := ⟨_, rfl⟩
            have ho6 : OwnW B w5 (some ⟨g, 0, none⟩) n c (P ++ C1 ++ C2 ++ Q) := by rw [← hC2]; simpa using ho5
            rw [hC2] at s2
            have p2 : C2.Perm (A2 ++ B2) := by rw [hC2]
            have ht6 := ht5
            clear hC2
            obtain ⟨s1, p1⟩ := HP1.out
            have HF := hidp (And.intro s2 (And.intro p2 (And.intro ho6 ht6)))
            clear s1 p1 s2 p2 ho6 ht6
            go_wp2_with fail
            obtain ⟨s2, p2, ho6, ht6⟩ := HF.out
            obtain ⟨s1, p1⟩ := HP1.out
            refine bodyPost_ret (v := .tuple #[]) (by simp [results, Try.results16, go_sem]) rfl (sym_done (by simp) HSA.out HSB.out HLE.out.1 HLE.out.2 s1 s2 p1 p2 ho6 ht6)
          · have g1 : ¬ (s : Int) < (m : Int) := by omega
            have g2 : ¬ (m : Int) < (E : Int) := by omega
            have g3 : (a : Int) < (s : Int) := by omega
            have g4 : ¬ (s : Int) < (mid : Int) := by omega
            have g5 : ¬ (mid : Int) < (E : Int) := by omega
            have g6 : (E : Int) < (b : Int) := by omega
            clear hd1 hd2 hd3 hd4 hd5 hd6 hd7 hd8 hm1 hm2 hm3 l1 l2 z1 hE
            go_wp2
            have ho4 : OwnW B wr (some ⟨g, 0, none⟩) n c (P ++ A1 ++ B1 ++ (A2 ++ B2 ++ Q)) := by
              have e : A2.length = 0 ∨ B1.length = 0 := by have := HNU.out; omega
              rcases e with e | e
              · have e2 := List.eq_nil_of_length_eq_zero e
                rw [e2] at ho1 ⊢
                simpa using ho1
              · have e2 := List.eq_nil_of_length_eq_zero e
                rw [e2] at ho1 ⊢
                simpa using ho1
            have ht4 := ht1
            have s1 := srt_e HS4.out.1 HS4.out.2.2.1 (by have := HNU.out; omega)
            have p1 := List.Perm.refl (A1 ++ B1)
            obtain ⟨C1, hC1⟩ : ∃ C1, A1 ++ B1 = C1 := ⟨_, rfl⟩
            have ho5 : OwnW B wr (some ⟨g, 0, none⟩) n c (P ++ C1 ++ (A2 ++ B2 ++ Q)) := by rw [← hC1]; simpa using ho4
            rw [hC1] at s1
            have p1 : C1.Perm (A1 ++ B1) := by rw [hC1]
            have ht5 := ht4
            clear hC1
            have HP1 := hidp (And.intro s1 p1)
            clear s1 p1
            have s2 := srt_e HS4.out.2.1 HS4.out.2.2.2 (by have := HNU.out; omega)
            obtain ⟨C2, hC2⟩ : ∃ C2, A2 ++ B2 = C2 := ⟨_, rfl⟩
            have ho6 : OwnW B wr (some ⟨g, 0, none⟩) n c (P ++ C1 ++ C2 ++ Q) := by rw [← hC2]; simpa using ho5
            rw [hC2] at s2
            have p2 : C2.Perm (A2 ++ B2) := by rw [hC2]
            have ht6 := ht5
            clear hC2
            obtain ⟨s1, p1⟩ := HP1.out
            refine bodyPost_ret (v := .tuple #[]) (by simp [results, Try.results16, go_sem]) rfl (sym_done (by simp) HSA.out HSB.out HLE.out.1 HLE.out.2 s1 s2 p1 p2 ho6 ht6)
  · go_wp2
    go_loopg [20, 21] (r0 - s0) (fun gg u v wr => ∃ s r : Nat, u = .int .i64 (s : Int) ∧ v = .int .i64 (r : Int) ∧ Hid (s0 ≤ s ∧ s ≤ r ∧ r ≤ r0 ∧ gg = r - s) ∧ Hid (s = s0 ∨ aheadB (R.getD (nn - s) default) (R.getD (s - 1) default) = false) ∧ Hid (r = r0 ∨ aheadB (R.getD (nn - 1 - r) default) (R.getD r default) = true) ∧ OwnW B wr (some ⟨g, 0, none⟩) n c R ∧ Turned [g] w wr)
    case atStart => exact ⟨s0, r0, (by have := HS0.out; rw [show s0 = a by omega]), (by have := HS0.out; rw [show r0 = m by omega]), hidp (by have := HZ.out; omega), hidp (.inl rfl), hidp (.inl rfl), ho, Turned.refl _ _⟩
    case round =>
      clear ho hmm w9
      obtain ⟨s, r, rfl, rfl, HRR, HL, HG, ho1, ht1⟩ := hrel
      obtain ⟨hd1, hd2, hd3, hd4, hd5, hd6, hd7, hd8⟩ := HD.out
      obtain ⟨hm1, hm2, hm3⟩ := HM.out
      obtain ⟨r1, r2, r3, r4⟩ := HRR.out
      have hs0 := HS0.out
      by_cases hlt : s < r
      · obtain ⟨h, hh⟩ : ∃ h, h = (s + r) / 2 := ⟨_, rfl⟩
        obtain ⟨ip, hip⟩ : ∃ ip, ip = nn - 1 - h := ⟨_, rfl⟩
        have hu : (s : Int) < (r : Int) := by omega
        have x1 : IntKind.i64.wrap ((s : Int) + (r : Int)) = (s : Int) + (r : Int) := IntWalk.i64_in _ (by omega)
        have x2 : IntKind.u64.wrap ((s : Int) + (r : Int)) = (s : Int) + (r : Int) := IntWalk.u64_in _ (by omega)
        have x3 : ((s : Int) + (r : Int)) / 2 = (h : Int) := by omega
        have x4 : IntKind.i64.wrap (h : Int) = (h : Int) := IntWalk.i64_in _ (by omega)
        have x5 : IntKind.u64.wrap (h : Int) = (h : Int) := IntWalk.u64_in _ (by omega)
        have x6 : IntKind.i64.wrap ((h : Int) + 1) = (h : Int) + 1 := IntWalk.i64_in _ (by omega)
        have x7 : IntKind.i64.wrap ((pp : Int) - (h : Int)) = (ip : Int) := by rw [IntWalk.i64_in _ (by omega)]; omega
        have y1 : a ≤ h ∧ h < b ∧ a ≤ ip ∧ ip < b := by rcases hs0 with q | q <;> omega
        have hln := ho1.len
        obtain ⟨y, hy⟩ : ∃ y, R.getD ip default = y := ⟨_, rfl⟩
        obtain ⟨x, hx⟩ : ∃ x, R.getD h default = x := ⟨_, rfl⟩
        have cy := ho1.at_ (i := ip) (by omega)
        have cx := ho1.at_ (i := h) (by omega)
        rw [hy] at cy
        rw [hx] at cx
        have hwy : y.wf := hy ▸ HWR.out ip y1.2.2.1 y1.2.2.2
        have hwx : x.wf := hx ▸ HWR.out h y1.1 y1.2.1
        have b0 : (0 : Int) ≤ (h : Int) := by omega
        have b1 : (h : Int) < (n : Int) := by omega
        have b2 : (0 : Int) ≤ (ip : Int) := by omega
        have b3 : (ip : Int) < (n : Int) := by omega
        have HH : Hid (ip = nn - 1 - h ∧ s ≤ h ∧ h < r ∧ R.getD ip default = y ∧ R.getD h default = x) := hidp ⟨hip, by omega, by omega, hy, hx⟩
        clear hd1 hd2 hd3 hd4 hd5 hd6 hd7 hd8 hm1 hm2 hm3 r1 r2 r3 r4 hs0 hlt hh hip y1 hln hy hx
        go_wp2
        have hS : wr.drew.cell? ⟨g, ip * 3, none⟩ = some (.int .i64 y.task) ∧ wr.drew.cell? ⟨g, ip * 3 + 1, none⟩ = some (.int .i64 y.prio) ∧ wr.drew.cell? ⟨g, ip * 3 + 2, none⟩ = some (.int .i64 y.boost) ∧ wr.drew.cell? ⟨g, h * 3, none⟩ = some (.int .i64 x.task) ∧ wr.drew.cell? ⟨g, h * 3 + 1, none⟩ = some (.int .i64 x.prio) ∧ wr.drew.cell? ⟨g, h * 3 + 2, none⟩ = some (.int .i64 x.boost) := ⟨cy.1, cy.2.1, cy.2.2, cx.1, cx.2.1, cx.2.2⟩
        have ho2 := ho1.turned (Turned.refl [] wr).drew (by simp)
        have ht2 := ht1.drew
        have ob := orderV_bd y x
        obtain ⟨o, Ho⟩ : ∃ o, Hid (orderV y x = o) := ⟨_, hidp rfl⟩
        have Hord := hidp (orderV_neg y x)
        rw [Ho.out] at ob Hord
        clear cx cy ho1 ht1
        go_region_held3 (fun w' => w'.cell? ⟨g, ip * 3, none⟩ = some (.int .i64 y.task) ∧ w'.cell? ⟨g, ip * 3 + 1, none⟩ = some (.int .i64 y.prio) ∧ w'.cell? ⟨g, ip * 3 + 2, none⟩ = some (.int .i64 y.boost) ∧ w'.cell? ⟨g, h * 3, none⟩ = some (.int .i64 x.task) ∧ w'.cell? ⟨g, h * 3 + 1, none⟩ = some (.int .i64 x.prio) ∧ w'.cell? ⟨g, h * 3 + 2, none⟩ = some (.int .i64 x.boost)) (exact hS)
          (first
            | (go_at_call 13; refine (order_any y x _ hwy hwx).mono ?_; rintro e uw ⟨rfl, hb3⟩; have k3 := Keeps2 hb3; have hS := And.intro (k3 _ _ hS.1) (And.intro (k3 _ _ hS.2.1) (And.intro (k3 _ _ hS.2.2.1) (And.intro (k3 _ _ hS.2.2.2.1) (And.intro (k3 _ _ hS.2.2.2.2.1) (k3 _ _ hS.2.2.2.2.2))))); have ho2 := ho2.turned (Turned.of_below hb3 []) (by simp); have ht2 := ht2.trans (Turned.of_below hb3 []) (by simp); clear k3; rw [Ho.out]))
        by_cases hxy : aheadB y x = true
        · have hod : decide (o < 0) = true := by have := Hord.out.2 hxy; simpa using this
          have hod2 : o < 0 := Hord.out.2 hxy
          have Hxy := hidp hxy
          clear hxy hS
          try simp only [hod, Bool.not_true, Bool.not_false]
          go_wp2
          go_roundg (h - s)
          case measure => have := HRR.out; have := HH.out; omega
          case rel => exact ⟨s, h, by first | rfl | go_num, by first | rfl | go_num, hidp (by have := HRR.out; have := HH.out; omega), HL, hidp (.inr (by rw [← HH.out.1, HH.out.2.2.2.1, HH.out.2.2.2.2]; exact Hxy.out)), ho2, ht2⟩
        · have hx0 : aheadB y x = false := by simpa using hxy
          have hod2 : ¬ o < 0 := fun h => hxy (Hord.out.1 h)
          have hod : decide (o < 0) = false := by simpa using hod2
          have Hxy := hidp hx0
          clear hxy hS hx0
          try simp only [hod, Bool.not_true, Bool.not_false]
          go_wp2
          go_roundg (r - (h + 1))
          case measure => have := HRR.out; have := HH.out; omega
          case rel => exact ⟨h + 1, r, by first | rfl | go_num, by first | rfl | go_num, hidp (by have := HRR.out; have := HH.out; omega), hidp (.inr (by rw [show nn - (h + 1) = ip by have := HH.out.1; omega, Nat.add_sub_cancel, HH.out.2.2.2.1, HH.out.2.2.2.2]; exact Hxy.out)), HG, ho2, ht2⟩
      · obtain rfl : s = r := by omega
        have hu : ¬ (s : Int) < (s : Int) := by omega
        obtain ⟨E, hE⟩ : ∃ E, E = nn - s := ⟨_, rfl⟩
        have x1 : IntKind.i64.wrap ((nn : Int) - (s : Int)) = (E : Int) := by rw [IntWalk.i64_in _ (by omega)]; rcases hs0 with q | q <;> omega
        have z1 : a ≤ s ∧ mid + m ≤ s + b ∧ s ≤ m ∧ s ≤ mid := by rcases hs0 with q | q <;> omega
        obtain ⟨A1, A2, B1, B2, rfl, rfl, l1, l2, le1, le2⟩ := split_le HR.out hd1 hd2 hd3 hm1 HSA.out HSB.out z1.1 z1.2.1 z1.2.2.1 z1.2.2.2 (by
            rcases HL.out with h | h
            · rcases hs0 with q | q
              · exact .inr (.inl (by omega))
              · exact .inl (by omega)
            · exact .inr (.inr (hm2 ▸ h))) (by
            rcases HG.out with h | h
            · rcases hs0 with q | q
              · exact .inr (.inl (by omega))
              · exact .inl (by omega)
            · exact .inr (.inr (hm2 ▸ h)))
        simp only [List.length_append] at hd2 hd3 hd4 hd5 hd6 hd7
        have sA1 := (List.pairwise_append.1 HSA.out).1
        have sA2 := (List.pairwise_append.1 HSA.out).2.1
        have sB1 := (List.pairwise_append.1 HSB.out).1
        have sB2 := (List.pairwise_append.1 HSB.out).2.1
        have HLE := hidp (And.intro le1 le2)
        have HS4 := hidp (And.intro sA1 (And.intro sA2 (And.intro sB1 sB2)))
        have wf1 : ∀ y ∈ A1 ++ B1, y.wf := fun y hy => HWF.out y (by simp at hy ⊢; rcases hy with h | h <;> simp [h])
        have wf2 : ∀ y ∈ A2 ++ B2, y.wf := fun y hy => HWF.out y (by simp at hy ⊢; rcases hy with h | h <;> simp [h])
        have HW := hidp (And.intro wf1 wf2)
        have HNU : Hid (a = P.length ∧ m = P.length + (A1.length + A2.length) ∧ b = P.length + (A1.length + A2.length) + (B1.length + B2.length) ∧ A1.length = s - a ∧ B1.length = mid - s ∧ E = nn - s ∧ nn = mid + m ∧ A1.length + A2.length + (B1.length + B2.length) = N ∧ n ≤ 1000 ∧ a ≤ s ∧ s ≤ m ∧ s ≤ mid ∧ mid + m ≤ s + b ∧ a < mid ∧ mid < b) := hidp ⟨hd1, hd2, hd3, l1, l2, hE, hm2, hd6, hd8, z1.1, z1.2.2.1, z1.2.2.2, z1.2.1, by omega, by omega⟩
        rw [HR.out] at ho1
        clear le1 le2 sA1 sA2 sB1 sB2 wf1 wf2 hs0 r1 r2 r3 r4 hlt
        by_cases c1 : s < m
        · by_cases c2 : s < mid
          · by_cases c3 : a < s
            · by_cases c4 : E < b
              · have g1 : (s : Int) < (m : Int) := by omega
                have g2 : (m : Int) < (E : Int) := by omega
                have g3 : (a : Int) < (s : Int) := by omega
                have g4 : (s : Int) < (mid : Int) := by omega
                have g5 : (mid : Int) < (E : Int) := by omega
                have g6 : (E : Int) < (b : Int) := by omega
                have C0 := rot_any B g n c (P ++ A1) A2 B1 (B2 ++ Q) wr (by simpa using ho1) hd8 s m E (by simp; omega) (by simp; omega) (by simp; omega) (by omega) (by omega)
                have HC0 := hidp C0
                clear C0
                clear hd1 hd2 hd3 hd4 hd5 hd6 hd7 hd8 hm1 hm2 hm3 l1 l2 z1 hE
                go_wp2_with fail
                refine HC0.out.mono ?_
                rintro e w4 ⟨rfl, ho4, ht4⟩
                have ht4 := ht1.trans ht4 (by simp)
                have ho4 : OwnW B w4 (some ⟨g, 0, none⟩) n c (P ++ A1 ++ B1 ++ (A2 ++ B2 ++ Q)) := by simpa using ho4
                have C1 := HIH.out B g n c P A1 B1 (A2 ++ B2 ++ Q) w4 ho4 (by have := HNU.out; omega) HS4.out.1 HS4.out.2.2.1 HW.out.1 a s mid (by have := HNU.out; omega) (by have := HNU.out; omega) (by have := HNU.out; omega) (by have := HNU.out; omega) (by have := HNU.out; omega) (by have := HNU.out; omega)
                go_wp2_with fail
                refine C1.mono ?_
                rintro e w5 ⟨rfl, C1, s1, p1, ho5, ht5⟩
                have ht5 := ht4.trans ht5 (by simp)
                have HP1 := hidp (And.intro s1 p1)
                clear s1 p1
                have C2 := HIH.out B g n c (P ++ C1) A2 B2 Q w5 (by simpa using ho5) (by have := HNU.out; omega) HS4.out.2.1 HS4.out.2.2.2 HW.out.2 mid E b (by have := HNU.out; have hl := HP1.out.2.length_eq; simp at hl ⊢; omega) (by have := HNU.out; have hl := HP1.out.2.length_eq; simp at hl ⊢; omega) (by have := HNU.out; have hl := HP1.out.2.length_eq; simp at hl ⊢; omega) (by have := HNU.out; omega) (by have := HNU.out; omega) (by have := HNU.out; omega)
                go_wp2_with fail
                refine C2.mono ?_
                rintro e w6 ⟨rfl, C2, s2, p2, ho6, ht6⟩
                have ht6 := ht5.trans ht6 (by simp)
                obtain ⟨s1, p1⟩ := HP1.out
                have HF := hidp (And.intro s2 (And.intro p2 (And.intro ho6 ht6)))
                clear s1 p1 s2 p2 ho6 ht6
                go_wp2_with fail
                obtain ⟨s2, p2, ho6, ht6⟩ := HF.out
                obtain ⟨s1, p1⟩ := HP1.out
                refine bodyPost_ret (v := .tuple #[]) (by simp [results, Try.results16, go_sem]) rfl (sym_done (by simp) HSA.out HSB.out HLE.out.1 HLE.out.2 s1 s2 p1 p2 ho6 ht6)
              · have g1 : (s : Int) < (m : Int) := by omega
                have g2 : (m : Int) < (E : Int) := by omega
                have g3 : (a : Int) < (s : Int) := by omega
                have g4 : (s : Int) < (mid : Int) := by omega
                have g5 : (mid : Int) < (E : Int) := by omega
                have g6 : ¬ (E : Int) < (b : Int) := by omega
                have C0 := rot_any B g n c (P ++ A1) A2 B1 (B2 ++ Q) wr (by simpa using ho1) hd8 s m E (by simp; omega) (by simp; omega) (by simp; omega) (by omega) (by omega)
                have HC0 := hidp C0
                clear C0
                clear hd1 hd2 hd3 hd4 hd5 hd6 hd7 hd8 hm1 hm2 hm3 l1 l2 z1 hE
                go_wp2_with fail
                refine HC0.out.mono ?_
                rintro e w4 ⟨rfl, ho4, ht4⟩
                have ht4 := ht1.trans ht4 (by simp)
                have ho4 : OwnW B w4 (some ⟨g, 0, none⟩) n c (P ++ A1 ++ B1 ++ (A2 ++ B2 ++ Q)) := by simpa using ho4
                have C1 := HIH.out B g n c P A1 B1 (A2 ++ B2 ++ Q) w4 ho4 (by have := HNU.out; omega) HS4.out.1 HS4.out.2.2.1 HW.out.1 a s mid (by have := HNU.out; omega) (by have := HNU.out; omega) (by have := HNU.out; omega) (by have := HNU.out; omega) (by have := HNU.out; omega) (by have := HNU.out; omega)
                go_wp2_with fail
                refine C1.mono ?_
                rintro e w5 ⟨rfl, C1, s1, p1, ho5, ht5⟩
                have ht5 := ht4.trans ht5 (by simp)
                have HP1 := hidp (And.intro s1 p1)
                clear s1 p1
                have s2 := srt_e HS4.out.2.1 HS4.out.2.2.2 (by have := HNU.out; omega)
                obtain ⟨C2, hC2⟩ : ∃ C2, A2 ++ B2 = C2 := ⟨_, rfl⟩
                have ho6 : OwnW B w5 (some ⟨g, 0, none⟩) n c (P ++ C1 ++ C2 ++ Q) := by rw [← hC2]; simpa using ho5
                rw [hC2] at s2
                have p2 : C2.Perm (A2 ++ B2) := by rw [hC2]
                have ht6 := ht5
                clear hC2
                obtain ⟨s1, p1⟩ := HP1.out
                have HF := hidp (And.intro s2 (And.intro p2 (And.intro ho6 ht6)))
                clear s1 p1 s2 p2 ho6 ht6
                go_wp2_with fail
                obtain ⟨s2, p2, ho6, ht6⟩ := HF.out
                obtain ⟨s1, p1⟩ := HP1.out
                refine bodyPost_ret (v := .tuple #[]) (by simp [results, Try.results16, go_sem]) rfl (sym_done (by simp) HSA.out HSB.out HLE.out.1 HLE.out.2 s1 s2 p1 p2 ho6 ht6)
            · by_cases c4 : E < b
              · have g1 : (s : Int) < (m : Int) := by omega
                have g2 : (m : Int) < (E : Int) := by omega
                have g3 : ¬ (a : Int) < (s : Int) := by omega
                have g4 : (s : Int) < (mid : Int) := by omega
                have g5 : (mid : Int) < (E : Int) := by omega
                have g6 : (E : Int) < (b : Int) := by omega
                have C0 := rot_any B g n c (P ++ A1) A2 B1 (B2 ++ Q) wr (by simpa using ho1) hd8 s m E (by simp; omega) (by simp; omega) (by simp; omega) (by omega) (by omega)
                have HC0 := hidp C0
                clear C0
                clear hd1 hd2 hd3 hd4 hd5 hd6 hd7 hd8 hm1 hm2 hm3 l1 l2 z1 hE
                go_wp2_with fail
                refine HC0.out.mono ?_
                rintro e w4 ⟨rfl, ho4, ht4⟩
                have ht4 := ht1.trans ht4 (by simp)
                have ho4 : OwnW B w4 (some ⟨g, 0, none⟩) n c (P ++ A1 ++ B1 ++ (A2 ++ B2 ++ Q)) := by simpa using ho4
                have s1 := srt_e HS4.out.1 HS4.out.2.2.1 (by have := HNU.out; omega)
                have p1 := List.Perm.refl (A1 ++ B1)
                obtain ⟨C1, hC1⟩ : ∃ C1, A1 ++ B1 = C1 := ⟨_, rfl⟩
                have ho5 : OwnW B w4 (some ⟨g, 0, none⟩) n c (P ++ C1 ++ (A2 ++ B2 ++ Q)) := by rw [← hC1]; simpa using ho4
                rw [hC1] at s1
                have p1 : C1.Perm (A1 ++ B1) := by rw [hC1]
                have ht5 := ht4
                clear hC1
                have HP1 := hidp (And.intro s1 p1)
                clear s1 p1
                have C2 := HIH.out B g n c (P ++ C1) A2 B2 Q w4 (by simpa using ho5) (by have := HNU.out; omega) HS4.out.2.1 HS4.out.2.2.2 HW.out.2 mid E b (by have := HNU.out; have hl := HP1.out.2.length_eq; simp at hl ⊢; omega) (by have := HNU.out; have hl := HP1.out.2.length_eq; simp at hl ⊢; omega) (by have := HNU.out; have hl := HP1.out.2.length_eq; simp at hl ⊢; omega) (by have := HNU.out; omega) (by have := HNU.out; omega) (by have := HNU.out; omega)
                go_wp2_with fail
                refine C2.mono ?_
                rintro e w6 ⟨rfl, C2, s2, p2, ho6, ht6⟩
                have ht6 := ht5.trans ht6 (by simp)
                obtain ⟨s1, p1⟩ := HP1.out
                have HF := hidp (And.intro s2 (And.intro p2 (And.intro ho6 ht6)))
                clear s1 p1 s2 p2 ho6 ht6
                go_wp2_with fail
                obtain ⟨s2, p2, ho6, ht6⟩ := HF.out
                obtain ⟨s1, p1⟩ := HP1.out
                refine bodyPost_ret (v := .tuple #[]) (by simp [results, Try.results16, go_sem]) rfl (sym_done (by simp) HSA.out HSB.out HLE.out.1 HLE.out.2 s1 s2 p1 p2 ho6 ht6)
              · have g1 : (s : Int) < (m : Int) := by omega
                have g2 : (m : Int) < (E : Int) := by omega
                have g3 : ¬ (a : Int) < (s : Int) := by omega
                have g4 : (s : Int) < (mid : Int) := by omega
                have g5 : (mid : Int) < (E : Int) := by omega
                have g6 : ¬ (E : Int) < (b : Int) := by omega
                have C0 := rot_any B g n c (P ++ A1) A2 B1 (B2 ++ Q) wr (by simpa using ho1) hd8 s m E (by simp; omega) (by simp; omega) (by simp; omega) (by omega) (by omega)
                have HC0 := hidp C0
                clear C0
                clear hd1 hd2 hd3 hd4 hd5 hd6 hd7 hd8 hm1 hm2 hm3 l1 l2 z1 hE
                go_wp2_with fail
                refine HC0.out.mono ?_
                rintro e w4 ⟨rfl, ho4, ht4⟩
                have ht4 := ht1.trans ht4 (by simp)
                have ho4 : OwnW B w4 (some ⟨g, 0, none⟩) n c (P ++ A1 ++ B1 ++ (A2 ++ B2 ++ Q)) := by simpa using ho4
                have s1 := srt_e HS4.out.1 HS4.out.2.2.1 (by have := HNU.out; omega)
                have p1 := List.Perm.refl (A1 ++ B1)
                obtain ⟨C1, hC1⟩ : ∃ C1, A1 ++ B1 = C1 := ⟨_, rfl⟩
                have ho5 : OwnW B w4 (some ⟨g, 0, none⟩) n c (P ++ C1 ++ (A2 ++ B2 ++ Q)) := by rw [← hC1]; simpa using ho4
                rw [hC1] at s1
                have p1 : C1.Perm (A1 ++ B1) := by rw [hC1]
                have ht5 := ht4
                clear hC1
                have HP1 := hidp (And.intro s1 p1)
                clear s1 p1
                have s2 := srt_e HS4.out.2.1 HS4.out.2.2.2 (by have := HNU.out; omega)
                obtain ⟨C2, hC2⟩ : ∃ C2, A2 ++ B2 = C2 := ⟨_, rfl⟩
                have ho6 : OwnW B w4 (some ⟨g, 0, none⟩) n c (P ++ C1 ++ C2 ++ Q) := by rw [← hC2]; simpa using ho5
                rw [hC2] at s2
                have p2 : C2.Perm (A2 ++ B2) := by rw [hC2]
                have ht6 := ht5
                clear hC2
                obtain ⟨s1, p1⟩ := HP1.out
                have HF := hidp (And.intro s2 (And.intro p2 (And.intro ho6 ht6)))
                clear s1 p1 s2 p2 ho6 ht6
                go_wp2_with fail
                obtain ⟨s2, p2, ho6, ht6⟩ := HF.out
                obtain ⟨s1, p1⟩ := HP1.out
                refine bodyPost_ret (v := .tuple #[]) (by simp [results, Try.results16, go_sem]) rfl (sym_done (by simp) HSA.out HSB.out HLE.out.1 HLE.out.2 s1 s2 p1 p2 ho6 ht6)
          · have g1 : (s : Int) < (m : Int) := by omega
            have g2 : ¬ (m : Int) < (E : Int) := by omega
            have g3 : (a : Int) < (s : Int) := by omega
            have g4 : ¬ (s : Int) < (mid : Int) := by omega
            have g5 : (mid : Int) < (E : Int) := by omega
            have g6 : (E : Int) < (b : Int) := by omega
            clear hd1 hd2 hd3 hd4 hd5 hd6 hd7 hd8 hm1 hm2 hm3 l1 l2 z1 hE
            go_wp2_with fail
            have ho4 : OwnW B wr (some ⟨g, 0, none⟩) n c (P ++ A1 ++ B1 ++ (A2 ++ B2 ++ Q)) := by
              have e : A2.length = 0 ∨ B1.length = 0 := by have := HNU.out; omega
              rcases e with e | e
              · have e2 := List.eq_nil_of_length_eq_zero e
                rw [e2] at ho1 ⊢
                simpa using ho1
              · have e2 := List.eq_nil_of_length_eq_zero e
                rw [e2] at ho1 ⊢
                simpa using ho1
            have ht4 := ht1
            have s1 := srt_e HS4.out.1 HS4.out.2.2.1 (by have := HNU.out; omega)
            have p1 := List.Perm.refl (A1 ++ B1)
            obtain ⟨C1, hC1⟩ : ∃ C1, A1 ++ B1 = C1 := ⟨_, rfl⟩
            have ho5 : OwnW B wr (some ⟨g, 0, none⟩) n c (P ++ C1 ++ (A2 ++ B2 ++ Q)) := by rw [← hC1]; simpa using ho4
            rw [hC1] at s1
            have p1 : C1.Perm (A1 ++ B1) := by rw [hC1]
            have ht5 := ht4
            clear hC1
            have HP1 := hidp (And.intro s1 p1)
            clear s1 p1
            have C2 := HIH.out B g n c (P ++ C1) A2 B2 Q wr (by simpa using ho5) (by have := HNU.out; omega) HS4.out.2.1 HS4.out.2.2.2 HW.out.2 mid E b (by have := HNU.out; have hl := HP1.out.2.length_eq; simp at hl ⊢; omega) (by have := HNU.out; have hl := HP1.out.2.length_eq; simp at hl ⊢; omega) (by have := HNU.out; have hl := HP1.out.2.length_eq; simp at hl ⊢; omega) (by have := HNU.out; omega) (by have := HNU.out; omega) (by have := HNU.out; omega)
            refine C2.mono ?_
            rintro e w6 ⟨rfl, C2, s2, p2, ho6, ht6⟩
            have ht6 := ht5.trans ht6 (by simp)
            obtain ⟨s1, p1⟩ := HP1.out
            have HF := hidp (And.intro s2 (And.intro p2 (And.intro ho6 ht6)))
            clear s1 p1 s2 p2 ho6 ht6
            go_wp2_with fail
            obtain ⟨s2, p2, ho6, ht6⟩ := HF.out
            obtain ⟨s1, p1⟩ := HP1.out
            refine bodyPost_ret (v := .tuple #[]) (by simp [results, Try.results16, go_sem]) rfl (sym_done (by simp) HSA.out HSB.out HLE.out.1 HLE.out.2 s1 s2 p1 p2 ho6 ht6)
        · by_cases c2 : s < mid
          · have g1 : ¬ (s : Int) < (m : Int) := by omega
            have g2 : (m : Int) < (E : Int) := by omega
            have g3 : (a : Int) < (s : Int) := by omega
            have g4 : (s : Int) < (mid : Int) := by omega
            have g5 : ¬ (mid : Int) < (E : Int) := by omega
            have g6 : (E : Int) < (b : Int) := by omega
            clear hd1 hd2 hd3 hd4 hd5 hd6 hd7 hd8 hm1 hm2 hm3 l1 l2 z1 hE
            go_wp2_with fail
            have ho4 : OwnW B wr (some ⟨g, 0, none⟩) n c (P ++ A1 ++ B1 ++ (A2 ++ B2 ++ Q)) := by
              have e : A2.length = 0 ∨ B1.length = 0 := by have := HNU.out; omega
              rcases e with e | e
              · have e2 := List.eq_nil_of_length_eq_zero e
                rw [e2] at ho1 ⊢
                simpa using ho1
              · have e2 := List.eq_nil_of_length_eq_zero e
                rw [e2] at ho1 ⊢
                simpa using ho1
            have ht4 := ht1
            have C1 := HIH.out B g n c P A1 B1 (A2 ++ B2 ++ Q) wr ho4 (by have := HNU.out; omega) HS4.out.1 HS4.out.2.2.1 HW.out.1 a s mid (by have := HNU.out; omega) (by have := HNU.out; omega) (by have := HNU.out; omega) (by have := HNU.out; omega) (by have := HNU.out; omega) (by have := HNU.out; omega)
            refine C1.mono ?_
            rintro e w5 ⟨rfl, C1, s1, p1, ho5, ht5⟩
            have ht5 := ht4.trans ht5 (by simp)
            have HP1 := hidp (And.intro s1 p1)
            clear s1 p1
            have s2 := srt_e HS4.out.2.1 HS4.out.2.2.2 (by have := HNU.out; omega)
            obtain ⟨C2, hC2⟩ : ∃ C2, A2 ++ B2 = C2 := ⟨_, rfl⟩
            have ho6 : OwnW B w5 (some ⟨g, 0, none⟩) n c (P ++ C1 ++ C2 ++ Q) := by rw [← hC2]; simpa using ho5
            rw [hC2] at s2
            have p2 : C2.Perm (A2 ++ B2) := by rw [hC2]
            have ht6 := ht5
            clear hC2
            obtain ⟨s1, p1⟩ := HP1.out
            have HF := hidp (And.intro s2 (And.intro p2 (And.intro ho6 ht6)))
            clear s1 p1 s2 p2 ho6 ht6
            go_wp2_with fail
            obtain ⟨s2, p2, ho6, ht6⟩ := HF.out
            obtain ⟨s1, p1⟩ := HP1.out
            refine bodyPost_ret (v := .tuple #[]) (by simp [results, Try.results16, go_sem]) rfl (sym_done (by simp) HSA.out HSB.out HLE.out.1 HLE.out.2 s1 s2 p1 p2 ho6 ht6)
          · have g1 : ¬ (s : Int) < (m : Int) := by omega
            have g2 : ¬ (m : Int) < (E : Int) := by omega
            have g3 : (a : Int) < (s : Int) := by omega
            have g4 : ¬ (s : Int) < (mid : Int) := by omega
            have g5 : ¬ (mid : Int) < (E : Int) := by omega
            have g6 : (E : Int) < (b : Int) := by omega
            clear hd1 hd2 hd3 hd4 hd5 hd6 hd7 hd8 hm1 hm2 hm3 l1 l2 z1 hE
            go_wp2
            have ho4 : OwnW B wr (some ⟨g, 0, none⟩) n c (P ++ A1 ++ B1 ++ (A2 ++ B2 ++ Q)) := by
              have e : A2.length = 0 ∨ B1.length = 0 := by have := HNU.out; omega
              rcases e with e | e
              · have e2 := List.eq_nil_of_length_eq_zero e
                rw [e2] at ho1 ⊢
                simpa using ho1
              · have e2 := List.eq_nil_of_length_eq_zero e
                rw [e2] at ho1 ⊢
                simpa using ho1
            have ht4 := ht1
            have s1 := srt_e HS4.out.1 HS4.out.2.2.1 (by have := HNU.out; omega)
            have p1 := List.Perm.refl (A1 ++ B1)
            obtain ⟨C1, hC1⟩ : ∃ C1, A1 ++ B1 = C1 := ⟨_, rfl⟩
            have ho5 : OwnW B wr (some ⟨g, 0, none⟩) n c (P ++ C1 ++ (A2 ++ B2 ++ Q)) := by rw [← hC1]; simpa using ho4
            rw [hC1] at s1
            have p1 : C1.Perm (A1 ++ B1) := by rw [hC1]
            have ht5 := ht4
            clear hC1
            have HP1 := hidp (And.intro s1 p1)
            clear s1 p1
            have s2 := srt_e HS4.out.2.1 HS4.out.2.2.2 (by have := HNU.out; omega)
            obtain ⟨C2, hC2⟩ : ∃ C2, A2 ++ B2 = C2 := ⟨_, rfl⟩
            have ho6 : OwnW B wr (some ⟨g, 0, none⟩) n c (P ++ C1 ++ C2 ++ Q) := by rw [← hC2]; simpa using ho5
            rw [hC2] at s2
            have p2 : C2.Perm (A2 ++ B2) := by rw [hC2]
            have ht6 := ht5
            clear hC2
            obtain ⟨s1, p1⟩ := HP1.out
            refine bodyPost_ret (v := .tuple #[]) (by simp [results, Try.results16, go_sem]) rfl (sym_done (by simp) HSA.out HSB.out HLE.out.1 HLE.out.2 s1 s2 p1 p2 ho6 ht6)
theorem sym_any (N : Nat) : SymTo N := by
  induction N with
  | zero => intro B g n c P A Bs Q w _ _ _ _ _ a m b _ _ _ _ _ h; omega
  | succ N ih =>
    intro B g n c P A Bs Q w ho hn sA sB wf a m b ha hm hb h1 h2 hlt
    by_cases e1 : A.length = 1
    · obtain ⟨x, rfl⟩ := List.length_eq_one_iff.1 e1
      have := symA_any B g n c P x Bs Q w (by rw [mvR_zero]; simpa using ho) hn sB (by simpa using wf) a m b ha (by simpa using hm) (by simpa using hb) h2
      simpa using this
    by_cases e2 : Bs.length = 1
    · obtain ⟨x, rfl⟩ := List.length_eq_one_iff.1 e2
      exact symB_any B g n c P x A Q w (by rw [mvR_all]; simpa using ho) hn sA (fun y hy => wf y (by simp at hy ⊢; exact hy.symm)) a m b ha hm (by simp at hb; omega) (by omega)
    · by_cases e3 : A.length + Bs.length = N
      · exact symC_any N ih B g n c P A Bs Q w ho hn sA sB wf a m b ha hm hb (by omega) (by omega) e3
      · exact ih B g n c P A Bs Q w ho hn sA sB wf a m b ha hm hb h1 h2 (by omega)
end Go.Proofs.Ytonodmoklbmfkaa
