/- clock: the library's insertion sort, at rows of dues. Made by tools/clock/fromturn.py. -/
import Derived.Test.YtkjobhocgiefdaaClkS2
import Derived.Test.YtkjobhocgiefdaaReg
namespace Go.Proofs.Ytkjobhocgiefdaa
open Go.ChangeShapes Go.WideShapes Go.ChangeAt Go.RowKit
set_option linter.unusedVariables false
set_option linter.unusedSimpArgs false
/-- part of a row put in order -/
def partE (l : List DueM) (a b : Nat) : List DueM := l.take a ++ sortE ((l.drop a).take (b - a)) ++ l.drop b
theorem partE_one {l : List DueM} {a : Nat} (b : Nat) (h : b ≤ a + 1) (h2 : a ≤ b) : partE l a b = l := by
  unfold partE
  rw [sortE_one _ (by rw [List.length_take]; omega), List.append_assoc]
  have e : (l.drop a).take (b - a) ++ l.drop b = l.drop a := by
    have e2 : l.drop b = (l.drop a).drop (b - a) := by rw [List.drop_drop, show a + (b - a) = b by omega]
    rw [e2, List.take_append_drop]
  rw [e, List.take_append_drop]
theorem partE_over {l : List DueM} {a : Nat} (h : l.length ≤ a) (b : Nat) (h2 : a ≤ b) : partE l a b = l := by
  unfold partE
  rw [List.drop_eq_nil_of_le (by omega), List.drop_eq_nil_of_le (by omega), List.take_of_length_le (by omega)]
  simp [sortE]
/-- the state when number i is about to go in -/
theorem partE_at {l : List DueM} {a i : Nat} (ha : a ≤ i) (hi : i < l.length) : partE l a i = l.take a ++ (sortE ((l.drop a).take (i - a)) ++ l.getD i default :: []) ++ l.drop (i + 1) := by
  unfold partE
  rw [List.drop_eq_getElem_cons hi]
  simp [List.getD, hi]
theorem partE_next {l : List DueM} {a i : Nat} (ha : a ≤ i) (hi : i < l.length) : partE l a (i + 1) = l.take a ++ insE (sortE ((l.drop a).take (i - a))) (l.getD i default) ++ l.drop (i + 1) := by
  unfold partE
  have e : (l.drop a).take (i + 1 - a) = (l.drop a).take (i - a) ++ [l.getD i default] := by
    rw [show i + 1 - a = i - a + 1 by omega, List.take_succ_eq_append_getElem (by rw [List.length_drop]; omega)]
    simp only [List.getElem_drop, show a + (i - a) = i by omega]
    simp [List.getD, hi]
  rw [e, sortE_snoc]
theorem partE_mem {l : List DueM} {a b : Nat} (h : a ≤ b) : (partE l a b).Perm l := by
  unfold partE
  have h1 := sortE_perm ((l.drop a).take (b - a))
  have h2 := (h1.append_left (l.take a)).append_right (l.drop b)
  refine h2.trans ?_
  have e : (l.drop a).take (b - a) ++ l.drop b = l.drop a := by
    have e2 : l.drop b = (l.drop a).drop (b - a) := by rw [List.drop_drop, show a + (b - a) = b by omega]
    rw [e2, List.take_append_drop]
  rw [List.append_assoc, e, List.take_append_drop]
def InsPostE (w : World) (B : Nat) (g n c : Nat) (l : List DueM) (e : Ending) (w' : World) : Prop := e = .returned (.tuple #[]) ∧ OwnE B w' (some ⟨g, 0, none⟩) n c l ∧ Turned [g] w w'

set_option maxHeartbeats 4000000 in
theorem insE_any (B : Nat) (g n c a b : Nat) (l : List DueM) (w : World) (ho : OwnE B w (some ⟨g, 0, none⟩) n c l) (hab : a ≤ b) (hbn : b ≤ n) (hn : n ≤ 1000) (wf : ∀ x ∈ l, x.wf) :
    Calls Try.prog 34 #[.slice (some ⟨g, 0, none⟩) n c, .int .i64 a, .int .i64 b, .func (Fn.func 26) #[] #[]] w (InsPostE w B g n c (partE l a b)) := by
  have hl := ho.len
  have Wf := hidp wf
  have HL := hidp hl
  have H0 : Hid (partE l a (a + 1) = l) := hidp (partE_one _ (Nat.le_refl _) (by omega))
  rw [← H0.out] at ho
  clear wf hl
  go_enter Try.func34, Try.ntmps34
  go_wp2
  go_loopg [8] (b - (a + 1)) (fun gg i wr => ∃ m : Nat, i = .int .i64 m ∧ a + 1 ≤ m ∧ gg = b - m ∧ m ≤ max b (a + 1) ∧ OwnE B wr (some ⟨g, 0, none⟩) n c (partE l a m) ∧ Turned [g] w wr)
  case atStart => exact ⟨a + 1, by go_num, Nat.le_refl _, rfl, by omega, ho, Turned.refl _ _⟩
  case round =>
    clear ho
    obtain ⟨m, rfl, ham, hgg, hmb, ho, ht⟩ := hrel
    by_cases hlt : m < b
    · have hml : m < l.length := by rw [← HL.out]; omega
      have hm1 : m ≤ 1000 := by omega
      obtain ⟨x, Hx⟩ : ∃ x, Hid (l.getD m default = x) := ⟨_, rfl⟩
      obtain ⟨S, HS⟩ : ∃ S, Hid (sortE ((l.drop a).take (m - a)) = S) := ⟨_, rfl⟩
      have HSl : Hid (S.length = m - a) := hidp (by rw [← HS.out, sortE_len, List.length_take, List.length_drop]; omega)
      have HN : Hid (partE l a (m + 1) = l.take a ++ insE S x ++ l.drop (m + 1)) := hidp (by rw [partE_next (by omega) hml, HS.out, Hx.out])
      have hwx : x.wf := Wf.out x (by rw [← Hx.out]; simp [List.getD, hml])
      have HwS : Hid (∀ y ∈ S, y.wf) := hidp (fun y hy => Wf.out y (by
        rw [← HS.out] at hy
        exact List.mem_of_mem_drop (List.mem_of_mem_take ((sortE_perm _).mem_iff.1 hy))))
      have e0 : partE l a m = l.take a ++ (S ++ x :: []) ++ l.drop (m + 1) := by rw [partE_at (by omega) hml, HS.out, Hx.out]
      rw [e0] at ho
      have HA : Hid ((l.take a).length = a) := hidp (by rw [List.length_take]; omega)
      obtain ⟨A, hA⟩ : ∃ A, l.take a = A := ⟨_, rfl⟩
      obtain ⟨R, hR⟩ : ∃ R, l.drop (m + 1) = R := ⟨_, rfl⟩
      rw [hA, hR] at ho HN
      rw [hA] at HA
      have Hq0 : Hid (∀ y ∈ ([] : List DueM), erl x y = true) := hidp (by simp)
      have HSS : Hid (S ++ [] = S) := hidp (by simp)
      clear e0 hA hR
      go_wp2
      go_loopg [9] (m - a) (fun g2 j w5 => ∃ (k : Nat) (p q : List DueM), j = .int .i64 k ∧ k = a + g2 ∧ g2 = p.length ∧ Hid (p ++ q = S) ∧ Hid (∀ y ∈ q, erl x y = true) ∧ OwnE B w5 (some ⟨g, 0, none⟩) n c (A ++ (p ++ x :: q) ++ R) ∧ Turned [g] w w5)
      case atStart => exact ⟨m, S, [], rfl, by omega, HSl.out.symm, HSS, Hq0, ho, ht⟩
      case round =>
        clear ho ht
        obtain ⟨k, p, q, rfl, hk, hp, Hpq, Hq, ho, ht⟩ := hrel
        have Hk := hidp hk
        have Hgg := hidp hgg
        by_cases hp0 : p.length = 0
        · have hp1 : p = [] := List.eq_nil_of_length_eq_zero hp0
          subst hp1
          have hka : ¬ (a : Int) < (k : Int) := by simp at hp; omega
          have hka' : decide (a < k) = false := by simp; omega
          clear hk hgg
          have HZ : Hid (insE S x = [] ++ x :: q) := hidp (by rw [← Hpq.out]; exact insE_at Hq.out (by simp))
          go_wp2
          go_quiet (fail)
          go_wp2
          go_roundg (b - m - 1)
          case measure => have := Hgg.out; omega
          case rel => exact ⟨m + 1, by go_num, by omega, by have := Hgg.out; omega, by omega, by rw [HN.out, HZ.out]; exact ho.turned ((Turned.refl [] _).drewN _) (by simp), ht.drewN _⟩
        · obtain ⟨p', y, hpy⟩ : ∃ p' y, p = p' ++ [y] := ⟨p.dropLast, p.getLast (by intro e; rw [e] at hp0; simp at hp0), (List.dropLast_concat_getLast _).symm⟩
          subst hpy
          have hka : (a : Int) < (k : Int) := by omega
          have hka' : decide (a < k) = true := by simp; omega
          obtain ⟨k', hk'⟩ : ∃ k', k = k' + 1 := ⟨k - 1, by omega⟩
          have Hk' := hidp hk'
          have hkm : k ≤ m := by
            have h1 := congrArg List.length Hpq.out
            have h2 := HSl.out
            simp only [List.length_append, List.length_cons, List.length_nil] at h1 hp
            omega
          have hkn : k < n := by omega
          have Hlen : Hid (k < (A ++ (p' ++ [y] ++ x :: q) ++ R).length) := hidp (by rw [← ho.len]; exact hkn)
          have eA := HA.out
          have hp'l : p'.length + 1 = gk := by simp at hp; omega
          have e1 : (A ++ (p' ++ [y] ++ x :: q) ++ R).getD k default = x := by
            have : A ++ (p' ++ [y] ++ x :: q) ++ R = (A ++ p' ++ [y]) ++ x :: (q ++ R) := by simp
            rw [this, List.getD_eq_getElem?_getD, List.getElem?_append_right (by simp; omega)]
            simp [show k - (A.length + (p'.length + 1)) = 0 by omega]
          have e2 : (A ++ (p' ++ [y] ++ x :: q) ++ R).getD k' default = y := by
            have : A ++ (p' ++ [y] ++ x :: q) ++ R = (A ++ p') ++ y :: (x :: (q ++ R)) := by simp
            rw [this, List.getD_eq_getElem?_getD, List.getElem?_append_right (by simp; omega)]
            simp [show k' - (A.length + p'.length) = 0 by omega]
          have cx := ho.at_ Hlen.out
          have cy := ho.at_ (i := k') (by have := Hlen.out; omega)
          rw [e1] at cx
          rw [e2] at cy
          obtain ⟨x0, x1⟩ := id cx
          obtain ⟨y0, y1⟩ := id cy
          have hwy : y.wf := HwS.out y (by rw [← Hpq.out]; simp)
          have hw1 : IntKind.i64.wrap ((k : Int) - 1) = (k' : Int) := by rw [IntWalk.i64_in _ (by omega)]; omega
          have k0 : (0 : Int) ≤ (k' : Int) := by omega
          have k1 : (k' : Int) < (n : Int) := by omega
          have k2 : (k : Int) < (n : Int) := by omega
          have Hord := hidp (cmpV_neg x y)
          obtain ⟨o, Ho⟩ : ∃ o, Hid (cmpV x y = o) := ⟨_, hidp rfl⟩
          have ob := cmpV_bd x y
          rw [Ho.out] at ob Hord
          have Hp := hidp hp'l
          have e8 := hidp e2
          clear e1 e2 hk' hp eA hk hgg hp'l
          go_wp2
          have hS : wr.drew.cell? ⟨g, k * 2, none⟩ = some (.int .i64 x.time) ∧ wr.drew.cell? ⟨g, k * 2 + 1, none⟩ = some (.int .i64 x.id) ∧ wr.drew.cell? ⟨g, k' * 2, none⟩ = some (.int .i64 y.time) ∧ wr.drew.cell? ⟨g, k' * 2 + 1, none⟩ = some (.int .i64 y.id) := ⟨x0, x1, y0, y1⟩
          have ho1 := ho.turned (Turned.refl [] wr).drew (by simp)
          have ht1 := ht.drew
          clear x0 x1 y0 y1 cx cy ho ht
          go_region_held3 (fun w' => w'.cell? ⟨g, k * 2, none⟩ = some (.int .i64 x.time) ∧ w'.cell? ⟨g, k * 2 + 1, none⟩ = some (.int .i64 x.id) ∧ w'.cell? ⟨g, k' * 2, none⟩ = some (.int .i64 y.time) ∧ w'.cell? ⟨g, k' * 2 + 1, none⟩ = some (.int .i64 y.id)) (exact hS)
            (first
              | (go_at_call 26; refine (cmpT_any x y _ hwx hwy).mono ?_; rintro e u ⟨rfl, hb3⟩; have k3 := KeepsB hb3; have hS := And.intro (k3 _ _ hS.1) (And.intro (k3 _ _ hS.2.1) (And.intro (k3 _ _ hS.2.2.1) (k3 _ _ hS.2.2.2))); have ho1 := ho1.turned (Turned.of_below hb3 []) (by simp); have ht1 := ht1.trans (Turned.of_below hb3 []) (by simp); clear k3; rw [Ho.out]))
          by_cases hxy : erl x y = true
          · have ho0 : o < 0 := Hord.out.2 hxy
            have hod : decide (o < 0) = true := by simpa using ho0
            obtain ⟨x0, x1, y0, y1⟩ := hS
            have f0 := ho1.free (k * 2)
            have f1 := ho1.free (k * 2 + 1)
            have f3 := ho1.free (k' * 2)
            have f4 := ho1.free (k' * 2 + 1)
            have ho2 := ho1.set Hlen.out y
            have ho3 := ho2.set (i := k') (by rw [List.length_set]; have := Hlen.out; have := Hk'.out; omega) x
            have Hsw : Hid (((A ++ (p' ++ [y] ++ x :: q) ++ R).set k y).set k' x = A ++ (p' ++ x :: (y :: q)) ++ R) := hidp (by
              have h1 : k = A.length + p'.length + 1 := by have := HA.out; have := Hk.out; have := Hp.out; omega
              have h2 : k' = A.length + p'.length := by have := Hk'.out; omega
              rw [h1, h2]; exact swap_list A p' q R x y)
            have Hxy := hidp hxy
            have e9 : ((A ++ (p' ++ [y] ++ x :: q) ++ R).set k y).getD k' default = y := by
              have hne : k ≠ k' := by have := Hk'.out; omega
              have e2 := e8.out
              simp only [List.getD, List.getElem?_set, hne, if_false] at e2 ⊢
              exact e2
            have cz := ho2.at_ (i := k') (by rw [List.length_set]; have := Hlen.out; have := Hk'.out; omega)
            rw [e9] at cz
            have z0 : ((u.setCell ⟨g, k * 2, none⟩ (.int .i64 y.time)).setCell ⟨g, k * 2 + 1, none⟩ (.int .i64 y.id)).drew.cell? ⟨g, k' * 2, none⟩ = some (.int .i64 y.time) := cz.1
            have z1 : ((u.setCell ⟨g, k * 2, none⟩ (.int .i64 y.time)).setCell ⟨g, k * 2 + 1, none⟩ (.int .i64 y.id)).drew.cell? ⟨g, k' * 2 + 1, none⟩ = some (.int .i64 y.id) := cz.2
            have g3 : ((u.setCell ⟨g, k * 2, none⟩ (.int .i64 y.time)).setCell ⟨g, k * 2 + 1, none⟩ (.int .i64 y.id)).drew.frozen? ⟨g, k' * 2, none⟩ = false := ho2.free (k' * 2)
            have g4 : ((u.setCell ⟨g, k * 2, none⟩ (.int .i64 y.time)).setCell ⟨g, k * 2 + 1, none⟩ (.int .i64 y.id)).drew.frozen? ⟨g, k' * 2 + 1, none⟩ = false := ho2.free (k' * 2 + 1)
            have n0 : ¬ k = k' := by have := Hk'.out; omega
            have n1 : ¬ k * 2 + 1 = k' * 2 := by have := Hk'.out; omega
            have n3 : ¬ k * 2 = k' * 2 + 1 := by have := Hk'.out; omega
            have n5 : ¬ k' = k := fun e => n0 e.symm
            have n6 : ¬ k' * 2 + 1 = k * 2 := fun e => n3 e.symm
            have n8 : ¬ k' * 2 = k * 2 + 1 := fun e => n1 e.symm
            clear hxy hka hka' e9 cz
            go_wp2
            refine wp_region_held_drew (S := fun _ => True) (by kernel_rfl) trivial (fun hHeld => ?_)
            refine wpAnyH_take (i := 0) (v := ?_) rfl (by kernel_rfl) (by kernel_rfl) (by kernel_rfl) (fun _ _ _ h => h) (Or.inl ⟨by rfl, ?_⟩) (by assumption) ?_
            rotate_left 1
            · ((intro w hSw; (try dsimp only at hSw); go_simp); (try with_reducible rfl))
            simp only [Act.put, List.setIfInBounds_toArray, List.set_cons_zero, List.set_cons_succ, List.getElem_toArray, List.getElem_cons_zero, List.getElem_cons_succ]
            refine wpAnyH_take (i := 1) (v := ?_) rfl (by kernel_rfl) (by kernel_rfl) (by kernel_rfl) (fun _ _ _ h => h) (Or.inl ⟨by rfl, ?_⟩) (by assumption) ?_
            rotate_left 1
            · ((intro w hSw; (try dsimp only at hSw); go_simp); (try with_reducible rfl))
            simp only [Act.put, List.setIfInBounds_toArray, List.set_cons_zero, List.set_cons_succ, List.getElem_toArray, List.getElem_cons_zero, List.getElem_cons_succ]
            refine wpAnyH_take (i := 2) (v := ?_) rfl (by kernel_rfl) (by kernel_rfl) (by kernel_rfl) (fun _ _ _ h => h) (Or.inl ⟨by rfl, ?_⟩) (by assumption) ?_
            rotate_left 1
            · ((intro w hSw; (try dsimp only at hSw); go_simp); (try with_reducible rfl))
            simp only [Act.put, List.setIfInBounds_toArray, List.set_cons_zero, List.set_cons_succ, List.getElem_toArray, List.getElem_cons_zero, List.getElem_cons_succ]
            refine wpAnyH_take (i := 3) (v := ?_) rfl (by kernel_rfl) (by kernel_rfl) (by kernel_rfl) (fun _ _ _ h => h) (Or.inl ⟨by rfl, ?_⟩) (by assumption) ?_
            rotate_left 1
            · ((intro w hSw; (try dsimp only at hSw); go_simp); (try with_reducible rfl))
            simp only [Act.put, List.setIfInBounds_toArray, List.set_cons_zero, List.set_cons_succ, List.getElem_toArray, List.getElem_cons_zero, List.getElem_cons_succ]
            refine wpAnyH_take (i := 4) (v := ?_) rfl (by kernel_rfl) (by kernel_rfl) (by kernel_rfl) (fun _ _ _ h => h) (Or.inl ⟨by rfl, ?_⟩) (by assumption) ?_
            rotate_left 1
            · ((intro w hSw; (try dsimp only at hSw); go_simp); (try with_reducible rfl))
            simp only [Act.put, List.setIfInBounds_toArray, List.set_cons_zero, List.set_cons_succ, List.getElem_toArray, List.getElem_cons_zero, List.getElem_cons_succ]
            refine wpAnyH_take (i := 5) (v := ?_) rfl (by kernel_rfl) (by kernel_rfl) (by kernel_rfl) (fun _ _ _ h => h) (Or.inl ⟨by rfl, ?_⟩) (by assumption) ?_
            rotate_left 1
            · ((intro w hSw; (try dsimp only at hSw); go_simp); (try with_reducible rfl))
            simp only [Act.put, List.setIfInBounds_toArray, List.set_cons_zero, List.set_cons_succ, List.getElem_toArray, List.getElem_cons_zero, List.getElem_cons_succ]
            refine wpAnyH_take (i := 6) (v := ?_) rfl (by kernel_rfl) (by kernel_rfl) (by kernel_rfl) (fun _ _ _ h => h) (Or.inl ⟨by rfl, ?_⟩) (by assumption) ?_
            rotate_left 1
            · ((intro w hSw; (try dsimp only at hSw); go_simp); (try with_reducible rfl))
            simp only [Act.put, List.setIfInBounds_toArray, List.set_cons_zero, List.set_cons_succ, List.getElem_toArray, List.getElem_cons_zero, List.getElem_cons_succ]
            refine wpAnyH_take (i := 7) (v := ?_) rfl (by kernel_rfl) (by kernel_rfl) (by kernel_rfl) (fun _ _ _ h => h) (Or.inl ⟨by rfl, ?_⟩) (by assumption) ?_
            rotate_left 1
            · ((intro w hSw; (try dsimp only at hSw); go_simp); (try with_reducible rfl))
            simp only [Act.put, List.setIfInBounds_toArray, List.set_cons_zero, List.set_cons_succ, List.getElem_toArray, List.getElem_cons_zero, List.getElem_cons_succ]
            refine wpAnyH_take (i := 8) (v := ?_) rfl (by kernel_rfl) (by kernel_rfl) (by kernel_rfl) (fun _ _ _ h => h) (Or.inl ⟨by rfl, ?_⟩) (by assumption) ?_
            rotate_left 1
            · ((intro w hSw; (try dsimp only at hSw); go_simp); (try with_reducible rfl))
            simp only [Act.put, List.setIfInBounds_toArray, List.set_cons_zero, List.set_cons_succ, List.getElem_toArray, List.getElem_cons_zero, List.getElem_cons_succ]
            refine wpAnyH_take (i := 10) (v := ?_) rfl (by kernel_rfl) (by kernel_rfl) (by kernel_rfl) (fun _ _ _ h => h) (Or.inl ⟨by rfl, ?_⟩) (by assumption) ?_
            rotate_left 1
            · ((intro w hSw; (try dsimp only at hSw); go_simp); (try with_reducible rfl))
            simp only [Act.put, List.setIfInBounds_toArray, List.set_cons_zero, List.set_cons_succ, List.getElem_toArray, List.getElem_cons_zero, List.getElem_cons_succ]
            refine wpAnyH_take (i := 11) (v := ?_) rfl (by kernel_rfl) (by kernel_rfl) (by kernel_rfl) (fun _ _ _ h => h) (Or.inl ⟨by rfl, ?_⟩) (by assumption) ?_
            rotate_left 1
            · ((intro w hSw; (try dsimp only at hSw); go_simp); (try with_reducible rfl))
            simp only [Act.put, List.setIfInBounds_toArray, List.set_cons_zero, List.set_cons_succ, List.getElem_toArray, List.getElem_cons_zero, List.getElem_cons_succ]
            refine wpAnyH_take (i := 12) (v := ?_) rfl (by kernel_rfl) (by kernel_rfl) (by kernel_rfl) (fun _ _ _ h => h) (Or.inl ⟨by rfl, ?_⟩) (by assumption) ?_
            rotate_left 1
            · ((intro w hSw; (try dsimp only at hSw); go_simp); (try with_reducible rfl))
            simp only [Act.put, List.setIfInBounds_toArray, List.set_cons_zero, List.set_cons_succ, List.getElem_toArray, List.getElem_cons_zero, List.getElem_cons_succ]
            refine wpAnyH_ready (rs := [9, 13]) (by kernel_rfl) (by simp) ?_
            refine AllReadyH.cons rfl (fun K hK => ?_) (AllReadyH.cons rfl (fun K hK => ?_) AllReadyH.nil)
            go_simp
            refine hK.out _ _ trivial (fun hHeld => ?_)
            clear hK K
            try simp only [Act.put, List.setIfInBounds_toArray, List.set_cons_zero, List.set_cons_succ, List.getElem_toArray, List.getElem_cons_zero, List.getElem_cons_succ]
            refine wpAnyH_ready (rs := [13]) (by kernel_rfl) (by simp) ?_
            refine AllReadyH.cons rfl (fun K hK => ?_) AllReadyH.nil
            go_simp
            refine hK.out _ _ trivial (fun hHeld => ?_)
            clear hK K
            try simp only [Act.put, List.setIfInBounds_toArray, List.set_cons_zero, List.set_cons_succ, List.getElem_toArray, List.getElem_cons_zero, List.getElem_cons_succ]
            rotate_left 1
            go_simp
            refine hK.out _ _ trivial (fun hHeld => ?_)
            clear hK K
            try simp only [Act.put, List.setIfInBounds_toArray, List.set_cons_zero, List.set_cons_succ, List.getElem_toArray, List.getElem_cons_zero, List.getElem_cons_succ]
            refine wpAnyH_ready (rs := [9]) (by kernel_rfl) (by simp) ?_
            refine AllReadyH.cons rfl (fun K hK => ?_) AllReadyH.nil
            go_simp
            refine hK.out _ _ trivial (fun hHeld => ?_)
            clear hK K
            try simp only [Act.put, List.setIfInBounds_toArray, List.set_cons_zero, List.set_cons_succ, List.getElem_toArray, List.getElem_cons_zero, List.getElem_cons_succ]
            all_goals
              skip
              refine wpAnyH_take (i := 14) (v := ?_) rfl (by kernel_rfl) (by kernel_rfl) (by kernel_rfl) (fun _ _ _ h => h) (Or.inl ⟨by rfl, ?_⟩) (by assumption) ?_
              rotate_left 1
              · ((intro w hSw; (try dsimp only at hSw); go_simp); (try with_reducible rfl))
              simp only [Act.put, List.setIfInBounds_toArray, List.set_cons_zero, List.set_cons_succ, List.getElem_toArray, List.getElem_cons_zero, List.getElem_cons_succ]
              refine wpAnyH_ready (rs := [15]) (by kernel_rfl) (by simp) ?_
              refine AllReadyH.cons rfl (fun K hK => ?_) AllReadyH.nil
              go_simp
              refine hK.out _ _ trivial (fun hHeld => ?_)
              clear hK K
              try simp only [Act.put, List.setIfInBounds_toArray, List.set_cons_zero, List.set_cons_succ, List.getElem_toArray, List.getElem_cons_zero, List.getElem_cons_succ]
              refine wpAnyH_take (i := 16) (v := ?_) rfl (by kernel_rfl) (by kernel_rfl) (by kernel_rfl) (fun _ _ _ h => h) (Or.inl ⟨by rfl, ?_⟩) (by assumption) ?_
              rotate_left 1
              · ((intro w hSw; (try dsimp only at hSw); go_simp); (try with_reducible rfl))
              simp only [Act.put, List.setIfInBounds_toArray, List.set_cons_zero, List.set_cons_succ, List.getElem_toArray, List.getElem_cons_zero, List.getElem_cons_succ]
              refine wpAnyH_ready (rs := [17]) (by kernel_rfl) (by simp) ?_
              refine AllReadyH.cons rfl (fun K hK => ?_) AllReadyH.nil
              go_simp
              refine hK.out _ _ trivial (fun hHeld => ?_)
              clear hK K
              try simp only [Act.put, List.setIfInBounds_toArray, List.set_cons_zero, List.set_cons_succ, List.getElem_toArray, List.getElem_cons_zero, List.getElem_cons_succ]
              refine wpAnyH_done (by kernel_rfl) ?_ _
              go_wp2
              go_roundg (gk - 1)
              case measure => have := Hp.out; omega
              case rel => exact ⟨k', p', y :: q, congrArg (Value.int .i64) (by have := Hk'.out; omega), by have := Hk'.out; have := Hk.out; have := Hp.out; omega, by have := Hp.out; omega, hidp (by rw [← Hpq.out]; simp), hidp (fun z hz => by
                rcases List.mem_cons.1 hz with e | e
                · rw [e]; exact Hxy.out
                · exact Hq.out z e), by rw [← Hsw.out]; exact ho3.turned (Turned.refl [] _).drew (by simp), ((ht1.trans (put2d_turned u g (k * 2) y) (by simp)).trans (put2d_turned _ g (k' * 2) x) (by simp)).drew⟩
          · have hx0 : erl x y = false := by simpa using hxy
            have hod : decide (o < 0) = false := by
              have := Hord.out
              simp only [hx0, Bool.false_eq_true, iff_false] at this
              simpa using this
            have HZ : Hid (insE S x = (p' ++ [y]) ++ x :: q) := hidp (by
              rw [← Hpq.out]
              exact insE_at Hq.out (fun z hz => by rw [List.getLast?_append] at hz; simp at hz; rw [← hz]; exact hx0))
            have hod2 : ¬ o < 0 := by simpa using hod
            clear hxy hS hx0
            go_wp2
            go_roundg (b - m - 1)
            case measure => have := Hgg.out; omega
            case rel => exact ⟨m + 1, by go_num, by omega, by have := Hgg.out; omega, by omega, by rw [HN.out, HZ.out]; exact ho1, ht1⟩
    · have hf : Hid (partE l a m = partE l a b) := hidp (by
        by_cases e : a + 1 ≤ b
        · rw [show m = b by omega]
        · rw [partE_one m (by omega) (by omega), partE_one b (by omega) hab])
      rw [hf.out] at ho
      go_wp2
      refine bodyPost_ret (v := .tuple #[]) (by simp [results, Try.results34, go_sem]) rfl ⟨rfl, ho, ht⟩
end Go.Proofs.Ytkjobhocgiefdaa
