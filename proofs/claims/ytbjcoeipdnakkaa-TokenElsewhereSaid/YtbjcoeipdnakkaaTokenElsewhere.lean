/- TokenElsewhere: tasks at another cluster count inside by as many as there are cores, outside not at all. No condition. -/
import Derived.Test.YtbjcoeipdnakkaaKnown15
import Derived.Test.YtbjcoeipdnakkaaOk3
import Derived.Test.YtbjcoeipdnakkaaRef11b
namespace Go.Proofs.Ytbjcoeipdnakkaa
theorem top_two {y z : Int} (hy : 0 ≤ y ∧ y ≤ 60) (hz : 0 ≤ z ∧ z ≤ 60) : sumW (tops [y, z] 1) = max y z := by
  obtain ⟨p, q, hpq⟩ : ∃ p q, desc [y, z] = [p, q] := by
    have h := desc_len [y, z]
    match hd : desc [y, z], h with
    | [p, q], _ => exact ⟨p, q, rfl⟩
  have hp := desc_perm [y, z]
  have hs := desc_srt [y, z]
  rw [hpq] at hp hs
  have h1 : q ≤ p := by simpa using hs
  have h2 := tot_perm hp
  simp only [tot, Int.add_zero] at h2
  have h3 : p ∈ [y, z] := hp.mem_iff.1 (by simp)
  simp at h3
  have e : tops [y, z] 1 = [p] := by
    unfold tops; rw [hpq, show clampN 1 [y, z].length = 1 from rfl]; rfl
  rw [e]
  unfold sumW
  rw [fold_small [p] 0 (fun n hn => by simp at hn; subst hn; omega) (by omega) (by simp)]
  simp only [tot]
  omega
def ElseS (S : SetR) (x y z c : Int) : Prop := S.proto = 3 ∧ S.cores = [1, c + 1] ∧ S.homes = [0] ∧ ∃ (a1 a2 a3 : Option Addr) (c1 c2 c3 : Nat), S.tasks = [⟨⟨#[97]⟩, 900, 900, 1, 0, a1, c1, [⟨3, x + 1, 0⟩]⟩, ⟨⟨#[98]⟩, 900, 900, 2, 1, a2, c2, [⟨3, y + 1, 0⟩]⟩, ⟨⟨#[99]⟩, 900, 900, 3, 1, a3, c3, [⟨3, z + 1, 0⟩]⟩]
theorem else_ok {S : SetR} {x y z c : Int} (h : ElseS S x y z c) (hx : 0 ≤ x ∧ x < 50) (hy : 0 ≤ y ∧ y < 50) (hz : 0 ≤ z ∧ z < 50) (hc : 0 ≤ c ∧ c < 3) : okS S = true := by
  obtain ⟨p1, p2, p3, a1, a2, a3, c1, c2, c3, p4⟩ := h
  refine okS_all (by rw [p1]; decide) (by rw [p2]; simp) (by rw [p2]; intro n hn; simp at hn; omega) (by rw [p3]; decide) (by rw [p3, p2]; intro n hn; simp at hn; subst hn; simp) (by rw [p4]; simp) (fun k hk => ?_) (fun i k hi hk => ?_)
  · rw [p4] at hk ⊢
    rw [p2, p3]
    match k, hk with
    | 0, _ => exact ⟨formB_mk nameA (by simp) (by simp) (by simp), by simp, partsB_mk (by simp) (fun p hp => by
        simp at hp; subst hp; exact partB_lock (by omega) (by simp))⟩
    | 1, _ => exact ⟨formB_mk nameBb (by simp) (by simp) (by simp), by simp, partsB_mk (by simp) (fun p hp => by
        simp at hp; subst hp; exact partB_lock (by omega) (by simp))⟩
    | 2, _ => exact ⟨formB_mk nameC (by simp) (by simp) (by simp), by simp, partsB_mk (by simp) (fun p hp => by
        simp at hp; subst hp; exact partB_lock (by omega) (by simp))⟩
  · rw [p4] at hk ⊢
    have h3 : (i = 0 ∧ k = 1) ∨ (i = 0 ∧ k = 2) ∨ (i = 1 ∧ k = 2) := by simp at hk; omega
    rcases h3 with ⟨rfl, rfl⟩ | ⟨rfl, rfl⟩ | ⟨rfl, rfl⟩
    · exact ⟨namesAB, rfl⟩
    · exact ⟨namesAC, rfl⟩
    · exact ⟨namesBC, rfl⟩
theorem lock_one {l : Int} (h : 0 ≤ l) : maxL [⟨3, l, 0⟩] = l ∧ sumK 3 [⟨3, l, 0⟩] = l := by
  simp [maxL, sumK]; omega
theorem else_vals {S : SetR} {x y z c : Int} (h : ElseS S x y z c) (hx : 0 ≤ x ∧ x < 50) (hy : 0 ≤ y ∧ y < 50) (hz : 0 ≤ z ∧ z < 50) (hc : 0 ≤ c ∧ c < 3) :
    fairK S 0 0 = true ∧ tokV S 0 0 = (if 0 < c then x + 1 + (y + 1) + (z + 1) else x + 1 + max (y + 1) (z + 1)) ∧ outV S 0 = 0 ∧ (if 0 < c then outV S 1 = 0 else 0 < outV S 1) := by
  have hok := else_ok h hx hy hz hc
  obtain ⟨p1, p2, p3, a1, a2, a3, c1, c2, c3, p4⟩ := h
  have ht0 : thereB S 0 = true := thereB_true.2 ⟨hok, by decide, by rw [p4]; simp⟩
  have ht1 : thereB S 1 = true := thereB_true.2 ⟨hok, by decide, by rw [p4]; simp⟩
  have q0 : partAt S 0 0 = ⟨3, x + 1, 0⟩ := by unfold partAt; rw [p4]; rfl
  have hk : fairK S 0 0 = true := fairK_iff.2 ⟨ht0, by decide, by rw [p4]; show (0 : Int) < 1; decide, by rw [q0]⟩
  have hco : coresV S = c + 2 := by unfold coresV; rw [if_pos hok, p2]; simp [tot]; omega
  have l1 := lock_one (l := x + 1) (by omega)
  have l2 := lock_one (l := y + 1) (by omega)
  have l3 := lock_one (l := z + 1) (by omega)
  have hr : rothL 0 0 S.tasks = [y + 1, z + 1] := by rw [p4]; simp [rothL, l2.1, l3.1]
  have hb : besV S 0 = if 0 < c then y + 1 + (z + 1) else max (y + 1) (z + 1) := by
    unfold besV
    rw [hco, hr]
    by_cases e : 0 < c
    · rw [if_pos e]
      have e2 : tops [y + 1, z + 1] (c + 2 - 1) = tops [y + 1, z + 1] (2 : Nat) := by
        unfold tops
        rw [show clampN (c + 2 - 1) [y + 1, z + 1].length = clampN ((2 : Nat) : Int) [y + 1, z + 1].length by unfold clampN; simp; omega]
      rw [e2, sum_most (fun n hn => by simp at hn; omega) (by simp) (by decide)]
      simp [tot]
    · rw [if_neg e, show c + 2 - 1 = 1 by omega]
      exact top_two (by omega) (by omega)
  have hi : insV S 0 0 = x + 1 + besV S 0 := by unfold insV; rw [if_pos hk, q0]
  have ha0 : askersV S 0 = 1 := by unfold askersV; rw [if_pos hok, p4]; simp only [askN, l1.2, l2.2, l3.2]; simp; omega
  have ha1 : askersV S 1 = 2 := by unfold askersV; rw [if_pos hok, p4]; simp only [askN, l1.2, l2.2, l3.2]; simp [show ¬ y + 1 = 0 by omega, show ¬ z + 1 = 0 by omega]
  have r0 : rndV S 0 = 0 := by unfold rndV coreAt; rw [ha0, p2]; show (max 0 ((1 : Int) - 1) + 1 - 1) / 1 = 0; decide
  have ho0 : outV S 0 = 0 := by
    unfold outV
    have e : (S.tasks.getD (0 : Int).toNat default).cl = 0 := by rw [p4]; rfl
    rw [e, r0]; simp
  have hm1 : maxL (S.tasks.getD (1 : Int).toNat default).parts = y + 1 := by rw [p4]; exact l2.1
  have hcl1 : (S.tasks.getD (1 : Int).toNat default).cl = 1 := by rw [p4]; rfl
  refine ⟨hk, ?_, ho0, ?_⟩
  · unfold tokV
    rw [if_pos hk, hi, ho0, hb]
    split <;> omega
  · have r1 : rndV S 1 = if 0 < c then 0 else 1 := by
      unfold rndV coreAt
      rw [ha1, p2]
      simp only [Int.toNat_one, List.getD_cons_succ, List.getD_cons_zero]
      have hc3 : c = 0 ∨ c = 1 ∨ c = 2 := by omega
      rcases hc3 with rfl | rfl | rfl <;> decide
    have hs : 0 < slowL S 1 0 S.tasks := by
      have hb1 := (besV_bd hok 1).1
      have hb2 := slowL_bd hok 1 2 (ts := [⟨⟨#[99]⟩, 900, 900, 3, 1, a3, c3, [⟨3, z + 1, 0⟩]⟩]) (fun t ht => by simp at ht; subst ht; intro p hp; simp at hp; subst hp; dsimp only; omega)
      rw [p4]
      simp only [slowL, l1.1, l2.1]
      simp only [slowL, l3.1] at hb2
      have hne : ¬ y + 1 = 0 := by omega
      have hgo : ∀ A B : Int, 0 < A → 0 < max 0 (max A B) := fun A B h => by omega
      simp [hne]
      exact hgo _ _ (by omega)
    have ho1 : outV S 1 = rndV S 1 * slowL S 1 0 S.tasks := by
      unfold outV
      rw [if_pos ⟨ht1, by rw [hm1]; omega⟩, hcl1]
    by_cases e : 0 < c
    · rw [if_pos e, ho1, r1, if_pos e]; simp
    · rw [if_neg e, ho1, r1, if_neg e]; simpa using hs
end Go.Proofs.Ytbjcoeipdnakkaa
set_option maxHeartbeats 4000000
set_option maxRecDepth 100000
namespace Go.Proofs.Ytbjcoeipdnakkaa.tokenElsewhere
open Go.ChangeShapes Go.WideShapes Go.ChangeAt Go.RowKit
open Go.ChangeMaps (open_string shut_string)
set_option linter.unusedVariables false

/-- THE WALK: the Go text returns true, and writes nothing that was there. -/
theorem walk (a0 : Int) (a1 : Int) (a2 : Int) (a3 : Int) (w : World) (w0 : (Lit.int .u8 a0).wf = true) (w1 : (Lit.int .u8 a1).wf = true) (w2 : (Lit.int .u8 a2).wf = true) (w3 : (Lit.int .u8 a3).wf = true) :
    Calls Try.prog 12 #[.int .u8 a0, .int .u8 a1, .int .u8 a2, .int .u8 a3] w fun e w' => e = .returned (.bool true) ∧ Below w.heap.size w w' := by
  obtain ⟨x, x0, x1, hx⟩ := mod_u8 50 w0 (by decide)
  obtain ⟨y, y0, y1, hy⟩ := mod_u8 50 w1 (by decide)
  obtain ⟨z, z0, z1, hz⟩ := mod_u8 50 w2 (by decide)
  obtain ⟨c, c0, c1, hc⟩ := mod_u8 3 w3 (by decide)
  have HW : Hid (∀ k l r : Int, 0 ≤ k ∧ k < 4 → 0 ≤ l ∧ l < 51 → 0 ≤ r ∧ r < 4 → PartM.wf ⟨k, l, r⟩) := hidp (fun k l r h1 h2 h3 => ⟨by unfold I64; dsimp only; omega, by unfold I64; dsimp only; omega, by unfold I64; dsimp only; omega⟩)
  go_enter Try.func12, Try.ntmps12
  have hb := Below.refl w.heap.size w
  go_wp2_with fail
  refine (known15_any _).mono ?_
  rintro e u1 ⟨rfl, hb2⟩
  replace hb := hb.trans (hb2.mono hb.size)
  clear hb2
  have B0 := Bk.at_ (w := u1) (g := u1.heap.size) (t := 3) (cs := ([1, c + 1].map (Value.int .i64)).toArray) (by first | rfl | simp) rfl
  replace hb := hb.alloc hb.size (.cells ([1, c + 1].map (Value.int .i64)).toArray 3)
  replace B0 := B0.alloc (.cells ([0].map (Value.int .i64)).toArray 3)
  have B1 := Bk.at_ (w := (u1.alloc (.cells ([1, c + 1].map (Value.int .i64)).toArray 3))) (g := u1.heap.size + 1) (t := 3) (cs := ([0].map (Value.int .i64)).toArray) (by first | rfl | simp) rfl
  replace hb := hb.alloc hb.size (.cells ([0].map (Value.int .i64)).toArray 3)
  replace B0 := B0.alloc (.cells (ptc [⟨3, x + 1, 0⟩]).toArray 29)
  replace B1 := B1.alloc (.cells (ptc [⟨3, x + 1, 0⟩]).toArray 29)
  have B2 := Bk.at_ (w := ((u1.alloc (.cells ([1, c + 1].map (Value.int .i64)).toArray 3)).alloc (.cells ([0].map (Value.int .i64)).toArray 3))) (g := u1.heap.size + 1 + 1) (t := 29) (cs := (ptc [⟨3, x + 1, 0⟩]).toArray) (by first | rfl | simp) rfl
  replace hb := hb.alloc hb.size (.cells (ptc [⟨3, x + 1, 0⟩]).toArray 29)
  replace B0 := B0.alloc (.cells (ptc [⟨3, y + 1, 0⟩]).toArray 29)
  replace B1 := B1.alloc (.cells (ptc [⟨3, y + 1, 0⟩]).toArray 29)
  replace B2 := B2.alloc (.cells (ptc [⟨3, y + 1, 0⟩]).toArray 29)
  have B3 := Bk.at_ (w := (((u1.alloc (.cells ([1, c + 1].map (Value.int .i64)).toArray 3)).alloc (.cells ([0].map (Value.int .i64)).toArray 3)).alloc (.cells (ptc [⟨3, x + 1, 0⟩]).toArray 29))) (g := u1.heap.size + 1 + 1 + 1) (t := 29) (cs := (ptc [⟨3, y + 1, 0⟩]).toArray) (by first | rfl | simp) rfl
  replace hb := hb.alloc hb.size (.cells (ptc [⟨3, y + 1, 0⟩]).toArray 29)
  replace B0 := B0.alloc (.cells (ptc [⟨3, z + 1, 0⟩]).toArray 29)
  replace B1 := B1.alloc (.cells (ptc [⟨3, z + 1, 0⟩]).toArray 29)
  replace B2 := B2.alloc (.cells (ptc [⟨3, z + 1, 0⟩]).toArray 29)
  replace B3 := B3.alloc (.cells (ptc [⟨3, z + 1, 0⟩]).toArray 29)
  have B4 := Bk.at_ (w := ((((u1.alloc (.cells ([1, c + 1].map (Value.int .i64)).toArray 3)).alloc (.cells ([0].map (Value.int .i64)).toArray 3)).alloc (.cells (ptc [⟨3, x + 1, 0⟩]).toArray 29)).alloc (.cells (ptc [⟨3, y + 1, 0⟩]).toArray 29))) (g := u1.heap.size + 1 + 1 + 1 + 1) (t := 29) (cs := (ptc [⟨3, z + 1, 0⟩]).toArray) (by first | rfl | simp) rfl
  replace hb := hb.alloc hb.size (.cells (ptc [⟨3, z + 1, 0⟩]).toArray 29)
  replace B0 := B0.alloc (.cells (ttc [⟨⟨#[97]⟩, 900, 900, 1, 0, some ⟨u1.heap.size + 1 + 1, 0, none⟩, 1, [⟨3, x + 1, 0⟩]⟩, ⟨⟨#[98]⟩, 900, 900, 2, 1, some ⟨u1.heap.size + 1 + 1 + 1, 0, none⟩, 1, [⟨3, y + 1, 0⟩]⟩, ⟨⟨#[99]⟩, 900, 900, 3, 1, some ⟨u1.heap.size + 1 + 1 + 1 + 1, 0, none⟩, 1, [⟨3, z + 1, 0⟩]⟩]).toArray 32)
  replace B1 := B1.alloc (.cells (ttc [⟨⟨#[97]⟩, 900, 900, 1, 0, some ⟨u1.heap.size + 1 + 1, 0, none⟩, 1, [⟨3, x + 1, 0⟩]⟩, ⟨⟨#[98]⟩, 900, 900, 2, 1, some ⟨u1.heap.size + 1 + 1 + 1, 0, none⟩, 1, [⟨3, y + 1, 0⟩]⟩, ⟨⟨#[99]⟩, 900, 900, 3, 1, some ⟨u1.heap.size + 1 + 1 + 1 + 1, 0, none⟩, 1, [⟨3, z + 1, 0⟩]⟩]).toArray 32)
  replace B2 := B2.alloc (.cells (ttc [⟨⟨#[97]⟩, 900, 900, 1, 0, some ⟨u1.heap.size + 1 + 1, 0, none⟩, 1, [⟨3, x + 1, 0⟩]⟩, ⟨⟨#[98]⟩, 900, 900, 2, 1, some ⟨u1.heap.size + 1 + 1 + 1, 0, none⟩, 1, [⟨3, y + 1, 0⟩]⟩, ⟨⟨#[99]⟩, 900, 900, 3, 1, some ⟨u1.heap.size + 1 + 1 + 1 + 1, 0, none⟩, 1, [⟨3, z + 1, 0⟩]⟩]).toArray 32)
  replace B3 := B3.alloc (.cells (ttc [⟨⟨#[97]⟩, 900, 900, 1, 0, some ⟨u1.heap.size + 1 + 1, 0, none⟩, 1, [⟨3, x + 1, 0⟩]⟩, ⟨⟨#[98]⟩, 900, 900, 2, 1, some ⟨u1.heap.size + 1 + 1 + 1, 0, none⟩, 1, [⟨3, y + 1, 0⟩]⟩, ⟨⟨#[99]⟩, 900, 900, 3, 1, some ⟨u1.heap.size + 1 + 1 + 1 + 1, 0, none⟩, 1, [⟨3, z + 1, 0⟩]⟩]).toArray 32)
  replace B4 := B4.alloc (.cells (ttc [⟨⟨#[97]⟩, 900, 900, 1, 0, some ⟨u1.heap.size + 1 + 1, 0, none⟩, 1, [⟨3, x + 1, 0⟩]⟩, ⟨⟨#[98]⟩, 900, 900, 2, 1, some ⟨u1.heap.size + 1 + 1 + 1, 0, none⟩, 1, [⟨3, y + 1, 0⟩]⟩, ⟨⟨#[99]⟩, 900, 900, 3, 1, some ⟨u1.heap.size + 1 + 1 + 1 + 1, 0, none⟩, 1, [⟨3, z + 1, 0⟩]⟩]).toArray 32)
  have B5 := Bk.at_ (w := (((((u1.alloc (.cells ([1, c + 1].map (Value.int .i64)).toArray 3)).alloc (.cells ([0].map (Value.int .i64)).toArray 3)).alloc (.cells (ptc [⟨3, x + 1, 0⟩]).toArray 29)).alloc (.cells (ptc [⟨3, y + 1, 0⟩]).toArray 29)).alloc (.cells (ptc [⟨3, z + 1, 0⟩]).toArray 29))) (g := u1.heap.size + 1 + 1 + 1 + 1 + 1) (t := 32) (cs := (ttc [⟨⟨#[97]⟩, 900, 900, 1, 0, some ⟨u1.heap.size + 1 + 1, 0, none⟩, 1, [⟨3, x + 1, 0⟩]⟩, ⟨⟨#[98]⟩, 900, 900, 2, 1, some ⟨u1.heap.size + 1 + 1 + 1, 0, none⟩, 1, [⟨3, y + 1, 0⟩]⟩, ⟨⟨#[99]⟩, 900, 900, 3, 1, some ⟨u1.heap.size + 1 + 1 + 1 + 1, 0, none⟩, 1, [⟨3, z + 1, 0⟩]⟩]).toArray) (by first | rfl | simp) rfl
  replace hb := hb.alloc hb.size (.cells (ttc [⟨⟨#[97]⟩, 900, 900, 1, 0, some ⟨u1.heap.size + 1 + 1, 0, none⟩, 1, [⟨3, x + 1, 0⟩]⟩, ⟨⟨#[98]⟩, 900, 900, 2, 1, some ⟨u1.heap.size + 1 + 1 + 1, 0, none⟩, 1, [⟨3, y + 1, 0⟩]⟩, ⟨⟨#[99]⟩, 900, 900, 3, 1, some ⟨u1.heap.size + 1 + 1 + 1 + 1, 0, none⟩, 1, [⟨3, z + 1, 0⟩]⟩]).toArray 32)
  replace B0 := B0.alloc (.cells #[.int .i64 3, .slice (some ⟨u1.heap.size, 0, none⟩) 2 2, .slice (some ⟨u1.heap.size + 1, 0, none⟩) 1 1, .slice (some ⟨u1.heap.size + 1 + 1 + 1 + 1 + 1, 0, none⟩) 3 3] 26)
  replace B1 := B1.alloc (.cells #[.int .i64 3, .slice (some ⟨u1.heap.size, 0, none⟩) 2 2, .slice (some ⟨u1.heap.size + 1, 0, none⟩) 1 1, .slice (some ⟨u1.heap.size + 1 + 1 + 1 + 1 + 1, 0, none⟩) 3 3] 26)
  replace B2 := B2.alloc (.cells #[.int .i64 3, .slice (some ⟨u1.heap.size, 0, none⟩) 2 2, .slice (some ⟨u1.heap.size + 1, 0, none⟩) 1 1, .slice (some ⟨u1.heap.size + 1 + 1 + 1 + 1 + 1, 0, none⟩) 3 3] 26)
  replace B3 := B3.alloc (.cells #[.int .i64 3, .slice (some ⟨u1.heap.size, 0, none⟩) 2 2, .slice (some ⟨u1.heap.size + 1, 0, none⟩) 1 1, .slice (some ⟨u1.heap.size + 1 + 1 + 1 + 1 + 1, 0, none⟩) 3 3] 26)
  replace B4 := B4.alloc (.cells #[.int .i64 3, .slice (some ⟨u1.heap.size, 0, none⟩) 2 2, .slice (some ⟨u1.heap.size + 1, 0, none⟩) 1 1, .slice (some ⟨u1.heap.size + 1 + 1 + 1 + 1 + 1, 0, none⟩) 3 3] 26)
  replace B5 := B5.alloc (.cells #[.int .i64 3, .slice (some ⟨u1.heap.size, 0, none⟩) 2 2, .slice (some ⟨u1.heap.size + 1, 0, none⟩) 1 1, .slice (some ⟨u1.heap.size + 1 + 1 + 1 + 1 + 1, 0, none⟩) 3 3] 26)
  have B6 := Bk.at_ (w := ((((((u1.alloc (.cells ([1, c + 1].map (Value.int .i64)).toArray 3)).alloc (.cells ([0].map (Value.int .i64)).toArray 3)).alloc (.cells (ptc [⟨3, x + 1, 0⟩]).toArray 29)).alloc (.cells (ptc [⟨3, y + 1, 0⟩]).toArray 29)).alloc (.cells (ptc [⟨3, z + 1, 0⟩]).toArray 29)).alloc (.cells (ttc [⟨⟨#[97]⟩, 900, 900, 1, 0, some ⟨u1.heap.size + 1 + 1, 0, none⟩, 1, [⟨3, x + 1, 0⟩]⟩, ⟨⟨#[98]⟩, 900, 900, 2, 1, some ⟨u1.heap.size + 1 + 1 + 1, 0, none⟩, 1, [⟨3, y + 1, 0⟩]⟩, ⟨⟨#[99]⟩, 900, 900, 3, 1, some ⟨u1.heap.size + 1 + 1 + 1 + 1, 0, none⟩, 1, [⟨3, z + 1, 0⟩]⟩]).toArray 32))) (g := u1.heap.size + 1 + 1 + 1 + 1 + 1 + 1) (t := 26) (cs := #[.int .i64 3, .slice (some ⟨u1.heap.size, 0, none⟩) 2 2, .slice (some ⟨u1.heap.size + 1, 0, none⟩) 1 1, .slice (some ⟨u1.heap.size + 1 + 1 + 1 + 1 + 1, 0, none⟩) 3 3]) (by first | rfl | simp) rfl
  replace hb := hb.alloc hb.size (.cells #[.int .i64 3, .slice (some ⟨u1.heap.size, 0, none⟩) 2 2, .slice (some ⟨u1.heap.size + 1, 0, none⟩) 1 1, .slice (some ⟨u1.heap.size + 1 + 1 + 1 + 1 + 1, 0, none⟩) 3 3] 26)
  have hs := set_bks (proto := 3) B0 B1 B5 (fun t ht => by
    simp at ht
    rcases ht with rfl | rfl | rfl
    · exact task_bk B2 (by decide) (by decide) (by decide) (by decide) (by decide) (by show 1 ≤ maxLen; decide) (fun p hp => by simp at hp; subst hp; exact HW.out _ _ _ (by omega) (by omega) (by omega))
    · exact task_bk B3 (by decide) (by decide) (by decide) (by decide) (by decide) (by show 1 ≤ maxLen; decide) (fun p hp => by simp at hp; subst hp; exact HW.out _ _ _ (by omega) (by omega) (by omega))
    · exact task_bk B4 (by decide) (by decide) (by decide) (by decide) (by decide) (by show 1 ≤ maxLen; decide) (fun p hp => by simp at hp; subst hp; exact HW.out _ _ _ (by omega) (by omega) (by omega))) (by decide) (fun n hn => by simp at hn; unfold I64; omega) (by decide) (by show 2 ≤ maxLen; decide) (by decide) (by show 3 ≤ maxLen; decide)
  obtain ⟨S, hS, hSv⟩ : ∃ S : SetR, S = ⟨3, some ⟨u1.heap.size, 0, none⟩, 2, [1, c + 1], some ⟨u1.heap.size + 1, 0, none⟩, 1, [0], some ⟨u1.heap.size + 1 + 1 + 1 + 1 + 1, 0, none⟩, 3, [⟨⟨#[97]⟩, 900, 900, 1, 0, some ⟨u1.heap.size + 1 + 1, 0, none⟩, 1, [⟨3, x + 1, 0⟩]⟩, ⟨⟨#[98]⟩, 900, 900, 2, 1, some ⟨u1.heap.size + 1 + 1 + 1, 0, none⟩, 1, [⟨3, y + 1, 0⟩]⟩, ⟨⟨#[99]⟩, 900, 900, 3, 1, some ⟨u1.heap.size + 1 + 1 + 1 + 1, 0, none⟩, 1, [⟨3, z + 1, 0⟩]⟩]⟩ ∧ ElseS S x y z c := ⟨_, rfl, rfl, rfl, rfl, _, _, _, _, _, _, rfl⟩
  obtain ⟨k1, k2, k3, k4⟩ := else_vals hSv ⟨x0, x1⟩ ⟨y0, y1⟩ ⟨z0, z1⟩ ⟨c0, c1⟩
  have K1 := hidp k1
  have K2 := hidp k2
  have K3 := hidp k3
  have K4 := hidp k4
  clear k1 k2 k3 k4 hSv B0 B1 B2 B3 B4 B5
  have sc := Z4 B6
  have hs2 := setok_eq hs hS
  have HS := hidp hS
  clear hS hs B6
  obtain ⟨O, HO⟩ : ∃ O, Hid (outV S 1 = O) := ⟨_, rfl⟩
  by_cases e : 0 < c
  · have V1 : Hid (tokV S 0 0 = x + 1 + (y + 1) + (z + 1)) := hidp (by rw [K2.out, if_pos e])
    have hO : O = 0 := by have := K4.out; rw [if_pos e, HO.out] at this; exact this
    subst hO
    have e1 : ((c + 1 : Int) == 1) = false := by simp; omega
    have e2 : ((c : Int) == 0) = false := by simp; omega
    go_wp2_with fail
    have CC := tpart_any S 0 0 _ hs2
    rw [K1.out, V1.out, HS.out] at CC
    refine CC.mono ?_
    rintro e u2 ⟨rfl, hb2⟩
    clear CC
    replace hb := hb.trans (hb2.mono hb.size)
    replace sc := And.intro (Keeps.of_below hb2 _ _ sc.1) (And.intro (Keeps.of_below hb2 _ _ sc.2.1) (And.intro (Keeps.of_below hb2 _ _ sc.2.2.1) (Keeps.of_below hb2 _ _ sc.2.2.2)))
    replace hs2 := hs2.keep (Keeps.of_below hb2)
    clear hb2
    obtain ⟨sc_0, sc_1, sc_2, sc_3⟩ := id sc
    go_wp2_with fail
    have CC := outside_any S 0 _ hs2
    rw [K3.out, HS.out] at CC
    refine CC.mono ?_
    rintro e u3 ⟨rfl, hb2⟩
    clear CC
    replace hb := hb.trans (hb2.mono hb.size)
    replace sc := And.intro (Keeps.of_below hb2 _ _ sc.1) (And.intro (Keeps.of_below hb2 _ _ sc.2.1) (And.intro (Keeps.of_below hb2 _ _ sc.2.2.1) (Keeps.of_below hb2 _ _ sc.2.2.2)))
    replace hs2 := hs2.keep (Keeps.of_below hb2)
    clear hb2
    clear sc_0 sc_1 sc_2 sc_3
    obtain ⟨sc_0, sc_1, sc_2, sc_3⟩ := id sc
    go_wp2_with fail
    have CC := outside_any S 1 _ hs2
    rw [HO.out, HS.out] at CC
    refine CC.mono ?_
    rintro e u4 ⟨rfl, hb2⟩
    clear CC
    replace hb := hb.trans (hb2.mono hb.size)
    clear hb2
    go_wp2_with fail
    go_ret
    exact ⟨rfl, hb⟩
  · have hO : 0 < O := by have := K4.out; rw [if_neg e, HO.out] at this; exact this
    have e1 : ((c + 1 : Int) == 1) = true := by simp; omega
    have e2 : ((c : Int) == 0) = true := by simp; omega
    obtain ⟨mm, hmm⟩ : ∃ mm, (if y < z then z + 1 else y + 1) = mm := ⟨_, rfl⟩
    have mm0 : 1 ≤ mm := by rw [← hmm]; split <;> omega
    have mm1 : mm ≤ 50 := by rw [← hmm]; split <;> omega
    have Hmm : Hid (max (y + 1) (z + 1) = mm) := hidp (by rw [← hmm]; split <;> omega)
    have V1 : Hid (tokV S 0 0 = x + 1 + mm) := hidp (by rw [K2.out, if_neg e, Hmm.out])
    go_wp2_with fail
    have CC := tpart_any S 0 0 _ hs2
    rw [K1.out, V1.out, HS.out] at CC
    refine CC.mono ?_
    rintro e u2 ⟨rfl, hb2⟩
    clear CC
    replace hb := hb.trans (hb2.mono hb.size)
    replace sc := And.intro (Keeps.of_below hb2 _ _ sc.1) (And.intro (Keeps.of_below hb2 _ _ sc.2.1) (And.intro (Keeps.of_below hb2 _ _ sc.2.2.1) (Keeps.of_below hb2 _ _ sc.2.2.2)))
    replace hs2 := hs2.keep (Keeps.of_below hb2)
    clear hb2
    obtain ⟨sc_0, sc_1, sc_2, sc_3⟩ := id sc
    go_wp2_with fail
    have CC := outside_any S 0 _ hs2
    rw [K3.out, HS.out] at CC
    refine CC.mono ?_
    rintro e u3 ⟨rfl, hb2⟩
    clear CC
    replace hb := hb.trans (hb2.mono hb.size)
    replace sc := And.intro (Keeps.of_below hb2 _ _ sc.1) (And.intro (Keeps.of_below hb2 _ _ sc.2.1) (And.intro (Keeps.of_below hb2 _ _ sc.2.2.1) (Keeps.of_below hb2 _ _ sc.2.2.2)))
    replace hs2 := hs2.keep (Keeps.of_below hb2)
    clear hb2
    clear sc_0 sc_1 sc_2 sc_3
    obtain ⟨sc_0, sc_1, sc_2, sc_3⟩ := id sc
    go_wp2_with fail
    have CC := outside_any S 1 _ hs2
    rw [HO.out, HS.out] at CC
    refine CC.mono ?_
    rintro e u4 ⟨rfl, hb2⟩
    clear CC
    replace hb := hb.trans (hb2.mono hb.size)
    clear hb2
    go_wp2_with fail
    go_ret
    exact ⟨rfl, hb⟩

theorem own : ownKnob Try.prog.godebug = none := by kernel_rfl
theorem laidOut : laidOutB Try.prog = true := by kernel_rfl

/-! THE ROW's STEP -/
set_option maxRecDepth 100000 in
theorem lifted (os : Os) (started : os.Started) (H : Type) (enc : TypeId × Value → H) :
    ReturnsInHanded {} Try.checked os 12 .any (Rows.tokenElsewhereSpec.pre6 enc Try.prog Try.f12 Rows.tokenElsewhereRow.domain false) (Rows.tokenElsewhereSpec.post enc Try.prog Try.f12 false true false false) := by
  refine returnsInHanded_of_change (C := Try.checked) own started (by kernel_rfl) Try.func12
    (ChangeSpec.witness6 (enc := enc) (C := Try.checked) false ⟨#[], #[.int .u8 0, .int .u8 0, .int .u8 0, .int .u8 0], []⟩ 8 (by kernel_rfl) (by kernel_rfl) (by kernel_rfl) (by kernel_rfl)) ?_
  intro W base args ds gs before hval0 hW hcnd _
  have hval : ∀ (j : Nat) t v, Try.f12.params[j]? = some t → args[j]? = some v → Value.okWide Try.prog W .any base t v := hval0
  have hW' := hW
  obtain ⟨p, q, hA0, hV, rfl, hfz, hnd⟩ := hW
  have hA : DataW.TrodAll enc Try.prog W 0 (fun _ => true) true Try.f12.params.toList args.toList ds p := hA0
  rw [Try.params12] at hA hval
  obtain ⟨v0, vs0, d0, ds0, p0, q0, hargs, rfl, rfl, h0, r0⟩ := trodAll_cons hA
  obtain ⟨v1, vs1, d1, ds1, p1, q1, rfl, rfl, rfl, h1, r1⟩ := trodAll_cons r0
  obtain ⟨v2, vs2, d2, ds2, p2, q2, rfl, rfl, rfl, h2, r2⟩ := trodAll_cons r1
  obtain ⟨v3, vs3, d3, ds3, p3, q3, rfl, rfl, rfl, h3, r3⟩ := trodAll_cons r2
  obtain ⟨rfl, rfl, rfl⟩ := trodAll_nil r3
  obtain rfl : args = #[v0, v1, v2, v3] := by cases args; simp_all
  obtain ⟨rfl, rfl⟩ := trodVars_none hV
  obtain ⟨a0, rfl, rfl, rfl, w0⟩ := open_int Try.underlying5 (hval 0 5 v0 rfl rfl) h0
  obtain ⟨a1, rfl, rfl, rfl, w1⟩ := open_int Try.underlying5 (hval 1 5 v1 rfl rfl) h1
  obtain ⟨a2, rfl, rfl, rfl, w2⟩ := open_int Try.underlying5 (hval 2 5 v2 rfl rfl) h2
  obtain ⟨a3, rfl, rfl, rfl, w3⟩ := open_int Try.underlying5 (hval 3 5 v3 rfl rfl) h3
  clear hA0 hval0
  refine (walk a0 a1 a2 a3 W w0 w1 w2 w3).mono fun e W' ⟨he, bel⟩ => ?_
  subst he
  exact ⟨_, rfl, _, _, _, [], _, [], hW', trodAll_mk1 (shut_bool Try.underlying4 _), (trodAll_cons_mk (shut_int Try.underlying5 w0) (trodAll_cons_mk (shut_int Try.underlying5 w1) (trodAll_cons_mk (shut_int Try.underlying5 w2) (trodAll_cons_mk (shut_int Try.underlying5 w3) trodAll_mk0)))), rfl, bel.frame _, fun h => by cases h⟩

theorem over : Rows.tokenElsewhereRow.holds Try.pinned (OpenSpec.ofChange Rows.tokenElsewhereSpec) :=
  OpenClaim.holds_of_wide 12 Try.f12 rfl rfl rfl rfl rfl rfl rfl ⟨rfl, rfl, rfl, rfl, rfl⟩ rfl rfl rfl rfl rfl (by kernel_rfl) Try.func12 (by kernel_rfl)
    (of_decide_eq_true (by kernel_rfl)) (by unfold Func.isWrapper; first | (rw [if_pos (by decide +kernel)]; kernel_rfl) | (rw [if_neg (by decide +kernel)]; exact ⟨rfl, rfl⟩))
    (fun os started H enc _ => lifted os started H enc)

/-- THE STATEMENT -/
theorem proved : Rows.TokenElsewhereSaid := over
#print axioms proved
end Go.Proofs.Ytbjcoeipdnakkaa.tokenElsewhere

