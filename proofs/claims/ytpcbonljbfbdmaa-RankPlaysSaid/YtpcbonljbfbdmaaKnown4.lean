/- swingbridgelaw4.known is true. -/
import Derived.Test.YtpcbonljbfbdmaaRankK
import Derived.Test.YtpcbonljbfbdmaaRankN
namespace Go.Proofs.Ytpcbonljbfbdmaa
open Go.ChangeShapes Go.WideShapes Go.ChangeAt Go.RowKit
set_option linter.unusedVariables false
set_option linter.unusedSimpArgs false
set_option maxHeartbeats 4000000 in
set_option maxRecDepth 100000 in
theorem known4_any (w : World) : Calls Try.prog 7 #[] w fun e w' => e = .returned (.bool true) ∧ Below w.heap.size w w' := by
  have hb := (Below.refl w.heap.size w).alloc (Nat.le_refl _) (.cells #[.int .i64 3, .int .i64 0, .slice none 0 0] 53)
  have HR := hidp (Rk.new w 3)
  go_enter Try.func7, Try.ntmps7
  go_wp2_with fail
  refine (rnew_any 3 _ (by unfold I64; decide)).mono ?_
  rintro e u ⟨rfl, rfl⟩
  rw [show roomR 3 = 3 from rfl]
  obtain ⟨b, hbb⟩ : ∃ b, w.heap.size = b := ⟨_, rfl⟩
  obtain ⟨u0, hu0⟩ : ∃ u0, w.alloc (.cells #[.int .i64 3, .int .i64 0, .slice none 0 0] 53) = u0 := ⟨_, rfl⟩
  rw [hu0] at hb HR ⊢
  have HW := hidp hbb
  rw [hbb] at hb HR ⊢
  clear hbb hu0
  have hA0 : ∀ k ∈ fp (none : Option Addr), b ≤ k := fun k hk => by simp [fp] at hk
  go_wp2_with fail
  refine (rput_any (k := 5) (i := 3) HR.out (by decide) (by decide) (by decide)).mono ?_
  rintro e u1 ⟨rfl, A1, c1, h2, T2, f2⟩
  change Rk u1 b 3 1 _ A1 c1 at h2
  rw [kn1] at h2
  have hA1 : ∀ k ∈ fp A1, b ≤ k := fun k hk => (f2 k hk).elim (hA0 k) (fun g => Nat.le_trans (Nat.le_trans (Nat.le_of_eq HW.out.symm) hb.size) g)
  replace hb := hb.trans (T2.below (Nat.le_trans (Nat.le_of_eq HW.out.symm) hb.size) (fun k hk => by rcases List.mem_cons.1 hk with e | e; exact Nat.le_of_eq e.symm; exact hA0 k e))
  replace HR := hidp h2
  clear h2 T2 f2
  go_wp2_with fail
  refine (rput_any (k := 2) (i := 1) HR.out (by decide) (by decide) (by decide)).mono ?_
  rintro e u2 ⟨rfl, A2, c2, h2, T2, f2⟩
  change Rk u2 b 3 2 _ A2 c2 at h2
  rw [kn2] at h2
  have hA2 : ∀ k ∈ fp A2, b ≤ k := fun k hk => (f2 k hk).elim (hA1 k) (fun g => Nat.le_trans (Nat.le_trans (Nat.le_of_eq HW.out.symm) hb.size) g)
  replace hb := hb.trans (T2.below (Nat.le_trans (Nat.le_of_eq HW.out.symm) hb.size) (fun k hk => by rcases List.mem_cons.1 hk with e | e; exact Nat.le_of_eq e.symm; exact hA1 k e))
  replace HR := hidp h2
  clear h2 T2 f2
  go_wp2_with fail
  refine (rput_any (k := 2) (i := 4) HR.out (by decide) (by decide) (by decide)).mono ?_
  rintro e u3 ⟨rfl, A3, c3, h2, T2, f2⟩
  change Rk u3 b 3 3 _ A3 c3 at h2
  rw [kn3] at h2
  have hA3 : ∀ k ∈ fp A3, b ≤ k := fun k hk => (f2 k hk).elim (hA2 k) (fun g => Nat.le_trans (Nat.le_trans (Nat.le_of_eq HW.out.symm) hb.size) g)
  replace hb := hb.trans (T2.below (Nat.le_trans (Nat.le_of_eq HW.out.symm) hb.size) (fun k hk => by rcases List.mem_cons.1 hk with e | e; exact Nat.le_of_eq e.symm; exact hA2 k e))
  replace HR := hidp h2
  clear h2 T2 f2
  go_wp2_with fail
  refine (rput_full (k := 1) (i := 1) HR.out (by decide)).mono ?_
  rintro e u4 ⟨rfl, hq⟩
  have hq2 := hq.below (Below.refl u3.heap.size u3)
  replace hb := hb.trans (hq2.mono (Nat.le_trans (Nat.le_of_eq HW.out.symm) hb.size))
  replace HR := hidp (HR.out.turned (Turned.of_below hq2 []) (by simp) (by simp))
  clear hq hq2
  go_wp2_with fail
  refine (rfirst_cons HR.out (by decide)).mono ?_
  rintro e u ⟨rfl, rfl⟩
  dsimp only [List.getD_cons_zero]
  go_wp2_with fail
  refine (rtake_cons HR.out (by decide) (by decide)).mono ?_
  rintro e v0 ⟨rfl, h2, T2⟩
  rw [kn4] at h2
  replace hb := hb.trans (T2.below (Nat.le_trans (Nat.le_of_eq HW.out.symm) hb.size) (fun k hk => by rcases List.mem_cons.1 hk with e | e; exact Nat.le_of_eq e.symm; exact hA3 k e))
  replace HR := hidp h2
  clear h2 T2
  dsimp only [List.getD_cons_zero]
  go_wp2_with fail
  refine (rtake_cons HR.out (by decide) (by decide)).mono ?_
  rintro e v1 ⟨rfl, h2, T2⟩
  rw [kn5] at h2
  replace hb := hb.trans (T2.below (Nat.le_trans (Nat.le_of_eq HW.out.symm) hb.size) (fun k hk => by rcases List.mem_cons.1 hk with e | e; exact Nat.le_of_eq e.symm; exact hA3 k e))
  replace HR := hidp h2
  clear h2 T2
  dsimp only [List.getD_cons_zero]
  go_wp2_with fail
  refine (rlen_any HR.out).mono ?_
  rintro e u ⟨rfl, rfl⟩
  go_wp2_with fail
  refine (drop_any (id := 3) HR.out (by decide)).mono ?_
  rintro e v3 ⟨rfl, h2, T2⟩
  rw [kn6] at h2
  rw [show (bestE [(⟨5, 0, 3⟩ : EntM)] 3 [(⟨5, 0, 3⟩ : EntM)].length).isSome = true from rfl]
  replace hb := hb.trans (T2.below (Nat.le_trans (Nat.le_of_eq HW.out.symm) hb.size) (fun k hk => by rcases List.mem_cons.1 hk with e | e; exact Nat.le_of_eq e.symm; exact hA3 k e))
  replace HR := hidp h2
  clear h2 T2
  go_wp2_with fail
  refine (drop_any (id := 3) HR.out (by decide)).mono ?_
  rintro e v4 ⟨rfl, h2, T2⟩
  rw [show dropL [] 3 = [] from rfl] at h2
  rw [show (bestE [] 3 ([] : List EntM).length).isSome = false from rfl]
  replace hb := hb.trans (T2.below (Nat.le_trans (Nat.le_of_eq HW.out.symm) hb.size) (fun k hk => by rcases List.mem_cons.1 hk with e | e; exact Nat.le_of_eq e.symm; exact hA3 k e))
  replace HR := hidp h2
  clear h2 T2
  go_wp2_with fail
  refine (all_nil HR.out).mono ?_
  rintro e v5 ⟨rfl, hb2⟩
  replace hb := hb.trans (hb2.mono (Nat.le_trans (Nat.le_of_eq HW.out.symm) hb.size))
  clear hb2 HR
  go_wp2_with fail
  go_ret
  exact ⟨rfl, by rw [HW.out]; exact hb⟩
end Go.Proofs.Ytpcbonljbfbdmaa
