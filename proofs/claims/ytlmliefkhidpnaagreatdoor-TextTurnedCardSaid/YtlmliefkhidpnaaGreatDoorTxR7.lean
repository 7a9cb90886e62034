/- swingbridgeref7.checked. Printed by tools/text/txr7.py. -/
import Derived.Test.YtlmliefkhidpnaaGreatDoorRef7d
import Derived.Test.YtlmliefkhidpnaaGreatDoorTxtV
import Derived.Test.YtlmliefkhidpnaaGreatDoorOwnT
import Derived.Test.YtlmliefkhidpnaaGreatDoorReg
namespace Go.Proofs.YtlmliefkhidpnaaGreatDoor
open Go.ChangeShapes Go.WideShapes Go.ChangeAt Go.RowKit
set_option linter.unusedVariables false
set_option linter.unusedSimpArgs false
def rtoldV (s : SetR) (ats : List Int) (co n : Int) : SetR × Int × Int :=
  if chkE s = 0 then (s, n, 0) else if 0 ≤ chkAt s then (noSet, ats.getD (chkAt s).toNat 0, chkE s) else if chkE s = 16 then (noSet, co, chkE s) else (noSet, n, chkE s)
def RCheckPost (w : World) (v : SetR × Int × Int) (e : Ending) (w' : World) : Prop := ∃ t p q, v = (t, p, q) ∧ e = .returned (.tuple #[.agg #[.int .i64 t.proto, .slice t.ca t.cores.length t.cc, .slice t.ha t.homes.length t.hc, .slice t.ta t.tasks.length t.tc], .int .i64 p, .int .i64 q]) ∧ Below w.heap.size w w'
set_option maxHeartbeats 8000000 in
theorem rchecked_any (s : SetR) (A : Option Addr) (c : Nat) (ats : List Int) (co n : Int) (w : World) (hs : SetOk w s) (ha : Row w .i64 A ats) (hat : chkAt s < (ats.length : Int)) (hl : ats.length ≤ 100000) :
    Calls Tryz.prog 22 #[.agg #[.int .i64 s.proto, .slice s.ca s.cores.length s.cc, .slice s.ha s.homes.length s.hc, .slice s.ta s.tasks.length s.tc], .slice A ats.length c, .int .i64 co, .int .i64 n] w (RCheckPost w (rtoldV s ats co n)) := by
  have hb1 := (Below.refl w.heap.size w).alloc (Nat.le_refl _) (.cells #[.int .i64 s.proto, .slice s.ca s.cores.length s.cc, .slice s.ha s.homes.length s.hc, .slice s.ta s.tasks.length s.tc] 25)
  have hb := hb1.alloc hb1.size (.cells #[.int .i64 0, .slice none 0 0, .slice none 0 0, .slice none 0 0] 25)
  have sc := (SetCells.new w s 25).keep (Keeps.of_below ((Below.refl _ (w.alloc (.cells #[.int .i64 s.proto, .slice s.ca s.cores.length s.cc, .slice s.ha s.homes.length s.hc, .slice s.ta s.tasks.length s.tc] 25))).alloc (Nat.le_refl _) (.cells #[.int .i64 0, .slice none 0 0, .slice none 0 0, .slice none 0 0] 25)))
  have b8 : Bk ((w.alloc (.cells #[.int .i64 s.proto, .slice s.ca s.cores.length s.cc, .slice s.ha s.homes.length s.hc, .slice s.ta s.tasks.length s.tc] 25)).alloc (.cells #[.int .i64 0, .slice none 0 0, .slice none 0 0, .slice none 0 0] 25)) (w.heap.size + 1) 25 #[.int .i64 0, .slice none 0 0, .slice none 0 0, .slice none 0 0] := Bk.at_ (by simp) rfl
  obtain ⟨N, hN⟩ : ∃ N, ats.length = N := ⟨_, rfl⟩
  obtain ⟨a, Ha⟩ : ∃ a, Hid (chkAt s = a) := ⟨_, hidp rfl⟩
  obtain ⟨b, Hb⟩ : ∃ b, Hid (chkE s = b) := ⟨_, hidp rfl⟩
  have CK := hidp (rcheck_any s _ (hs.keep (Keeps.of_below hb)))
  rw [Ha.out, Hb.out] at CK
  rw [Ha.out] at hat
  have HN := hidp hN
  have HA := hidp ha
  have HB := hidp hb
  have SC := hidp sc
  have B8 := hidp b8
  rw [hN] at hat hl ⊢
  clear hb1 hb sc b8 hN ha hs
  go_enter Tryz.func22, Tryz.ntmps22
  go_wp2_with fail
  refine CK.out.mono ?_
  rintro e u ⟨rfl, hbu⟩
  replace HB := hidp (HB.out.trans (hbu.mono HB.out.size))
  have bx := B8.out.below hbu
  have sx := SC.out.keep (Keeps.of_below hbu)
  clear hbu SC B8 CK
  obtain ⟨z0, z1, z2, z3⟩ := sx
  obtain ⟨q0, q1, q2, q3⟩ := Z4 bx
  obtain ⟨y0, y1, y2, y3⟩ := ZF4 bx
  have BX := hidp bx
  clear bx
  by_cases e0 : b = 0
  · have f1 : (b == 0) = true := by simpa using e0
    have HV : Hid (rtoldV s ats co n = (s, n, 0)) := hidp (by unfold rtoldV; rw [if_pos (by rw [Hb.out]; exact e0)])
    clear e0
    have PB := put4_bk BX.out (v0 := .int .i64 s.proto) (v1 := .slice s.ca s.cores.length s.cc) (v2 := .slice s.ha s.homes.length s.hc) (v3 := .slice s.ta s.tasks.length s.tc)
    have T1 := put4_turned u (w.heap.size + 1) (.int .i64 s.proto) (.slice s.ca s.cores.length s.cc) (.slice s.ha s.homes.length s.hc) (.slice s.ta s.tasks.length s.tc)
    have hbe := hidp (HB.out.trans (T1.below HB.out.size (by simp)))
    obtain ⟨r0, r1, r2, r3⟩ := Z4 PB
    clear PB T1
    unfold put4 at *
    go_wp2_with fail
    refine bodyPost_ret (v := .tuple #[.agg #[.int .i64 s.proto, .slice s.ca s.cores.length s.cc, .slice s.ha s.homes.length s.hc, .slice s.ta s.tasks.length s.tc], .int .i64 n, .int .i64 0]) (by simp [results, Tryz.results22, go_sem, r0, r1, r2, r3]) rfl ⟨s, _, _, HV.out, rfl, hbe.out⟩
  have f1 : (b == 0) = false := by simpa using e0
  by_cases e1 : 0 ≤ a
  · obtain ⟨k, rfl⟩ : ∃ k : Nat, a = (k : Int) := ⟨a.toNat, by omega⟩
    have hkl : k < ats.length := by rw [HN.out]; omega
    obtain ⟨g, off, rfl, hcw⟩ := HA.out.resolve_left (by intro e; rw [e] at hkl; simp at hkl)
    have hgl := cell_lt (hcw k hkl)
    have hc : ∀ i, i < ats.length → u.cell? ⟨g, off + i, none⟩ = some (.int .i64 (ats.getD i 0)) := fun i hi => (Keeps.of_below HB.out) _ _ (hcw i hi)
    obtain ⟨p, hp⟩ : ∃ p, Hid (ats.getD k 0 = p) := ⟨_, hidp rfl⟩
    have c1 : u.cell? ⟨g, off + k, none⟩ = some (.int .i64 p) := by have := hc k hkl; rwa [hp.out] at this
    have c2 : u.drew.cell? ⟨g, off + k, none⟩ = some (.int .i64 p) := c1
    have HV : Hid (rtoldV s ats co n = (noSet, p, b)) := hidp (by
      unfold rtoldV
      rw [if_neg (by rw [Hb.out]; exact e0), if_pos (by rw [Ha.out]; omega), Ha.out, Hb.out, Int.toNat_natCast, hp.out])
    have b1 : (0 : Int) ≤ (k : Int) := by omega
    have c3 : (put4 u (w.heap.size + 1) (.int .i64 0) (.slice none 0 0) (.slice none 0 0) (.slice none 0 0)).cell? ⟨g, off + k, none⟩ = some (.int .i64 p) := (put4_turned u (w.heap.size + 1) _ _ _ _).cell c1 (by have h : g < w.heap.size := hgl; simp; omega)
    have c4 : (put4 u (w.heap.size + 1) (.int .i64 0) (.slice none 0 0) (.slice none 0 0) (.slice none 0 0)).drew.cell? ⟨g, off + k, none⟩ = some (.int .i64 p) := c3
    clear e0 e1 hc hcw hkl hgl
    have PB := put4_bk BX.out (v0 := .int .i64 0) (v1 := .slice none 0 0) (v2 := .slice none 0 0) (v3 := .slice none 0 0)
    have T1 := put4_turned u (w.heap.size + 1) (.int .i64 0) (.slice none 0 0) (.slice none 0 0) (.slice none 0 0)
    have hbe := hidp (HB.out.trans (T1.below HB.out.size (by simp)))
    obtain ⟨r0, r1, r2, r3⟩ := Z4 PB
    clear PB T1
    unfold put4 at *
    go_wp2_with fail
    go_region
    go_wp2_with fail
    refine bodyPost_ret (v := .tuple #[.agg #[.int .i64 0, .slice none 0 0, .slice none 0 0, .slice none 0 0], .int .i64 p, .int .i64 b]) (by simp [results, Tryz.results22, go_sem, r0, r1, r2, r3]) rfl ⟨noSet, _, _, HV.out, rfl, below_drewN hbe.out 1⟩
  have e2 : ¬ 0 ≤ a := e1
  by_cases e3 : b = 16
  · have f2 : (b == 16) = true := by simpa using e3
    have HV : Hid (rtoldV s ats co n = (noSet, co, b)) := hidp (by unfold rtoldV; rw [if_neg (by rw [Hb.out]; exact e0), if_neg (by rw [Ha.out]; exact e1), if_pos (by rw [Hb.out]; exact e3), Hb.out])
    clear e0 e1 e3
    have PB := put4_bk BX.out (v0 := .int .i64 0) (v1 := .slice none 0 0) (v2 := .slice none 0 0) (v3 := .slice none 0 0)
    have T1 := put4_turned u (w.heap.size + 1) (.int .i64 0) (.slice none 0 0) (.slice none 0 0) (.slice none 0 0)
    have hbe := hidp (HB.out.trans (T1.below HB.out.size (by simp)))
    obtain ⟨r0, r1, r2, r3⟩ := Z4 PB
    clear PB T1
    unfold put4 at *
    go_wp2_with fail
    refine bodyPost_ret (v := .tuple #[.agg #[.int .i64 0, .slice none 0 0, .slice none 0 0, .slice none 0 0], .int .i64 co, .int .i64 b]) (by simp [results, Tryz.results22, go_sem, r0, r1, r2, r3]) rfl ⟨noSet, _, _, HV.out, rfl, hbe.out⟩
  have f2 : (b == 16) = false := by simpa using e3
  have HV : Hid (rtoldV s ats co n = (noSet, n, b)) := hidp (by unfold rtoldV; rw [if_neg (by rw [Hb.out]; exact e0), if_neg (by rw [Ha.out]; exact e1), if_neg (by rw [Hb.out]; exact e3), Hb.out])
  clear e0 e1 e3
  have PB := put4_bk BX.out (v0 := .int .i64 0) (v1 := .slice none 0 0) (v2 := .slice none 0 0) (v3 := .slice none 0 0)
  have T1 := put4_turned u (w.heap.size + 1) (.int .i64 0) (.slice none 0 0) (.slice none 0 0) (.slice none 0 0)
  have hbe := hidp (HB.out.trans (T1.below HB.out.size (by simp)))
  obtain ⟨r0, r1, r2, r3⟩ := Z4 PB
  clear PB T1
  unfold put4 at *
  go_wp2_with fail
  refine bodyPost_ret (v := .tuple #[.agg #[.int .i64 0, .slice none 0 0, .slice none 0 0, .slice none 0 0], .int .i64 n, .int .i64 b]) (by simp [results, Tryz.results22, go_sem, r0, r1, r2, r3]) rfl ⟨noSet, _, _, HV.out, rfl, hbe.out⟩
end Go.Proofs.YtlmliefkhidpnaaGreatDoor
