/- bound: there, each. -/
import Derived.Test.YtlbaohefappfoaaGreatBoundNums
import Derived.Test.YtlbaohefappfoaaGreatWait
import Derived.Deep.DeepCutAuto
import Derived.Deep.CutRange
import Derived.BigRegion
namespace Go.Proofs.YtlbaohefappfoaaGreat
open Go.ChangeShapes Go.WideShapes Go.ChangeAt Go.RowKit
set_option linter.unusedVariables false
set_option linter.unusedSimpArgs false

theorem there17_any (s : SetR) (of : Int) (w : World) (hs : SetOk w s) : Calls Tryz.prog 58 #[.agg #[.int .i64 s.proto, .slice s.ca s.cores.length s.cc, .slice s.ha s.homes.length s.hc, .slice s.ta s.tasks.length s.tc], .int .i64 of] w fun e w' => e = .returned (.bool (thereB s of)) ∧ Below w.heap.size w w' := by
  have hb := (Below.refl w.heap.size w).alloc (Nat.le_refl _) (.cells #[.int .i64 s.proto, .slice s.ca s.cores.length s.cc, .slice s.ha s.homes.length s.hc, .slice s.ta s.tasks.length s.tc] 25)
  have sc := SetCells.new w s 25
  have H := hidp (hs.keep (Keeps.of_below hb))
  have l3 : s.tasks.length ≤ maxLen := Nat.le_trans hs.tasks.sl.2.1 hs.tasks.sl.2.2
  unfold maxLen at l3
  clear hs
  by_cases e : chkE s = 0
  · have e1 : (chkE s == 0) = true := by simpa using e
    have ho : okS s = true := e1
    clear e
    by_cases h0 : 0 ≤ of
    · have Hv : Hid (thereB s of = decide (of < s.tasks.length)) := hidp (by simp [thereB, ho, h0])
      clear ho
      go_enter Tryz.func58, Tryz.ntmps58
      go_wp2_with (first | (go_at_call 13; (with_reducible refine (check_any _ _ H.out).mono ?_); rintro e w2 ⟨rfl, hb2⟩; have sc2 := sc.keep (Keeps.of_below hb2); obtain ⟨c0, c1, c2, c3⟩ := sc2))
      go_ret
      exact ⟨ret_bool Hv.out.symm, hb.trans (hb2.mono hb.size)⟩
    · have Hv : Hid (thereB s of = false) := hidp (by simp [thereB, h0])
      have d0 : decide (0 ≤ of) = false := by simpa using h0
      clear ho h0
      go_enter Tryz.func58, Tryz.ntmps58
      go_wp2_with (first | (go_at_call 13; (with_reducible refine (check_any _ _ H.out).mono ?_); rintro e w2 ⟨rfl, hb2⟩; have sc2 := sc.keep (Keeps.of_below hb2); obtain ⟨c0, c1, c2, c3⟩ := sc2))
      go_ret
      exact ⟨ret_bool Hv.out.symm, hb.trans (hb2.mono hb.size)⟩
  · have e1 : (chkE s == 0) = false := by simpa using e
    have Hv : Hid (thereB s of = false) := hidp (by unfold thereB okS; rw [e1]; rfl)
    clear e
    go_enter Tryz.func58, Tryz.ntmps58
    go_wp2_with (first | (go_at_call 13; (with_reducible refine (check_any _ _ H.out).mono ?_); rintro e w2 ⟨rfl, hb2⟩; have sc2 := sc.keep (Keeps.of_below hb2); obtain ⟨c0, c1, c2, c3⟩ := sc2))
    go_ret
    exact ⟨ret_bool Hv.out.symm, hb.trans (hb2.mono hb.size)⟩


set_option maxHeartbeats 4000000 in
set_option maxRecDepth 100000 in
theorem each_any (s : SetR) (a b : Nat) (w : World) (hs : SetOk w s) (ho : okS s = true) (ha : a < s.tasks.length) (hbl : b < s.tasks.length) : Calls Tryz.prog 60 #[.agg #[.int .i64 s.proto, .slice s.ca s.cores.length s.cc, .slice s.ha s.homes.length s.hc, .slice s.ta s.tasks.length s.tc], .int .i64 a, .int .i64 b] w fun e w' => e = .returned (.int .i64 (eachV s a b)) ∧ Below w.heap.size w w' := by
  have hb := (Below.refl w.heap.size w).alloc (Nat.le_refl _) (.cells #[.int .i64 s.proto, .slice s.ca s.cores.length s.cc, .slice s.ha s.homes.length s.hc, .slice s.ta s.tasks.length s.tc] 25)
  have sc := SetCells.new w s 25
  have H := hs.keep (Keeps.of_below hb)
  have l3 : s.tasks.length ≤ maxLen := Nat.le_trans hs.tasks.sl.2.1 hs.tasks.sl.2.2
  unfold maxLen at l3
  have hg := Good.of ho
  obtain ⟨t, HT⟩ : ∃ t, Hid (s.tasks.getD a default = t) := ⟨_, rfl⟩
  obtain ⟨o, HO⟩ : ∃ t, Hid (s.tasks.getD b default = t) := ⟨_, rfl⟩
  have hm : t ∈ s.tasks := HT.out ▸ getD_mem ha
  have TL : Hid (TaskLen w t) := hidp ⟨(hs.tasks.ok t hm).at_, (hg.parts t hm).lens, by have := (hg.parts t hm).len; omega⟩
  obtain ⟨g, off, hA, hcl⟩ := hs.tasks.at_.resolve_left (by intro e; rw [e] at ha; simp at ha)
  have Hta := hidp (HT.out ▸ hcl a ha)
  have Htb := hidp (HO.out ▸ hcl b hbl)
  obtain ⟨V, HV⟩ : ∃ V, Hid (atV s a o.cl = V) := ⟨_, hidp rfl⟩
  obtain ⟨L, HL⟩ : ∃ V, Hid (sumK 3 t.parts = V) := ⟨_, hidp rfl⟩
  obtain ⟨R, HR⟩ : ∃ V, Hid (sumK 1 t.parts = V) := ⟨_, hidp rfl⟩
  have HE : Hid (eachV s a b = (if s.proto = 2 then V else if t.cl = o.cl then L else 0) + (if t.cl = o.cl ∧ t.prio < o.prio then R else 0)) := hidp (by
    unfold eachV taskAt; simp only [Int.toNat_natCast]; rw [HT.out, HO.out, HV.out, HL.out, HR.out])
  have hV := atV_bd s a o.cl
  have hL := sumK_bd 3 (hg.parts t hm).lens
  have hR := sumK_bd 1 (hg.parts t hm).lens
  have h6 := (hg.parts t hm).len
  rw [HV.out] at hV
  rw [HL.out] at hL
  rw [HR.out] at hR
  obtain ⟨V0, V1⟩ := hV
  obtain ⟨L0, L1⟩ := hL
  obtain ⟨R0, R1⟩ := hR
  have L2 : L ≤ 360 := by omega
  have R2 : R ≤ 360 := by omega
  have HS1 : Hid (∀ u, Below w.heap.size w u → SetOk u s) := hidp (fun u h => hs.keep (Keeps.of_below h))
  clear L1 R1 h6 hcl hm hg ho hs
  obtain ⟨proto, ca, cc, cores, hha, hc, homes, ta, tc, tasks⟩ := s
  dsimp only at hA ha hbl l3 hb sc H HE HV HS1 ⊢
  subst hA
  have dn : decide (tasks.length ≤ a) = false := by simp; omega
  have dm : decide (tasks.length ≤ b) = false := by simp; omega
  obtain ⟨x0, x1, x2, x3, x4, x5⟩ := Hta.out.keep (Keeps.of_below hb)
  obtain ⟨y0, y1, y2, y3, y4, y5⟩ := Htb.out.keep (Keeps.of_below hb)
  go_enter Tryz.func60, Tryz.ntmps60
  go_upto_region 1 with fail
  go_cut [7, 8] from 11 to 20 (fun x y wx => ∃ g1 g2 : Nat, x = .pointer (some ⟨g1, 0, none⟩) ∧ y = .pointer (some ⟨g2, 0, none⟩) ∧ TaskBox wx g1 t ∧ TaskBox wx g2 o ∧ SetCells wx w.heap.size ⟨proto, ca, cc, cores, hha, hc, homes, some ⟨g, off, none⟩, tc, tasks⟩ ∧ Below w.heap.size w wx)
  case first =>
    have hs : (w.alloc (.cells #[.int .i64 proto, .slice ca cores.length cc, .slice hha homes.length hc, .slice (some ⟨g, off, none⟩) tasks.length tc] 25)).drew.cell? ⟨g, off + a * 6, none⟩ = some (.string t.name) ∧ (w.alloc (.cells #[.int .i64 proto, .slice ca cores.length cc, .slice hha homes.length hc, .slice (some ⟨g, off, none⟩) tasks.length tc] 25)).drew.cell? ⟨g, off + a * 6 + 1, none⟩ = some (.int .i64 t.per) ∧ (w.alloc (.cells #[.int .i64 proto, .slice ca cores.length cc, .slice hha homes.length hc, .slice (some ⟨g, off, none⟩) tasks.length tc] 25)).drew.cell? ⟨g, off + a * 6 + 2, none⟩ = some (.int .i64 t.dl) ∧ (w.alloc (.cells #[.int .i64 proto, .slice ca cores.length cc, .slice hha homes.length hc, .slice (some ⟨g, off, none⟩) tasks.length tc] 25)).drew.cell? ⟨g, off + a * 6 + 3, none⟩ = some (.int .i64 t.prio) ∧ (w.alloc (.cells #[.int .i64 proto, .slice ca cores.length cc, .slice hha homes.length hc, .slice (some ⟨g, off, none⟩) tasks.length tc] 25)).drew.cell? ⟨g, off + a * 6 + 4, none⟩ = some (.int .i64 t.cl) ∧ (w.alloc (.cells #[.int .i64 proto, .slice ca cores.length cc, .slice hha homes.length hc, .slice (some ⟨g, off, none⟩) tasks.length tc] 25)).drew.cell? ⟨g, off + a * 6 + 5, none⟩ = some (.slice t.pa t.parts.length t.pc) ∧ (w.alloc (.cells #[.int .i64 proto, .slice ca cores.length cc, .slice hha homes.length hc, .slice (some ⟨g, off, none⟩) tasks.length tc] 25)).drew.cell? ⟨g, off + b * 6, none⟩ = some (.string o.name) ∧ (w.alloc (.cells #[.int .i64 proto, .slice ca cores.length cc, .slice hha homes.length hc, .slice (some ⟨g, off, none⟩) tasks.length tc] 25)).drew.cell? ⟨g, off + b * 6 + 1, none⟩ = some (.int .i64 o.per) ∧ (w.alloc (.cells #[.int .i64 proto, .slice ca cores.length cc, .slice hha homes.length hc, .slice (some ⟨g, off, none⟩) tasks.length tc] 25)).drew.cell? ⟨g, off + b * 6 + 2, none⟩ = some (.int .i64 o.dl) ∧ (w.alloc (.cells #[.int .i64 proto, .slice ca cores.length cc, .slice hha homes.length hc, .slice (some ⟨g, off, none⟩) tasks.length tc] 25)).drew.cell? ⟨g, off + b * 6 + 3, none⟩ = some (.int .i64 o.prio) ∧ (w.alloc (.cells #[.int .i64 proto, .slice ca cores.length cc, .slice hha homes.length hc, .slice (some ⟨g, off, none⟩) tasks.length tc] 25)).drew.cell? ⟨g, off + b * 6 + 4, none⟩ = some (.int .i64 o.cl) ∧ (w.alloc (.cells #[.int .i64 proto, .slice ca cores.length cc, .slice hha homes.length hc, .slice (some ⟨g, off, none⟩) tasks.length tc] 25)).drew.cell? ⟨g, off + b * 6 + 5, none⟩ = some (.slice o.pa o.parts.length o.pc) ∧ (w.alloc (.cells #[.int .i64 proto, .slice ca cores.length cc, .slice hha homes.length hc, .slice (some ⟨g, off, none⟩) tasks.length tc] 25)).drew.cell? ⟨w.heap.size, 0, none⟩ = some (.int .i64 proto) ∧ (w.alloc (.cells #[.int .i64 proto, .slice ca cores.length cc, .slice hha homes.length hc, .slice (some ⟨g, off, none⟩) tasks.length tc] 25)).drew.cell? ⟨w.heap.size, 1, none⟩ = some (.slice ca cores.length cc) ∧ (w.alloc (.cells #[.int .i64 proto, .slice ca cores.length cc, .slice hha homes.length hc, .slice (some ⟨g, off, none⟩) tasks.length tc] 25)).drew.cell? ⟨w.heap.size, 2, none⟩ = some (.slice hha homes.length hc) ∧ (w.alloc (.cells #[.int .i64 proto, .slice ca cores.length cc, .slice hha homes.length hc, .slice (some ⟨g, off, none⟩) tasks.length tc] 25)).drew.cell? ⟨w.heap.size, 3, none⟩ = some (.slice (some ⟨g, off, none⟩) tasks.length tc) := And.intro x0 (And.intro x1 (And.intro x2 (And.intro x3 (And.intro x4 (And.intro x5 (And.intro y0 (And.intro y1 (And.intro y2 (And.intro y3 (And.intro y4 (And.intro y5 sc)))))))))))
    have hK16 : ∀ u v : World, Keeps u v → (u.cell? ⟨g, off + a * 6, none⟩ = some (.string t.name) ∧ u.cell? ⟨g, off + a * 6 + 1, none⟩ = some (.int .i64 t.per) ∧ u.cell? ⟨g, off + a * 6 + 2, none⟩ = some (.int .i64 t.dl) ∧ u.cell? ⟨g, off + a * 6 + 3, none⟩ = some (.int .i64 t.prio) ∧ u.cell? ⟨g, off + a * 6 + 4, none⟩ = some (.int .i64 t.cl) ∧ u.cell? ⟨g, off + a * 6 + 5, none⟩ = some (.slice t.pa t.parts.length t.pc) ∧ u.cell? ⟨g, off + b * 6, none⟩ = some (.string o.name) ∧ u.cell? ⟨g, off + b * 6 + 1, none⟩ = some (.int .i64 o.per) ∧ u.cell? ⟨g, off + b * 6 + 2, none⟩ = some (.int .i64 o.dl) ∧ u.cell? ⟨g, off + b * 6 + 3, none⟩ = some (.int .i64 o.prio) ∧ u.cell? ⟨g, off + b * 6 + 4, none⟩ = some (.int .i64 o.cl) ∧ u.cell? ⟨g, off + b * 6 + 5, none⟩ = some (.slice o.pa o.parts.length o.pc) ∧ u.cell? ⟨w.heap.size, 0, none⟩ = some (.int .i64 proto) ∧ u.cell? ⟨w.heap.size, 1, none⟩ = some (.slice ca cores.length cc) ∧ u.cell? ⟨w.heap.size, 2, none⟩ = some (.slice hha homes.length hc) ∧ u.cell? ⟨w.heap.size, 3, none⟩ = some (.slice (some ⟨g, off, none⟩) tasks.length tc)) → (v.cell? ⟨g, off + a * 6, none⟩ = some (.string t.name) ∧ v.cell? ⟨g, off + a * 6 + 1, none⟩ = some (.int .i64 t.per) ∧ v.cell? ⟨g, off + a * 6 + 2, none⟩ = some (.int .i64 t.dl) ∧ v.cell? ⟨g, off + a * 6 + 3, none⟩ = some (.int .i64 t.prio) ∧ v.cell? ⟨g, off + a * 6 + 4, none⟩ = some (.int .i64 t.cl) ∧ v.cell? ⟨g, off + a * 6 + 5, none⟩ = some (.slice t.pa t.parts.length t.pc) ∧ v.cell? ⟨g, off + b * 6, none⟩ = some (.string o.name) ∧ v.cell? ⟨g, off + b * 6 + 1, none⟩ = some (.int .i64 o.per) ∧ v.cell? ⟨g, off + b * 6 + 2, none⟩ = some (.int .i64 o.dl) ∧ v.cell? ⟨g, off + b * 6 + 3, none⟩ = some (.int .i64 o.prio) ∧ v.cell? ⟨g, off + b * 6 + 4, none⟩ = some (.int .i64 o.cl) ∧ v.cell? ⟨g, off + b * 6 + 5, none⟩ = some (.slice o.pa o.parts.length o.pc) ∧ v.cell? ⟨w.heap.size, 0, none⟩ = some (.int .i64 proto) ∧ v.cell? ⟨w.heap.size, 1, none⟩ = some (.slice ca cores.length cc) ∧ v.cell? ⟨w.heap.size, 2, none⟩ = some (.slice hha homes.length hc) ∧ v.cell? ⟨w.heap.size, 3, none⟩ = some (.slice (some ⟨g, off, none⟩) tasks.length tc)) := fun u v k h => And.intro (k _ _ h.1) (And.intro (k _ _ h.2.1) (And.intro (k _ _ h.2.2.1) (And.intro (k _ _ h.2.2.2.1) (And.intro (k _ _ h.2.2.2.2.1) (And.intro (k _ _ h.2.2.2.2.2.1) (And.intro (k _ _ h.2.2.2.2.2.2.1) (And.intro (k _ _ h.2.2.2.2.2.2.2.1) (And.intro (k _ _ h.2.2.2.2.2.2.2.2.1) (And.intro (k _ _ h.2.2.2.2.2.2.2.2.2.1) (And.intro (k _ _ h.2.2.2.2.2.2.2.2.2.2.1) (And.intro (k _ _ h.2.2.2.2.2.2.2.2.2.2.2.1) (And.intro (k _ _ h.2.2.2.2.2.2.2.2.2.2.2.2.1) (And.intro (k _ _ h.2.2.2.2.2.2.2.2.2.2.2.2.2.1) (And.intro (k _ _ h.2.2.2.2.2.2.2.2.2.2.2.2.2.2.1) (k _ _ h.2.2.2.2.2.2.2.2.2.2.2.2.2.2.2)))))))))))))))
    have HK := hidp hK16
    replace hb := hb.drew
    replace sc := sc.keep (Keeps.drew _)
    clear x0 x1 x2 x3 x4 x5 y0 y1 y2 y3 y4 y5 hK16 H
    refine wp_region_held_drew (S := fun w' => w'.cell? ⟨g, off + a * 6, none⟩ = some (.string t.name) ∧ w'.cell? ⟨g, off + a * 6 + 1, none⟩ = some (.int .i64 t.per) ∧ w'.cell? ⟨g, off + a * 6 + 2, none⟩ = some (.int .i64 t.dl) ∧ w'.cell? ⟨g, off + a * 6 + 3, none⟩ = some (.int .i64 t.prio) ∧ w'.cell? ⟨g, off + a * 6 + 4, none⟩ = some (.int .i64 t.cl) ∧ w'.cell? ⟨g, off + a * 6 + 5, none⟩ = some (.slice t.pa t.parts.length t.pc) ∧ w'.cell? ⟨g, off + b * 6, none⟩ = some (.string o.name) ∧ w'.cell? ⟨g, off + b * 6 + 1, none⟩ = some (.int .i64 o.per) ∧ w'.cell? ⟨g, off + b * 6 + 2, none⟩ = some (.int .i64 o.dl) ∧ w'.cell? ⟨g, off + b * 6 + 3, none⟩ = some (.int .i64 o.prio) ∧ w'.cell? ⟨g, off + b * 6 + 4, none⟩ = some (.int .i64 o.cl) ∧ w'.cell? ⟨g, off + b * 6 + 5, none⟩ = some (.slice o.pa o.parts.length o.pc) ∧ w'.cell? ⟨w.heap.size, 0, none⟩ = some (.int .i64 proto) ∧ w'.cell? ⟨w.heap.size, 1, none⟩ = some (.slice ca cores.length cc) ∧ w'.cell? ⟨w.heap.size, 2, none⟩ = some (.slice hha homes.length hc) ∧ w'.cell? ⟨w.heap.size, 3, none⟩ = some (.slice (some ⟨g, off, none⟩) tasks.length tc)) (by kernel_rfl) ?_ (fun hHeld => ?_)
    · exact hs
    generalize (w.alloc (.cells #[.int .i64 proto, .slice ca cores.length cc, .slice hha homes.length hc, .slice (some ⟨g, off, none⟩) tasks.length tc] 25)).drew = u1 at *
    refine wpAnyH_take (i := 0) (v := ?_) rfl (by kernel_rfl) (by kernel_rfl) (by kernel_rfl) (fun _ _ _ h => h) (Or.inl ⟨by rfl, ?_⟩) (by assumption) ?_
    rotate_left 1
    · ((intro w hSw; (try dsimp only at hSw); go_simp); (try with_reducible rfl))
    simp only [Act.put, List.setIfInBounds_toArray, List.set_cons_zero, List.set_cons_succ, List.getElem_toArray, List.getElem_cons_zero, List.getElem_cons_succ]
    refine wpAnyH_take (i := 1) (v := ?_) rfl (by kernel_rfl) (by kernel_rfl) (by kernel_rfl) (fun _ _ _ h => h) (Or.inl ⟨by rfl, ?_⟩) (by assumption) ?_
    rotate_left 1
    · ((intro w hSw; (try dsimp only at hSw); go_simp); (try with_reducible rfl))
    simp only [Act.put, List.setIfInBounds_toArray, List.set_cons_zero, List.set_cons_succ, List.getElem_toArray, List.getElem_cons_zero, List.getElem_cons_succ]
    refine wpAnyH_take (i := 2) (v := ?_) rfl (by kernel_rfl) (by kernel_rfl) (by kernel_rfl) (fun _ _ _ h => h) (Or.inl ⟨by rfl, ?_⟩) (by assumption) ?_
    rotate_left 1
    · ((intro w hSw; (try dsimp only at hSw); go_simp); (try with_reducible rfl))
    simp only [Act.put, List.setIfInBounds_toArray, List.set_cons_zero, List.set_cons_succ, List.getElem_toArray, List.getElem_cons_zero, List.getElem_cons_succ]
    refine wpAnyH_take (i := 3) (v := ?_) rfl (by kernel_rfl) (by kernel_rfl) (by kernel_rfl) (fun _ _ _ h => h) (Or.inl ⟨by rfl, ?_⟩) (by assumption) ?_
    rotate_left 1
    · ((intro w hSw; (try dsimp only at hSw); go_simp); (try with_reducible rfl))
    simp only [Act.put, List.setIfInBounds_toArray, List.set_cons_zero, List.set_cons_succ, List.getElem_toArray, List.getElem_cons_zero, List.getElem_cons_succ]
    refine wpAnyH_take (i := 4) (v := ?_) rfl (by kernel_rfl) (by kernel_rfl) (by kernel_rfl) (fun _ _ _ h => h) (Or.inl ⟨by rfl, ?_⟩) (by assumption) ?_
    rotate_left 1
    · ((intro w hSw; (try dsimp only at hSw); go_simp); (try with_reducible rfl))
    simp only [Act.put, List.setIfInBounds_toArray, List.set_cons_zero, List.set_cons_succ, List.getElem_toArray, List.getElem_cons_zero, List.getElem_cons_succ]
    refine wpAnyH_take (i := 5) (v := ?_) rfl (by kernel_rfl) (by kernel_rfl) (by kernel_rfl) (fun _ _ _ h => h) (Or.inl ⟨by rfl, ?_⟩) (by assumption) ?_
    rotate_left 1
    · ((intro w hSw; (try dsimp only at hSw); go_simp); (try with_reducible rfl))
    simp only [Act.put, List.setIfInBounds_toArray, List.set_cons_zero, List.set_cons_succ, List.getElem_toArray, List.getElem_cons_zero, List.getElem_cons_succ]
    refine wpAnyH_take (i := 6) (v := ?_) rfl (by kernel_rfl) (by kernel_rfl) (by kernel_rfl) (fun _ _ _ h => h) (Or.inl ⟨by rfl, ?_⟩) (by assumption) ?_
    rotate_left 1
    · ((intro w hSw; (try dsimp only at hSw); go_simp); (try with_reducible rfl))
    simp only [Act.put, List.setIfInBounds_toArray, List.set_cons_zero, List.set_cons_succ, List.getElem_toArray, List.getElem_cons_zero, List.getElem_cons_succ]
    refine wpAnyH_take (i := 7) (v := ?_) rfl (by kernel_rfl) (by kernel_rfl) (by kernel_rfl) (fun _ _ _ h => h) (Or.inl ⟨by rfl, ?_⟩) (by assumption) ?_
    rotate_left 1
    · ((intro w hSw; (try dsimp only at hSw); go_simp); (try with_reducible rfl))
    simp only [Act.put, List.setIfInBounds_toArray, List.set_cons_zero, List.set_cons_succ, List.getElem_toArray, List.getElem_cons_zero, List.getElem_cons_succ]
    refine wpAnyH_take (i := 8) (v := ?_) rfl (by kernel_rfl) (by kernel_rfl) (by kernel_rfl) (fun _ _ _ h => h) (Or.inl ⟨by rfl, ?_⟩) (by assumption) ?_
    rotate_left 1
    · ((intro w hSw; (try dsimp only at hSw); go_simp); (try with_reducible rfl))
    simp only [Act.put, List.setIfInBounds_toArray, List.set_cons_zero, List.set_cons_succ, List.getElem_toArray, List.getElem_cons_zero, List.getElem_cons_succ]
    refine wpAnyH_take (i := 9) (v := ?_) rfl (by kernel_rfl) (by kernel_rfl) (by kernel_rfl) (fun _ _ _ h => h) (Or.inl ⟨by rfl, ?_⟩) (by assumption) ?_
    rotate_left 1
    · ((intro w hSw; (try dsimp only at hSw); go_simp); (try with_reducible rfl))
    simp only [Act.put, List.setIfInBounds_toArray, List.set_cons_zero, List.set_cons_succ, List.getElem_toArray, List.getElem_cons_zero, List.getElem_cons_succ]
    refine wpAnyH_ready (rs := [10, 11]) (by kernel_rfl) (by simp) ?_
    refine AllReadyH.cons rfl (fun K hK => ?_) (AllReadyH.cons rfl (fun K hK => ?_) AllReadyH.nil)
    · go_simp
      refine hK.out _ _ ?_ (fun hHeld => ?_)
      · exact HK.out _ _ (Keeps.alloc u1 (.cells #[.string ⟨#[]⟩, .int .i64 0, .int .i64 0, .int .i64 0, .int .i64 0, .slice none 0 0] 44)) hs
      clear hK K
      try simp only [Act.put, List.setIfInBounds_toArray, List.set_cons_zero, List.set_cons_succ, List.getElem_toArray, List.getElem_cons_zero, List.getElem_cons_succ]
      refine wpAnyH_ready (rs := [11]) (by kernel_rfl) (by simp) ?_
      refine AllReadyH.cons rfl (fun K hK => ?_) AllReadyH.nil
      go_simp
      refine hK.out _ _ ?_ (fun hHeld => ?_)
      · exact HK.out _ _ ((Keeps.alloc u1 (.cells #[.string ⟨#[]⟩, .int .i64 0, .int .i64 0, .int .i64 0, .int .i64 0, .slice none 0 0] 44)).trans (Keeps.alloc _ (.cells #[.string ⟨#[]⟩, .int .i64 0, .int .i64 0, .int .i64 0, .int .i64 0, .slice none 0 0] 44))) hs
      clear hK K
      try simp only [Act.put, List.setIfInBounds_toArray, List.set_cons_zero, List.set_cons_succ, List.getElem_toArray, List.getElem_cons_zero, List.getElem_cons_succ]
      refine wpAnyH_ready (rs := [12]) (by kernel_rfl) (by simp) ?_
      refine AllReadyH.cons rfl (fun K hK => ?_) AllReadyH.nil
      go_simp
      refine hK.out _ _ ?_ (fun hHeld => ?_)
      · exact HK.out _ _ ((Keeps.alloc u1 (.cells #[.string t.name, .int .i64 t.per, .int .i64 t.dl, .int .i64 t.prio, .int .i64 t.cl, .slice t.pa t.parts.length t.pc] 44)).trans (Keeps.alloc _ (.cells #[.string ⟨#[]⟩, .int .i64 0, .int .i64 0, .int .i64 0, .int .i64 0, .slice none 0 0] 44))) hs
      clear hK K
      try simp only [Act.put, List.setIfInBounds_toArray, List.set_cons_zero, List.set_cons_succ, List.getElem_toArray, List.getElem_cons_zero, List.getElem_cons_succ]
      refine wpAnyH_ready (rs := [13]) (by kernel_rfl) (by simp) ?_
      refine AllReadyH.cons rfl (fun K hK => ?_) AllReadyH.nil
      go_simp
      refine hK.out _ _ ?_ (fun hHeld => ?_)
      · exact HK.out _ _ ((Keeps.alloc u1 (.cells #[.string t.name, .int .i64 t.per, .int .i64 t.dl, .int .i64 t.prio, .int .i64 t.cl, .slice t.pa t.parts.length t.pc] 44)).trans (Keeps.alloc _ (.cells #[.string o.name, .int .i64 o.per, .int .i64 o.dl, .int .i64 o.prio, .int .i64 o.cl, .slice o.pa o.parts.length o.pc] 44))) hs
      clear hK K
      try simp only [Act.put, List.setIfInBounds_toArray, List.set_cons_zero, List.set_cons_succ, List.getElem_toArray, List.getElem_cons_zero, List.getElem_cons_succ]
      refine wpAnyH_done (by kernel_rfl) ?_ _
      clear hHeld
      go_wp2_with fail
      go_meet
      have tb0 := TaskBox.new u1 t 44
      have tb1 := TaskBox.new (u1.alloc (.cells #[.string t.name, .int .i64 t.per, .int .i64 t.dl, .int .i64 t.prio, .int .i64 t.cl, .slice t.pa t.parts.length t.pc] 44)) o 44
      rw [show (u1.alloc (.cells #[.string t.name, .int .i64 t.per, .int .i64 t.dl, .int .i64 t.prio, .int .i64 t.cl, .slice t.pa t.parts.length t.pc] 44)).heap.size = u1.heap.size + 1 by simp] at tb1
      have tb2 := tb0.keep (Keeps.alloc _ (.cells #[.string o.name, .int .i64 o.per, .int .i64 o.dl, .int .i64 o.prio, .int .i64 o.cl, .slice o.pa o.parts.length o.pc] 44))
      exact ⟨_, _, rfl, rfl, tb2, tb1, (sc.keep (Keeps.alloc u1 (.cells #[.string t.name, .int .i64 t.per, .int .i64 t.dl, .int .i64 t.prio, .int .i64 t.cl, .slice t.pa t.parts.length t.pc] 44))).keep (Keeps.alloc _ (.cells #[.string o.name, .int .i64 o.per, .int .i64 o.dl, .int .i64 o.prio, .int .i64 o.cl, .slice o.pa o.parts.length o.pc] 44)), (hb.alloc hb.size (.cells #[.string t.name, .int .i64 t.per, .int .i64 t.dl, .int .i64 t.prio, .int .i64 t.cl, .slice t.pa t.parts.length t.pc] 44)).alloc (hb.alloc hb.size (.cells #[.string t.name, .int .i64 t.per, .int .i64 t.dl, .int .i64 t.prio, .int .i64 t.cl, .slice t.pa t.parts.length t.pc] 44)).size (.cells #[.string o.name, .int .i64 o.per, .int .i64 o.dl, .int .i64 o.prio, .int .i64 o.cl, .slice o.pa o.parts.length o.pc] 44)⟩
    · go_simp
      refine hK.out _ _ ?_ (fun hHeld => ?_)
      · exact HK.out _ _ (Keeps.alloc u1 (.cells #[.string ⟨#[]⟩, .int .i64 0, .int .i64 0, .int .i64 0, .int .i64 0, .slice none 0 0] 44)) hs
      clear hK K
      try simp only [Act.put, List.setIfInBounds_toArray, List.set_cons_zero, List.set_cons_succ, List.getElem_toArray, List.getElem_cons_zero, List.getElem_cons_succ]
      refine wpAnyH_ready (rs := [10]) (by kernel_rfl) (by simp) ?_
      refine AllReadyH.cons rfl (fun K hK => ?_) AllReadyH.nil
      go_simp
      refine hK.out _ _ ?_ (fun hHeld => ?_)
      · exact HK.out _ _ ((Keeps.alloc u1 (.cells #[.string ⟨#[]⟩, .int .i64 0, .int .i64 0, .int .i64 0, .int .i64 0, .slice none 0 0] 44)).trans (Keeps.alloc _ (.cells #[.string ⟨#[]⟩, .int .i64 0, .int .i64 0, .int .i64 0, .int .i64 0, .slice none 0 0] 44))) hs
      clear hK K
      try simp only [Act.put, List.setIfInBounds_toArray, List.set_cons_zero, List.set_cons_succ, List.getElem_toArray, List.getElem_cons_zero, List.getElem_cons_succ]
      refine wpAnyH_ready (rs := [12]) (by kernel_rfl) (by simp) ?_
      refine AllReadyH.cons rfl (fun K hK => ?_) AllReadyH.nil
      go_simp
      refine hK.out _ _ ?_ (fun hHeld => ?_)
      · exact HK.out _ _ ((Keeps.alloc u1 (.cells #[.string ⟨#[]⟩, .int .i64 0, .int .i64 0, .int .i64 0, .int .i64 0, .slice none 0 0] 44)).trans (Keeps.alloc _ (.cells #[.string t.name, .int .i64 t.per, .int .i64 t.dl, .int .i64 t.prio, .int .i64 t.cl, .slice t.pa t.parts.length t.pc] 44))) hs
      clear hK K
      try simp only [Act.put, List.setIfInBounds_toArray, List.set_cons_zero, List.set_cons_succ, List.getElem_toArray, List.getElem_cons_zero, List.getElem_cons_succ]
      refine wpAnyH_ready (rs := [13]) (by kernel_rfl) (by simp) ?_
      refine AllReadyH.cons rfl (fun K hK => ?_) AllReadyH.nil
      go_simp
      refine hK.out _ _ ?_ (fun hHeld => ?_)
      · exact HK.out _ _ ((Keeps.alloc u1 (.cells #[.string o.name, .int .i64 o.per, .int .i64 o.dl, .int .i64 o.prio, .int .i64 o.cl, .slice o.pa o.parts.length o.pc] 44)).trans (Keeps.alloc _ (.cells #[.string t.name, .int .i64 t.per, .int .i64 t.dl, .int .i64 t.prio, .int .i64 t.cl, .slice t.pa t.parts.length t.pc] 44))) hs
      clear hK K
      try simp only [Act.put, List.setIfInBounds_toArray, List.set_cons_zero, List.set_cons_succ, List.getElem_toArray, List.getElem_cons_zero, List.getElem_cons_succ]
      refine wpAnyH_done (by kernel_rfl) ?_ _
      clear hHeld
      go_wp2_with fail
      go_meet
      have tb0 := TaskBox.new u1 o 44
      have tb1 := TaskBox.new (u1.alloc (.cells #[.string o.name, .int .i64 o.per, .int .i64 o.dl, .int .i64 o.prio, .int .i64 o.cl, .slice o.pa o.parts.length o.pc] 44)) t 44
      rw [show (u1.alloc (.cells #[.string o.name, .int .i64 o.per, .int .i64 o.dl, .int .i64 o.prio, .int .i64 o.cl, .slice o.pa o.parts.length o.pc] 44)).heap.size = u1.heap.size + 1 by simp] at tb1
      have tb2 := tb0.keep (Keeps.alloc _ (.cells #[.string t.name, .int .i64 t.per, .int .i64 t.dl, .int .i64 t.prio, .int .i64 t.cl, .slice t.pa t.parts.length t.pc] 44))
      exact ⟨_, _, rfl, rfl, tb1, tb2, (sc.keep (Keeps.alloc u1 (.cells #[.string o.name, .int .i64 o.per, .int .i64 o.dl, .int .i64 o.prio, .int .i64 o.cl, .slice o.pa o.parts.length o.pc] 44))).keep (Keeps.alloc _ (.cells #[.string t.name, .int .i64 t.per, .int .i64 t.dl, .int .i64 t.prio, .int .i64 t.cl, .slice t.pa t.parts.length t.pc] 44)), (hb.alloc hb.size (.cells #[.string o.name, .int .i64 o.per, .int .i64 o.dl, .int .i64 o.prio, .int .i64 o.cl, .slice o.pa o.parts.length o.pc] 44)).alloc (hb.alloc hb.size (.cells #[.string o.name, .int .i64 o.per, .int .i64 o.dl, .int .i64 o.prio, .int .i64 o.cl, .slice o.pa o.parts.length o.pc] 44)).size (.cells #[.string t.name, .int .i64 t.per, .int .i64 t.dl, .int .i64 t.prio, .int .i64 t.cl, .slice t.pa t.parts.length t.pc] 44)⟩
  case rest =>
    obtain ⟨g1, g2, rfl, rfl, tb, ob, sc, hb⟩ := hcut
    clear x0 x1 x2 x3 x4 x5 y0 y1 y2 y3 y4 y5
    obtain ⟨sc_0, sc_1, sc_2, sc_3⟩ := id sc
    dsimp only at sc_0 sc_1 sc_2 sc_3
    obtain ⟨d0, d1, d2, d3, d4, d5⟩ := id tb
    obtain ⟨f0, f1, f2, f3, f4, f5⟩ := id ob
    have HEV := HE.out
    by_cases p2 : proto = 2
    · have q2 : (proto == 2) = true := by simpa using p2
      rw [if_pos p2] at HEV
      have HAt := at_any ⟨proto, ca, cc, cores, hha, hc, homes, some ⟨g, off, none⟩, tc, tasks⟩ a o.cl wc (HS1.out _ hb)
      rw [HV.out] at HAt
      by_cases c1 : t.cl = o.cl
      · by_cases c2 : t.prio < o.prio
        · rw [if_pos ⟨c1, c2⟩] at HEV
          have Hv := hidp HEV
          have e1 : (t.cl == o.cl) = true := by simpa using c1
          clear p2 c1 HEV
          go_wp2_with fail
          refine HAt.mono ?_
          rintro e w2 ⟨rfl, hb2⟩
          replace hb := hb.trans (hb2.mono hb.size)
          replace tb := tb.keep (Keeps.of_below hb2)
          replace ob := ob.keep (Keeps.of_below hb2)
          clear hb2 d0 d1 d2 d3 d4 d5 f0 f1 f2 f3 f4 f5 sc_0 sc_1 sc_2 sc_3
          obtain ⟨d0, d1, d2, d3, d4, d5⟩ := id tb
          obtain ⟨f0, f1, f2, f3, f4, f5⟩ := id ob
          go_wp2_with fail
          refine (runs_any t _ (TL.out.keep (Keeps.of_below hb))).mono ?_
          rintro e w3 ⟨rfl, hb2⟩
          rw [HR.out]
          replace hb := hb.trans (hb2.mono hb.size)
          go_wp2
          go_ret
          exact ⟨ret_int Hv.out.symm, hb⟩
        · rw [if_neg (fun h => c2 h.2), Int.add_zero] at HEV
          have Hv := hidp HEV
          have e1 : (t.cl == o.cl) = true := by simpa using c1
          clear p2 c1 HEV
          go_wp2_with fail
          refine HAt.mono ?_
          rintro e w2 ⟨rfl, hb2⟩
          replace hb := hb.trans (hb2.mono hb.size)
          replace tb := tb.keep (Keeps.of_below hb2)
          replace ob := ob.keep (Keeps.of_below hb2)
          clear hb2 d0 d1 d2 d3 d4 d5 f0 f1 f2 f3 f4 f5 sc_0 sc_1 sc_2 sc_3
          obtain ⟨d0, d1, d2, d3, d4, d5⟩ := id tb
          obtain ⟨f0, f1, f2, f3, f4, f5⟩ := id ob
          go_wp2
          go_ret
          exact ⟨ret_int Hv.out.symm, hb⟩
      · rw [if_neg (fun h => c1 h.1), Int.add_zero] at HEV
        have Hv := hidp HEV
        have e1 : (t.cl == o.cl) = false := by simpa using c1
        clear p2 c1 HEV
        go_wp2_with fail
        refine HAt.mono ?_
        rintro e w2 ⟨rfl, hb2⟩
        replace hb := hb.trans (hb2.mono hb.size)
        replace tb := tb.keep (Keeps.of_below hb2)
        replace ob := ob.keep (Keeps.of_below hb2)
        clear hb2 d0 d1 d2 d3 d4 d5 f0 f1 f2 f3 f4 f5 sc_0 sc_1 sc_2 sc_3
        obtain ⟨d0, d1, d2, d3, d4, d5⟩ := id tb
        obtain ⟨f0, f1, f2, f3, f4, f5⟩ := id ob
        go_wp2
        go_ret
        exact ⟨ret_int Hv.out.symm, hb⟩
    · have q2 : (proto == 2) = false := by simpa using p2
      rw [if_neg p2] at HEV
      by_cases c1 : t.cl = o.cl
      · rw [if_pos c1] at HEV
        by_cases c2 : t.prio < o.prio
        · rw [if_pos ⟨c1, c2⟩] at HEV
          have Hv := hidp HEV
          have e1 : (t.cl == o.cl) = true := by simpa using c1
          clear p2 c1 HEV
          go_wp2_with fail
          refine (locks_any t _ (TL.out.keep (Keeps.of_below hb))).mono ?_
          rintro e w2 ⟨rfl, hb2⟩
          rw [HL.out]
          replace hb := hb.trans (hb2.mono hb.size)
          replace tb := tb.keep (Keeps.of_below hb2)
          replace ob := ob.keep (Keeps.of_below hb2)
          clear hb2 d0 d1 d2 d3 d4 d5 f0 f1 f2 f3 f4 f5 sc_0 sc_1 sc_2 sc_3
          obtain ⟨d0, d1, d2, d3, d4, d5⟩ := id tb
          obtain ⟨f0, f1, f2, f3, f4, f5⟩ := id ob
          go_wp2_with fail
          refine (runs_any t _ (TL.out.keep (Keeps.of_below hb))).mono ?_
          rintro e w3 ⟨rfl, hb2⟩
          rw [HR.out]
          replace hb := hb.trans (hb2.mono hb.size)
          go_wp2
          go_ret
          exact ⟨ret_int Hv.out.symm, hb⟩
        · rw [if_neg (fun h => c2 h.2), Int.add_zero] at HEV
          have Hv := hidp HEV
          have e1 : (t.cl == o.cl) = true := by simpa using c1
          clear p2 c1 HEV
          go_wp2_with fail
          refine (locks_any t _ (TL.out.keep (Keeps.of_below hb))).mono ?_
          rintro e w2 ⟨rfl, hb2⟩
          rw [HL.out]
          replace hb := hb.trans (hb2.mono hb.size)
          replace tb := tb.keep (Keeps.of_below hb2)
          replace ob := ob.keep (Keeps.of_below hb2)
          clear hb2 d0 d1 d2 d3 d4 d5 f0 f1 f2 f3 f4 f5 sc_0 sc_1 sc_2 sc_3
          obtain ⟨d0, d1, d2, d3, d4, d5⟩ := id tb
          obtain ⟨f0, f1, f2, f3, f4, f5⟩ := id ob
          go_wp2
          go_ret
          exact ⟨ret_int Hv.out.symm, hb⟩
      · rw [if_neg c1, if_neg (fun h => c1 h.1), Int.add_zero] at HEV
        have Hv := hidp HEV
        have e1 : (t.cl == o.cl) = false := by simpa using c1
        clear p2 c1 HEV
        go_wp2
        go_ret
        exact ⟨ret_int Hv.out.symm, hb⟩
end Go.Proofs.YtlbaohefappfoaaGreat
