/- text.taskLine. -/
import Derived.Test.YtggidlmehimcjaaDoorTxt9
import Derived.Test.YtggidlmehimcjaaDoorLit
namespace Go.Proofs.YtggidlmehimcjaaDoor
open Go.ChangeShapes Go.WideShapes Go.ChangeAt Go.RowKit
set_option linter.unusedVariables false
set_option linter.unusedSimpArgs false
def TaskR.rd (t : TaskR) : TaskT := ⟨bl t.name, t.per, t.dl, t.prio, t.cl, t.parts.map PartM.t⟩
theorem numsW_len (h : Bts) (l : List Int) : (numsW h l).length ≤ (l.length + 1) * (h.length + 8) := by
  unfold numsW
  refine Nat.le_trans (joinT_len (m := h.length + 7) (fun w hw => ?_)) (by simp)
  rcases List.mem_cons.1 hw with rfl | hw
  · omega
  · obtain ⟨n, _, rfl⟩ := List.mem_map.1 hw
    have := textL_len n
    omega
theorem partW_len (p : PartT) : (partW p).length ≤ 21 := by
  have h1 := textL_len p.len
  have h2 := textL_len p.res
  unfold partW tRun tSleep tLock
  split
  · simp; omega
  · split
    · simp; omega
    · simp; omega
theorem taskW_len (t : TaskT) : (taskW t).length ≤ (t.parts.length + 1) * (5 * (t.name.length + 13) + 22) := by
  unfold taskW
  refine Nat.le_trans (joinT_len (m := 5 * (t.name.length + 13) + 21) (fun w hw => ?_)) (by simp)
  rcases List.mem_cons.1 hw with rfl | hw
  · have := numsW_len ([116, 97, 115, 107, 32] ++ t.name) [t.per, t.dl, t.prio, t.cl]
    simp at this ⊢
    omega
  · obtain ⟨p, _, rfl⟩ := List.mem_map.1 hw
    have := partW_len p
    omega
set_option maxHeartbeats 8000000 in
theorem taskLine_any (t : TaskR) (w : World) (hk : TaskOk w t) (hn : t.name.size ≤ 100) (hl : t.parts.length ≤ 100) (ht : Tab w) : Calls Tryd.prog 18 #[.agg #[.string t.name, .int .i64 t.per, .int .i64 t.dl, .int .i64 t.prio, .int .i64 t.cl, .slice t.pa t.parts.length t.pc]] w (StrPost w (taskW t.rd)) := by
  obtain ⟨nm, per, dl, prio, cl, pa, pc, ps⟩ := t
  obtain ⟨_, k1, k2, k3, k4, ksl, kat, kwf⟩ := hk
  dsimp only at hn hl k1 k2 k3 k4 ksl kat kwf ⊢
  obtain ⟨i0, hi0, hy0, hy1, hy2⟩ := info_parts infoStr
  have HT : Hid (∀ u, Below w.heap.size w u → Tab u) := hidp (fun u hu => ht.over hu)
  obtain ⟨N, hN⟩ : ∃ N, ps.length = N := ⟨_, rfl⟩
  have HN := hidp hN
  rw [hN] at hl ⊢
  have hb0 := (Below.refl w.heap.size w).alloc (Nat.le_refl _) (.cells #[.string nm, .int .i64 per, .int .i64 dl, .int .i64 prio, .int .i64 cl, .slice pa N pc] 45)
  have B0 := Bk.new w 45 #[.string nm, .int .i64 per, .int .i64 dl, .int .i64 prio, .int .i64 cl, .slice pa N pc]
  have hb1 := hb0.alloc hb0.size (.cells #[.int .i64 per, .int .i64 dl, .int .i64 prio, .int .i64 cl] 3)
  have hI : IntsOk ((w.alloc (.cells #[.string nm, .int .i64 per, .int .i64 dl, .int .i64 prio, .int .i64 cl, .slice pa N pc] 45)).alloc (.cells #[.int .i64 per, .int .i64 dl, .int .i64 prio, .int .i64 cl] 3)) (some ⟨w.heap.size + 1, 0, none⟩) 4 [per, dl, prio, cl] := lit_ints (g := w.heap.size + 1) (zs := [per, dl, prio, cl]) (by simp) rfl (by simp [k1, k2, k3, k4]) (show 4 ≤ maxLen by decide)
  have hsz : ((⟨#[116, 97, 115, 107, 32]⟩ : ByteArray) ++ nm).size ≤ 105 := by rw [ByteArray.size_append]; show 5 + nm.size ≤ _; omega
  have CN := hidp (nline_any (⟨#[116, 97, 115, 107, 32]⟩ ++ nm) (some ⟨w.heap.size + 1, 0, none⟩) 4 [per, dl, prio, cl] _ hI (show 4 ≤ 100 by decide) (by omega) (HT.out _ hb1))
  have B1 := hidp (B0.alloc (.cells #[.int .i64 per, .int .i64 dl, .int .i64 prio, .int .i64 cl] 3))
  have HB1 := hidp hb1
  have HNL : Hid ((numsW (bl ((⟨#[116, 97, 115, 107, 32]⟩ : ByteArray) ++ nm)) [per, dl, prio, cl]).length ≤ 1000) := hidp (by
    refine Nat.le_trans (numsW_len _ _) ?_
    rw [bl_len]
    show (4 + 1) * (_ + 8) ≤ _
    omega)
  have HW : Hid (numsW (bl ((⟨#[116, 97, 115, 107, 32]⟩ : ByteArray) ++ nm)) [per, dl, prio, cl] = numsW ([116, 97, 115, 107, 32] ++ bl nm) [per, dl, prio, cl]) := hidp (by rw [bl_append]; rfl)
  have HK := hidp kat
  have HWF := hidp kwf
  have t1 : ¬ 9223372036854775807 < 5 + nm.size := by omega
  obtain ⟨z0, z1, z2, z3, z4, z5⟩ : (w.alloc (.cells #[.string nm, .int .i64 per, .int .i64 dl, .int .i64 prio, .int .i64 cl, .slice pa N pc] 45)).cell? ⟨w.heap.size, 0, none⟩ = some (.string nm) ∧ (w.alloc (.cells #[.string nm, .int .i64 per, .int .i64 dl, .int .i64 prio, .int .i64 cl, .slice pa N pc] 45)).cell? ⟨w.heap.size, 1, none⟩ = some (.int .i64 per) ∧ (w.alloc (.cells #[.string nm, .int .i64 per, .int .i64 dl, .int .i64 prio, .int .i64 cl, .slice pa N pc] 45)).cell? ⟨w.heap.size, 2, none⟩ = some (.int .i64 dl) ∧ (w.alloc (.cells #[.string nm, .int .i64 per, .int .i64 dl, .int .i64 prio, .int .i64 cl, .slice pa N pc] 45)).cell? ⟨w.heap.size, 3, none⟩ = some (.int .i64 prio) ∧ (w.alloc (.cells #[.string nm, .int .i64 per, .int .i64 dl, .int .i64 prio, .int .i64 cl, .slice pa N pc] 45)).cell? ⟨w.heap.size, 4, none⟩ = some (.int .i64 cl) ∧ (w.alloc (.cells #[.string nm, .int .i64 per, .int .i64 dl, .int .i64 prio, .int .i64 cl, .slice pa N pc] 45)).cell? ⟨w.heap.size, 5, none⟩ = some (.slice pa N pc) := ⟨B0.cell 0, B0.cell 1, B0.cell 2, B0.cell 3, B0.cell 4, B0.cell 5⟩
  clear hb0 hb1 hI B0 ht hN ksl kat kwf k1 k2 k3 k4 hsz
  go_enter Tryd.func18, Tryd.ntmps18
  go_wp2_with fail
  refine CN.out.mono ?_
  rintro e w1 ⟨r1, rfl, hv1, hbw⟩
  have HV1 : Hid (bl r1 = numsW ([116, 97, 115, 107, 32] ++ bl nm) [per, dl, prio, cl]) := hidp (hv1.trans HW.out)
  have HS1 : Hid (r1.size ≤ 1000) := hidp (by rw [← bl_len, hv1]; exact HNL.out)
  have c5 : w1.cell? ⟨w.heap.size, 5, none⟩ = some (.slice pa N pc) := ((Keeps.of_below hbw) _ _ (B1.out.cell 5))
  have HB2 := hidp (HB1.out.trans (hbw.mono HB1.out.size))
  have o0 := OwnS.one w.heap.size w1 r1 HB2.out.size
  have hb2 := HB2.out.alloc HB2.out.size (.cells #[.string r1] 9)
  have c5b : (w1.alloc (.cells #[.string r1] 9)).cell? ⟨w.heap.size, 5, none⟩ = some (.slice pa N pc) := (Keeps.alloc w1 _) _ _ c5
  clear hv1 hbw CN B1 z0 z1 z2 z3 z4 z5 c5 HB1 HB2 HNL HW
  go_wp2_with fail
  go_loopg [3, 23] N (fun g all i wr => ∃ (k c : Nat) (A : Option Addr) (ls : List ByteArray), k + g = N ∧ i = .int .i64 k ∧ all = .slice A (k + 1) c ∧ OwnS w.heap.size wr A (k + 1) c ls ∧ Hid (ls.map bl = numsW ([116, 97, 115, 107, 32] ++ bl nm) [per, dl, prio, cl] :: (ps.take k).map (fun p => partW p.t)) ∧ Hid (∀ x ∈ ls, x.size ≤ 100000) ∧ Below w.heap.size w wr)
  case atStart => exact ⟨0, 1, some ⟨w1.heap.size, 0, none⟩, [r1], by omega, rfl, rfl, o0, hidp (by simp [HV1.out]), hidp (by simpa using Nat.le_trans HS1.out (by decide)), hb2⟩
  case round =>
    clear o0 hb2 c5b
    obtain ⟨k, c, A, ls, hk, rfl, rfl, ho, HI, HSz, hbr⟩ := hrel
    by_cases hin : k < N
    · obtain ⟨g, off, rfl, hc⟩ := (HK.out.keep (Keeps.of_below hbr)).resolve_left (by intro e; have := HN.out; rw [e] at this; simp at this; omega)
      have hkl : k < ps.length := by rw [HN.out]; exact hin
      obtain ⟨⟨kd, ln, rs⟩, Hp⟩ : ∃ p, Hid (ps.getD k default = p) := ⟨_, hidp rfl⟩
      obtain ⟨c1, c2, c3⟩ : PartCells wr g (off + k * 3) ⟨kd, ln, rs⟩ := Hp.out ▸ hc k hkl
      dsimp only at c1 c2 c3
      have HTk : Hid ((ps.take (k + 1)).map (fun p => partW p.t) = (ps.take k).map (fun p => partW p.t) ++ [partW (PartM.t ⟨kd, ln, rs⟩)]) := hidp (by
        rw [List.take_succ_eq_append_getElem hkl, List.map_append, ← Hp.out]
        simp [List.getD, hkl])
      have hbx := hbr.alloc hbr.size (.cells #[.int .i64 kd, .int .i64 ln, .int .i64 rs] 42)
      have HCT := hidp (partWord_any ⟨kd, ln, rs⟩ _ (HWF.out _ (by rw [← Hp.out]; simp [List.getD, hkl])) (HT.out _ hbx))
      have HPL := hidp (partW_len (PartM.t ⟨kd, ln, rs⟩))
      have b1 : (0 : Int) ≤ (k : Int) := by omega
      have b2 : (k : Int) < (N : Int) := by omega
      have BP := Bk.new wr 42 #[.int .i64 kd, .int .i64 ln, .int .i64 rs]
      have x0 : (wr.alloc (.cells #[.int .i64 kd, .int .i64 ln, .int .i64 rs] 42)).cell? ⟨wr.heap.size, 0, none⟩ = some (.int .i64 kd) := BP.cell 0
      have x1 : (wr.alloc (.cells #[.int .i64 kd, .int .i64 ln, .int .i64 rs] 42)).cell? ⟨wr.heap.size, 1, none⟩ = some (.int .i64 ln) := BP.cell 1
      have x2 : (wr.alloc (.cells #[.int .i64 kd, .int .i64 ln, .int .i64 rs] 42)).cell? ⟨wr.heap.size, 2, none⟩ = some (.int .i64 rs) := BP.cell 2
      clear hc hkl BP
      go_wp2_with fail
      refine HCT.out.mono ?_
      rintro e u ⟨x, rfl, hxv, hbu⟩
      have Hx : Hid (bl x = partW (PartM.t ⟨kd, ln, rs⟩) ∧ x.size ≤ 21) := hidp ⟨hxv, by rw [← bl_len, hxv]; exact HPL.out⟩
      have TL : Turned [] wr (u.alloc (.cells #[.string x] 9)) := (((Turned.refl [] wr).alloc _).trans (Turned.of_below hbu []) (by simp)).alloc _
      have own4 := own_turned ho.own TL (by simp)
      have S2 := hidp (new_liesW u [.string x] 9)
      have N2 : Hid (k + 1 + 1 ≤ maxLen) := hidp (by unfold maxLen; omega)
      have T2 : Hid ((k + 1 + 1) * 16 ≤ 140737488355328) := hidp (by omega)
      have W0 := hbx.trans (hbu.mono hbx.size)
      have W1 := W0.alloc W0.size (.cells #[.string x] 9)
      have Z2 : Hid (w.heap.size ≤ (u.alloc (.cells #[.string x] 9)).heap.size) := hidp W1.size
      have O2 := hidp (str_one [x])
      have Hfp := hidp (own_fp own4)
      have hW := hidp W1
      have HO := hidp (ho.turned TL (by simp))
      clear ho hbr hbu W0 W1 TL HCT hxv hbx c1 c2 c3 x0 x1 x2
      go_wp2_with (at_builtin; refine wpList_app2 _ rfl (.tmp 27) (.tmp 30) 54 rfl w.heap.size 9 i0 _ 1 16 Tryd.underlying54 hi0 hy0 hy1 hy2 rfl (by decide) A (k + 1) c _ rfl own4 _ _ 1 1 [.string x] rfl (by simp) rfl S2.out O2.out N2.out T2.out Z2.out ?_; intro A9 c9 w6 happ)
      go_roundg (gk - 1)
      case measure => omega
      case rel => exact ⟨k + 1, c9, A9, ls ++ [x], by omega, by go_num, by go_num, HO.out.app happ, hidp (by rw [List.map_append, HI.out, HTk.out]; simp [Hx.out.1]), hidp (fun y hy => (List.mem_append.1 hy).elim (HSz.out y) (fun h => by rw [List.mem_singleton.1 h]; have := Hx.out.2; omega)), hW.out.trans (happ.turned.below hW.out.size (fun i hi => (Hfp.out i hi).1))⟩
    · obtain rfl : k = N := by omega
      have hlen := ho.len
      have CJ := join_any 32 A c ls wr ho.at_ (by rw [← hlen]; exact ho.cap.1) (by omega) (by omega) HSz.out
      rw [← hlen] at CJ
      have HCJ := hidp CJ
      have HBR := hidp hbr
      have HV : Hid (joinT 32 (ls.map bl) = taskW (TaskR.rd ⟨nm, per, dl, prio, cl, pa, pc, ps⟩)) := hidp (by
        rw [HI.out, List.take_of_length_le (by rw [HN.out]; exact Nat.le_refl _)]
        unfold taskW TaskR.rd
        dsimp only
        rw [List.map_map]; rfl)
      clear ho hbr CJ hlen
      go_wp2_with fail
      refine HCJ.out.mono ?_
      rintro e u ⟨r, rfl, hv, hbu⟩
      have HB := hidp (HBR.out.trans (hbu.mono HBR.out.size))
      have HVr := hidp hv
      clear hv hbu HCJ
      go_wp2_with fail
      go_ret
      exact ⟨r, rfl, by rw [HVr.out, HV.out], HB.out⟩
end Go.Proofs.YtggidlmehimcjaaDoor
