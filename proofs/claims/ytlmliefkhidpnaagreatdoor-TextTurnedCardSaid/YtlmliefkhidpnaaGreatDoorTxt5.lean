/- text's readTask: one task's line. -/
import Derived.Test.YtlmliefkhidpnaaGreatDoorTxt4
import Derived.Test.YtlmliefkhidpnaaGreatDoorRegC
namespace Go.Proofs.YtlmliefkhidpnaaGreatDoor
open Go.ChangeShapes Go.WideShapes Go.ChangeAt Go.RowKit
set_option linter.unusedVariables false
set_option linter.unusedSimpArgs false
def cutA (A : Option Addr) (c k : Nat) : Option Addr := if c = k then A else A.map (·.add (k * 1))
theorem strs_low (A : Option Addr) (n c k : Nat) (h : k ≤ n) (h2 : n ≤ c) (w : World) : (Instr.slice 38 (.slice A n c) (some (.int .i64 (k : Int))) none none).run Tryz.prog w = .ok (.slice (cutA A c k) (n - k) (c - k)) w := by
  have e1 : (k : Int) ≤ (n : Int) := by omega
  unfold cutA
  simp [Instr.slice, Instr.sliceBounds, Instr.sliceBound, asIntOf, run_underlying Tryz.underlying38, go_sem, e1, h, Nat.not_lt.2 h, Tryz.sizeOf9]
theorem strs_mid (A : Option Addr) (n c k m : Nat) (h : k ≤ m) (h2 : m ≤ c) (w : World) : (Instr.slice 38 (.slice A n c) (some (.int .i64 (k : Int))) (some (.int .i64 (m : Int))) none).run Tryz.prog w = .ok (.slice (cutA A c k) (m - k) (c - k)) w := by
  have e1 : (k : Int) ≤ (m : Int) := by omega
  have e2 : (m : Int) ≤ (c : Int) := by omega
  unfold cutA
  simp [Instr.slice, Instr.sliceBounds, Instr.sliceBound, asIntOf, run_underlying Tryz.underlying38, go_sem, e1, e2, h, h2, Tryz.sizeOf9]
theorem strs_from {w : World} {A : Option Addr} {ls : List ByteArray} {c : Nat} (h : StrsAt w A ls) (hc : ls.length ≤ c) (k : Nat) : StrsAt w (cutA A c k) (ls.drop k) := by
  unfold cutA
  rcases h with rfl | ⟨b, off, rfl, h⟩
  · exact .inl (by simp)
  · by_cases e : c = k
    · exact .inl (List.drop_of_length_le (by omega))
    · refine .inr ⟨b, off + k, by rw [if_neg e]; simp [Addr.add_lit], fun i hi => ?_⟩
      rw [List.length_drop] at hi
      have := h (k + i) (by omega)
      rw [← Nat.add_assoc] at this
      rw [this]
      simp [List.getD]
theorem strs_first {w : World} {A : Option Addr} {ls : List ByteArray} (h : StrsAt w A ls) (n : Nat) : StrsAt w A (ls.take n) := by
  rcases h with rfl | ⟨b, off, rfl, h⟩
  · exact .inl (by simp)
  · refine .inr ⟨b, off, rfl, fun i hi => ?_⟩
    rw [List.length_take] at hi
    rw [h i (by omega)]
    simp [List.getD, show i < n by omega]
theorem taskT_short {l : List Bts} (h : l.length < 5) (hn : l.any nestT = false) : taskT l = .error 10 := by
  unfold taskT
  rw [if_neg (by simp [hn])]
  match l, h with
  | [], _ => rfl
  | [a], _ => rfl
  | [a, b], _ => rfl
  | [a, b, c], _ => rfl
  | [a, b, c, d], _ => rfl
theorem taskT_long {nm a b c d : Bts} {ps : List Bts} (hn : (nm :: a :: b :: c :: d :: ps).any nestT = false) : taskT (nm :: a :: b :: c :: d :: ps) = match numsT [a, b, c, d], partsT ps with
    | some [p, dl, q, cl], some parts => .ok ⟨nm, p, dl, q, cl, parts⟩
    | _, _ => .error 10 := by
  conv => lhs; unfold taskT
  rw [if_neg (by rw [hn]; decide)]
  rfl
/-- what a task's line leaves -/
def TaskPost (B : Nat) (W w : World) (g : Nat) (s : SetR) (want co : Int) (A : Option Addr) (c : Nat) (zs : List Int) (l : List Bts) (e : Ending) (w' : World) : Prop :=
  Below B W w' ∧ match taskT l with
  | .error x => e = .returned (.int .i64 x) ∧ Rdr B w' g s want co A c zs
  | .ok t => e = .returned (.int .i64 0) ∧ ∃ (t' : TaskR) (ta : Option Addr) (tc : Nat), t'.bare = t.bare ∧ Rdr B w' g { s with ta := ta, tc := tc, tasks := s.tasks ++ [t'] } want co A c zs
set_option maxHeartbeats 4000000 in
theorem readTask_any (B : Nat) (g : Nat) (s : SetR) (want co : Int) (A : Option Addr) (c : Nat) (zs : List Int) (L : Option Addr) (cl : Nat) (ls : List ByteArray) (m : Int) (W w : World) (hR : Rdr B w g s want co A c zs) (hBW : B ≤ W.heap.size) (hb : Below B W w)
    (hm : w.cell? ⟨0, 0, none⟩ = some (.int .i64 m)) (hs : StrsAt w L ls) (hl : ls.length ≤ 100000) (hcl : ls.length ≤ cl) (hz : ∀ x ∈ ls, x.size ≤ 90000) (hts : s.tasks.length ≤ 100000) (hLd : ∀ k ∈ fp L, k ≠ g ∧ k ∉ fp s.ta ∧ k ∉ fp A) :
    Calls Tryz.prog 56 #[.pointer (some ⟨g, 0, none⟩), .slice L ls.length cl] w (TaskPost B W w g s want co A c zs (ls.map bl)) := by
  have CN := hidp (nested_any L cl ls m w hm hs hl (fun x hx => Nat.le_trans (hz x hx) (by omega)))
  have HR := hidp hR
  have HLd := hidp hLd
  have HB := hidp hb
  clear hLd
  have HG : Hid (g < w.heap.size ∧ (∀ k ∈ fp s.ta, k < w.heap.size) ∧ ∀ k ∈ fp A, k < w.heap.size) := hidp ⟨hR.rows.gB.2, fun k hk => (own_fp hR.rows.tasks.own k hk).2, fun k hk => (own_fp hR.rows.ats.own k hk).2⟩
  by_cases h1 : (ls.map bl).any nestT = true
  · have HT : Hid (taskT (ls.map bl) = .error 18) := hidp (by unfold taskT; rw [if_pos h1])
    rw [h1] at CN
    clear h1 hm hs hz hR hb
    go_enter Tryz.func56, Tryz.ntmps56
    go_wp2_with fail
    refine CN.out.mono ?_
    rintro e u ⟨rfl, rfl⟩
    go_wp2_with fail
    go_ret
    refine ⟨HB.out, ?_⟩
    rw [HT.out]
    exact ⟨rfl, HR.out⟩
  have h1 : (ls.map bl).any nestT = false := by simpa using h1
  by_cases h2 : ls.length < 5
  · have HT : Hid (taskT (ls.map bl) = .error 10) := hidp (taskT_short (by rw [List.length_map]; exact h2) h1)
    rw [h1] at CN
    obtain ⟨N, hN⟩ : ∃ N, ls.length = N := ⟨_, rfl⟩
    rw [hN] at h2 CN ⊢
    have f2 : (N : Int) < 5 := by omega
    clear h1 hm hs hz hR hb hN h2 hl hcl
    go_enter Tryz.func56, Tryz.ntmps56
    go_wp2_with fail
    refine CN.out.mono ?_
    rintro e u ⟨rfl, rfl⟩
    go_wp2_with fail
    go_ret
    refine ⟨HB.out, ?_⟩
    rw [HT.out]
    exact ⟨rfl, HR.out⟩
  obtain ⟨x0, x1, x2, x3, x4, ps, rfl⟩ : ∃ x0 x1 x2 x3 x4 ps, ls = x0 :: x1 :: x2 :: x3 :: x4 :: ps := by
    match ls, h2 with
    | [], h => simp at h
    | [a], h => simp at h
    | [a, b], h => simp at h
    | [a, b, c], h => simp at h
    | [a, b, c, d], h => simp at h
    | a :: b :: c :: d :: e :: r, _ => exact ⟨a, b, c, d, e, r, rfl⟩
  have hT0 := taskT_long (nm := bl x0) (a := bl x1) (b := bl x2) (c := bl x3) (d := bl x4) (ps := ps.map bl) h1
  rw [h1] at CN
  obtain ⟨P, hP⟩ : ∃ P, ps.length = P := ⟨_, rfl⟩
  have HPL := hidp hP
  have hlen : (x0 :: x1 :: x2 :: x3 :: x4 :: ps).length = P + 5 := by simp [hP]
  have hx0 := hz x0 (by simp)
  have ZP := hidp (fun x (hx : x ∈ ps) => hz x (by simp [hx]))
  have Z4 : Hid (∀ x ∈ [x1, x2, x3, x4], x.size ≤ 100000) := hidp (fun x hx => Nat.le_trans (hz x (by simp only [List.mem_cons, List.not_mem_nil, or_false] at hx; rcases hx with h | h | h | h <;> simp [h])) (by omega))
  rw [hlen] at CN hl hcl ⊢
  have S1 : StrsAt w (cutA L cl 1) [x1, x2, x3, x4] := strs_first (strs_from hs (by rw [hlen]; exact hcl) 1) 4
  have S5 : StrsAt w (cutA L cl 5) ps := strs_from hs (by rw [hlen]; exact hcl) 5
  have cx0 : ∃ b off, L = some ⟨b, off, none⟩ ∧ w.cell? ⟨b, off, none⟩ = some (.string x0) := by
    obtain ⟨b, off, e, hc⟩ := hs.resolve_left (by simp)
    exact ⟨b, off, e, hc 0 (by simp)⟩
  have CNs := hidp (numbers_any (cutA L cl 1) (cl - 1) [x1, x2, x3, x4] w S1 (by simp) Z4.out)
  have e1 : ∀ u : World, (Instr.slice 38 (.slice L (P + 5) cl) (some (.int .i64 1)) (some (.int .i64 5)) none).run Tryz.prog u = .ok (.slice (cutA L cl 1) 4 (cl - 1)) u := fun u => strs_mid L (P + 5) cl 1 5 (by omega) (by omega) u
  have e5 : ∀ u : World, (Instr.slice 38 (.slice L (P + 5) cl) (some (.int .i64 5)) none none).run Tryz.prog u = .ok (.slice (cutA L cl 5) P (cl - 5)) u := fun u => strs_low L (P + 5) cl 5 (by omega) hcl u
  obtain ⟨L1, hL1⟩ : ∃ L1, cutA L cl 1 = L1 := ⟨_, rfl⟩
  obtain ⟨L5, hL5⟩ : ∃ L5, cutA L cl 5 = L5 := ⟨_, rfl⟩
  rw [hL1] at CNs e1
  rw [hL5] at S5 e5
  have HS5 := hidp S5
  have HX := hidp cx0
  have HMx := hidp hm
  have HT0 := hidp hT0
  have f2 : ¬ ((P + 5 : Nat) : Int) < 5 := by omega
  have f2b : ¬ (P : Int) + 5 < 5 := by omega
  clear S1 S5 cx0 hL1 hL5 hm hs hz hR hb hlen h1 h2 hT0 hP
  go_enter Tryz.func56, Tryz.ntmps56
  go_wp2_with fail
  refine CN.out.mono ?_
  rintro e u ⟨rfl, rfl⟩
  go_wp2_with fail
  refine CNs.out.mono ?_
  rintro e w1 ⟨A4, c4, ns, ok, rfl, ho4, hb1, hn4, hln4, hv4⟩
  have HR1 := hidp (HR.out.over hb1)
  have HB1 := hidp (HB.out.trans (hb1.mono (Nat.le_trans hBW HB.out.size)))
  have HM1 := hidp (mem_max HMx.out hb1)
  have HS51 := hidp (HS5.out.below hb1)
  have HO4 := hidp ho4
  have HN4 := hidp hn4
  have HV4 := hidp hv4
  have HB12 := hidp hb1
  clear hb1 ho4 hln4 hv4 hn4 HS5 HB HR CN CNs e1
  cases ok with
  | false =>
    have HT : Hid (taskT ((x0 :: x1 :: x2 :: x3 :: x4 :: ps).map bl) = .error 10) := hidp (by
      refine HT0.out.trans ?_
      rw [show numsT [bl x1, bl x2, bl x3, bl x4] = none from HV4.out])
    go_wp2_with fail
    go_ret
    refine ⟨HB1.out, ?_⟩
    rw [HT.out]
    exact ⟨rfl, HR1.out⟩
  | true =>
  have HV4b : Hid (numsT [bl x1, bl x2, bl x3, bl x4] = some ns) := hidp HV4.out
  clear HV4
  obtain ⟨p, dl, q, tcl, rfl⟩ : ∃ p dl q tcl, ns = [p, dl, q, tcl] := by
    have := numsT_len HV4b.out
    match ns, this with
    | [a, b, c, d], _ => exact ⟨a, b, c, d, rfl⟩
  have CP := partsOf_any L5 (cl - 5) ps m w1 HM1.out HS51.out (by rw [HPL.out]; omega) ZP.out
  rw [HPL.out] at CP
  have HCP := hidp CP
  clear CP
  go_wp2_with fail
  refine HCP.out.mono ?_
  rintro e w2 ⟨A5, c5, qs, ok2, rfl, ho5, hb2, hw5, hl5, hv5⟩
  have HR2 := hidp (HR1.out.over hb2)
  have HB2 := hidp (HB1.out.trans (hb2.mono (Nat.le_trans hBW HB1.out.size)))
  have HB22 := hidp (HB12.out.trans (hb2.mono HB12.out.size))
  have HO5 := hidp ho5
  have HW5 := hidp hw5
  have HV5 := hidp hv5
  have HF4 := hidp (own_fp HO4.out.own)
  have HO42 := hidp (HO4.out.turned (Turned.of_below hb2 []) (by simp))
  have HZ12 := hidp HB12.out.size
  have HZ22 := hidp hb2.size
  have HL5 : Hid (qs.length ≤ 100000) := hidp (by rw [List.length_map, HPL.out] at hl5; omega)
  clear hb2 ho5 hw5 hl5 hv5 HB1 HR1 HS51 HCP HM1 HB12 e5
  cases ok2 with
  | false =>
    have HT : Hid (taskT ((x0 :: x1 :: x2 :: x3 :: x4 :: ps).map bl) = .error 10) := hidp (by
      refine HT0.out.trans ?_
      have h5 : partsT (ps.map bl) = none := by
        have := HV5.out
        unfold partsM at this
        cases h : partsT (ps.map bl) with
        | none => rfl
        | some z => rw [h] at this; simp at this
      rw [HV4b.out, h5])
    go_wp2_with fail
    go_ret
    refine ⟨HB2.out, ?_⟩
    rw [HT.out]
    exact ⟨rfl, HR2.out⟩
  | true =>
  obtain ⟨zp, hzp, hzq⟩ : ∃ z, partsT (ps.map bl) = some z ∧ z.map PartT.m = qs := by
    have := HV5.out
    unfold partsM at this
    cases h : partsT (ps.map bl) with
    | none => rw [h] at this; simp at this
    | some z => rw [h] at this; exact ⟨z, rfl, by simpa using this⟩
  have HT : Hid (taskT ((x0 :: x1 :: x2 :: x3 :: x4 :: ps).map bl) = .ok ⟨bl x0, p, dl, q, tcl, zp⟩) := hidp (by
    refine HT0.out.trans ?_
    rw [HV4b.out, hzp])
  have HQ := hidp hzq
  clear hzp hzq
  -- the new task
  have nb := HN4.out
  have iI : ∀ x : Int, 0 ≤ x ∧ x ≤ 9999999 → I64 x := fun x hx => by unfold I64; omega
  obtain ⟨b, off, rfl, hcx⟩ := HX.out
  obtain ⟨g4, rfl, hc4⟩ := HO42.out.at0 (by simp)
  have d0 : w2.drew.cell? ⟨g4, 0, none⟩ = some (.int .i64 p) := hc4 0 (by simp)
  have d1 : w2.drew.cell? ⟨g4, 1, none⟩ = some (.int .i64 dl) := hc4 1 (by simp)
  have d2 : w2.drew.cell? ⟨g4, 2, none⟩ = some (.int .i64 q) := hc4 2 (by simp)
  have d3 : w2.drew.cell? ⟨g4, 3, none⟩ = some (.int .i64 tcl) := hc4 3 (by simp)
  have d4 : w2.drew.cell? ⟨b, off, none⟩ = some (.string x0) := (Keeps.of_below HB22.out) _ _ hcx
  have hrd := HR2.out.drew
  have d5 := hrd.cells.c3
  have hs : w2.drew.cell? ⟨g, 3, none⟩ = some (.slice s.ta s.tasks.length s.tc) ∧ w2.drew.cell? ⟨b, off, none⟩ = some (.string x0) ∧ w2.drew.cell? ⟨g4, 0, none⟩ = some (.int .i64 p) ∧ w2.drew.cell? ⟨g4, 1, none⟩ = some (.int .i64 dl) ∧ w2.drew.cell? ⟨g4, 2, none⟩ = some (.int .i64 q) ∧ w2.drew.cell? ⟨g4, 3, none⟩ = some (.int .i64 tcl) := ⟨d5, d4, d0, d1, d2, d3⟩
  have HTK : Hid (TaskOk w2.drew ⟨x0, p, dl, q, tcl, A5, c5, qs⟩) := hidp ⟨Nat.le_trans hx0 (by unfold maxLen; omega), iI _ (nb p (by simp)), iI _ (nb dl (by simp)), iI _ (nb q (by simp)), iI _ (nb tcl (by simp)), ⟨HO5.out.nil, HO5.out.cap⟩, HO5.out.parts, HW5.out⟩
  have HFP : Hid (∀ k ∈ fp A5, (B ≤ k ∧ k < w2.drew.heap.size) ∧ k ≠ g ∧ k ∉ fp s.ta ∧ k ∉ fp A) := hidp (fun k hk => by
    have h1 := own_fp HO5.out.own k hk
    have h2 := HZ12.out
    obtain ⟨h3, h4, h5⟩ := HG.out
    have h6 := HR2.out.rows.gB.1
    refine ⟨⟨by omega, h1.2⟩, by omega, fun hm => ?_, fun hm => ?_⟩
    · have := h4 k hm; omega
    · have := h5 k hm; omega)
  have HFG : Hid (g4 < w2.drew.heap.size ∧ g4 ≠ g ∧ g4 ∉ fp s.ta) := hidp (by
    have h1 := HF4.out g4 (by simp [fp])
    obtain ⟨h3, h4, h5⟩ := HG.out
    have h8 := HZ22.out
    refine ⟨by show g4 < w2.heap.size; omega, by omega, fun hm => ?_⟩
    have := h4 g4 hm; omega)
  have HRD := hidp hrd
  have HXF : Hid (b ∉ fp s.ta) := hidp (HLd.out b (by simp [fp])).2.1
  have HBD : Hid (Below B W w2.drew) := hidp (below_drewN HB2.out 1)
  obtain ⟨i0, hi0, hy0, hy1, hy2⟩ := info_parts infoTask
  have b0 : (0 : Int) < ((P + 5 : Nat) : Int) := by omega
  have b0b : (0 : Int) < (P : Int) + 5 := by omega
  clear hc4 hcx d0 d1 d2 d3 d4 d5 hrd HB2 HR2 HX HO42 HO4 nb iI HF4
  go_wp2_with fail
  refine wp_region_c_drew 28 (S := fun u => u.cell? ⟨g, 3, none⟩ = some (.slice s.ta s.tasks.length s.tc) ∧ u.cell? ⟨b, off, none⟩ = some (.string x0) ∧ u.cell? ⟨g4, 0, none⟩ = some (.int .i64 p) ∧ u.cell? ⟨g4, 1, none⟩ = some (.int .i64 dl) ∧ u.cell? ⟨g4, 2, none⟩ = some (.int .i64 q) ∧ u.cell? ⟨g4, 3, none⟩ = some (.int .i64 tcl)) (by kernel_rfl) ?_ (fun hHeld => ?_)
  · exact hs
  generalize w2.drew = u at *
  obtain ⟨ob, hob⟩ : ∃ o, (.cells #[.string x0, .int .i64 p, .int .i64 dl, .int .i64 q, .int .i64 tcl, .slice A5 qs.length c5] 44 : Obj) = o := ⟨_, rfl⟩
  have TL : Below u.heap.size u (u.alloc ob) := (Below.refl _ u).alloc (Nat.le_refl _) ob
  have kp := Keeps.of_below TL
  have hs1 := (And.intro (kp _ _ hs.1) (And.intro (kp _ _ hs.2.1) (And.intro (kp _ _ hs.2.2.1) (And.intro (kp _ _ hs.2.2.2.1) (And.intro (kp _ _ hs.2.2.2.2.1) (kp _ _ hs.2.2.2.2.2))))))
  have HRa := HRD.out.over TL
  have HTa := HTK.out.keep kp
  have HFa : ∀ k ∈ fp A5, (B ≤ k ∧ k < (u.alloc ob).heap.size) ∧ k ≠ g ∧ k ∉ fp s.ta ∧ k ∉ fp A := fun k hk => ⟨⟨(HFP.out k hk).1.1, Nat.lt_of_lt_of_le (HFP.out k hk).1.2 TL.size⟩, (HFP.out k hk).2⟩
  have HBa := HBD.out.alloc (Nat.le_trans hBW HBD.out.size) ob
  have hown := HRa.rows.tasks.own
  have S2 := hidp (new_liesW u [.string x0, .int .i64 p, .int .i64 dl, .int .i64 q, .int .i64 tcl, .slice A5 qs.length c5] 44)
  rw [show (Obj.cells [Value.string x0, .int .i64 p, .int .i64 dl, .int .i64 q, .int .i64 tcl, .slice A5 qs.length c5].toArray 44) = ob from hob] at S2
  have O2 := hidp (ttc_one [⟨x0, p, dl, q, tcl, A5, c5, qs⟩])
  have N2 : Hid (s.tasks.length + 1 ≤ maxLen) := hidp (by unfold maxLen; omega)
  have T2 : Hid ((s.tasks.length + 1) * 72 ≤ 140737488355328) := hidp (by omega)
  have Z2 : Hid (B ≤ (u.alloc ob).heap.size) := hidp (Nat.le_trans HRD.out.rows.gB.1 (Nat.le_trans (Nat.le_of_lt HRD.out.rows.gB.2) TL.size))
  have HRA := hidp HRa
  have HTA := hidp HTa
  have HFA := hidp HFa
  have HBA := hidp HBa
  have HTG : Hid (g ∉ fp s.ta) := hidp (fun hm => (HRa.rows.dT g hm).1 rfl)
  have HKa : Hid (∀ w6 : World, Turned (fp s.ta) (u.alloc ob) w6 → (w6.cell? ⟨g, 3, none⟩ = some (.slice s.ta s.tasks.length s.tc) ∧ w6.cell? ⟨b, off, none⟩ = some (.string x0) ∧ w6.cell? ⟨g4, 0, none⟩ = some (.int .i64 p) ∧ w6.cell? ⟨g4, 1, none⟩ = some (.int .i64 dl) ∧ w6.cell? ⟨g4, 2, none⟩ = some (.int .i64 q) ∧ w6.cell? ⟨g4, 3, none⟩ = some (.int .i64 tcl))) := hidp (fun w6 h6 => ⟨h6.cell hs1.1 HTG.out, h6.cell hs1.2.1 HXF.out, h6.cell hs1.2.2.1 HFG.out.2.2, h6.cell hs1.2.2.2.1 HFG.out.2.2, h6.cell hs1.2.2.2.2.1 HFG.out.2.2, h6.cell hs1.2.2.2.2.2 HFG.out.2.2⟩)
  clear TL kp HRa HTa HFa HBa HTK HFP HBD
  refine wpAnyC_take (i := 0) (v := ?_) rfl rfl (by kernel_rfl) (by decide) (by kernel_rfl) (by kernel_rfl) (by kernel_rfl) (fun _ _ _ h => h) (Or.inl ⟨by rfl, ?_⟩) (by assumption) ?_
  rotate_left 1
  · ((intro w hSw; (try dsimp only at hSw); go_simp); (try with_reducible rfl))
  simp only [Act.put, List.setIfInBounds_toArray, List.set_cons_zero, List.set_cons_succ, List.getElem_toArray, List.getElem_cons_zero, List.getElem_cons_succ]
  refine wpAnyC_take (i := 1) (v := ?_) rfl rfl (by kernel_rfl) (by decide) (by kernel_rfl) (by kernel_rfl) (by kernel_rfl) (fun _ _ _ h => h) (Or.inl ⟨by rfl, ?_⟩) (by assumption) ?_
  rotate_left 1
  · ((intro w hSw; (try dsimp only at hSw); go_simp); (try with_reducible rfl))
  simp only [Act.put, List.setIfInBounds_toArray, List.set_cons_zero, List.set_cons_succ, List.getElem_toArray, List.getElem_cons_zero, List.getElem_cons_succ]
  refine wpAnyC_take (i := 2) (v := ?_) rfl rfl (by kernel_rfl) (by decide) (by kernel_rfl) (by kernel_rfl) (by kernel_rfl) (fun _ _ _ h => h) (Or.inl ⟨by rfl, ?_⟩) (by assumption) ?_
  rotate_left 1
  · ((intro w hSw; (try dsimp only at hSw); go_simp); (try with_reducible rfl))
  simp only [Act.put, List.setIfInBounds_toArray, List.set_cons_zero, List.set_cons_succ, List.getElem_toArray, List.getElem_cons_zero, List.getElem_cons_succ]
  refine wpAnyC_take (i := 3) (v := ?_) rfl rfl (by kernel_rfl) (by decide) (by kernel_rfl) (by kernel_rfl) (by kernel_rfl) (fun _ _ _ h => h) (Or.inl ⟨by rfl, ?_⟩) (by assumption) ?_
  rotate_left 1
  · ((intro w hSw; (try dsimp only at hSw); go_simp); (try with_reducible rfl))
  simp only [Act.put, List.setIfInBounds_toArray, List.set_cons_zero, List.set_cons_succ, List.getElem_toArray, List.getElem_cons_zero, List.getElem_cons_succ]
  refine wpAnyC_take (i := 4) (v := ?_) rfl rfl (by kernel_rfl) (by decide) (by kernel_rfl) (by kernel_rfl) (by kernel_rfl) (fun _ _ _ h => h) (Or.inl ⟨by rfl, ?_⟩) (by assumption) ?_
  rotate_left 1
  · ((intro w hSw; (try dsimp only at hSw); go_simp); (try with_reducible rfl))
  simp only [Act.put, List.setIfInBounds_toArray, List.set_cons_zero, List.set_cons_succ, List.getElem_toArray, List.getElem_cons_zero, List.getElem_cons_succ]
  refine wpAnyC_take (i := 5) (v := ?_) rfl rfl (by kernel_rfl) (by decide) (by kernel_rfl) (by kernel_rfl) (by kernel_rfl) (fun _ _ _ h => h) (Or.inl ⟨by rfl, ?_⟩) (by assumption) ?_
  rotate_left 1
  · ((intro w hSw; (try dsimp only at hSw); go_simp); (try with_reducible rfl))
  simp only [Act.put, List.setIfInBounds_toArray, List.set_cons_zero, List.set_cons_succ, List.getElem_toArray, List.getElem_cons_zero, List.getElem_cons_succ]
  refine wpAnyC_take (i := 6) (v := ?_) rfl rfl (by kernel_rfl) (by decide) (by kernel_rfl) (by kernel_rfl) (by kernel_rfl) (fun _ _ _ h => h) (Or.inl ⟨by rfl, ?_⟩) (by assumption) ?_
  rotate_left 1
  · ((intro w hSw; (try dsimp only at hSw); go_simp); (try with_reducible rfl))
  simp only [Act.put, List.setIfInBounds_toArray, List.set_cons_zero, List.set_cons_succ, List.getElem_toArray, List.getElem_cons_zero, List.getElem_cons_succ]
  refine wpAnyC_take (i := 7) (v := ?_) rfl rfl (by kernel_rfl) (by decide) (by kernel_rfl) (by kernel_rfl) (by kernel_rfl) (fun _ _ _ h => h) (Or.inl ⟨by rfl, ?_⟩) (by assumption) ?_
  rotate_left 1
  · ((intro w hSw; (try dsimp only at hSw); go_simp); (try with_reducible rfl))
  simp only [Act.put, List.setIfInBounds_toArray, List.set_cons_zero, List.set_cons_succ, List.getElem_toArray, List.getElem_cons_zero, List.getElem_cons_succ]
  refine wpAnyC_take (i := 8) (v := ?_) rfl rfl (by kernel_rfl) (by decide) (by kernel_rfl) (by kernel_rfl) (by kernel_rfl) (fun _ _ _ h => h) (Or.inl ⟨by rfl, ?_⟩) (by assumption) ?_
  rotate_left 1
  · ((intro w hSw; (try dsimp only at hSw); go_simp); (try with_reducible rfl))
  simp only [Act.put, List.setIfInBounds_toArray, List.set_cons_zero, List.set_cons_succ, List.getElem_toArray, List.getElem_cons_zero, List.getElem_cons_succ]
  refine wpAnyC_take (i := 9) (v := ?_) rfl rfl (by kernel_rfl) (by decide) (by kernel_rfl) (by kernel_rfl) (by kernel_rfl) (fun _ _ _ h => h) (Or.inl ⟨by rfl, ?_⟩) (by assumption) ?_
  rotate_left 1
  · ((intro w hSw; (try dsimp only at hSw); go_simp); (try with_reducible rfl))
  simp only [Act.put, List.setIfInBounds_toArray, List.set_cons_zero, List.set_cons_succ, List.getElem_toArray, List.getElem_cons_zero, List.getElem_cons_succ]
  refine wpAnyC_take (i := 10) (v := ?_) rfl rfl (by kernel_rfl) (by decide) (by kernel_rfl) (by kernel_rfl) (by kernel_rfl) (fun _ _ _ h => h) (Or.inl ⟨by rfl, ?_⟩) (by assumption) ?_
  rotate_left 1
  · ((intro w hSw; (try dsimp only at hSw); go_simp); (try with_reducible rfl))
  simp only [Act.put, List.setIfInBounds_toArray, List.set_cons_zero, List.set_cons_succ, List.getElem_toArray, List.getElem_cons_zero, List.getElem_cons_succ]
  refine wpAnyC_take (i := 11) (v := ?_) rfl rfl (by kernel_rfl) (by decide) (by kernel_rfl) (by kernel_rfl) (by kernel_rfl) (fun _ _ _ h => h) (Or.inl ⟨by rfl, ?_⟩) (by assumption) ?_
  rotate_left 1
  · ((intro w hSw; (try dsimp only at hSw); go_simp); (try with_reducible rfl))
  simp only [Act.put, List.setIfInBounds_toArray, List.set_cons_zero, List.set_cons_succ, List.getElem_toArray, List.getElem_cons_zero, List.getElem_cons_succ]
  refine wpAnyC_take (i := 12) (v := ?_) rfl rfl (by kernel_rfl) (by decide) (by kernel_rfl) (by kernel_rfl) (by kernel_rfl) (fun _ _ _ h => h) (Or.inl ⟨by rfl, ?_⟩) (by assumption) ?_
  rotate_left 1
  · ((intro w hSw; (try dsimp only at hSw); go_simp); (try with_reducible rfl))
  simp only [Act.put, List.setIfInBounds_toArray, List.set_cons_zero, List.set_cons_succ, List.getElem_toArray, List.getElem_cons_zero, List.getElem_cons_succ]
  refine wpAnyC_take (i := 13) (v := ?_) rfl rfl (by kernel_rfl) (by decide) (by kernel_rfl) (by kernel_rfl) (by kernel_rfl) (fun _ _ _ h => h) (Or.inl ⟨by rfl, ?_⟩) (by assumption) ?_
  rotate_left 1
  · ((intro w hSw; (try dsimp only at hSw); go_simp); (try with_reducible rfl))
  simp only [Act.put, List.setIfInBounds_toArray, List.set_cons_zero, List.set_cons_succ, List.getElem_toArray, List.getElem_cons_zero, List.getElem_cons_succ]
  refine wpAnyC_take (i := 14) (v := ?_) rfl rfl (by kernel_rfl) (by decide) (by kernel_rfl) (by kernel_rfl) (by kernel_rfl) (fun _ _ _ h => h) (Or.inl ⟨by rfl, ?_⟩) (by assumption) ?_
  rotate_left 1
  · ((intro w hSw; (try dsimp only at hSw); go_simp); (try with_reducible rfl))
  simp only [Act.put, List.setIfInBounds_toArray, List.set_cons_zero, List.set_cons_succ, List.getElem_toArray, List.getElem_cons_zero, List.getElem_cons_succ]
  refine wpAnyC_take (i := 15) (v := ?_) rfl rfl (by kernel_rfl) (by decide) (by kernel_rfl) (by kernel_rfl) (by kernel_rfl) (fun _ _ _ h => h) (Or.inl ⟨by rfl, ?_⟩) (by assumption) ?_
  rotate_left 1
  · ((intro w hSw; (try dsimp only at hSw); go_simp); (try with_reducible rfl))
  simp only [Act.put, List.setIfInBounds_toArray, List.set_cons_zero, List.set_cons_succ, List.getElem_toArray, List.getElem_cons_zero, List.getElem_cons_succ]
  refine wpAnyC_take (i := 16) (v := ?_) rfl rfl (by kernel_rfl) (by decide) (by kernel_rfl) (by kernel_rfl) (by kernel_rfl) (fun _ _ _ h => h) (Or.inl ⟨by rfl, ?_⟩) (by assumption) ?_
  rotate_left 1
  · ((intro w hSw; (try dsimp only at hSw); go_simp); (try with_reducible rfl))
  simp only [Act.put, List.setIfInBounds_toArray, List.set_cons_zero, List.set_cons_succ, List.getElem_toArray, List.getElem_cons_zero, List.getElem_cons_succ]
  refine wpAnyC_take (i := 17) (v := ?_) rfl rfl (by kernel_rfl) (by decide) (by kernel_rfl) (by kernel_rfl) (by kernel_rfl) (fun _ _ _ h => h) (Or.inl ⟨by rfl, ?_⟩) (by assumption) ?_
  rotate_left 1
  · ((intro w hSw; (try dsimp only at hSw); go_simp); (try with_reducible rfl))
  simp only [Act.put, List.setIfInBounds_toArray, List.set_cons_zero, List.set_cons_succ, List.getElem_toArray, List.getElem_cons_zero, List.getElem_cons_succ]
  refine wpAnyC_take (i := 18) (v := ?_) rfl rfl (by kernel_rfl) (by decide) (by kernel_rfl) (by kernel_rfl) (by kernel_rfl) (fun _ _ _ h => h) (Or.inl ⟨by rfl, ?_⟩) (by assumption) ?_
  rotate_left 1
  · ((intro w hSw; (try dsimp only at hSw); go_simp); (try with_reducible rfl))
  simp only [Act.put, List.setIfInBounds_toArray, List.set_cons_zero, List.set_cons_succ, List.getElem_toArray, List.getElem_cons_zero, List.getElem_cons_succ]
  refine wpAnyC_take (i := 19) (v := ?_) rfl rfl (by kernel_rfl) (by decide) (by kernel_rfl) (by kernel_rfl) (by kernel_rfl) (fun _ _ _ h => h) (Or.inl ⟨by rfl, ?_⟩) (by assumption) ?_
  rotate_left 1
  · ((intro w hSw; (try dsimp only at hSw); go_simp); (try with_reducible rfl))
  simp only [Act.put, List.setIfInBounds_toArray, List.set_cons_zero, List.set_cons_succ, List.getElem_toArray, List.getElem_cons_zero, List.getElem_cons_succ]
  refine wpAnyC_take (i := 20) (v := ?_) rfl rfl (by kernel_rfl) (by decide) (by kernel_rfl) (by kernel_rfl) (by kernel_rfl) (fun _ _ _ h => h) (Or.inl ⟨by rfl, ?_⟩) (by assumption) ?_
  rotate_left 1
  · ((intro w hSw; (try dsimp only at hSw); go_simp); (try with_reducible rfl))
  simp only [Act.put, List.setIfInBounds_toArray, List.set_cons_zero, List.set_cons_succ, List.getElem_toArray, List.getElem_cons_zero, List.getElem_cons_succ]
  refine wpAnyC_take (i := 21) (v := ?_) rfl rfl (by kernel_rfl) (by decide) (by kernel_rfl) (by kernel_rfl) (by kernel_rfl) (fun _ _ _ h => h) (Or.inl ⟨by rfl, ?_⟩) (by assumption) ?_
  rotate_left 1
  · ((intro w hSw; (try dsimp only at hSw); go_simp); (try with_reducible rfl))
  simp only [Act.put, List.setIfInBounds_toArray, List.set_cons_zero, List.set_cons_succ, List.getElem_toArray, List.getElem_cons_zero, List.getElem_cons_succ]
  refine wpAnyC_take (i := 22) (v := ?_) rfl rfl (by kernel_rfl) (by decide) (by kernel_rfl) (by kernel_rfl) (by kernel_rfl) (fun _ _ _ h => h) (Or.inl ⟨by rfl, ?_⟩) (by assumption) ?_
  rotate_left 1
  · ((intro w hSw; (try dsimp only at hSw); go_simp); (try with_reducible rfl))
  simp only [Act.put, List.setIfInBounds_toArray, List.set_cons_zero, List.set_cons_succ, List.getElem_toArray, List.getElem_cons_zero, List.getElem_cons_succ]
  refine wpAnyC_ready (rs := [23]) (by kernel_rfl) (by simp) ?_
  refine AllReadyC.cons rfl (fun K hK => ?_) AllReadyC.nil
  go_simp
  try rw [hob]
  refine hK.out _ _ ?_ (fun hHeld => ?_)
  · exact hs1
  clear hK K
  try simp only [Act.put, List.setIfInBounds_toArray, List.set_cons_zero, List.set_cons_succ, List.getElem_toArray, List.getElem_cons_zero, List.getElem_cons_succ]
  refine wpAnyC_ready (rs := [24]) (by kernel_rfl) (by simp) ?_
  refine AllReadyC.cons rfl (fun K hK => ?_) AllReadyC.nil
  refine step_app2 _ rfl (.tmp 34) (.tmp 52) 23 rfl B 44 i0 _ 6 72 Tryz.underlying23 hi0 hy0 hy1 hy2 rfl (by decide) s.ta s.tasks.length s.tc _ rfl hown _ _ 1 1 [.string x0, .int .i64 p, .int .i64 dl, .int .i64 q, .int .i64 tcl, .slice A5 qs.length c5] rfl (by simp) rfl S2.out O2.out N2.out T2.out Z2.out ?_
  intro A' c' w6 happ
  have hs2 := HKa.out w6 happ.turned
  have bk6 := HRA.out.bk.turned happ.turned HTG.out
  have fz := bk6.frozen 3
  refine hK.out _ _ ?_ (fun hHeld => ?_)
  · exact hs2
  clear hK K
  try simp only [Act.put, List.setIfInBounds_toArray, List.set_cons_zero, List.set_cons_succ, List.getElem_toArray, List.getElem_cons_zero, List.getElem_cons_succ]
  refine wpAnyC_ready (rs := [25]) (by kernel_rfl) (by simp) ?_
  refine AllReadyC.cons rfl (fun K hK => ?_) AllReadyC.nil
  go_simp
  refine hK.out _ _ ?_ (fun hHeld => ?_)
  · exact hs2
  clear hK K
  try simp only [Act.put, List.setIfInBounds_toArray, List.set_cons_zero, List.set_cons_succ, List.getElem_toArray, List.getElem_cons_zero, List.getElem_cons_succ]
  refine wpAnyC_ready (rs := [26]) (by kernel_rfl) (by simp) ?_
  refine AllReadyC.cons rfl (fun K hK => ?_) AllReadyC.nil
  go_simp
  refine hK.out _ _ ?_ (fun hHeld => ?_)
  · exact hs2
  clear hK K
  try simp only [Act.put, List.setIfInBounds_toArray, List.set_cons_zero, List.set_cons_succ, List.getElem_toArray, List.getElem_cons_zero, List.getElem_cons_succ]
  refine wpAnyC_take (i := 27) (v := ?_) rfl rfl (by kernel_rfl) (by decide) (by kernel_rfl) (by kernel_rfl) (by kernel_rfl) (fun _ _ _ h => h) (Or.inl ⟨by rfl, ?_⟩) (by assumption) ?_
  rotate_left 1
  · ((intro w hSw; (try dsimp only at hSw); go_simp); (try with_reducible rfl))
  simp only [Act.put, List.setIfInBounds_toArray, List.set_cons_zero, List.set_cons_succ, List.getElem_toArray, List.getElem_cons_zero, List.getElem_cons_succ]
  refine wpAnyC_ready (rs := [28]) (by kernel_rfl) (by simp) ?_
  refine AllReadyC.last rfl (fun K hK => ?_)
  go_simp
  refine hK.out _ _ ?_
  clear hK K
  refine wpAnyC_done (by kernel_rfl) ?_ _
  have R2 := HRA.out.rows.addTask (t := ⟨x0, p, dl, q, tcl, A5, c5, qs⟩) HTA.out HFA.out happ
  have HFT := own_fp HRA.out.rows.tasks.own
  have HB6 := hidp (put_below (i := 3) (v := .slice A' (s.tasks.length + 1) c') (HBA.out.trans (happ.turned.below (Nat.le_trans hBW HBA.out.size) (fun k hk => (HFT k hk).1))) hBW R2.gB.1)
  have RF : Hid (Rdr B (w6.setCell ⟨g, 3, none⟩ (.slice A' (s.tasks.length + 1) c')) g { s with ta := A', tc := c', tasks := s.tasks ++ [⟨x0, p, dl, q, tcl, A5, c5, qs⟩] } want co A c zs) := hidp ⟨by
    have := bk6.put 3 (.slice A' (s.tasks.length + 1) c')
    refine cast (congrArg (Bk _ g 48) ?_) this
    simp [rdC], rd_put R2 3 _⟩
  clear hs hs1 hs2 happ R2 HFT bk6 hHeld hown
  go_wp2_with fail
  go_ret
  refine ⟨HB6.out, ?_⟩
  rw [HT.out]
  exact ⟨rfl, ⟨x0, p, dl, q, tcl, A5, c5, qs⟩, A', c', by simp [TaskR.bare, TaskT.bare, mk_bl, HQ.out], RF.out⟩
end Go.Proofs.YtlmliefkhidpnaaGreatDoor
