/- fair: there, others, Ahead. -/
import Derived.Test.YtjjlpaampmpdfaaGreatDoorDemandNums
namespace Go.Proofs.YtjjlpaampmpdfaaGreatDoor
open Go.ChangeShapes Go.WideShapes Go.ChangeAt Go.RowKit
set_option linter.unusedVariables false

theorem infoZ : (Tryz.prog.info? 3).map (fun i => (i.zero, i.size, i.bytes)) = some (some (.int .i64 0), 1, 8) := by kernel_rfl
def thereB (s : SetR) (of : Int) : Bool := okS s && (decide (0 ≤ of) && decide (of < s.tasks.length))
theorem thereB_true {s : SetR} {of : Int} : thereB s of = true ↔ okS s = true ∧ 0 ≤ of ∧ of < s.tasks.length := by simp [thereB]
/-- the longest Locks of all but one task, from number k on -/
def othL (of : Int) : Nat → List TaskR → List Int
  | _, [] => []
  | k, t :: ts => (if (k : Int) = of ∨ maxL t.parts = 0 then [] else [maxL t.parts]) ++ othL of (k + 1) ts
theorem othL_append (of : Int) (k : Nat) (a b : List TaskR) : othL of k (a ++ b) = othL of k a ++ othL of (k + a.length) b := by
  induction a generalizing k with
  | nil => simp [othL]
  | cons t a ih => simp only [List.cons_append, othL, ih, List.length_cons, List.append_assoc]; rw [show k + 1 + a.length = k + (a.length + 1) by omega]
theorem othL_snoc (of : Int) (ts : List TaskR) (n : Nat) (h : n < ts.length) : othL of 0 (ts.take (n + 1)) = othL of 0 (ts.take n) ++ (if (n : Int) = of ∨ maxL (ts.getD n default).parts = 0 then [] else [maxL (ts.getD n default).parts]) := by
  rw [take_snocD ts n h, othL_append]; simp [othL, List.length_take, Nat.min_eq_left (Nat.le_of_lt h)]
theorem othL_len (of : Int) (k : Nat) (ts : List TaskR) : (othL of k ts).length ≤ ts.length := by
  induction ts generalizing k with
  | nil => simp [othL]
  | cons t ts ih =>
    have := ih (k + 1)
    simp only [othL, List.length_append, List.length_cons]
    split
    · simp; omega
    · simp; omega
theorem othL_bd {of : Int} {k : Nat} {ts : List TaskR} (h : ∀ t ∈ ts, LenOk t.parts) : ∀ n ∈ othL of k ts, 1 ≤ n ∧ n ≤ 60 := by
  induction ts generalizing k with
  | nil => simp [othL]
  | cons t ts ih =>
    intro n hn
    simp only [othL, List.mem_append] at hn
    rcases hn with hn | hn
    · have h1 := maxL_nn t.parts
      have h2 := maxL_bd (h t (by simp))
      split at hn
      · simp at hn
      · rename_i g
        simp at hn; subst hn
        have : ¬ maxL t.parts = 0 := fun e => g (.inr e)
        omega
    · exact ih (fun q hq => h q (by simp [hq])) n hn

def partAt (s : SetR) (of part : Int) : PartM := (s.tasks.getD of.toNat default).parts.getD part.toNat default
def fairK (s : SetR) (of part : Int) : Bool := decide (thereB s of = true ∧ 0 ≤ part ∧ part < (s.tasks.getD of.toNat default).parts.length ∧ (partAt s of part).kind = 3)
theorem fairK_iff {s : SetR} {of part : Int} : fairK s of part = true ↔ thereB s of = true ∧ 0 ≤ part ∧ part < (s.tasks.getD of.toNat default).parts.length ∧ (partAt s of part).kind = 3 := by unfold fairK; exact decide_eq_true_iff
theorem fairK_not {s : SetR} {of part : Int} (h : ¬ (thereB s of = true ∧ 0 ≤ part ∧ part < (s.tasks.getD of.toNat default).parts.length ∧ (partAt s of part).kind = 3)) : fairK s of part = false := by unfold fairK; exact decide_eq_false h
theorem there_any (s : SetR) (of : Int) (w : World) (hs : SetOk w s) : Calls Tryz.prog 80 #[.agg #[.int .i64 s.proto, .slice s.ca s.cores.length s.cc, .slice s.ha s.homes.length s.hc, .slice s.ta s.tasks.length s.tc], .int .i64 of] w fun e w' => e = .returned (.bool (thereB s of)) ∧ Below w.heap.size w w' := by
  have hb := (Below.refl w.heap.size w).alloc (Nat.le_refl _) (.cells #[.int .i64 s.proto, .slice s.ca s.cores.length s.cc, .slice s.ha s.homes.length s.hc, .slice s.ta s.tasks.length s.tc] 25)
  have sc := SetCells.new w s 25
  have H := hidp (hs.keep (Keeps.of_below hb))
  have l3 : s.tasks.length ≤ maxLen := Nat.le_trans hs.tasks.sl.2.1 hs.tasks.sl.2.2
  unfold maxLen at l3
  clear hs
  by_cases e : chkE s = 0
  · have e1 : (chkE s == 0) = true := by simpa using e
    have ho : okS s = true := e1
    clear e
    by_cases h0 : 0 ≤ of
    · have Hv : Hid (thereB s of = decide (of < s.tasks.length)) := hidp (by simp [thereB, ho, h0])
      clear ho
      go_enter Tryz.func80, Tryz.ntmps80
      go_wp2_with (first | (go_at_call 23; (with_reducible refine (check_any _ _ H.out).mono ?_); rintro e w2 ⟨rfl, hb2⟩; have sc2 := sc.keep (Keeps.of_below hb2); obtain ⟨c0, c1, c2, c3⟩ := sc2))
      go_ret
      exact ⟨ret_bool Hv.out.symm, hb.trans (hb2.mono hb.size)⟩
    · have Hv : Hid (thereB s of = false) := hidp (by simp [thereB, h0])
      have d0 : decide (0 ≤ of) = false := by simpa using h0
      clear ho h0
      go_enter Tryz.func80, Tryz.ntmps80
      go_wp2_with (first | (go_at_call 23; (with_reducible refine (check_any _ _ H.out).mono ?_); rintro e w2 ⟨rfl, hb2⟩; have sc2 := sc.keep (Keeps.of_below hb2); obtain ⟨c0, c1, c2, c3⟩ := sc2))
      go_ret
      exact ⟨ret_bool Hv.out.symm, hb.trans (hb2.mono hb.size)⟩
  · have e1 : (chkE s == 0) = false := by simpa using e
    have Hv : Hid (thereB s of = false) := hidp (by unfold thereB okS; rw [e1]; rfl)
    clear e
    go_enter Tryz.func80, Tryz.ntmps80
    go_wp2_with (first | (go_at_call 23; (with_reducible refine (check_any _ _ H.out).mono ?_); rintro e w2 ⟨rfl, hb2⟩; have sc2 := sc.keep (Keeps.of_below hb2); obtain ⟨c0, c1, c2, c3⟩ := sc2))
    go_ret
    exact ⟨ret_bool Hv.out.symm, hb.trans (hb2.mono hb.size)⟩

def IntsP (w : World) (zs : List Int) (e : Ending) (w' : World) : Prop := ∃ A c, e = .returned (.slice A zs.length c) ∧ Row w' .i64 A zs ∧ SlOk A zs.length c ∧ Below w.heap.size w w'
set_option maxHeartbeats 2000000 in
set_option maxRecDepth 100000 in
theorem others_any (s : SetR) (of : Int) (w : World) (hs : SetOk w s) (ho : okS s = true) : Calls Tryz.prog 81 #[.agg #[.int .i64 s.proto, .slice s.ca s.cores.length s.cc, .slice s.ha s.homes.length s.hc, .slice s.ta s.tasks.length s.tc], .int .i64 of] w (IntsP w (othL of 0 s.tasks)) := by
  have hb := (Below.refl w.heap.size w).alloc (Nat.le_refl _) (.cells #[.int .i64 s.proto, .slice s.ca s.cores.length s.cc, .slice s.ha s.homes.length s.hc, .slice s.ta s.tasks.length s.tc] 25)
  have sc := SetCells.new w s 25
  have hg := Good.of ho
  have HG := hidp hg.parts
  have n6 := hg.ntasks.2
  have HR := hidp hs.tasks.at_
  have Hok := hidp hs.tasks.ok
  obtain ⟨i0, hi0, hy0, hy1, hy2⟩ := info_parts infoZ
  clear hs ho hg
  obtain ⟨proto, ca, cc, cores, ha, hc, homes, ta, tc, tasks⟩ := s
  dsimp only at HG HR Hok n6 hb ⊢
  obtain ⟨c0, c1, c2, c3⟩ := sc
  dsimp only at c0 c1 c2 c3
  go_enter Tryz.func81, Tryz.ntmps81
  go_wp2
  go_step3
  go_wp2
  go_step3
  go_wp2
  go_loopg [5, 12] tasks.length (fun gg a i wr => ∃ (k n c : Nat) (A : Option Addr), k + gg = tasks.length ∧ i = .int .i64 k ∧ a = .slice A n c ∧ n = (othL of 0 (tasks.take k)).length ∧ n ≤ c ∧ c ≤ maxLen ∧ (A = none → n = 0 ∧ c = 0) ∧ wr.ownsRow (w.heap.size + 1) 3 1 (.slice A n c) n ((othL of 0 (tasks.take k)).map (Value.int .i64)) ∧ Below w.heap.size w wr ∧ w.heap.size + 1 ≤ wr.heap.size)
  case atStart => exact ⟨0, 0, 0, none, by omega, rfl, rfl, rfl, Nat.le_refl _, by decide, fun _ => ⟨rfl, rfl⟩, World.ownsRow_nil _ _ _ _, hb, by simp⟩
  case round =>
    obtain ⟨k, n, c, A, hk, rfl, rfl, hn, hc1, hc2, hnil, hown, hw, hz⟩ := hrel
    clear c0 c1 c2 c3
    have hn6 : n ≤ 6 := by rw [hn]; have := othL_len of 0 (tasks.take k); rw [List.length_take] at this; omega
    have Hn := hidp hn
    clear hn
    by_cases hlt : k < tasks.length
    · obtain ⟨g, off, hA, hcl⟩ := HR.out.resolve_left (by intro e; rw [e] at hlt; simp at hlt)
      subst hA
      obtain ⟨t, HT⟩ : ∃ t, Hid (tasks.getD k default = t) := ⟨_, rfl⟩
      have tcl := (HT.out ▸ hcl k hlt).keep (Keeps.of_below hw)
      have hm : t ∈ tasks := HT.out ▸ getD_mem hlt
      have hw1 := hw.alloc hw.size (.cells #[.string t.name, .int .i64 t.per, .int .i64 t.dl, .int .i64 t.prio, .int .i64 t.cl, .slice t.pa t.parts.length t.pc] 41)
      have TL : Hid (TaskLen w t) := hidp ⟨(Hok.out t hm).at_, (HG.out t hm).lens, by have := (HG.out t hm).len; omega⟩
      obtain ⟨m, HM⟩ : ∃ m, Hid (maxL t.parts = m) := ⟨_, rfl⟩
      have m0 := maxL_nn t.parts
      have m1 := maxL_bd (HG.out t hm).lens
      rw [HM.out] at m0 m1
      have Hs : Hid (othL of 0 (tasks.take (k + 1)) = othL of 0 (tasks.take k) ++ (if (k : Int) = of ∨ m = 0 then [] else [m])) := hidp (by rw [othL_snoc _ _ _ hlt, HT.out, HM.out])
      clear hcl hm
      obtain ⟨d0, d1, d2, d3, d4, d5⟩ := tcl
      have tb := TaskBox.new wr t 41
      obtain ⟨b0, b1, b2, b3, b4, b5⟩ := tb
      have hskip : (((k : Int) == of) = true ∨ ((k : Int) == of) = false ∧ (m == 0) = true) ∨ (((k : Int) == of) = false ∧ (m == 0) = false) := by
        by_cases e1 : (k : Int) = of
        · exact .inl (.inl (by simpa using e1))
        · by_cases e2 : m = 0
          · exact .inl (.inr ⟨by simpa using e1, by simpa using e2⟩)
          · exact .inr ⟨by simpa using e1, by simpa using e2⟩
      rcases hskip with (e1 | ⟨e1, e2⟩) | ⟨e1, e2⟩
      · have Hz : Hid (othL of 0 (tasks.take (k + 1)) = othL of 0 (tasks.take k)) := hidp (by rw [Hs.out, if_pos (.inl (by simpa using e1))]; simp)
        go_wp2_with (first | (go_at_call 113; (with_reducible refine (longest_any _ _ (TL.out.keep (Keeps.of_below hw1))).mono ?_); rintro e w3 ⟨rfl, hb3⟩; rw [HM.out]))
        go_roundg (gk - 1)
        case measure => omega
        case rel => exact ⟨k + 1, n, c, A, by omega, by go_num, rfl, by rw [Hz.out]; exact Hn.out, hc1, hc2, hnil, by rw [Hz.out]; exact own_turned (hown.alloc _) (Turned.of_below hb3 []) (by simp), hw1.trans (hb3.mono hw1.size), Nat.le_trans hz (Nat.le_trans (by simp) hb3.size)⟩
      · have Hz : Hid (othL of 0 (tasks.take (k + 1)) = othL of 0 (tasks.take k)) := hidp (by rw [Hs.out, if_pos (.inr (by simpa using e2))]; simp)
        go_wp2_with (first | (go_at_call 113; (with_reducible refine (longest_any _ _ (TL.out.keep (Keeps.of_below hw1))).mono ?_); rintro e w3 ⟨rfl, hb3⟩; rw [HM.out]))
        go_roundg (gk - 1)
        case measure => omega
        case rel => exact ⟨k + 1, n, c, A, by omega, by go_num, rfl, by rw [Hz.out]; exact Hn.out, hc1, hc2, hnil, by rw [Hz.out]; exact own_turned (hown.alloc _) (Turned.of_below hb3 []) (by simp), hw1.trans (hb3.mono hw1.size), Nat.le_trans hz (Nat.le_trans (by simp) hb3.size)⟩
      · have Hz : Hid (othL of 0 (tasks.take (k + 1)) = othL of 0 (tasks.take k) ++ [m]) := hidp (by rw [Hs.out, if_neg (by rintro (h | h); (simp at e1; exact e1 h); (simp at e2; exact e2 h))])
        have N2 : Hid (n + 1 ≤ maxLen) := hidp (by unfold maxLen; omega)
        have T2 : Hid ((n + 1) * 8 ≤ 140737488355328) := hidp (by omega)
        have O2 : Hid (∀ u ∈ [Value.int .i64 m], u.oneCell' = true) := hidp (fun u hu => by simp at hu; subst hu; rfl)
        go_wp2_with (first | (go_at_call 113; (with_reducible refine (longest_any _ _ (TL.out.keep (Keeps.of_below hw1))).mono ?_); rintro e w3 ⟨rfl, hb3⟩; rw [HM.out]; have hown3 := (own_turned (hown.alloc (.cells #[.string t.name, .int .i64 t.per, .int .i64 t.dl, .int .i64 t.prio, .int .i64 t.cl, .slice t.pa t.parts.length t.pc] 41)) (Turned.of_below hb3 []) (by simp)).alloc (.cells #[.int .i64 m] 3); have S2 := hidp (Lies.newCells' w3 [.int .i64 m] 3); have hw3 := hw1.trans (hb3.mono hw1.size); have Z2 : Hid (w.heap.size + 1 ≤ (w3.alloc (.cells #[.int .i64 m] 3)).heap.size) := hidp (Nat.le_trans hz (Nat.le_trans (Nat.le_trans (by simp) hb3.size) (by simp)))) | (at_builtin; refine wpList_app2 _ rfl (.tmp 26) (.tmp 28) 22 rfl (w.heap.size + 1) 3 i0 _ 1 8 Tryz.underlying22 hi0 hy0 hy1 hy2 rfl (by decide) A n c _ rfl hown3 _ _ 1 1 [.int .i64 m] rfl (by simp) rfl S2.out O2.out N2.out T2.out Z2.out ?_; intro A' c' w4 happ))
        go_roundg (gk - 1)
        case measure => omega
        case rel => exact ⟨k + 1, n + 1, c', A', by omega, by go_num, rfl, by rw [Hz.out, List.length_append, ← Hn.out]; rfl, happ.cap.1, happ.cap.2, happ.nil, by rw [Hz.out, List.map_append]; exact happ.own, (hw3.alloc hw3.size _).trans (happ.turned.below (by have := hw3.size; simp; omega) (fun j hj => by have := (own_fp hown j hj).1; omega)), Nat.le_trans Z2.out happ.turned.size⟩
    · obtain rfl : k = tasks.length := by omega
      rw [List.take_length] at hown
      have Hn2 := Hn.out
      rw [List.take_length] at Hn2
      have hrow : Row wr .i64 A (othL of 0 tasks) := Lies.row (B := wr.heap.size) (Lies.of_own hown)
      have Hr := hidp hrow
      have Hf := hidp Hn2
      clear hrow Hn2
      go_wp2
      try rw [Exit.noGoto_ret]
      go_ret
      exact ⟨A, c, by show Ending.returned (.slice A n c) = _; rw [← Hf.out], Hr.out, by rw [← Hf.out]; exact ⟨hnil, hc1, hc2⟩, hw⟩

def aheadV (s : SetR) (of : Int) : Int := if thereB s of = true then (othL of 0 s.tasks).length else 0
end Go.Proofs.YtjjlpaampmpdfaaGreatDoor
