/- swingbridgeref11: Longest, others, Ahead, lock. -/
import Derived.Test.YtjjlpaampmpdfaaGreatDoorFair2
import Derived.Test.YtjjlpaampmpdfaaGreatDoorRef7d
namespace Go.Proofs.YtjjlpaampmpdfaaGreatDoor
open Go.ChangeShapes Go.WideShapes Go.ChangeAt Go.RowKit
set_option linter.unusedVariables false

theorem rthere_any (s : SetR) (of : Int) (w : World) (hs : SetOk w s) : Calls Tryz.prog 52 #[.agg #[.int .i64 s.proto, .slice s.ca s.cores.length s.cc, .slice s.ha s.homes.length s.hc, .slice s.ta s.tasks.length s.tc], .int .i64 of] w fun e w' => e = .returned (.bool (thereB s of)) ∧ Below w.heap.size w w' := by
  have hb := (Below.refl w.heap.size w).alloc (Nat.le_refl _) (.cells #[.int .i64 s.proto, .slice s.ca s.cores.length s.cc, .slice s.ha s.homes.length s.hc, .slice s.ta s.tasks.length s.tc] 25)
  have sc := SetCells.new w s 25
  have H := hidp (hs.keep (Keeps.of_below hb))
  have l3 : s.tasks.length ≤ maxLen := Nat.le_trans hs.tasks.sl.2.1 hs.tasks.sl.2.2
  unfold maxLen at l3
  clear hs
  by_cases ho : okS s = true
  · by_cases h0 : 0 ≤ of
    · have Hv : Hid (thereB s of = decide (of < s.tasks.length)) := hidp (by simp [thereB, ho, h0])
      go_enter Tryz.func52, Tryz.ntmps52
      go_wp2_with (first | (go_at_call 12; (with_reducible refine (rok_any _ _ H.out).mono ?_); rintro e w2 ⟨rfl, hb2⟩; have sc2 := sc.keep (Keeps.of_below hb2); obtain ⟨c0, c1, c2, c3⟩ := sc2))
      go_ret
      exact ⟨ret_bool Hv.out.symm, hb.trans (hb2.mono hb.size)⟩
    · have Hv : Hid (thereB s of = false) := hidp (by simp [thereB, h0])
      have d0 : decide (0 ≤ of) = false := by simpa using h0
      clear h0
      go_enter Tryz.func52, Tryz.ntmps52
      go_wp2_with (first | (go_at_call 12; (with_reducible refine (rok_any _ _ H.out).mono ?_); rintro e w2 ⟨rfl, hb2⟩; have sc2 := sc.keep (Keeps.of_below hb2); obtain ⟨c0, c1, c2, c3⟩ := sc2))
      go_ret
      exact ⟨ret_bool Hv.out.symm, hb.trans (hb2.mono hb.size)⟩
  · have ho : okS s = false := by simpa using ho
    have Hv : Hid (thereB s of = false) := hidp (by unfold thereB; rw [ho]; rfl)
    go_enter Tryz.func52, Tryz.ntmps52
    go_wp2_with (first | (go_at_call 12; (with_reducible refine (rok_any _ _ H.out).mono ?_); rintro e w2 ⟨rfl, hb2⟩; have sc2 := sc.keep (Keeps.of_below hb2); obtain ⟨c0, c1, c2, c3⟩ := sc2))
    go_ret
    exact ⟨ret_bool Hv.out.symm, hb.trans (hb2.mono hb.size)⟩

theorem rlongest_any (t : TaskR) (w : World) (h : TaskLen w t) : Calls Tryz.prog 53 #[.agg #[.string t.name, .int .i64 t.per, .int .i64 t.dl, .int .i64 t.prio, .int .i64 t.cl, .slice t.pa t.parts.length t.pc]] w fun e w' => e = .returned (.int .i64 (maxL t.parts)) ∧ Below w.heap.size w w' := by
  have HR := hidp h.at_
  have HL := hidp h.lens
  have hl := h.few
  clear h
  obtain ⟨nm, per, dl, prio, cl, pa, pc, parts⟩ := t
  dsimp only at HR HL hl ⊢
  have tb := TaskBox.new w ⟨nm, per, dl, prio, cl, pa, pc, parts⟩ 41
  have hb := (Below.refl w.heap.size w).alloc (Nat.le_refl _) (.cells #[.string nm, .int .i64 per, .int .i64 dl, .int .i64 prio, .int .i64 cl, .slice pa parts.length pc] 41)
  obtain ⟨b0, b1, b2, b3, b4, b5⟩ := tb
  dsimp only at b0 b1 b2 b3 b4 b5
  have Hb5 := hidp b5
  go_enter Tryz.func53, Tryz.ntmps53
  go_wp2
  go_loopg [3, 4] parts.length (fun g s i wr => ∃ (k : Nat) (x : Int), k + g = parts.length ∧ i = .int .i64 k ∧ s = .int .i64 x ∧ Hid (maxL (parts.take k) = x) ∧ (w.alloc (.cells #[.string nm, .int .i64 per, .int .i64 dl, .int .i64 prio, .int .i64 cl, .slice pa parts.length pc] 41)) = wr)
  case atStart => exact ⟨0, 0, by omega, rfl, rfl, hidp (by simp [maxL]), rfl⟩
  case round =>
    obtain ⟨k, x, hk, rfl, rfl, Hx, rfl⟩ := hrel
    by_cases hlt : k < parts.length
    · obtain ⟨g, off, hA, hc⟩ := HR.out.resolve_left (by intro e; rw [e] at hlt; simp at hlt)
      subst hA
      obtain ⟨p, HN⟩ : ∃ p, Hid (parts.getD k default = p) := ⟨_, rfl⟩
      have hc := HN.out ▸ hc k hlt
      obtain ⟨c0, c1, c2⟩ := hc.keep (Keeps.of_below hb)
      clear hc
      have Hs : Hid (maxL (parts.take (k + 1)) = max x (if p.kind = 3 then p.len else 0)) := hidp (by rw [maxL_snoc _ _ hlt, Hx.out, HN.out])
      have x0 := maxL_nn (parts.take k)
      rw [Hx.out] at x0
      have hp := HL.out p (HN.out ▸ getD_mem hlt)
      obtain ⟨p1, p2⟩ := hp
      by_cases e : p.kind = 3
      · have e' : (p.kind == 3) = true := by simpa using e
        have Hz : Hid (maxL (parts.take (k + 1)) = max x p.len) := hidp (by rw [Hs.out, if_pos e])
        clear e
        go_wp2
        go_roundg (gk - 1)
        case measure => omega
        case rel => exact ⟨k + 1, max x p.len, by omega, by go_num, rfl, Hz, rfl⟩
      · have e' : (p.kind == 3) = false := by simpa using e
        have Hz : Hid (maxL (parts.take (k + 1)) = x) := hidp (by rw [Hs.out, if_neg e]; omega)
        clear e
        go_wp2
        go_roundg (gk - 1)
        case measure => omega
        case rel => exact ⟨k + 1, x, by omega, by go_num, rfl, Hz, rfl⟩
    · have Hz : Hid (maxL parts = x) := hidp (by rw [← Hx.out, List.take_of_length_le (by omega)])
      go_wp2
      go_ret
      exact ⟨ret_int Hz.out.symm, hb⟩

/-- the longest Locks of all but one task, 0 where there is none -/
def rothL (of : Int) : Nat → List TaskR → List Int
  | _, [] => []
  | k, t :: ts => (if (k : Int) = of then [] else [maxL t.parts]) ++ rothL of (k + 1) ts
theorem rothL_append (of : Int) (k : Nat) (a b : List TaskR) : rothL of k (a ++ b) = rothL of k a ++ rothL of (k + a.length) b := by
  induction a generalizing k with
  | nil => simp [rothL]
  | cons t a ih => simp only [List.cons_append, rothL, ih, List.length_cons, List.append_assoc]; rw [show k + 1 + a.length = k + (a.length + 1) by omega]
theorem rothL_snoc (of : Int) (ts : List TaskR) (n : Nat) (h : n < ts.length) : rothL of 0 (ts.take (n + 1)) = rothL of 0 (ts.take n) ++ (if (n : Int) = of then [] else [maxL (ts.getD n default).parts]) := by
  rw [take_snocD ts n h, rothL_append]; simp [rothL, List.length_take, Nat.min_eq_left (Nat.le_of_lt h)]
theorem rothL_len (of : Int) (k : Nat) (ts : List TaskR) : (rothL of k ts).length ≤ ts.length := by
  induction ts generalizing k with
  | nil => simp [rothL]
  | cons t ts ih =>
    have := ih (k + 1)
    simp only [rothL, List.length_append, List.length_cons]
    split
    · simp; omega
    · simp; omega
theorem rothL_bd {of : Int} {k : Nat} {ts : List TaskR} (h : ∀ t ∈ ts, LenOk t.parts) : ∀ n ∈ rothL of k ts, 0 ≤ n ∧ n ≤ 60 := by
  induction ts generalizing k with
  | nil => simp [rothL]
  | cons t ts ih =>
    intro n hn
    simp only [rothL, List.mem_append] at hn
    rcases hn with hn | hn
    · have h1 := maxL_nn t.parts
      have h2 := maxL_bd (h t (by simp))
      split at hn
      · simp at hn
      · simp at hn; subst hn; omega
    · exact ih (fun q hq => h q (by simp [hq])) n hn
/-- how many of a row are greater than 0 -/
def posN : List Int → Int
  | [] => 0
  | a :: l => (if 0 < a then 1 else 0) + posN l
theorem posN_append (a b : List Int) : posN (a ++ b) = posN a + posN b := by
  induction a with
  | nil => simp [posN]
  | cons x a ih => simp only [List.cons_append, posN, ih]; omega
theorem posN_bd (l : List Int) : 0 ≤ posN l ∧ posN l ≤ l.length := by
  induction l with
  | nil => simp [posN]
  | cons a l ih => simp only [posN, List.length_cons]; split <;> omega
theorem posN_snoc (l : List Int) (k : Nat) (h : k < l.length) : posN (l.take (k + 1)) = posN (l.take k) + if 0 < l.getD k 0 then 1 else 0 := by
  rw [take_snoc l k h, posN_append]; simp only [posN, Int.add_zero]
theorem roth_is (of : Int) (k : Nat) (ts : List TaskR) : tot (rothL of k ts) = tot (othL of k ts) ∧ posN (rothL of k ts) = (othL of k ts).length := by
  induction ts generalizing k with
  | nil => simp [rothL, othL, tot, posN]
  | cons t ts ih =>
    obtain ⟨i1, i2⟩ := ih (k + 1)
    have hm := maxL_nn t.parts
    simp only [rothL, othL, tot_append, posN_append, List.length_append, i1, i2]
    by_cases e : (k : Int) = of
    · rw [if_pos e, if_pos (.inl e)]; simp [tot, posN]
    · rw [if_neg e]
      by_cases z : maxL t.parts = 0
      · rw [if_pos (.inr z)]; simp [tot, posN, z]
      · rw [if_neg (fun h => h.elim e z)]; simp [tot, posN, show 0 < maxL t.parts by omega]

set_option maxHeartbeats 4000000 in
set_option maxRecDepth 100000 in
theorem rothers_any (s : SetR) (of : Int) (w : World) (hs : SetOk w s) (ho : okS s = true) : Calls Tryz.prog 97 #[.agg #[.int .i64 s.proto, .slice s.ca s.cores.length s.cc, .slice s.ha s.homes.length s.hc, .slice s.ta s.tasks.length s.tc], .int .i64 of] w (IntsP w (rothL of 0 s.tasks)) := by
  have hb := (Below.refl w.heap.size w).alloc (Nat.le_refl _) (.cells #[.int .i64 s.proto, .slice s.ca s.cores.length s.cc, .slice s.ha s.homes.length s.hc, .slice s.ta s.tasks.length s.tc] 25)
  have sc := SetCells.new w s 25
  have hg := Good.of ho
  have HG := hidp hg.parts
  have n6 := hg.ntasks.2
  have HR := hidp hs.tasks.at_
  have Hok := hidp hs.tasks.ok
  obtain ⟨i0, hi0, hy0, hy1, hy2⟩ := info_parts infoZ
  clear hs ho hg
  obtain ⟨proto, ca, cc, cores, ha, hc, homes, ta, tc, tasks⟩ := s
  dsimp only at HG HR Hok n6 hb ⊢
  have sc2 := sc
  obtain ⟨c0, c1, c2, c3⟩ := sc2
  dsimp only at c0 c1 c2 c3
  go_enter Tryz.func97, Tryz.ntmps97
  go_wp2
  go_loopg [5, 6] tasks.length (fun gg a i wr => ∃ (k n c : Nat) (A : Option Addr), k + gg = tasks.length ∧ i = .int .i64 k ∧ a = .slice A n c ∧ n = (rothL of 0 (tasks.take k)).length ∧ n ≤ c ∧ c ≤ maxLen ∧ (A = none → n = 0 ∧ c = 0) ∧ wr.ownsRow (w.heap.size + 1) 3 1 (.slice A n c) n ((rothL of 0 (tasks.take k)).map (Value.int .i64)) ∧ SetCells wr w.heap.size ⟨proto, ca, cc, cores, ha, hc, homes, ta, tc, tasks⟩ ∧ Below w.heap.size w wr ∧ w.heap.size + 1 ≤ wr.heap.size)
  case atStart => exact ⟨0, 0, 0, none, by omega, rfl, rfl, rfl, Nat.le_refl _, by decide, fun _ => ⟨rfl, rfl⟩, World.ownsRow_nil _ _ _ _, sc, hb, by simp⟩
  case round =>
    obtain ⟨k, n, c, A, hk, rfl, rfl, hn, hc1, hc2, hnil, hown, sc, hw, hz⟩ := hrel
    clear c0 c1 c2 c3
    have sc2 := sc
    obtain ⟨c0, c1, c2, c3⟩ := sc2
    dsimp only at c0 c1 c2 c3
    have hn6 : n ≤ 6 := by rw [hn]; have := rothL_len of 0 (tasks.take k); rw [List.length_take] at this; omega
    have Hn := hidp hn
    clear hn
    by_cases hlt : k < tasks.length
    · obtain ⟨g, off, hA, hcl⟩ := HR.out.resolve_left (by intro e; rw [e] at hlt; simp at hlt)
      subst hA
      obtain ⟨t, HT⟩ : ∃ t, Hid (tasks.getD k default = t) := ⟨_, rfl⟩
      have tcl := (HT.out ▸ hcl k hlt).keep (Keeps.of_below hw)
      have hm : t ∈ tasks := HT.out ▸ getD_mem hlt
      have TL : Hid (TaskLen w t) := hidp ⟨(Hok.out t hm).at_, (HG.out t hm).lens, by have := (HG.out t hm).len; omega⟩
      obtain ⟨m, HM⟩ : ∃ m, Hid (maxL t.parts = m) := ⟨_, rfl⟩
      have Hs : Hid (rothL of 0 (tasks.take (k + 1)) = rothL of 0 (tasks.take k) ++ (if (k : Int) = of then [] else [m])) := hidp (by rw [rothL_snoc _ _ _ hlt, HT.out, HM.out])
      clear hcl hm
      obtain ⟨d0, d1, d2, d3, d4, d5⟩ := tcl
      by_cases e : (k : Int) = of
      · have e1 : ((k : Int) != of) = false := by simpa using e
        have Hz : Hid (rothL of 0 (tasks.take (k + 1)) = rothL of 0 (tasks.take k)) := hidp (by rw [Hs.out, if_pos e]; simp)
        clear e
        go_wp2
        go_roundg (gk - 1)
        case measure => omega
        case rel => exact ⟨k + 1, n, c, A, by omega, by go_num, rfl, by rw [Hz.out]; exact Hn.out, hc1, hc2, hnil, by rw [Hz.out]; exact hown, sc, hw, hz⟩
      · have e1 : ((k : Int) != of) = true := by simpa using e
        have Hz : Hid (rothL of 0 (tasks.take (k + 1)) = rothL of 0 (tasks.take k) ++ [m]) := hidp (by rw [Hs.out, if_neg e])
        have N2 : Hid (n + 1 ≤ maxLen) := hidp (by unfold maxLen; omega)
        have T2 : Hid ((n + 1) * 8 ≤ 140737488355328) := hidp (by omega)
        have O2 : Hid (∀ u ∈ [Value.int .i64 m], u.oneCell' = true) := hidp (fun u hu => by simp at hu; subst hu; rfl)
        clear e
        go_wp2_with (first | (go_at_call 53; (with_reducible refine (rlongest_any _ _ (TL.out.keep (Keeps.of_below hw))).mono ?_); rintro e w3 ⟨rfl, hb3⟩; rw [HM.out]; have hown3 := (own_turned hown (Turned.of_below hb3 []) (by simp)).alloc (.cells #[.int .i64 m] 3); have S2 := hidp (Lies.newCells' w3 [.int .i64 m] 3); have hw3 := hw.trans (hb3.mono hw.size); have sc3 := (sc.keep (Keeps.of_below hb3)).keep (Keeps.alloc _ (.cells #[.int .i64 m] 3)); have Z2 : Hid (w.heap.size + 1 ≤ (w3.alloc (.cells #[.int .i64 m] 3)).heap.size) := hidp (Nat.le_trans hz (Nat.le_trans hb3.size (by simp)))) | (at_builtin; refine wpList_app2 _ rfl (.tmp 17) (.tmp 24) 22 rfl (w.heap.size + 1) 3 i0 _ 1 8 Tryz.underlying22 hi0 hy0 hy1 hy2 rfl (by decide) A n c _ rfl hown3 _ _ 1 1 [.int .i64 m] rfl (by simp) rfl S2.out O2.out N2.out T2.out Z2.out ?_; intro A' c' w4 happ))
        go_roundg (gk - 1)
        case measure => omega
        case rel => exact ⟨k + 1, n + 1, c', A', by omega, by go_num, rfl, by rw [Hz.out, List.length_append, ← Hn.out]; rfl, happ.cap.1, happ.cap.2, happ.nil, by rw [Hz.out, List.map_append]; exact happ.own, sc3.turned happ.turned (fun hf => by have := (own_fp hown _ hf).1; omega), (hw3.alloc hw3.size _).trans (happ.turned.below (by have := hw3.size; simp; omega) (fun j hj => by have := (own_fp hown j hj).1; omega)), Nat.le_trans Z2.out happ.turned.size⟩
    · obtain rfl : k = tasks.length := by omega
      rw [List.take_length] at hown
      have Hn2 := Hn.out
      rw [List.take_length] at Hn2
      have Hr := hidp (Lies.row (B := wr.heap.size) (k := .i64) (Lies.of_own hown))
      have Hf := hidp Hn2
      clear Hn2
      go_wp2
      go_ret
      exact ⟨A, c, by show Ending.returned (.slice A n c) = _; rw [← Hf.out], Hr.out, by rw [← Hf.out]; exact ⟨hnil, hc1, hc2⟩, hw⟩
end Go.Proofs.YtjjlpaampmpdfaaGreatDoor
