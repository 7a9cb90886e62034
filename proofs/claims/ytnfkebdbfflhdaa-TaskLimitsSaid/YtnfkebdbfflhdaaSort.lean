/- sorted: rows of items on the heap; merge. -/
import Derived.Test.YtnfkebdbfflhdaaSortMath
import Derived.Deep.LoopGhost
import Derived.Deep.QuietTactic
import Derived.BigQuiet
import Derived.Outline
namespace Go.Proofs.Ytnfkebdbfflhdaa
open Go.ChangeShapes Go.WideShapes Go.ChangeAt Go.RowKit
set_option maxRecDepth 100000
set_option linter.unusedVariables false

theorem infoItem : (Try.prog.info? 48).map (fun i => (i.zero, i.size, i.bytes)) = some (some (.agg #[.int .i64 0, .int .i64 0]), 2, 16) := by kernel_rfl
/-- the cells of a row of items -/
def pcs (ps : List (Int × Int)) : List Value := ps.flatMap fun p => [.int .i64 p.1, .int .i64 p.2]
theorem pcs_len (ps : List (Int × Int)) : (pcs ps).length = ps.length * 2 := by
  induction ps with
  | nil => rfl
  | cons p ps ih => simp only [pcs, List.flatMap_cons, List.length_append, List.length_cons, List.length_nil] at *; omega
theorem pcs_append (a b : List (Int × Int)) : pcs (a ++ b) = pcs a ++ pcs b := by simp [pcs]
theorem pcs_one (ps : List (Int × Int)) : ∀ u ∈ pcs ps, u.oneCell' = true := fun u hu => by
  obtain ⟨p, _, h⟩ := List.mem_flatMap.1 hu
  simp at h
  rcases h with rfl | rfl <;> rfl
theorem pcs_drop (ps : List (Int × Int)) (k : Nat) : (pcs ps).drop (k * 2) = pcs (ps.drop k) := by
  induction k generalizing ps with
  | zero => simp
  | succ k ih =>
    cases ps with
    | nil => simp [pcs]
    | cons p ps =>
      rw [show (k + 1) * 2 = k * 2 + 1 + 1 by omega]
      simp only [pcs, List.flatMap_cons, List.cons_append, List.nil_append, List.drop_succ_cons]
      exact ih ps
theorem pcs_take (ps : List (Int × Int)) (k : Nat) : (pcs ps).take (k * 2) = pcs (ps.take k) := by
  have h := pcs_append (ps.take k) (ps.drop k)
  rw [List.take_append_drop] at h
  by_cases hk : k ≤ ps.length
  · rw [h, List.take_left']
    rw [pcs_len]; simp; omega
  · rw [List.take_of_length_le (by rw [pcs_len]; omega), List.take_of_length_le (by omega)]
theorem pcs_at (ps : List (Int × Int)) (k : Nat) (hk : k < ps.length) : (pcs ps)[k * 2]? = some (.int .i64 (ps.getD k (0, 0)).1) ∧ (pcs ps)[k * 2 + 1]? = some (.int .i64 (ps.getD k (0, 0)).2) := by
  have h := pcs_drop ps k
  rw [List.drop_eq_getElem_cons hk] at h
  have h0 := congrArg (fun l => l[0]?) h
  have h1 := congrArg (fun l => l[1]?) h
  simp only [List.getElem?_drop, Nat.add_zero] at h0 h1
  have hg : ps.getD k (0, 0) = ps[k] := by simp [List.getD, hk]
  rw [hg, h0, h1]
  exact ⟨rfl, rfl⟩

/-- a slice of items somewhere, that is only read -/
structure RdI (w : World) (A : Option Addr) (n c : Nat) (ps : List (Int × Int)) : Prop where
  lies : Lies w.heap.size w A (pcs ps)
  len : n = ps.length
  cap : ps.length ≤ c ∧ c ≤ maxLen
  nil : A = none → ps = [] ∧ c = 0
  fit : ∀ p ∈ ps, I64 p.1 ∧ I64 p.2
/-- a row of items of the call's own -/
structure OwnI (B : Nat) (w : World) (A : Option Addr) (n c : Nat) (ps : List (Int × Int)) : Prop where
  own : w.ownsRow B 48 2 (.slice A n c) n (pcs ps)
  len : n = ps.length
  cap : n ≤ c ∧ c ≤ maxLen
  nil : A = none → n = 0 ∧ c = 0
  fit : ∀ p ∈ ps, I64 p.1 ∧ I64 p.2
section
variable {w w' : World} {A : Option Addr} {n c B : Nat} {ps : List (Int × Int)}
theorem RdI.over (h : RdI w A n c ps) (hb : Below w.heap.size w w') : RdI w' A n c ps := ⟨(h.lies.below hb).mono hb.size, h.len, h.cap, h.nil, h.fit⟩
theorem RdI.drew (h : RdI w A n c ps) : RdI w.drew A n c ps := ⟨h.lies, h.len, h.cap, h.nil, h.fit⟩
theorem RdI.drewN (h : RdI w A n c ps) (k : Nat) : RdI (w.drewN k) A n c ps := ⟨h.lies, h.len, h.cap, h.nil, h.fit⟩
theorem RdI.of_own (h : OwnI B w A n c ps) : RdI w A n c ps := by
  obtain ⟨h1, rfl, h2, h3, h4⟩ := h
  refine ⟨Lies.of_own h1, rfl, h2, fun e => ⟨List.eq_nil_of_length_eq_zero (h3 e).1, (h3 e).2⟩, h4⟩
theorem OwnI.low {B' : Nat} (h : OwnI B w A n c ps) (hB : B' ≤ B) : OwnI B' w A n c ps := ⟨own_base h.own (fun k hk => Nat.le_trans hB (h.own.lt k hk).1), h.len, h.cap, h.nil, h.fit⟩
/-- what s[k:] is -/
theorem RdI.cut {g off : Nat} (h : RdI w (some ⟨g, off, none⟩) n c ps) (k : Nat) (hk : k ≤ ps.length) :
    RdI w (if c = k then some ⟨g, off, none⟩ else some ⟨g, off + k * 2, none⟩) (n - k) (c - k) (ps.drop k) := by
  have hl := h.len
  have hc := h.cap
  subst hl
  refine ⟨?_, by simp, by simp; omega, (fun e => by split at e <;> cases e), fun n hn => h.fit n (List.mem_of_mem_drop hn)⟩
  rw [← pcs_drop]
  by_cases e : c = k
  · rw [if_pos e, List.drop_eq_nil_of_le (by rw [pcs_len]; omega)]; exact .inl rfl
  · rw [if_neg e]; exact h.lies.drop (k * 2)
/-- what s[:k] is -/
theorem RdI.head (h : RdI w A n c ps) (k : Nat) (hk : k ≤ ps.length) : RdI w A k c (ps.take k) := by
  have hc := h.cap
  refine ⟨?_, by simp; omega, by simp; omega, fun e => ⟨by simp [(h.nil e).1], (h.nil e).2⟩, fun n hn => h.fit n (List.mem_of_mem_take hn)⟩
  rw [← pcs_take]; exact h.lies.take (k * 2)
theorem RdI.some_ (h : RdI w A n c ps) (hn : 0 < ps.length) : ∃ g off, A = some ⟨g, off, none⟩ := by
  rcases h.lies with h1 | ⟨b, off, e, _⟩
  · have := congrArg List.length h1; rw [pcs_len] at this; simp at this; omega
  · exact ⟨b, off, e⟩
theorem RdI.cells {g off k : Nat} (h : RdI w (some ⟨g, off, none⟩) n c ps) (hk : k < ps.length) :
    w.cell? ⟨g, off + k * 2, none⟩ = some (.int .i64 (ps.getD k (0, 0)).1) ∧ w.cell? ⟨g, off + k * 2 + 1, none⟩ = some (.int .i64 (ps.getD k (0, 0)).2) := by
  rcases h.lies with h1 | ⟨b, o, e, _, hc⟩
  · have := congrArg List.length h1; rw [pcs_len] at this; simp at this; omega
  · injection e with e; injection e with e1 e2
    subst e1; subst e2
    obtain ⟨a1, a2⟩ := pcs_at ps k hk
    exact ⟨hc _ _ a1, by have := hc _ _ a2; rwa [← Nat.add_assoc] at this⟩
theorem Lies.newCells (w : World) (cs : List Value) (T : TypeId) : Lies (w.heap.size + 1) (w.alloc (.cells cs.toArray T)) (some ⟨w.heap.size, 0, none⟩) cs := by
  refine .inr ⟨_, 0, rfl, by omega, fun j v hj => ?_⟩
  have := (Bk.new w T cs.toArray).cell j
  rw [Nat.zero_add, this]
  simpa using hj
/-- one item more -/
theorem OwnI.app {B : Nat} {w1 w2 : World} {A A' : Option Addr} {n c c' : Nat} {rs ps : List (Int × Int)} {m : Nat} (h : OwnI B w A n c rs) (ha : App B 48 2 w1 A A' (n + m) c' (pcs rs ++ pcs ps) w2) (hm : m = ps.length) (hf : ∀ p ∈ ps, I64 p.1 ∧ I64 p.2) : OwnI B w2 A' (n + m) c' (rs ++ ps) :=
  ⟨by rw [pcs_append]; exact ha.own, by rw [List.length_append, h.len, hm], ha.cap, ha.nil, fun p hp => (List.mem_append.1 hp).elim (h.fit p) (hf p)⟩
end

def SortPost (w : World) (n : Nat) (ps : List (Int × Int)) (e : Ending) (w' : World) : Prop := ∃ A c, e = .returned (.slice A n c) ∧ OwnI w.heap.size w' A n c ps ∧ Below w.heap.size w w'
theorem merge_any {w : World} {A1 A2 : Option Addr} {n1 n2 c1 c2 : Nat} {xs ys : List (Int × Int)} (h1 : RdI w A1 n1 c1 xs) (h2 : RdI w A2 n2 c2 ys) (hl : n1 + n2 ≤ 1000) :
    Calls Try.prog 34 #[.slice A1 n1 c1, .slice A2 n2 c2] w (SortPost w (n1 + n2) (mrg xs ys)) := by
  obtain ⟨i0, hi0, hz0, hz1, hz2⟩ := info_parts infoItem
  have m1 := h1.cap.2
  have m2 := h2.cap.2
  unfold maxLen at m1 m2
  have e0 : ((n1 : Int) + (n2 : Int)) = ((n1 + n2 : Nat) : Int) := by omega
  have hfx := h1.fit
  have hfy := h2.fit
  have Hfx := hidp hfx
  have Hfy := hidp hfy
  clear hfx hfy
  have L1 := hidp h1.len
  have L2 := hidp h2.len
  have B2 : Hid (i0.bytes * (n1 + n2) ≤ 281474976710656) := hidp (by rw [hz2]; omega)
  have B3 : Hid (n1 + n2 ≤ maxLen) := hidp (by unfold maxLen; omega)
  have E0 := hidp e0
  clear e0
  go_enter Try.func34, Try.ntmps34
  go_wp2
  go_step3
  go_wp2_with (at_make; go_loud (refine wpList_make_own _ rfl _ _ 46 rfl w.heap.size 48 i0 _ 2 Try.underlying46 hi0 hz0 hz1 .i64 .i64 _ (n1 + n2) rfl rfl E0.out B2.out B3.out (Nat.le_refl _) ?_); intro w0 hown0 hgrow0)
  have hbe0 : Below w.heap.size w w0 := (Below.refl _ _).grown hgrow0 (Nat.le_refl _) (by simp)
  have hO : OwnI w.heap.size w0 (some ⟨w.heap.size, 0, none⟩) 0 (n1 + n2) [] := ⟨hown0, rfl, ⟨Nat.zero_le _, B3.out⟩, (fun e => by cases e), by simp⟩
  clear hown0 hgrow0
  go_step3
  go_wp2
  go_loopg [0, 1, 5] (n1 + n2) (fun g s0 s1 s5 wr => ∃ (A1 A2 A3 : Option Addr) (p1 d1 p2 d2 p3 d3 : Nat) (xs1 ys1 rs : List (Int × Int)), s0 = .slice A1 p1 d1 ∧ s1 = .slice A2 p2 d2 ∧ s5 = .slice A3 p3 d3 ∧ p1 + p2 = g ∧ p3 + g = n1 + n2 ∧
    RdI w A1 p1 d1 xs1 ∧ RdI w A2 p2 d2 ys1 ∧ OwnI w.heap.size wr A3 p3 d3 rs ∧ Hid (rs ++ mrg xs1 ys1 = mrg xs ys) ∧ Below w.heap.size w wr)
  case atStart => exact ⟨A1, A2, _, n1, c1, n2, c2, 0, n1 + n2, xs, ys, [], rfl, rfl, rfl, rfl, by omega, h1, h2, hO, hidp rfl, hbe0⟩
  case round =>
    obtain ⟨A1, A2, A3, p1, d1, p2, d2, p3, d3, xs1, ys1, rs, rfl, rfl, rfl, hg, hp3, r1, r2, ho, hm, hbe⟩ := hrel
    clear hO hbe0 h1 h2
    have K1 := hidp r1.len
    have K2 := hidp r2.len
    have M1 := r1.cap
    have M2 := r2.cap
    unfold maxLen at M1 M2
    have hown := ho.own
    match xs1, ys1 with
    | [], ys1 =>
      obtain rfl : p1 = 0 := K1.out
      have e1 : Hid (mrg xs ys = rs ++ ys1) := hidp (by rw [← hm.out]; simp [mrg])
      have P2 : Hid (A2 = none → p2 = 0 ∧ d2 = 0) := hidp fun e => ⟨by have := (r2.nil e).1; subst this; exact K2.out, (r2.nil e).2⟩
      have Q2 : Hid ((pcs ys1).length = p2 * 2) := hidp (by rw [pcs_len, K2.out])
      have S2 := hidp (r2.over hbe).lies
      have O2 := hidp (pcs_one ys1)
      have N2 : Hid (p3 + p2 ≤ maxLen) := hidp (by unfold maxLen; omega)
      have T2 : Hid ((p3 + p2) * 16 ≤ 140737488355328) := hidp (by omega)
      go_wp2_with (at_builtin; refine wpList_app2 _ rfl (.tmp 24) (.tmp 25) 46 rfl w.heap.size 48 i0 _ 2 16 Try.underlying46 hi0 hz0 hz1 hz2 rfl (by decide) A3 p3 d3 _ rfl hown _ _ p2 d2 (pcs ys1) rfl P2.out Q2.out S2.out O2.out N2.out T2.out hbe.size ?_; intro A' c' w1 happ)
      try rw [Exit.noGoto_ret]
      go_ret
      have hn : p3 + p2 = n1 + n2 := by omega
      refine ⟨A', c', by rw [← hn]; rfl, ?_, hbe.trans (happ.turned.below hbe.size (fun k hk => (own_fp ho.own k hk).1))⟩
      rw [e1.out, ← hn]
      exact ho.app happ K2.out r2.fit
    | x :: xs', [] =>
      obtain rfl : p2 = 0 := K2.out
      have e1 : Hid (mrg xs ys = rs ++ x :: xs') := hidp (by rw [← hm.out, mrg_nil])
      have hp1 : ((p1 : Int) == 0) = false := by have := K1.out; simp at this; simp; omega
      have P2 : Hid (A1 = none → p1 = 0 ∧ d1 = 0) := hidp fun e => by have := (r1.nil e).1; simp at this
      have Q2 : Hid ((pcs (x :: xs')).length = p1 * 2) := hidp (by rw [pcs_len, K1.out])
      have S2 := hidp (r1.over hbe).lies
      have O2 := hidp (pcs_one (x :: xs'))
      have N2 : Hid (p3 + p1 ≤ maxLen) := hidp (by unfold maxLen; omega)
      have T2 : Hid ((p3 + p1) * 16 ≤ 140737488355328) := hidp (by omega)
      go_wp2_with (at_builtin; refine wpList_app2 _ rfl (.tmp 31) (.tmp 32) 46 rfl w.heap.size 48 i0 _ 2 16 Try.underlying46 hi0 hz0 hz1 hz2 rfl (by decide) A3 p3 d3 _ rfl hown _ _ p1 d1 (pcs (x :: xs')) rfl P2.out Q2.out S2.out O2.out N2.out T2.out hbe.size ?_; intro A' c' w1 happ)
      try rw [Exit.noGoto_ret]
      go_ret
      have hn : p3 + p1 = n1 + n2 := by omega
      refine ⟨A', c', by rw [← hn]; rfl, ?_, hbe.trans (happ.turned.below hbe.size (fun k hk => (own_fp ho.own k hk).1))⟩
      rw [e1.out, ← hn]
      exact ho.app happ K1.out r1.fit
    | x :: xs', y :: ys' =>
      have hp1 : ((p1 : Int) == 0) = false := by have := K1.out; simp at this; simp; omega
      have hp2 : ((p2 : Int) == 0) = false := by have := K2.out; simp at this; simp; omega
      have hq1 : (0 : Int) < (p1 : Int) := by have := K1.out; simp at this; omega
      have hq2 : (0 : Int) < (p2 : Int) := by have := K2.out; simp at this; omega
      obtain ⟨g1, o1, rfl⟩ := r1.some_ (by simp)
      obtain ⟨g2, o2, rfl⟩ := r2.some_ (by simp)
      obtain ⟨a1, a2⟩ := (r1.over hbe).cells (k := 0) (by simp)
      obtain ⟨b1, b2⟩ := (r2.over hbe).cells (k := 0) (by simp)
      simp only [Nat.zero_mul, Nat.add_zero, List.getD_cons_zero] at a1 a2 b1 b2
      obtain ⟨C1, hC1, R1⟩ : ∃ C, (if d1 = 1 then some (⟨g1, o1, none⟩ : Addr) else some ⟨g1, o1 + 2, none⟩) = C ∧ Hid (RdI w C (p1 - 1) (d1 - 1) xs') := ⟨_, rfl, hidp (by simpa using r1.cut 1 (by simp))⟩
      obtain ⟨C2, hC2, R2⟩ : ∃ C, (if d2 = 1 then some (⟨g2, o2, none⟩ : Addr) else some ⟨g2, o2 + 2, none⟩) = C ∧ Hid (RdI w C (p2 - 1) (d2 - 1) ys') := ⟨_, rfl, hidp (by simpa using r2.cut 1 (by simp))⟩
      have ha1 : 1 ≤ p1 := by omega
      have ha2 : 1 ≤ p2 := by omega
      have hd1 : 1 ≤ d1 := by have := M1.1; simp at this; omega
      have hd2 : 1 ≤ d2 := by have := M2.1; simp at this; omega
      obtain ⟨x1, x2⟩ := x
      obtain ⟨y1, y2⟩ := y
      simp only at a1 a2 b1 b2
      have N2 : Hid (p3 + 1 ≤ maxLen) := hidp (by unfold maxLen; omega)
      have T2 : Hid ((p3 + 1) * 16 ≤ 140737488355328) := hidp (by omega)
      by_cases hlt : y1 < x1
      · have e1 : Hid ((rs ++ [(y1, y2)]) ++ mrg ((x1, x2) :: xs') ys' = mrg xs ys) := hidp (by rw [← hm.out]; simp [mrg, hlt])
        have O2 := hidp (pcs_one [(y1, y2)])
        go_wp2
        go_quiet (fail)
        have hown2 := (World.ownsRow.alloc (w := wr.drewN nq) hown (.cells (pcs [(y1, y2)]).toArray 48))
        have S2 := hidp (Lies.newCells (wr.drewN nq) (pcs [(y1, y2)]) 48)
        have Z2 : Hid (w.heap.size ≤ ((wr.drewN nq).alloc (.cells (pcs [(y1, y2)]).toArray 48)).heap.size) := hidp (Nat.le_trans hbe.size (by simp))
        go_wp2_with (at_builtin; go_loud (refine wpList_app2 _ rfl (.tmp 44) (.tmp 48) 46 rfl w.heap.size 48 i0 _ 2 16 Try.underlying46 hi0 hz0 hz1 hz2 rfl (by decide) A3 p3 d3 _ rfl hown2 _ _ 1 1 (pcs [(y1, y2)]) rfl (by simp) rfl S2.out O2.out N2.out T2.out Z2.out ?_); intro A' c' w1 happ)
        go_roundg (gk - 1)
        case measure => omega
        case rel =>
          have hb2 : Below w.heap.size w w1 := (((below_drewN hbe nq).alloc (by have := hbe.size; simpa using this) _)).trans (happ.turned.below Z2.out (fun k hk => (own_fp ho.own k hk).1))
          exact ⟨_, _, A', _, _, _, _, p3 + 1, c', _, _, rs ++ [(y1, y2)], rfl, rfl, rfl, by omega, by omega, r1, R2.out, ho.app happ rfl (by intro p hp; simp at hp; subst hp; exact r2.fit _ (by simp)), e1, hb2⟩
      · have e1 : Hid ((rs ++ [(x1, x2)]) ++ mrg xs' ((y1, y2) :: ys') = mrg xs ys) := hidp (by rw [← hm.out]; simp [mrg, hlt])
        have O2 := hidp (pcs_one [(x1, x2)])
        go_wp2
        go_quiet (fail)
        have hown2 := (World.ownsRow.alloc (w := wr.drewN nq) hown (.cells (pcs [(x1, x2)]).toArray 48))
        have S2 := hidp (Lies.newCells (wr.drewN nq) (pcs [(x1, x2)]) 48)
        have Z2 : Hid (w.heap.size ≤ ((wr.drewN nq).alloc (.cells (pcs [(x1, x2)]).toArray 48)).heap.size) := hidp (Nat.le_trans hbe.size (by simp))
        go_wp2_with (at_builtin; go_loud (refine wpList_app2 _ rfl (.tmp 12) (.tmp 16) 46 rfl w.heap.size 48 i0 _ 2 16 Try.underlying46 hi0 hz0 hz1 hz2 rfl (by decide) A3 p3 d3 _ rfl hown2 _ _ 1 1 (pcs [(x1, x2)]) rfl (by simp) rfl S2.out O2.out N2.out T2.out Z2.out ?_); intro A' c' w1 happ)
        go_roundg (gk - 1)
        case measure => omega
        case rel =>
          have hb2 : Below w.heap.size w w1 := (((below_drewN hbe nq).alloc (by have := hbe.size; simpa using this) _)).trans (happ.turned.below Z2.out (fun k hk => (own_fp ho.own k hk).1))
          exact ⟨_, _, A', _, _, _, _, p3 + 1, c', _, _, rs ++ [(x1, x2)], rfl, rfl, rfl, by omega, by omega, R1.out, r2, ho.app happ rfl (by intro p hp; simp at hp; subst hp; exact r1.fit _ (by simp)), e1, hb2⟩
end Go.Proofs.Ytnfkebdbfflhdaa
