/- rank: AppendSeq and Collect of Values of many. -/
import Derived.Test.YtppgameimddimaaGreatLRankVals
namespace Go.Proofs.YtppgameimddimaaGreat
open Go.ChangeShapes Go.WideShapes Go.ChangeAt Go.RowKit Go.Shelf
set_option linter.unusedVariables false
set_option linter.unusedSimpArgs false
attribute [local go_sem] Oper.semAt_some
theorem ent_new (w : World) (x : EntM) : ∀ j u, (etc_ [x])[j]? = some u → (w.alloc (.cells #[.int .i64 x.key, .int .i64 x.turn, .int .i64 x.id] 105)).cell? ((⟨w.heap.size, 0, none⟩ : Addr).add j) = some u := by
  intro j u hj
  have h := (Bk.new w 105 #[.int .i64 x.key, .int .i64 x.turn, .int .i64 x.id]).cell j
  have e : ((⟨w.heap.size, 0, none⟩ : Addr).add j) = ⟨w.heap.size, j, none⟩ := by unfold Addr.add; split <;> simp_all
  rw [e, h]
  simpa [etc_] using hj
theorem bk_own {β : Type} (B : Nat) (t : TypeId) (cs : Array Value) : Own (fun (_ : β) W => Bk W B t cs) := fun s X Y row hs hg hrow => by
  refine hs.grown hg (fun e => ?_)
  obtain ⟨o, ho, hc⟩ := hrow B e.symm
  rw [show X.heap[B]? = _ from hs] at ho; cases ho; cases hc
def ApI (w : World) (pre : List EntM) (W : World) : Prop := (∃ v, Boxed W w.heap.size 63 v ∧ W.ownsRow w.heap.size 105 3 v pre.length (etc_ pre) ∧ True) ∧ Below w.heap.size w W
def ApX (w : World) (b lb : Nat) (x : EntM) (a' : Act) (W : World) : Prop := ∃ Bx, lb ≤ Bx ∧ Bk W Bx 105 #[.int .i64 x.key, .int .i64 x.turn, .int .i64 x.id] ∧
  a' = { tmps := #[.slice none 0 0, GV b, .pointer (some ⟨w.heap.size, 0, none⟩), undef, .slice none 0 0, .pointer (some ⟨Bx, 0, none⟩), GV b, .agg #[.int .i64 x.key, .int .i64 x.turn, .int .i64 x.id], undef, undef, undef, undef, undef], defers := [] }
set_option maxRecDepth 100000 in
set_option maxHeartbeats 4000000 in
theorem appseq_many (F : Fence) (hall : ∀ f, F.fn f) (hro : F.round = none) (n b g c : Nat) (hn : 6 ≤ n) (l : List EntM) (hl : l.length ≤ 64) (w : World) (hb : b < w.heap.size) (hg : g < w.heap.size) (hc : w.cell? ⟨b, 0, none⟩ = some (.slice (some ⟨g, 0, none⟩) l.length c)) (hE : ∀ k, k < l.length → EntCells w g (k * 3) (atE l k)) :
    CallsIn F n Tryz.prog 110 #[.slice none 0 0, GV b] w fun e W' => ∃ A' c', e = .returned (.slice A' l.length c') ∧ OwnE w.heap.size W' A' l.length c' l ∧ Below w.heap.size w W' := by
  have h1 : 1 ≤ n := by omega
  obtain ⟨i0, hi0, hy0, hy1, hy2⟩ := info_parts infoEnt
  have HE := hidp hE
  have Hl := hidp hl
  clear hE hl
  unfold GV
  refine callsIn_of_wp_marks (fn := Tryz.f110) rfl rfl (hall _) ?_ hro
  simp only [show (Tryz.f110).ntmps = 13 from rfl, List.size_toArray, List.length_cons, List.length_nil, Nat.reduceAdd, Nat.reduceSub, Array.replicate_succ, Array.replicate_zero, List.push_toArray, List.append_toArray, List.cons_append, List.nil_append]
  gi_wp2
  have bS := Boxed.new w 63 (.slice none 0 0)
  have hB0 : Below w.heap.size w (w.alloc (.cells #[.slice none 0 0] 63)) := (Below.refl _ w).alloc (Nat.le_refl _) _
  have hsz : (w.alloc (.cells #[.slice none 0 0] 63)).heap.size = w.heap.size + 1 := by simp
  obtain ⟨W0, hW0⟩ : ∃ W0, w.alloc (.cells #[.slice none 0 0] 63) = W0 := ⟨_, rfl⟩
  rw [hW0] at bS hB0 hsz ⊢
  clear hW0
  have hcW : W0.cell? ⟨b, 0, none⟩ = some (.slice (some ⟨g, 0, none⟩) l.length c) := (hB0.cell (p := ⟨b, 0, none⟩) hb).trans hc
  have hEW : ∀ k, k < l.length → EntCells W0 g (k * 3) (atE l k) := fun k hk => by
    obtain ⟨q0, q1, q2⟩ := HE.out k hk
    exact ⟨(hB0.cell (p := ⟨g, k * 3, none⟩) hg).trans q0, (hB0.cell (p := ⟨g, k * 3 + 1, none⟩) hg).trans q1, (hB0.cell (p := ⟨g, k * 3 + 2, none⟩) hg).trans q2⟩
  refine wpIn_rangeFunc_ownH hro h1 (gf := 83) (lb := #[.pointer (some ⟨b, 0, none⟩)]) rfl (hall _) (fun _ _ => rfl)
    (values_stops F hall hro (n - 1) (by omega) b w.heap.size g c l Hl.out hg W0 (by omega) (by omega) hcW hEW) belowK_t (belowK_b (by omega)) (Below.refl _ _) (fun _ => rfl)
    (ApI w) (fun _ _ _ => False)
    (OwnFrom.and (Own.from (holdsRow_own _ _ _ _ 3 (fun pre : List EntM => pre.length) (fun pre => etc_ pre) (fun _ _ => True)) _) (ownFrom_below (Nat.le_refl _) (by omega)))
    (fun _ _ _ _ _ hs _ _ => hs)
    ⟨⟨_, bS, World.ownsRow_nil _ _ _ _, trivial⟩, hB0⟩
    (ApX w b W0.heap.size)
    (fun x a' _ X Y row hs hg hr => by obtain ⟨Bx, h1, h2, h3⟩ := hs; exact ⟨Bx, h1, bk_own (β := Unit) Bx _ _ () X Y row h2 hg (fun r e => (hr r e).2), h3⟩)
    ?assign ?body ?done ?stop
  case assign =>
    rintro lp pre x W K ⟨⟨v, bS1, hr1, _⟩, hB1⟩ hK
    have hsW := hB1.size
    gi_wp2
    refine hK _ _ ((KeepsOthers.alloc _ _).from _) ((Below.refl _ W).alloc hB1.size _) ⟨⟨v, bS1.alloc _, hr1.alloc _, trivial⟩, hB1.alloc hB1.size _⟩ ⟨W.heap.size, ?_, Bk.new W _ _, rfl⟩
    have := bS1.lt
    omega
  case body =>
    rintro lp pre x a' W hlp ⟨r, hr⟩ ⟨⟨v, bS1, hr1, _⟩, hB1⟩ ⟨Bx, hBx, bX, rfl⟩ hlt
    have cS := bS1.cell
    have k0 := bX.cell 0
    have k1 := bX.cell 1
    have k2 := bX.cell 2
    simp only [List.getElem?_toArray, List.getElem?_cons_zero, List.getElem?_cons_succ] at k0 k1 k2
    have hl := Hl.out
    have hsW := hB1.size
    have N1 : pre.length + 1 ≤ maxLen := by unfold maxLen; omega
    have N2 : (pre.length + 1) * 24 ≤ 140737488355328 := by omega
    gi_wp2_with (gi_at_builtin; refine wpListIn_append_own _ rfl _ _ 63 rfl w.heap.size 105 i0 (.agg #[.int .i64 0, .int .i64 0, .int .i64 0]) 3 24 Tryz.underlying63 hi0 hy0 hy1 hy2 rfl (by decide) _ _ _ rfl (hr1.alloc _) ⟨W.heap.size, 0, none⟩ 1 1 (etc_ [x]) rfl rfl (ent_new _ x) (etc__one [x]) N1 N2 (by simp; omega) ?_; intro v' w1 hown' hgrow _; obtain ⟨g', cap', rfl⟩ := ownsRow_succ hown'; obtain ⟨hv1, hv2, hr2, hk2, hb2⟩ := bS1.appended (by decide) hr1 hB1.size (Nat.le_refl _) hown' hgrow; have hc1 := hv1.cell; have hf1 := hv1.frozen)
    refine ⟨hk2.from _, hb2, ⟨_, hv2, ?_, trivial⟩, hB1.trans hb2⟩
    rw [List.length_append, etc__append]
    exact hr2
  case done =>
    rintro D xs W hD rfl ⟨⟨v, bS1, hr1, _⟩, hB1⟩ hK
    have cS := bS1.cell
    obtain ⟨A', c', rfl, f1, f2, f3⟩ := own_form hr1
    gi_wp2
    refine ⟨by simp, .inl ⟨_, _, rfl, run_takeDeferred hK, ?_⟩⟩
    exact ⟨_, results_tmp rfl _ _ _, A', c', rfl, ⟨ownsRow_putObj hr1 _ hK rfl, rfl, ⟨f1, f2⟩, f3⟩, hB1.trans (belowK_b (w := w) (Nat.le_refl _) W D _ _ (by omega) hK rfl rfl)⟩
  case stop =>
    rintro D c pre W _ _ h _
    exact h.elim
theorem appseqm_calls (b g c : Nat) (l : List EntM) (hl : l.length ≤ 64) (w : World) (hb : b < w.heap.size) (hg : g < w.heap.size) (hc : w.cell? ⟨b, 0, none⟩ = some (.slice (some ⟨g, 0, none⟩) l.length c)) (hE : ∀ k, k < l.length → EntCells w g (k * 3) (atE l k)) :
    Calls Tryz.prog 110 #[.slice none 0 0, GV b] w fun e W' => ∃ A' c', e = .returned (.slice A' l.length c') ∧ OwnE w.heap.size W' A' l.length c' l ∧ Below w.heap.size w W' :=
  (appseq_many FAll (fun _ => trivial) rfl 6 b g c (Nat.le_refl _) l hl w hb hg hc hE).calls (fun k d h => by cases h)
theorem collect_many (b g c : Nat) (l : List EntM) (hl : l.length ≤ 64) (w : World) (hb : b < w.heap.size) (hg : g < w.heap.size) (hc : w.cell? ⟨b, 0, none⟩ = some (.slice (some ⟨g, 0, none⟩) l.length c)) (hE : ∀ k, k < l.length → EntCells w g (k * 3) (atE l k)) :
    Calls Tryz.prog 81 #[GV b] w fun e W' => ∃ A' c', e = .returned (.slice A' l.length c') ∧ OwnE w.heap.size W' A' l.length c' l ∧ Below w.heap.size w W' := by
  have H := hidp (appseqm_calls b g c l hl w hb hg hc hE)
  clear hc hE
  go_enter Tryz.func81, Tryz.ntmps81
  go_wp2_with fail
  refine H.out.mono ?_
  rintro e u ⟨A', c', rfl, ho, hb2⟩
  go_wp2_with fail
  go_ret
  exact ⟨A', c', rfl, ho, hb2⟩
end Go.Proofs.YtppgameimddimaaGreat
