/- LockPlays: of every set, by its protocol, every row of asks, grants, leaves: each answer, who holds what, who waits, by what they are boosted, behind each. No condition. -/
import Derived.Test.YtppgameimddimaaGreatSoundM
import Derived.Test.YtppgameimddimaaGreatRlPM
import Derived.Test.YtppgameimddimaaGreatRlWM
import Derived.Test.YtppgameimddimaaGreatLkVM
import Derived.Test.YtppgameimddimaaGreatKnown23M
import Derived.Test.YtppgameimddimaaGreatRows2
import Derived.Deep.Slices
import Derived.Deep.Fields
import Derived.ChangeArms
import Derived.ChangeSame
import Derived.Test.YtppgameimddimaaGreatOwn
import Derived.Deep.LoopGhost
import Derived.Deep.QuietTactic
import Derived.BigQuiet
namespace Go.Proofs.YtppgameimddimaaGreat
open Go.ChangeShapes Go.WideShapes Go.ChangeAt Go.RowKit
set_option linter.unusedVariables false
def FewP23 (w : World) (e : Ending) (w' : World) : Prop := (∃ b : Bool, e = .returned (.bool b)) ∧ Below w.heap.size w w'
set_option maxRecDepth 100000 in
theorem few23_any (s : SetR) (w : World) (hs : SetOk w s) : Calls Tryz.prog 9 #[.agg #[.int .i64 s.proto, .slice s.ca s.cores.length s.cc, .slice s.ha s.homes.length s.hc, .slice s.ta s.tasks.length s.tc]] w (FewP23 w) := by
  have hb := (Below.refl w.heap.size w).alloc (Nat.le_refl _) (.cells #[.int .i64 s.proto, .slice s.ca s.cores.length s.cc, .slice s.ha s.homes.length s.hc, .slice s.ta s.tasks.length s.tc] 25)
  have CB := hidp (SetCells.new w s 25)
  have l1 : s.tasks.length ≤ maxLen := Nat.le_trans hs.tasks.sl.2.1 hs.tasks.sl.2.2
  have l2 : s.cores.length ≤ maxLen := Nat.le_trans hs.cores.sl.2.1 hs.cores.sl.2.2
  have l3 : s.homes.length ≤ maxLen := Nat.le_trans hs.homes.sl.2.1 hs.homes.sl.2.2
  unfold maxLen at l1 l2 l3
  have HR := hidp hs.tasks.at_
  have Hok := hidp hs.tasks.ok
  clear hs
  obtain ⟨proto, ca, cc, cores, ha, hc, homes, ta, tc, tasks⟩ := s
  dsimp only at HR Hok l1 l2 l3 hb ⊢
  have F : ∀ b : Bool, ∀ w', Below w.heap.size w w' → FewP23 w (.returned (.bool b)) w' := fun b w' h => ⟨⟨b, rfl⟩, h⟩
  have HF := hidp F
  clear F
  have hc0 : (8 : Int) < (cores.length : Int) ∨ ¬ (8 : Int) < (cores.length : Int) ∧ (10 : Int) < (homes.length : Int) ∨ ¬ (8 : Int) < (cores.length : Int) ∧ ¬ (10 : Int) < (homes.length : Int) ∧ (9 : Int) < (tasks.length : Int) ∨ ¬ (8 : Int) < (cores.length : Int) ∧ ¬ (10 : Int) < (homes.length : Int) ∧ ¬ (9 : Int) < (tasks.length : Int) := by omega
  rcases hc0 with h | ⟨h, g⟩ | ⟨h, g, f⟩ | ⟨h, g, f⟩
  · go_enter Tryz.func9, Tryz.ntmps9
    go_wp2
    go_ret
    exact HF.out _ _ hb
  · go_enter Tryz.func9, Tryz.ntmps9
    go_wp2
    go_ret
    exact HF.out _ _ hb
  · go_enter Tryz.func9, Tryz.ntmps9
    go_wp2
    go_ret
    exact HF.out _ _ hb
  · go_enter Tryz.func9, Tryz.ntmps9
    go_wp2
    go_loopg [3] tasks.length (fun gg i wr => ∃ k : Nat, k + gg = tasks.length ∧ i = .int .i64 k ∧ SetCells wr w.heap.size ⟨proto, ca, cc, cores, ha, hc, homes, ta, tc, tasks⟩ ∧ Below w.heap.size w wr)
    case atStart => exact ⟨0, by omega, rfl, CB.out, hb⟩
    case round =>
      obtain ⟨k, hk, rfl, sc, hw⟩ := hrel
      have sc2 := sc
      obtain ⟨c0, c1, c2, c3⟩ := sc2
      dsimp only at c0 c1 c2 c3
      by_cases hlt : k < tasks.length
      · obtain ⟨g0, off, hA, hcl⟩ := HR.out.resolve_left (by intro e; rw [e] at hlt; simp at hlt)
        subst hA
        obtain ⟨t, HT⟩ : ∃ t, Hid (tasks.getD k default = t) := ⟨_, rfl⟩
        have tcl := (HT.out ▸ hcl k hlt).keep (Keeps.of_below hw)
        obtain ⟨d0, _, _, _, _, d5⟩ := tcl
        have hok := Hok.out t (HT.out ▸ getD_mem hlt)
        have n1 := hok.name
        have n2 : t.parts.length ≤ maxLen := Nat.le_trans hok.sl.2.1 hok.sl.2.2
        unfold maxLen at n1 n2
        clear hcl hok
        by_cases z1 : (20 : Int) < (t.name.size : Int)
        · go_wp2
          go_ret
          exact HF.out _ _ hw
        · by_cases z2 : (10 : Int) < (t.parts.length : Int)
          · go_wp2
            go_ret
            exact HF.out _ _ hw
          · go_wp2
            go_roundg (gk - 1)
            case measure => omega
            case rel => exact ⟨k + 1, by omega, by go_num, sc, hw⟩
      · go_wp2
        go_ret
        exact HF.out _ _ hw

end Go.Proofs.YtppgameimddimaaGreat

namespace Go.Proofs.YtppgameimddimaaGreat.Trips
open Go.ChangeShapes Go.WideShapes Go.ChangeAt Go.RowKit Go.Deep
set_option linter.unusedVariables false
/-- a slice that came in reads as these -/
structure _root_.Go.Proofs.YtppgameimddimaaGreat.IsTrips (w : World) (a : Option Addr) (len cap : Nat) (ps : List (Int × Int × Int)) : Prop where
  hlen : len = ps.length
  hcap : (a = none → len = 0 ∧ cap = 0) ∧ len ≤ cap ∧ cap ≤ maxLen
  hrow : ps = [] ∨ ∃ b off, a = some ⟨b, off, none⟩ ∧ ∀ i, i < ps.length → w.cell? ⟨b, off + i * 3, none⟩ = some (.int .i64 (ps.getD i (0, 0, 0)).1) ∧ w.cell? ⟨b, off + i * 3 + 1, none⟩ = some (.int .i64 (ps.getD i (0, 0, 0)).2.1) ∧ w.cell? ⟨b, off + i * 3 + 2, none⟩ = some (.int .i64 (ps.getD i (0, 0, 0)).2.2)
  hfit : ∀ p ∈ ps, I64 p.1 ∧ I64 p.2.1 ∧ I64 p.2.2
variable {H : Type} {enc : TypeId × Value → H} {P : Program} {w : World}
/-- one field of a struct of one-cell fields -/
theorem field_of {fs : Array Field} {t : TypeId} {fuel : Nat} {cs : List Value} {x : DataW H × List MemPlace} (ht : P.underlying t = some (.struct fs)) (hone : oneCellFields P fs = true) (hC : P.cellsOf t = fs.size)
    (h : DataW.trod enc P w 0 (fun _ => true) true fuel t cs = some x) : cs.length = fs.size ∧ ∀ (j : Nat) (f : Field), fs[j]? = some f → ∃ v y n, cs[j]? = some v ∧ DataW.trod enc P w 0 (fun _ => true) true n f.type [v] = some y := by
  obtain ⟨xs, n, _, _, hl, hx, hf⟩ := DataW.trod_struct ht h
  rw [hC] at hl
  refine ⟨hl, fun j f hj => ?_⟩
  obtain ⟨ho, hk⟩ := hone_of hone j f hj
  have hjl : j < fs.size := (Array.getElem?_eq_some_iff.1 hj).1
  have h1 := hf j f hj
  rw [ho, hk, take1_drop cs j (.bool false) (by omega), List.getElem?_eq_getElem (by omega)] at h1
  exact ⟨_, _, n, by simp [List.getD, List.getElem?_eq_getElem (show j < cs.length by omega)], h1⟩
theorem int_field {k : IntKind} {t : TypeId} {n : Nat} {v : Value} {y : DataW H × List MemPlace} (u : P.underlying t = some (.int k)) (h : DataW.trod enc P w 0 (fun _ => true) true n t [v] = some y) : ∃ z, v = .int k z ∧ (Lit.int k z).wf = true := by
  obtain ⟨z, e, _, hz⟩ := DataW.trod_int u h
  exact ⟨z, by injection e, hz⟩
/-- a slice of structs, every element by its cells -/
theorem slice_of {t e : TypeId} {k fuel : Nat} {cs : List Value} {x : DataW H × List MemPlace} (ht : P.underlying t = some (.slice e)) (hC : P.cellsOf e = k) (hk : 0 < k) (h : DataW.trod enc P w 0 (fun _ => true) true fuel t cs = some x) :
    ∃ a len cap, cs = [.slice a len cap] ∧ ((a = none → len = 0 ∧ cap = 0) ∧ len ≤ cap ∧ cap ≤ maxLen) ∧ (len = 0 ∨ ∃ b off, a = some ⟨b, off, none⟩ ∧ ∀ i, i < len → ∃ cs' x' n, cs'.length = k ∧ (∀ j, j < k → w.cell? ⟨b, off + i * k + j, none⟩ = cs'[j]?) ∧ DataW.trod enc P w 0 (fun _ => true) true n e cs' = some x') := by
  rcases open_slice ht h with ⟨rfl, _⟩ | ⟨a, len, cap, m, n, D, Pl, rfl, _, hl, hm, hmm, _, hi⟩
  · exact ⟨none, 0, 0, rfl, ⟨fun _ => ⟨rfl, rfl⟩, Nat.le_refl _, Nat.zero_le _⟩, .inl rfl⟩
  · refine ⟨some a, len, cap, rfl, ⟨(fun e => by cases e), hl, hm⟩, ?_⟩
    have hlm : len ≤ m := by rw [hmm]; simpa using hl
    by_cases h0 : len = 0
    · exact .inl h0
    · right
      obtain ⟨b, off, spot⟩ := a
      obtain ⟨c0, hc0, _⟩ := hi 0 (by omega)
      obtain ⟨_, l0, g0⟩ := World.cells?_some hc0
      rw [hC] at l0 g0
      have hs : spot = none := by
        have := g0 0 hk
        rw [List.getElem?_eq_getElem (by omega)] at this
        simpa [Addr.add] using World.cell?_spot this
      subst hs
      refine ⟨b, off, rfl, fun i hlt => ?_⟩
      obtain ⟨c1, hc1, t1⟩ := hi i (by omega)
      obtain ⟨_, l1, g1⟩ := World.cells?_some hc1
      rw [hC] at l1 g1
      refine ⟨c1, _, n, l1, fun j hj => ?_, t1⟩
      have := g1 j hj
      simpa [Addr.add_lit, Nat.add_assoc] using this
theorem _root_.Go.Proofs.YtppgameimddimaaGreat.open_trips {t e : TypeId} {f0 f1 f2 : Field} {fuel : Nat} {cs : List Value} {x : DataW H × List MemPlace} (ht : P.underlying t = some (.slice e)) (he : P.underlying e = some (.struct #[f0, f1, f2])) (hone : oneCellFields P #[f0, f1, f2] = true) (hC : P.cellsOf e = 3)
    (u0 : P.underlying f0.type = some (.int .i64)) (u1 : P.underlying f1.type = some (.int .i64)) (u2 : P.underlying f2.type = some (.int .i64))
    (h : DataW.trod enc P w 0 (fun _ => true) true fuel t cs = some x) : ∃ a len cap ps, cs = [.slice a len cap] ∧ IsTrips w a len cap ps := by
  obtain ⟨a, len, cap, rfl, hs, hi⟩ := slice_of ht hC (by omega) h
  rcases hi with rfl | ⟨b, off, rfl, hi⟩
  · exact ⟨a, 0, cap, [], rfl, rfl, hs, .inl rfl, by simp⟩
  · have hp : ∀ i, i < len → ∃ p : Int × Int × Int, (I64 p.1 ∧ I64 p.2.1 ∧ I64 p.2.2) ∧ w.cell? ⟨b, off + i * 3, none⟩ = some (.int .i64 p.1) ∧ w.cell? ⟨b, off + i * 3 + 1, none⟩ = some (.int .i64 p.2.1) ∧ w.cell? ⟨b, off + i * 3 + 2, none⟩ = some (.int .i64 p.2.2) := fun i hlt => by
      obtain ⟨cs', x', n, hl, hc, ht⟩ := hi i hlt
      obtain ⟨hl2, hf⟩ := field_of he hone hC ht
      obtain ⟨v0, _, _, e0, t0⟩ := hf 0 f0 rfl
      obtain ⟨v1, _, _, e1, t1⟩ := hf 1 f1 rfl
      obtain ⟨v2, _, _, e2, t2⟩ := hf 2 f2 rfl
      obtain ⟨z0, rfl, g0⟩ := int_field u0 t0
      obtain ⟨z1, rfl, g1⟩ := int_field u1 t1
      obtain ⟨z2, rfl, g2⟩ := int_field u2 t2
      exact ⟨(z0, z1, z2), ⟨i64_of g0, i64_of g1, i64_of g2⟩, by rw [← e0, ← hc 0 (by omega)]; rfl, by rw [← e1, ← hc 1 (by omega)], by rw [← e2, ← hc 2 (by omega)]⟩
    obtain ⟨f, hf⟩ := choose_lt hp
    have hl : ((List.range len).map f).length = len := by simp
    refine ⟨_, len, cap, (List.range len).map f, rfl, hl.symm, hs, .inr ⟨b, off, rfl, fun i hlt => ?_⟩, fun p hp => ?_⟩
    · rw [hl] at hlt
      have := (hf i hlt).2
      simpa [List.getD, hlt] using this
    · obtain ⟨i, hlt, rfl⟩ := List.mem_map.1 hp
      exact (hf i (by simpa using hlt)).1
/-- a struct of three ints -/
theorem _root_.Go.Proofs.YtppgameimddimaaGreat.open_trip {t : TypeId} {f0 f1 f2 : Field} {fuel : Nat} {cs : List Value} {x : DataW H × List MemPlace} (ht : P.underlying t = some (.struct #[f0, f1, f2])) (hone : oneCellFields P #[f0, f1, f2] = true) (hC : P.cellsOf t = 3)
    (u0 : P.underlying f0.type = some (.int .i64)) (u1 : P.underlying f1.type = some (.int .i64)) (u2 : P.underlying f2.type = some (.int .i64))
    (h : DataW.trod enc P w 0 (fun _ => true) true fuel t cs = some x) : ∃ a b c, cs = [.int .i64 a, .int .i64 b, .int .i64 c] ∧ I64 a ∧ I64 b ∧ I64 c := by
  obtain ⟨hl2, hf⟩ := field_of ht hone hC h
  obtain ⟨v0, _, _, e0, t0⟩ := hf 0 f0 rfl
  obtain ⟨v1, _, _, e1, t1⟩ := hf 1 f1 rfl
  obtain ⟨v2, _, _, e2, t2⟩ := hf 2 f2 rfl
  obtain ⟨z0, rfl, g0⟩ := int_field u0 t0
  obtain ⟨z1, rfl, g1⟩ := int_field u1 t1
  obtain ⟨z2, rfl, g2⟩ := int_field u2 t2
  refine ⟨z0, z1, z2, ?_, i64_of g0, i64_of g1, i64_of g2⟩
  match cs, hl2, e0, e1, e2 with
  | [a, b, c], _, e0, e1, e2 => simp at e0 e1 e2; rw [e0, e1, e2]
end Go.Proofs.YtppgameimddimaaGreat.Trips

namespace Go.Proofs.YtppgameimddimaaGreat
open Go.ChangeShapes Go.WideShapes Go.ChangeAt Go.RowKit
set_option linter.unusedVariables false

set_option maxHeartbeats 1000000 in
theorem rname_any (s : ByteArray) (w : World) (hs : s.size ≤ maxLen) : Calls Tryz.prog 101 #[.string s] w fun e w' => e = .returned (.bool (nameB s)) ∧ w = w' := by
  unfold maxLen at hs
  go_enter Tryz.func101, Tryz.ntmps101
  go_wp2
  go_loopg [3] s.size (fun g i wr => ∃ k : Nat, k + g = s.size ∧ i = .int .i64 k ∧ Hid (∀ j, j < k → okB j (byteAt s j) = true) ∧ w = wr)
  case atStart => exact ⟨0, by omega, rfl, hidp (by omega), rfl⟩
  case round =>
    obtain ⟨k, hk, rfl, Ho, rfl⟩ := hrel
    by_cases hlt : k < s.size
    · obtain ⟨c, hc⟩ : ∃ c : Int, (s[k].toNat : Int) = c := ⟨_, rfl⟩
      have Hc : Hid (byteAt s k = c) := hidp (by rw [byteAt_is s k hlt, hc])
      have Hn : Hid (okB k c = true → ∀ j, j < k + 1 → okB j (byteAt s j) = true) := hidp (fun h j hj => by
        by_cases e : j = k
        · subst e; rw [Hc.out]; exact h
        · exact Ho.out j (by omega))
      have Hx : Hid (okB k c = false → nameB s = false) := hidp (fun h => nameB_not hlt (by rw [Hc.out]; exact h))
      have bd := byte_bd s k
      rw [Hc.out] at bd
      obtain ⟨b0, b1⟩ := bd
      have hcase : (97 ≤ c ∧ c ≤ 122) ∨ (c < 97 ∧ c < 48) ∨ (c < 97 ∧ 57 < c) ∨ (122 < c ∧ 97 ≤ c ∧ 57 < c) ∨ (c < 97 ∧ 48 ≤ c ∧ c ≤ 57 ∧ k = 0) ∨ (c < 97 ∧ 48 ≤ c ∧ c ≤ 57 ∧ 0 < k) := by omega
      rcases hcase with ⟨g1, g2⟩ | ⟨g1, g2⟩ | ⟨g1, g2⟩ | ⟨g1, g2, g3⟩ | ⟨g1, g2, g3, g4⟩ | ⟨g1, g2, g3, g4⟩
      · have Hy : Hid (okB k c = true) := hidp (by simp [okB, g1, g2])
        go_wp2
        go_roundg (gk - 1)
        case measure => omega
        case rel => exact ⟨k + 1, by omega, by go_num, hidp (Hn.out Hy.out), rfl⟩
      · have Hy : Hid (okB k c = false) := hidp (by simp [okB]; omega)
        go_wp2
        go_ret
        exact ⟨ret_bool (Hx.out Hy.out).symm, rfl⟩
      · have Hy : Hid (okB k c = false) := hidp (by simp [okB]; omega)
        go_wp2
        go_ret
        exact ⟨ret_bool (Hx.out Hy.out).symm, rfl⟩
      · have Hy : Hid (okB k c = false) := hidp (by simp [okB]; omega)
        go_wp2
        go_ret
        exact ⟨ret_bool (Hx.out Hy.out).symm, rfl⟩
      · subst g4
        have Hy : Hid (okB 0 c = false) := hidp (by simp [okB]; omega)
        go_wp2
        go_ret
        exact ⟨ret_bool (Hx.out Hy.out).symm, rfl⟩
      · have Hy : Hid (okB k c = true) := hidp (by simp [okB, g2, g3, g4])
        have kb : ((k : Int) == 0) = false := by simp; omega
        go_wp2
        go_roundg (gk - 1)
        case measure => omega
        case rel => exact ⟨k + 1, by omega, by go_num, hidp (Hn.out Hy.out), rfl⟩
    · by_cases h1 : 1 ≤ s.size
      · by_cases h8 : s.size ≤ 8
        · have H := hidp (nameB_all (s := s) (by omega) (fun j hj => Ho.out j (by omega)))
          go_wp2
          go_ret
          exact ⟨ret_bool (by rw [H.out]; simp; try omega), rfl⟩
        · have H := hidp (nameB_long (s := s) (by omega))
          have h9 : decide (s.size ≤ 8) = false := by simpa using h8
          go_wp2
          go_ret
          exact ⟨ret_bool (by rw [H.out]; simp; try omega), rfl⟩
      · have H := hidp (nameB_long (s := s) (by omega))
        have h9 : decide (1 ≤ s.size) = false := by simpa using h1
        go_wp2
        go_ret
        exact ⟨ret_bool H.out.symm, rfl⟩

/-- a set's box, read by the reference -/
theorem rpart_any (s : SetR) (p : PartM) (w : World) (l : s.homes.length ≤ maxLen) : Calls Tryz.prog 102 #[.agg #[.int .i64 s.proto, .slice s.ca s.cores.length s.cc, .slice s.ha s.homes.length s.hc, .slice s.ta s.tasks.length s.tc], .agg #[.int .i64 p.kind, .int .i64 p.len, .int .i64 p.res]] w fun e w' => e = .returned (.bool (partB p s.homes.length)) ∧ Below w.heap.size w w' := by
  unfold maxLen at l
  obtain ⟨kd, ln, rs⟩ := p
  have sc := ((SetCells.new w s 25).keep (Keeps.alloc _ (.cells #[.int .i64 kd, .int .i64 ln, .int .i64 rs] 94)))
  obtain ⟨c0, c1, c2, c3⟩ := sc
  have hb := ((Below.refl w.heap.size w).alloc (Nat.le_refl _) (.cells #[.int .i64 s.proto, .slice s.ca s.cores.length s.cc, .slice s.ha s.homes.length s.hc, .slice s.ta s.tasks.length s.tc] 25)).alloc (by simp) (.cells #[.int .i64 kd, .int .i64 ln, .int .i64 rs] 94)
  have hcase : (kd < 1) ∨ (1 ≤ kd ∧ 3 < kd) ∨ (1 ≤ kd ∧ kd ≤ 3 ∧ ln < 1) ∨ (1 ≤ kd ∧ kd ≤ 3 ∧ 1 ≤ ln ∧ 60 < ln) ∨ (1 ≤ kd ∧ kd ≤ 3 ∧ 1 ≤ ln ∧ ln ≤ 60) := by omega
  rcases hcase with g | ⟨g, g1⟩ | ⟨g, g1, g2⟩ | ⟨g, g1, g2, g3⟩ | ⟨g, g1, g2, g3⟩
  · have H : Hid (partB ⟨kd, ln, rs⟩ s.homes.length = false) := hidp (by unfold partB; dsimp only; rw [if_neg (by omega), if_neg (by omega)])
    go_enter Tryz.func102, Tryz.ntmps102
    go_wp2
    go_ret
    exact ⟨ret_bool H.out.symm, hb⟩
  · have H : Hid (partB ⟨kd, ln, rs⟩ s.homes.length = false) := hidp (by unfold partB; dsimp only; rw [if_neg (by omega), if_neg (by omega)])
    go_enter Tryz.func102, Tryz.ntmps102
    go_wp2
    go_ret
    exact ⟨ret_bool H.out.symm, hb⟩
  · have H : Hid (partB ⟨kd, ln, rs⟩ s.homes.length = false) := hidp (by
      have e : inB ln 1 60 = false := inB_false.2 (by omega)
      unfold partB; dsimp only; rw [e]; split; rfl; split <;> rfl)
    go_enter Tryz.func102, Tryz.ntmps102
    go_wp2
    go_ret
    exact ⟨ret_bool H.out.symm, hb⟩
  · have H : Hid (partB ⟨kd, ln, rs⟩ s.homes.length = false) := hidp (by
      have e : inB ln 1 60 = false := inB_false.2 (by omega)
      unfold partB; dsimp only; rw [e]; split; rfl; split <;> rfl)
    go_enter Tryz.func102, Tryz.ntmps102
    go_wp2
    go_ret
    exact ⟨ret_bool H.out.symm, hb⟩
  · have e : inB ln 1 60 = true := inB_true.2 ⟨g2, g3⟩
    by_cases k3 : kd = 3
    · subst k3
      have hc2 : (rs < 0) ∨ (0 ≤ rs ∧ (s.homes.length : Int) ≤ rs) ∨ (0 ≤ rs ∧ rs < (s.homes.length : Int)) := by omega
      rcases hc2 with h | ⟨h, h2⟩ | ⟨h, h2⟩
      · have H : Hid (partB ⟨3, ln, rs⟩ s.homes.length = false) := hidp (by
          have e2 : inB rs 0 ((s.homes.length : Int) - 1) = false := inB_false.2 (by omega)
          unfold partB; simp [e, e2])
        go_enter Tryz.func102, Tryz.ntmps102
        go_wp2
        go_ret
        exact ⟨ret_bool H.out.symm, hb⟩
      · have H : Hid (partB ⟨3, ln, rs⟩ s.homes.length = false) := hidp (by
          have e2 : inB rs 0 ((s.homes.length : Int) - 1) = false := inB_false.2 (by omega)
          unfold partB; simp [e, e2])
        go_enter Tryz.func102, Tryz.ntmps102
        go_wp2
        go_ret
        exact ⟨ret_bool (by rw [H.out]; simp; try omega), hb⟩
      · have H : Hid (partB ⟨3, ln, rs⟩ s.homes.length = true) := hidp (by
          have e2 : inB rs 0 ((s.homes.length : Int) - 1) = true := inB_true.2 (by omega)
          unfold partB; simp [e, e2])
        go_enter Tryz.func102, Tryz.ntmps102
        go_wp2
        go_ret
        exact ⟨ret_bool H.out.symm, hb⟩
    · have k4 : (kd == 3) = false := by simpa using k3
      have k5 : (kd != 3) = true := by simpa using k3
      have k6 : kd = 1 ∨ kd = 2 := by omega
      have H : Hid (partB ⟨kd, ln, rs⟩ s.homes.length = (rs == 0)) := hidp (by
        unfold partB; dsimp only; rw [if_neg k3, if_pos k6, e, Bool.true_and]
        by_cases z : rs = 0
        · subst z; decide
        · have : inB rs 0 0 = false := inB_false.2 (by omega)
          rw [this]; symm; simpa using z)
      clear k3 k6
      go_enter Tryz.func102, Tryz.ntmps102
      go_wp2
      go_ret
      exact ⟨ret_bool H.out.symm, hb⟩
end Go.Proofs.YtppgameimddimaaGreat

namespace Go.Proofs.YtppgameimddimaaGreat
open Go.ChangeShapes Go.WideShapes Go.ChangeAt Go.RowKit
set_option linter.unusedVariables false

def placesB (s : SetR) : Bool := inB s.cores.length 1 3 && (decide (s.homes.length ≤ 4) && (allB s.cores 1 3 && allB s.homes 0 ((s.cores.length : Int) - 1)))
theorem allB_not {zs : List Int} {lo hi : Int} {k : Nat} {n : Int} (hk : k < zs.length) (hn : zs.getD k 0 = n) (h : inB n lo hi = false) : allB zs lo hi = false := by
  unfold allB
  rw [List.all_eq_false]
  refine ⟨n, ?_, by simp [h]⟩
  rw [← hn]; simp [List.getD, hk]
theorem allB_all {zs : List Int} {lo hi : Int} (h : ∀ j, j < zs.length → inB (zs.getD j 0) lo hi = true) : allB zs lo hi = true := by
  unfold allB
  rw [List.all_eq_true]
  intro x hx
  obtain ⟨j, hj, rfl⟩ := List.mem_iff_getElem.1 hx
  have := h j hj
  simpa [List.getD, hj] using this
theorem inB_next {zs : List Int} {lo hi : Int} {k : Nat} {n : Int} (hn : zs.getD k 0 = n) (h : inB n lo hi = true) (g : ∀ j, j < k → inB (zs.getD j 0) lo hi = true) : ∀ j, j < k + 1 → inB (zs.getD j 0) lo hi = true := fun j hj => by
  by_cases e : j = k
  · subst e; rw [hn]; exact h
  · exact g j (by omega)

set_option maxHeartbeats 2000000 in
theorem places_any (s : SetR) (w : World) (hs : SetOk w s) : Calls Tryz.prog 72 #[.agg #[.int .i64 s.proto, .slice s.ca s.cores.length s.cc, .slice s.ha s.homes.length s.hc, .slice s.ta s.tasks.length s.tc]] w fun e w' => e = .returned (.bool (placesB s)) ∧ Below w.heap.size w w' := by
  have l1 : s.cores.length ≤ maxLen := Nat.le_trans hs.cores.sl.2.1 hs.cores.sl.2.2
  have l2 : s.homes.length ≤ maxLen := Nat.le_trans hs.homes.sl.2.1 hs.homes.sl.2.2
  unfold maxLen at l1 l2
  have SC := SetCells.new w s 25
  have hb := ((Below.refl w.heap.size w).alloc (Nat.le_refl _) (.cells #[.int .i64 s.proto, .slice s.ca s.cores.length s.cc, .slice s.ha s.homes.length s.hc, .slice s.ta s.tasks.length s.tc] 25))
  have RC := hidp hs.cores.at_
  have RH := hidp hs.homes.at_
  clear hs
  obtain ⟨proto, ca, cc, cores, ha, hc, homes, ta, tc, tasks⟩ := s
  dsimp only at RC RH l1 l2 hb ⊢
  have PB : ∀ b : Bool, (inB cores.length 1 3 && (decide (homes.length ≤ 4) && (allB cores 1 3 && allB homes 0 ((cores.length : Int) - 1)))) = b → placesB ⟨proto, ca, cc, cores, ha, hc, homes, ta, tc, tasks⟩ = b := fun b h => h
  have HB := hidp PB
  clear PB
  have hcase : ((cores.length : Int) < 1) ∨ (1 ≤ (cores.length : Int) ∧ 3 < (cores.length : Int)) ∨ (1 ≤ (cores.length : Int) ∧ (cores.length : Int) ≤ 3 ∧ 4 < (homes.length : Int)) ∨ (1 ≤ (cores.length : Int) ∧ (cores.length : Int) ≤ 3 ∧ (homes.length : Int) ≤ 4) := by omega
  rcases hcase with g | ⟨g, g1⟩ | ⟨g, g1, g2⟩ | ⟨g, g1, g2⟩
  · have H := hidp (HB.out false (by rw [show inB cores.length 1 3 = false from inB_false.2 (by omega)]; rfl))
    obtain ⟨c0, c1, c2, c3⟩ := SC
    go_enter Tryz.func72, Tryz.ntmps72
    go_wp2
    go_ret
    exact ⟨ret_bool H.out.symm, hb⟩
  · have H := hidp (HB.out false (by rw [show inB cores.length 1 3 = false from inB_false.2 (by omega)]; rfl))
    obtain ⟨c0, c1, c2, c3⟩ := SC
    go_enter Tryz.func72, Tryz.ntmps72
    go_wp2
    go_ret
    exact ⟨ret_bool H.out.symm, hb⟩
  · have H := hidp (HB.out false (by rw [show decide (homes.length ≤ 4) = false by simp; omega]; simp))
    obtain ⟨c0, c1, c2, c3⟩ := SC
    go_enter Tryz.func72, Tryz.ntmps72
    go_wp2
    go_ret
    exact ⟨ret_bool H.out.symm, hb⟩
  · have e1 : inB cores.length 1 3 = true := inB_true.2 ⟨g, g1⟩
    have e2 : decide (homes.length ≤ 4) = true := by simp; omega
    have E1 := hidp e1
    have E2 := hidp e2
    clear e1 e2
    have SC2 := SC
    obtain ⟨c0, c1, c2, c3⟩ := SC2
    go_enter Tryz.func72, Tryz.ntmps72
    go_wp2
    go_loopg [3] cores.length (fun gg i wr => ∃ k : Nat, k + gg = cores.length ∧ i = .int .i64 k ∧ Hid (∀ j, j < k → inB (cores.getD j 0) 1 3 = true) ∧ SetCells wr w.heap.size ⟨proto, ca, cc, cores, ha, hc, homes, ta, tc, tasks⟩ ∧ Below w.heap.size w wr)
    case atStart => exact ⟨0, by omega, rfl, hidp (by omega), SC, hb⟩
    case round =>
      obtain ⟨k, hk, rfl, Ho, sc, hw⟩ := hrel
      clear c0 c1 c2 c3
      have sc2 := sc
      obtain ⟨c0, c1, c2, c3⟩ := sc2
      dsimp only at c0 c1 c2 c3
      by_cases hlt : k < cores.length
      · obtain ⟨gg, off, hA, hcl⟩ := RC.out.resolve_left (by intro e; rw [e] at hlt; simp at hlt)
        subst hA
        obtain ⟨n, HN⟩ : ∃ n, Hid (cores.getD k 0 = n) := ⟨_, rfl⟩
        have cn := Keeps.of_below hw _ _ (HN.out ▸ hcl k hlt)
        clear hcl
        have hcase : n < 1 ∨ (1 ≤ n ∧ 3 < n) ∨ (1 ≤ n ∧ n ≤ 3) := by omega
        rcases hcase with h | ⟨h, h2⟩ | ⟨h, h2⟩
        · have H := hidp (HB.out false (by rw [allB_not hlt HN.out (inB_false.2 (by omega))]; simp))
          go_wp2
          go_ret
          exact ⟨ret_bool H.out.symm, hw⟩
        · have H := hidp (HB.out false (by rw [allB_not hlt HN.out (inB_false.2 (by omega))]; simp))
          go_wp2
          go_ret
          exact ⟨ret_bool H.out.symm, hw⟩
        · have Hn := hidp (inB_next HN.out (inB_true.2 ⟨h, h2⟩) Ho.out)
          go_wp2
          go_roundg (gk - 1)
          case measure => omega
          case rel => exact ⟨k + 1, by omega, by go_num, Hn, sc, hw⟩
      · have E3 : Hid (allB cores 1 3 = true) := hidp (allB_all (fun j hj => Ho.out j (by omega)))
        go_wp2
        obtain ⟨wo, rfl⟩ : ∃ wo : World, wo = wr := ⟨_, rfl⟩
        go_loopg [4] homes.length (fun gg i wr => ∃ k : Nat, k + gg = homes.length ∧ i = .int .i64 k ∧ Hid (∀ j, j < k → inB (homes.getD j 0) 0 ((cores.length : Int) - 1) = true) ∧ SetCells wr w.heap.size ⟨proto, ca, cc, cores, ha, hc, homes, ta, tc, tasks⟩ ∧ Below w.heap.size w wr)
        case atStart => exact ⟨0, by omega, rfl, hidp (by omega), sc, hw⟩
        case round =>
          obtain ⟨k, hk, rfl, Ho, sc, hw⟩ := hrel
          clear c0 c1 c2 c3
          have sc2 := sc
          obtain ⟨c0, c1, c2, c3⟩ := sc2
          dsimp only at c0 c1 c2 c3
          by_cases hlt : k < homes.length
          · obtain ⟨gg, off, hA, hcl⟩ := RH.out.resolve_left (by intro e; rw [e] at hlt; simp at hlt)
            subst hA
            obtain ⟨n, HN⟩ : ∃ n, Hid (homes.getD k 0 = n) := ⟨_, rfl⟩
            have cn := Keeps.of_below hw _ _ (HN.out ▸ hcl k hlt)
            clear hcl
            have hcase : n < 0 ∨ (0 ≤ n ∧ (cores.length : Int) ≤ n) ∨ (0 ≤ n ∧ n < (cores.length : Int)) := by omega
            rcases hcase with h | ⟨h, h2⟩ | ⟨h, h2⟩
            · have H := hidp (HB.out false (by rw [allB_not hlt HN.out (inB_false.2 (by omega))]; simp))
              have d : decide (n < 0) = true := by simpa using h
              go_wp2
              go_quiet (fail)
              go_wp2
              go_ret
              exact ⟨ret_bool H.out.symm, below_drewN hw _⟩
            · have H := hidp (HB.out false (by rw [allB_not hlt HN.out (inB_false.2 (by omega))]; simp))
              have d : decide (n < 0) = false := by simpa using h
              go_wp2
              go_quiet (fail)
              go_wp2
              go_ret
              exact ⟨ret_bool H.out.symm, below_drewN hw _⟩
            · have Hn := hidp (inB_next HN.out (inB_true.2 ⟨h, by omega⟩) Ho.out)
              have d : decide (n < 0) = false := by simpa using h
              go_wp2
              go_quiet (fail)
              go_wp2
              go_roundg (gk - 1)
              case measure => omega
              case rel => exact ⟨k + 1, by omega, by go_num, Hn, sc.keep (Keeps.drewN _ _), below_drewN hw _⟩
          · have E4 : Hid (allB homes 0 ((cores.length : Int) - 1) = true) := hidp (allB_all (fun j hj => Ho.out j (by omega)))
            have H := hidp (HB.out true (by rw [E1.out, E2.out, E3.out, E4.out]; rfl))
            go_wp2
            go_ret
            exact ⟨ret_bool H.out.symm, hw⟩
end Go.Proofs.YtppgameimddimaaGreat

namespace Go.Proofs.YtppgameimddimaaGreat
open Go.ChangeShapes Go.WideShapes Go.ChangeAt Go.RowKit
set_option linter.unusedVariables false

theorem taken_none {ts : List TaskR} {t : TaskR} {k : Nat} (hk : k ≤ ts.length) (h : ∀ j, j < k → likeB t (ts.getD j default) = false) : takenB (ts.take k) t = false := by
  unfold takenB
  rw [List.any_eq_false]
  intro x hx
  obtain ⟨j, hj, e⟩ := List.mem_iff_getElem.1 hx
  rw [List.length_take] at hj
  have := h j (by omega)
  rw [List.getElem_take] at e
  simp [List.getD, show j < ts.length by omega, e] at this
  simp [this]
theorem taken_some {ts : List TaskR} {t o : TaskR} {k j : Nat} (hk : k ≤ ts.length) (hj : j < k) (ho : ts.getD j default = o) (h : likeB t o = true) : takenB (ts.take k) t = true := by
  unfold takenB
  rw [List.any_eq_true]
  refine ⟨o, ?_, h⟩
  rw [← ho]
  have h1 : j < ts.length := by omega
  simp only [List.getD, List.getElem?_eq_getElem h1, Option.getD_some]
  exact List.mem_iff_getElem.2 ⟨j, by rw [List.length_take]; omega, by rw [List.getElem_take]⟩

set_option maxHeartbeats 20000000 in
set_option maxRecDepth 100000 in
theorem rtask_row (proto : Int) (ca : Option Addr) (cc : Nat) (cores : List Int) (ha : Option Addr) (hc : Nat) (homes : List Int) (g off tc : Nat) (tasks : List TaskR) (k : Nat) (w : World)
    (hs : SetOk w ⟨proto, ca, cc, cores, ha, hc, homes, some ⟨g, off, none⟩, tc, tasks⟩) (hk : k < tasks.length) :
    Calls Tryz.prog 73 #[.agg #[.int .i64 proto, .slice ca cores.length cc, .slice ha homes.length hc, .slice (some ⟨g, off, none⟩) tasks.length tc], .int .i64 k] w fun e w' => e = .returned (.int .i64 (taskE ⟨proto, ca, cc, cores, ha, hc, homes, some ⟨g, off, none⟩, tc, tasks⟩ k)) ∧ Below w.heap.size w w' := by
  have l1 : cores.length ≤ maxLen := Nat.le_trans hs.cores.sl.2.1 hs.cores.sl.2.2
  have l2 : homes.length ≤ maxLen := Nat.le_trans hs.homes.sl.2.1 hs.homes.sl.2.2
  have l3 : tasks.length ≤ maxLen := Nat.le_trans hs.tasks.sl.2.1 hs.tasks.sl.2.2
  have L2 := hidp l2
  unfold maxLen at l1 l2 l3
  obtain ⟨t, HT⟩ : ∃ t, Hid (tasks.getD k default = t) := ⟨_, rfl⟩
  have Tok := hs.tasks.ok t (HT.out ▸ getD_mem hk)
  obtain ⟨g', off', hA, hcl⟩ := hs.tasks.at_.resolve_left (by intro e; dsimp only at e; rw [e] at hk; simp at hk)
  obtain ⟨rfl, rfl⟩ : g = g' ∧ off = off' := by injection hA with hA; injection hA with h1 h2; exact ⟨h1, h2⟩
  dsimp only at hcl
  have Hcl := hidp hcl
  have hb := (Below.refl w.heap.size w).alloc (Nat.le_refl _) (.cells #[.int .i64 proto, .slice ca cores.length cc, .slice ha homes.length hc, .slice (some ⟨g, off, none⟩) tasks.length tc] 25)
  have SC := SetCells.new w ⟨proto, ca, cc, cores, ha, hc, homes, some ⟨g, off, none⟩, tc, tasks⟩ 25
  obtain ⟨nm, per, dl, prio, cl, pa, pc, parts⟩ := t
  have tcl := (HT.out ▸ hcl k hk).keep (Keeps.of_below hb)
  have hn := Tok.name
  have Hpt := hidp Tok.at_
  have lp : parts.length ≤ maxLen := Nat.le_trans Tok.sl.2.1 Tok.sl.2.2
  have Lp := hidp lp
  unfold maxLen at lp
  dsimp only at tcl hn Hpt
  obtain ⟨d0, d1, d2, d3, d4, d5⟩ := tcl
  dsimp only at d0 d1 d2 d3 d4 d5
  have so := SC
  obtain ⟨o0, o1, o2, o3⟩ := so
  dsimp only at o0 o1 o2 o3
  have tb := TaskBox.new (w.alloc (.cells #[.int .i64 proto, .slice ca cores.length cc, .slice ha homes.length hc, .slice (some ⟨g, off, none⟩) tasks.length tc] 25)) ⟨nm, per, dl, prio, cl, pa, pc, parts⟩ 57
  rw [show (w.alloc (.cells #[.int .i64 proto, .slice ca cores.length cc, .slice ha homes.length hc, .slice (some ⟨g, off, none⟩) tasks.length tc] 25)).heap.size = w.heap.size + 1 by simp] at tb
  replace SC := SC.keep (Keeps.alloc _ (.cells #[.string nm, .int .i64 per, .int .i64 dl, .int .i64 prio, .int .i64 cl, .slice pa parts.length pc] 57))
  replace hb := hb.alloc (by simp) (.cells #[.string nm, .int .i64 per, .int .i64 dl, .int .i64 prio, .int .i64 cl, .slice pa parts.length pc] 57)
  have tb2 := tb
  obtain ⟨b0, b1, b2, b3, b4, b5⟩ := tb2
  dsimp only at b0 b1 b2 b3 b4 b5
  have sc2 := SC
  obtain ⟨c0, c1, c2, c3⟩ := sc2
  dsimp only at c0 c1 c2 c3
  clear hA hcl Tok
  obtain ⟨nb, Hnb⟩ : ∃ nb, Hid (nameB nm = nb) := ⟨_, rfl⟩
  have hcase : (nameB nm = false) ∨ (nameB nm = true ∧ per < 1) ∨ (nameB nm = true ∧ 1 ≤ per ∧ 3000 < per) ∨ (nameB nm = true ∧ 1 ≤ per ∧ per ≤ 3000 ∧ dl < 1) ∨ (nameB nm = true ∧ 1 ≤ per ∧ per ≤ 3000 ∧ 1 ≤ dl ∧ per < dl) ∨
      (nameB nm = true ∧ 1 ≤ per ∧ per ≤ 3000 ∧ 1 ≤ dl ∧ dl ≤ per ∧ prio < 1) ∨ (nameB nm = true ∧ 1 ≤ per ∧ per ≤ 3000 ∧ 1 ≤ dl ∧ dl ≤ per ∧ 1 ≤ prio ∧ 1000 < prio) ∨ (nameB nm = true ∧ 1 ≤ per ∧ per ≤ 3000 ∧ 1 ≤ dl ∧ dl ≤ per ∧ 1 ≤ prio ∧ prio ≤ 1000) := by
    cases nameB nm
    · exact .inl rfl
    · simp only [true_and]; omega
  rcases hcase with n1 | ⟨n1, n2⟩ | ⟨n1, n2, n3⟩ | ⟨n1, n2, n3, n4⟩ | ⟨n1, n2, n3, n4, n5⟩ | ⟨n1, n2, n3, n4, n5, n6⟩ | ⟨n1, n2, n3, n4, n5, n6, n7⟩ | ⟨n1, n2, n3, n4, n5, n6, n7⟩
  · have p1 : formB ⟨nm, per, dl, prio, cl, pa, pc, parts⟩ = false := by unfold formB; dsimp only; rw [n1]; rfl
    have Hy : Hid (taskE ⟨proto, ca, cc, cores, ha, hc, homes, some ⟨g, off, none⟩, tc, tasks⟩ k = 10) := hidp (by unfold taskE; dsimp only; rw [HT.out, p1]; simp)
    clear p1
    go_enter Tryz.func73, Tryz.ntmps73
    go_wp2_with (first | (go_at_call 101; (with_reducible refine (rname_any _ _ hn).mono ?_); rintro e w' ⟨rfl, rfl⟩))
    go_ret
    exact ⟨ret_int Hy.out.symm, hb⟩
  · have p1 : formB ⟨nm, per, dl, prio, cl, pa, pc, parts⟩ = false := by unfold formB; dsimp only; rw [n1, show inB per 1 3000 = false from inB_false.2 (by omega)]; rfl
    have Hy : Hid (taskE ⟨proto, ca, cc, cores, ha, hc, homes, some ⟨g, off, none⟩, tc, tasks⟩ k = 10) := hidp (by unfold taskE; dsimp only; rw [HT.out, p1]; simp)
    clear p1
    go_enter Tryz.func73, Tryz.ntmps73
    go_wp2_with (first | (go_at_call 101; (with_reducible refine (rname_any _ _ hn).mono ?_); rintro e w' ⟨rfl, rfl⟩))
    go_ret
    exact ⟨ret_int Hy.out.symm, hb⟩
  · have p1 : formB ⟨nm, per, dl, prio, cl, pa, pc, parts⟩ = false := by unfold formB; dsimp only; rw [n1, show inB per 1 3000 = false from inB_false.2 (by omega)]; rfl
    have Hy : Hid (taskE ⟨proto, ca, cc, cores, ha, hc, homes, some ⟨g, off, none⟩, tc, tasks⟩ k = 10) := hidp (by unfold taskE; dsimp only; rw [HT.out, p1]; simp)
    clear p1
    go_enter Tryz.func73, Tryz.ntmps73
    go_wp2_with (first | (go_at_call 101; (with_reducible refine (rname_any _ _ hn).mono ?_); rintro e w' ⟨rfl, rfl⟩))
    go_ret
    exact ⟨ret_int Hy.out.symm, hb⟩
  · have p1 : formB ⟨nm, per, dl, prio, cl, pa, pc, parts⟩ = false := by unfold formB; dsimp only; rw [n1, show inB per 1 3000 = true from inB_true.2 (by omega), show inB dl 1 per = false from inB_false.2 (by omega)]; rfl
    have Hy : Hid (taskE ⟨proto, ca, cc, cores, ha, hc, homes, some ⟨g, off, none⟩, tc, tasks⟩ k = 10) := hidp (by unfold taskE; dsimp only; rw [HT.out, p1]; simp)
    clear p1
    go_enter Tryz.func73, Tryz.ntmps73
    go_wp2_with (first | (go_at_call 101; (with_reducible refine (rname_any _ _ hn).mono ?_); rintro e w' ⟨rfl, rfl⟩))
    go_ret
    exact ⟨ret_int Hy.out.symm, hb⟩
  · have p1 : formB ⟨nm, per, dl, prio, cl, pa, pc, parts⟩ = false := by unfold formB; dsimp only; rw [n1, show inB per 1 3000 = true from inB_true.2 (by omega), show inB dl 1 per = false from inB_false.2 (by omega)]; rfl
    have Hy : Hid (taskE ⟨proto, ca, cc, cores, ha, hc, homes, some ⟨g, off, none⟩, tc, tasks⟩ k = 10) := hidp (by unfold taskE; dsimp only; rw [HT.out, p1]; simp)
    clear p1
    go_enter Tryz.func73, Tryz.ntmps73
    go_wp2_with (first | (go_at_call 101; (with_reducible refine (rname_any _ _ hn).mono ?_); rintro e w' ⟨rfl, rfl⟩))
    go_ret
    exact ⟨ret_int Hy.out.symm, hb⟩
  · have p1 : formB ⟨nm, per, dl, prio, cl, pa, pc, parts⟩ = false := by unfold formB; dsimp only; rw [n1, show inB per 1 3000 = true from inB_true.2 (by omega), show inB dl 1 per = true from inB_true.2 (by omega), show inB prio 1 1000 = false from inB_false.2 (by omega)]; rfl
    have Hy : Hid (taskE ⟨proto, ca, cc, cores, ha, hc, homes, some ⟨g, off, none⟩, tc, tasks⟩ k = 10) := hidp (by unfold taskE; dsimp only; rw [HT.out, p1]; simp)
    clear p1
    go_enter Tryz.func73, Tryz.ntmps73
    go_wp2_with (first | (go_at_call 101; (with_reducible refine (rname_any _ _ hn).mono ?_); rintro e w' ⟨rfl, rfl⟩))
    go_ret
    exact ⟨ret_int Hy.out.symm, hb⟩
  · have p1 : formB ⟨nm, per, dl, prio, cl, pa, pc, parts⟩ = false := by unfold formB; dsimp only; rw [n1, show inB per 1 3000 = true from inB_true.2 (by omega), show inB dl 1 per = true from inB_true.2 (by omega), show inB prio 1 1000 = false from inB_false.2 (by omega)]; rfl
    have Hy : Hid (taskE ⟨proto, ca, cc, cores, ha, hc, homes, some ⟨g, off, none⟩, tc, tasks⟩ k = 10) := hidp (by unfold taskE; dsimp only; rw [HT.out, p1]; simp)
    clear p1
    go_enter Tryz.func73, Tryz.ntmps73
    go_wp2_with (first | (go_at_call 101; (with_reducible refine (rname_any _ _ hn).mono ?_); rintro e w' ⟨rfl, rfl⟩))
    go_ret
    exact ⟨ret_int Hy.out.symm, hb⟩
  · have P1 : Hid (formB ⟨nm, per, dl, prio, cl, pa, pc, parts⟩ = true) := hidp (by unfold formB; dsimp only; rw [n1, show inB per 1 3000 = true from inB_true.2 (by omega), show inB dl 1 per = true from inB_true.2 (by omega), show inB prio 1 1000 = true from inB_true.2 (by omega)]; rfl)
    have hcase : cl < 0 ∨ (0 ≤ cl ∧ (cores.length : Int) ≤ cl) ∨ (0 ≤ cl ∧ cl < (cores.length : Int)) := by omega
    rcases hcase with h | ⟨h, h2⟩ | ⟨h, h2⟩
    · have p2 : inB cl 0 ((cores.length : Int) - 1) = false := inB_false.2 (by omega)
      have Hy : Hid (taskE ⟨proto, ca, cc, cores, ha, hc, homes, some ⟨g, off, none⟩, tc, tasks⟩ k = 16) := hidp (by unfold taskE; dsimp only; rw [HT.out]; dsimp only; rw [P1.out, p2]; simp)
      clear p2
      go_enter Tryz.func73, Tryz.ntmps73
      go_wp2_with (first | (go_at_call 101; (with_reducible refine (rname_any _ _ hn).mono ?_); rintro e w' ⟨rfl, rfl⟩))
      go_ret
      exact ⟨ret_int Hy.out.symm, hb⟩
    · have p2 : inB cl 0 ((cores.length : Int) - 1) = false := inB_false.2 (by omega)
      have Hy : Hid (taskE ⟨proto, ca, cc, cores, ha, hc, homes, some ⟨g, off, none⟩, tc, tasks⟩ k = 16) := hidp (by unfold taskE; dsimp only; rw [HT.out]; dsimp only; rw [P1.out, p2]; simp)
      clear p2
      go_enter Tryz.func73, Tryz.ntmps73
      go_wp2_with (first | (go_at_call 101; (with_reducible refine (rname_any _ _ hn).mono ?_); rintro e w' ⟨rfl, rfl⟩))
      go_ret
      exact ⟨ret_int Hy.out.symm, hb⟩
    · have P2 : Hid (inB cl 0 ((cores.length : Int) - 1) = true) := hidp (inB_true.2 (by omega))
      go_enter Tryz.func73, Tryz.ntmps73
      go_wp2_with (first | (go_at_call 101; (with_reducible refine (rname_any _ _ hn).mono ?_); rintro e w' ⟨rfl, rfl⟩))
      go_loopg [6] k (fun gg i wr => ∃ j : Nat, j + gg = k ∧ i = .int .i64 j ∧ Hid (∀ m, m < j → likeB ⟨nm, per, dl, prio, cl, pa, pc, parts⟩ (tasks.getD m default) = false) ∧ SetCells wr w.heap.size ⟨proto, ca, cc, cores, ha, hc, homes, some ⟨g, off, none⟩, tc, tasks⟩ ∧ TaskBox wr (w.heap.size + 1) ⟨nm, per, dl, prio, cl, pa, pc, parts⟩ ∧ Below w.heap.size w wr)
      case atStart => exact ⟨0, by omega, rfl, hidp (by omega), SC, tb, hb⟩
      case round =>
        obtain ⟨j, hj, rfl, Ho, sc, tb, hb⟩ := hrel
        clear c0 c1 c2 c3 b0 b1 b2 b3 b4 b5 d0 d1 d2 d3 d4 d5 o0 o1 o2 o3
        have sc2 := sc
        obtain ⟨c0, c1, c2, c3⟩ := sc2
        have tb2 := tb
        obtain ⟨b0, b1, b2, b3, b4, b5⟩ := tb2
        dsimp only at c0 c1 c2 c3 b0 b1 b2 b3 b4 b5
        by_cases hlt : j < k
        · obtain ⟨o, HO⟩ : ∃ o, Hid (tasks.getD j default = o) := ⟨_, rfl⟩
          have ocl := (HO.out ▸ Hcl.out j (by omega)).keep (Keeps.of_below hb)
          obtain ⟨d0, _, _, d3, _, _⟩ := ocl
          have hjl : j < tasks.length := by omega
          have hjl2 : (j : Int) < (tasks.length : Int) := by omega
          by_cases z1 : (o.name.toList == nm.toList) = true
          · have p3 := taken_some (t := ⟨nm, per, dl, prio, cl, pa, pc, parts⟩) (Nat.le_of_lt hk) hlt HO.out (by unfold likeB; dsimp only; rw [z1]; rfl)
            have Hy : Hid (taskE ⟨proto, ca, cc, cores, ha, hc, homes, some ⟨g, off, none⟩, tc, tasks⟩ k = 17) := hidp (by unfold taskE; dsimp only; rw [HT.out]; dsimp only; rw [P1.out, P2.out, p3]; simp)
            clear p3
            go_wp2
            go_quiet (fail)
            go_wp2
            go_ret
            exact ⟨ret_int Hy.out.symm, below_drewN hb _⟩
          · have z1 : (o.name.toList == nm.toList) = false := by simpa using z1
            by_cases z2 : (o.prio == prio) = true
            · have p3 := taken_some (t := ⟨nm, per, dl, prio, cl, pa, pc, parts⟩) (Nat.le_of_lt hk) hlt HO.out (by unfold likeB; dsimp only; rw [z1, z2]; rfl)
              have Hy : Hid (taskE ⟨proto, ca, cc, cores, ha, hc, homes, some ⟨g, off, none⟩, tc, tasks⟩ k = 17) := hidp (by unfold taskE; dsimp only; rw [HT.out]; dsimp only; rw [P1.out, P2.out, p3]; simp)
              have z3 : o.prio = prio := by simpa using z2
              have Hz3 := hidp z3
              clear p3 z3
              go_wp2
              go_quiet (fail)
              go_wp2
              go_ret
              exact ⟨ret_int Hy.out.symm, below_drewN hb _⟩
            · have z2 : (o.prio == prio) = false := by simpa using z2
              have Hn : Hid (∀ m, m < j + 1 → likeB ⟨nm, per, dl, prio, cl, pa, pc, parts⟩ (tasks.getD m default) = false) := hidp (fun m hm => by
                by_cases e : m = j
                · subst e; rw [HO.out]; unfold likeB; dsimp only; rw [z1, z2]; rfl
                · exact Ho.out m (by omega))
              go_wp2
              go_quiet (fail)
              go_wp2
              go_roundg (gk - 1)
              case measure => omega
              case rel => exact ⟨j + 1, by omega, by go_num, Hn, sc.keep (Keeps.drewN _ _), tb.keep (Keeps.drewN _ _), below_drewN hb _⟩
        · obtain rfl : j = k := by omega
          have P3 : Hid (takenB (tasks.take j) ⟨nm, per, dl, prio, cl, pa, pc, parts⟩ = false) := hidp (taken_none (Nat.le_of_lt hk) Ho.out)
          have hcase : ((parts.length : Int) < 1) ∨ (1 ≤ (parts.length : Int) ∧ 6 < (parts.length : Int)) ∨ (1 ≤ (parts.length : Int) ∧ (parts.length : Int) ≤ 6) := by omega
          rcases hcase with q1 | ⟨q1, q2⟩ | ⟨q1, q2⟩
          · have p4 : partsB parts homes.length = false := by unfold partsB; rw [show inB parts.length 1 6 = false from inB_false.2 (by omega)]; rfl
            have Hy : Hid (taskE ⟨proto, ca, cc, cores, ha, hc, homes, some ⟨g, off, none⟩, tc, tasks⟩ j = 15) := hidp (by unfold taskE; dsimp only; rw [HT.out]; dsimp only; rw [P1.out, P2.out, P3.out, p4]; simp)
            clear p4
            go_wp2
            go_ret
            exact ⟨ret_int Hy.out.symm, hb⟩
          · have p4 : partsB parts homes.length = false := by unfold partsB; rw [show inB parts.length 1 6 = false from inB_false.2 (by omega)]; rfl
            have Hy : Hid (taskE ⟨proto, ca, cc, cores, ha, hc, homes, some ⟨g, off, none⟩, tc, tasks⟩ j = 15) := hidp (by unfold taskE; dsimp only; rw [HT.out]; dsimp only; rw [P1.out, P2.out, P3.out, p4]; simp)
            clear p4
            go_wp2
            go_ret
            exact ⟨ret_int Hy.out.symm, hb⟩
          · have P4 : Hid (inB parts.length 1 6 = true) := hidp (inB_true.2 (by omega))
            obtain ⟨gp, op, hP, hpl⟩ := Hpt.out.resolve_left (by intro e; rw [e] at q1; simp at q1)
            subst hP
            have Hpl := hidp hpl
            clear hpl
            go_wp2
            obtain ⟨wo, rfl⟩ : ∃ wo : World, wo = wr := ⟨_, rfl⟩
            go_loopg [7] parts.length (fun gg i wr => ∃ m : Nat, m + gg = parts.length ∧ i = .int .i64 m ∧ Hid (∀ n, n < m → partB (parts.getD n default) homes.length = true) ∧ SetCells wr w.heap.size ⟨proto, ca, cc, cores, ha, hc, homes, some ⟨g, off, none⟩, tc, tasks⟩ ∧ TaskBox wr (w.heap.size + 1) ⟨nm, per, dl, prio, cl, some ⟨gp, op, none⟩, pc, parts⟩ ∧ Below w.heap.size w wr)
            case atStart => exact ⟨0, by omega, rfl, hidp (by omega), sc, tb, hb⟩
            case round =>
              obtain ⟨m, hm, rfl, Hm, sc, tb, hb⟩ := hrel
              clear c0 c1 c2 c3 b0 b1 b2 b3 b4 b5
              have sc2 := sc
              obtain ⟨c0, c1, c2, c3⟩ := sc2
              have tb2 := tb
              obtain ⟨b0, b1, b2, b3, b4, b5⟩ := tb2
              dsimp only at c0 c1 c2 c3 b0 b1 b2 b3 b4 b5
              by_cases hml : m < parts.length
              · obtain ⟨p, HP⟩ : ∃ p, Hid (parts.getD m default = p) := ⟨_, rfl⟩
                have pcl := (HP.out ▸ Hpl.out m hml).keep (Keeps.of_below hb)
                have hml2 : (m : Int) < (parts.length : Int) := by omega
                go_wp2_with fail
                have sc := sc.keep (Keeps.drew wr)
                have tb := tb.keep (Keeps.drew wr)
                have pcl := pcl.keep (Keeps.drew wr)
                have hb := hb.drew
                by_cases z : partB p homes.length = true
                · have Hn : Hid (∀ n, n < m + 1 → partB (parts.getD n default) homes.length = true) := hidp (fun n hn => by
                    by_cases e : n = m
                    · subst e; rw [HP.out]; exact z
                    · exact Hm.out n (by omega))
                  go_region_held3 (fun w' => w'.cell? ⟨w.heap.size, 0, none⟩ = some (.int .i64 proto) ∧ w'.cell? ⟨w.heap.size, 1, none⟩ = some (.slice ca cores.length cc) ∧ w'.cell? ⟨w.heap.size, 2, none⟩ = some (.slice ha homes.length hc) ∧ w'.cell? ⟨w.heap.size, 3, none⟩ = some (.slice (some ⟨g, off, none⟩) tasks.length tc) ∧ w'.cell? ⟨w.heap.size + 1, 5, none⟩ = some (.slice (some ⟨gp, op, none⟩) parts.length pc) ∧ w'.cell? ⟨gp, op + m * 3, none⟩ = some (.int .i64 p.kind) ∧ w'.cell? ⟨gp, op + m * 3 + 1, none⟩ = some (.int .i64 p.len) ∧ w'.cell? ⟨gp, op + m * 3 + 2, none⟩ = some (.int .i64 p.res)) (exact ⟨sc.1, sc.2.1, sc.2.2.1, sc.2.2.2, tb.2.2.2.2.2, pcl⟩)
                    (first
                      | (go_at_call 102; refine (rpart_any ⟨proto, ca, cc, cores, ha, hc, homes, some ⟨g, off, none⟩, tc, tasks⟩ p _ L2.out).mono ?_; rintro e u ⟨rfl, hb2⟩; have hb := hb.trans (hb2.mono hb.size); have sc := sc.keep (Keeps.of_below hb2); have tb := tb.keep (Keeps.of_below hb2); have pcl := pcl.keep (Keeps.of_below hb2)))
                  go_wp2_with fail
                  go_roundg (gk - 1)
                  case measure => omega
                  case rel => exact ⟨m + 1, by omega, by go_num, Hn, sc, tb, hb⟩
                · have z : partB p homes.length = false := by simpa using z
                  have p4 : partsB parts homes.length = false := by unfold partsB; rw [not_all_getD hml HP.out z]; simp
                  have Hy : Hid (taskE ⟨proto, ca, cc, cores, ha, hc, homes, some ⟨g, off, none⟩, tc, tasks⟩ j = 15) := hidp (by unfold taskE; dsimp only; rw [HT.out]; dsimp only; rw [P1.out, P2.out, P3.out, p4]; simp)
                  clear p4
                  go_region_held3 (fun w' => w'.cell? ⟨w.heap.size, 0, none⟩ = some (.int .i64 proto) ∧ w'.cell? ⟨w.heap.size, 1, none⟩ = some (.slice ca cores.length cc) ∧ w'.cell? ⟨w.heap.size, 2, none⟩ = some (.slice ha homes.length hc) ∧ w'.cell? ⟨w.heap.size, 3, none⟩ = some (.slice (some ⟨g, off, none⟩) tasks.length tc) ∧ w'.cell? ⟨w.heap.size + 1, 5, none⟩ = some (.slice (some ⟨gp, op, none⟩) parts.length pc) ∧ w'.cell? ⟨gp, op + m * 3, none⟩ = some (.int .i64 p.kind) ∧ w'.cell? ⟨gp, op + m * 3 + 1, none⟩ = some (.int .i64 p.len) ∧ w'.cell? ⟨gp, op + m * 3 + 2, none⟩ = some (.int .i64 p.res)) (exact ⟨sc.1, sc.2.1, sc.2.2.1, sc.2.2.2, tb.2.2.2.2.2, pcl⟩)
                    (first
                      | (go_at_call 102; refine (rpart_any ⟨proto, ca, cc, cores, ha, hc, homes, some ⟨g, off, none⟩, tc, tasks⟩ p _ L2.out).mono ?_; rintro e u ⟨rfl, hb2⟩; have hb := hb.trans (hb2.mono hb.size); have sc := sc.keep (Keeps.of_below hb2); have tb := tb.keep (Keeps.of_below hb2); have pcl := pcl.keep (Keeps.of_below hb2)))
                  go_wp2_with fail
                  go_ret
                  exact ⟨ret_int Hy.out.symm, hb⟩
              · have p4 : partsB parts homes.length = true := by unfold partsB; rw [P4.out, all_getD (f := fun p => partB p homes.length) (fun n hn => Hm.out n (by omega))]; rfl
                have Hy : Hid (taskE ⟨proto, ca, cc, cores, ha, hc, homes, some ⟨g, off, none⟩, tc, tasks⟩ j = 0) := hidp (by unfold taskE; dsimp only; rw [HT.out]; dsimp only; rw [P1.out, P2.out, P3.out, p4]; simp)
                clear p4
                go_wp2
                go_ret
                exact ⟨ret_int Hy.out.symm, hb⟩
end Go.Proofs.YtppgameimddimaaGreat

namespace Go.Proofs.YtppgameimddimaaGreat
open Go.ChangeShapes Go.WideShapes Go.ChangeAt Go.RowKit
set_option linter.unusedVariables false

theorem rtask_any (s : SetR) (k : Nat) (w : World) (hs : SetOk w s) (hk : k < s.tasks.length) : Calls Tryz.prog 73 #[.agg #[.int .i64 s.proto, .slice s.ca s.cores.length s.cc, .slice s.ha s.homes.length s.hc, .slice s.ta s.tasks.length s.tc], .int .i64 k] w fun e w' => e = .returned (.int .i64 (taskE s k)) ∧ Below w.heap.size w w' := by
  obtain ⟨g, off, hA, _⟩ := hs.tasks.at_.resolve_left (by intro e; rw [e] at hk; simp at hk)
  obtain ⟨proto, ca, cc, cores, ha, hc, homes, ta, tc, tasks⟩ := s
  dsimp only at hA
  subst hA
  exact rtask_row proto ca cc cores ha hc homes g off tc tasks k w hs hk
theorem placesB_frame {s : SetR} (h : inB s.proto 1 3 = true) : frameV s = if placesB s = false then 16 else if 6 < s.tasks.length then 11 else if s.tasks.length = 0 then 14 else 0 := by
  unfold frameV placesB
  rw [if_neg (by rw [h]; decide)]
  cases inB s.cores.length 1 3
  · simp
  · cases allB s.cores 1 3
    · simp
    · by_cases h4 : s.homes.length ≤ 4
      · have h4' : ¬ 4 < s.homes.length := by omega
        cases allB s.homes 0 ((s.cores.length : Int) - 1) <;> simp [h4, h4']
      · have h4' : 4 < s.homes.length := by omega
        simp [h4, h4']
theorem chk_frame {s : SetR} {v : Int} (h : frameV s = v) (h0 : v ≠ 0) : chkAt s = -1 ∧ chkE s = v := by
  unfold chkAt chkE
  rw [h, if_pos h0, if_pos h0]
  exact ⟨rfl, rfl⟩

set_option maxHeartbeats 4000000 in
set_option maxRecDepth 100000 in
theorem rcheck_any (s : SetR) (w : World) (hs : SetOk w s) : Calls Tryz.prog 48 #[.agg #[.int .i64 s.proto, .slice s.ca s.cores.length s.cc, .slice s.ha s.homes.length s.hc, .slice s.ta s.tasks.length s.tc]] w fun e w' => e = .returned (.tuple #[.int .i64 (chkAt s), .int .i64 (chkE s)]) ∧ Below w.heap.size w w' := by
  have l3 : s.tasks.length ≤ maxLen := Nat.le_trans hs.tasks.sl.2.1 hs.tasks.sl.2.2
  unfold maxLen at l3
  have hb := (Below.refl w.heap.size w).alloc (Nat.le_refl _) (.cells #[.int .i64 s.proto, .slice s.ca s.cores.length s.cc, .slice s.ha s.homes.length s.hc, .slice s.ta s.tasks.length s.tc] 25)
  have sc := SetCells.new w s 25
  have hs := hs.keep (Keeps.of_below hb)
  have sc2 := sc
  obtain ⟨c0, c1, c2, c3⟩ := sc2
  have hcase : s.proto < 1 ∨ (1 ≤ s.proto ∧ 3 < s.proto) ∨ (1 ≤ s.proto ∧ s.proto ≤ 3) := by omega
  rcases hcase with p | ⟨p, p2⟩ | ⟨p, p2⟩
  · have H := hidp (chk_frame (s := s) (v := 10) (by unfold frameV; rw [if_pos (inB_false.2 (by omega))]) (by decide))
    go_enter Tryz.func48, Tryz.ntmps48
    go_wp2
    go_ret2
    exact ⟨ret_ii H.out.1.symm H.out.2.symm, hb⟩
  · have H := hidp (chk_frame (s := s) (v := 10) (by unfold frameV; rw [if_pos (inB_false.2 (by omega))]) (by decide))
    go_enter Tryz.func48, Tryz.ntmps48
    go_wp2
    go_ret2
    exact ⟨ret_ii H.out.1.symm H.out.2.symm, hb⟩
  · have Hf := hidp (placesB_frame (s := s) (inB_true.2 ⟨p, p2⟩))
    by_cases q : placesB s = true
    · by_cases q6 : 6 < s.tasks.length
      · have H := hidp (chk_frame (s := s) (v := 11) (by rw [Hf.out, if_neg (by rw [q]; decide), if_pos q6]) (by decide))
        go_enter Tryz.func48, Tryz.ntmps48
        go_wp2_with (first | (go_at_call 72; (with_reducible refine (places_any _ _ hs).mono ?_); rintro e u ⟨rfl, hb2⟩; replace hb := hb.trans (hb2.mono hb.size); replace sc := sc.keep (Keeps.of_below hb2); replace hs := hs.keep (Keeps.of_below hb2); have sc3 := sc; obtain ⟨e0, e1, e2, e3⟩ := sc3; clear hb2))
        go_ret2
        exact ⟨ret_ii H.out.1.symm H.out.2.symm, hb⟩
      · by_cases q0 : s.tasks.length = 0
        · have H := hidp (chk_frame (s := s) (v := 14) (by rw [Hf.out, if_neg (by rw [q]; decide), if_neg q6, if_pos q0]) (by decide))
          have q1 : ((s.tasks.length : Int) == 0) = true := by simp [q0]
          clear q0
          go_enter Tryz.func48, Tryz.ntmps48
          go_wp2_with (first | (go_at_call 72; (with_reducible refine (places_any _ _ hs).mono ?_); rintro e u ⟨rfl, hb2⟩; replace hb := hb.trans (hb2.mono hb.size); replace sc := sc.keep (Keeps.of_below hb2); replace hs := hs.keep (Keeps.of_below hb2); have sc3 := sc; obtain ⟨e0, e1, e2, e3⟩ := sc3; clear hb2))
          go_ret2
          exact ⟨ret_ii H.out.1.symm H.out.2.symm, hb⟩
        · have Hf0 : Hid (frameV s = 0) := hidp (by rw [Hf.out, if_neg (by rw [q]; decide), if_neg q6, if_neg q0])
          have q1 : ((s.tasks.length : Int) == 0) = false := by simp; intro e; exact q0 (by simp [e])
          clear q0
          go_enter Tryz.func48, Tryz.ntmps48
          go_wp2_with (first | (go_at_call 72; (with_reducible refine (places_any _ _ hs).mono ?_); rintro e u ⟨rfl, hb2⟩; replace hb := hb.trans (hb2.mono hb.size); replace sc := sc.keep (Keeps.of_below hb2); replace hs := hs.keep (Keeps.of_below hb2); have sc3 := sc; obtain ⟨e0, e1, e2, e3⟩ := sc3; clear hb2))
          clear c0 c1 c2 c3 e0 e1 e2 e3
          go_loopg [4] s.tasks.length (fun gg i wr => ∃ k : Nat, k + gg = s.tasks.length ∧ i = .int .i64 k ∧ Hid (∀ j, j < k → taskE s j = 0) ∧ SetCells wr w.heap.size s ∧ SetOk wr s ∧ Below w.heap.size w wr)
          case atStart => exact ⟨0, by omega, rfl, hidp (by omega), sc, hs, hb⟩
          case round =>
            obtain ⟨k, hk, rfl, Ho, sc, hs, hb⟩ := hrel
            have sc3 := sc
            obtain ⟨c0, c1, c2, c3⟩ := sc3
            by_cases hlt : k < s.tasks.length
            · obtain ⟨v, Hv⟩ : ∃ v, Hid (taskE s k = v) := ⟨_, rfl⟩
              by_cases z : v = 0
              · have Hn : Hid (∀ j, j < k + 1 → taskE s j = 0) := hidp (fun j hj => by
                  by_cases e : j = k
                  · subst e; rw [Hv.out]; exact z
                  · exact Ho.out j (by omega))
                subst z
                go_wp2_with (first | (go_at_call 73; (with_reducible refine (rtask_any _ _ _ hs hlt).mono ?_); rintro e u ⟨rfl, hb2⟩; rw [Hv.out]; replace hb := hb.trans (hb2.mono hb.size); replace sc := sc.keep (Keeps.of_below hb2); replace hs := hs.keep (Keeps.of_below hb2); clear hb2))
                go_roundg (gk - 1)
                case measure => omega
                case rel => exact ⟨k + 1, by omega, by go_num, Hn, sc, hs, hb⟩
              · have H := hidp (chk_here Hf0.out hlt Ho.out (by rw [Hv.out]; exact z))
                have z2 : (v == 0) = false := by simpa using z
                clear z
                go_wp2_with (first | (go_at_call 73; (with_reducible refine (rtask_any _ _ _ hs hlt).mono ?_); rintro e u ⟨rfl, hb2⟩; rw [Hv.out]; replace hb := hb.trans (hb2.mono hb.size); clear hb2))
                go_ret2
                exact ⟨ret_ii H.out.1.symm (by rw [H.out.2, Hv.out]), hb⟩
            · have H := hidp (chk_none Hf0.out (fun j hj => Ho.out j (by omega)))
              go_wp2
              go_ret2
              exact ⟨ret_ii H.out.1.symm H.out.2.symm, hb⟩
    · have q : placesB s = false := by simpa using q
      have H := hidp (chk_frame (s := s) (v := 16) (by rw [Hf.out, if_pos q]) (by decide))
      go_enter Tryz.func48, Tryz.ntmps48
      go_wp2_with (first | (go_at_call 72; (with_reducible refine (places_any _ _ hs).mono ?_); rintro e u ⟨rfl, hb2⟩; replace hb := hb.trans (hb2.mono hb.size); clear hb2))
      go_ret2
      exact ⟨ret_ii H.out.1.symm H.out.2.symm, hb⟩

theorem rok_any (s : SetR) (w : World) (hs : SetOk w s) : Calls Tryz.prog 20 #[.agg #[.int .i64 s.proto, .slice s.ca s.cores.length s.cc, .slice s.ha s.homes.length s.hc, .slice s.ta s.tasks.length s.tc]] w fun e w' => e = .returned (.bool (okS s)) ∧ Below w.heap.size w w' := by
  have hb := (Below.refl w.heap.size w).alloc (Nat.le_refl _) (.cells #[.int .i64 s.proto, .slice s.ca s.cores.length s.cc, .slice s.ha s.homes.length s.hc, .slice s.ta s.tasks.length s.tc] 25)
  have H := hidp (hs.keep (Keeps.of_below hb))
  have Ho : Hid (okS s = (chkE s == 0)) := hidp rfl
  clear hs
  go_enter Tryz.func20, Tryz.ntmps20
  go_wp2_with (first | (go_at_call 48; (with_reducible refine (rcheck_any _ _ H.out).mono ?_); rintro e w2 ⟨rfl, hb2⟩))
  go_ret
  exact ⟨ret_bool Ho.out.symm, hb.trans (hb2.mono hb.size)⟩
end Go.Proofs.YtppgameimddimaaGreat

namespace Go.Proofs.YtppgameimddimaaGreat
open Go.ChangeShapes Go.WideShapes Go.ChangeAt Go.RowKit
set_option linter.unusedVariables false

theorem same_yes {w : World} {A B : Option Addr} {zs : List Int} {n m c d : Nat} (ha : Row w .i64 A zs) (hb : Row w .i64 B zs) (hn : n = zs.length) (hm : m = zs.length) (hl : zs.length ≤ 1000) :
    Calls Tryz.prog 14 #[.slice A n c, .slice B m d] w fun e w' => e = .returned (.bool true) ∧ Qt w w' := by
  subst hn
  subst hm
  go_enter Tryz.func14, Tryz.ntmps14
  go_wp2
  go_loopg [5] zs.length (fun g i wr => ∃ k : Nat, k + g = zs.length ∧ i = .int .i64 k ∧ Qt w wr)
  case atStart => exact ⟨0, by omega, rfl, Qt.refl _⟩
  case round =>
    obtain ⟨k, hk, rfl, hq⟩ := hrel
    by_cases hlt : k < zs.length
    · obtain ⟨g, off, rfl, hc⟩ := ha.resolve_left (by intro e; subst e; simp at hlt)
      obtain ⟨g2, off2, rfl, hc2⟩ := hb.resolve_left (by intro e; subst e; simp at hlt)
      obtain ⟨n, HN⟩ : ∃ n, Hid (zs.getD k 0 = n) := ⟨_, rfl⟩
      have c1 : wr.cell? ⟨g, off + k, none⟩ = some (.int .i64 n) := hq.cell (HN.out ▸ hc k hlt)
      have c2 : wr.cell? ⟨g2, off2 + k, none⟩ = some (.int .i64 n) := hq.cell (HN.out ▸ hc2 k hlt)
      have b1 : (0 : Int) ≤ (k : Int) := by omega
      have b2 : (k : Int) < (zs.length : Int) := by omega
      clear hc hc2 ha hb
      go_wp2
      go_quiet (fail)
      go_wp2
      go_roundg (gk - 1)
      case measure => omega
      case rel => exact ⟨k + 1, by omega, by go_num, hq.add _⟩
    · obtain rfl : k = zs.length := by omega
      go_wp2
      go_ret
      exact ⟨rfl, hq⟩
end Go.Proofs.YtppgameimddimaaGreat

namespace Go.Proofs.YtppgameimddimaaGreat
open Go.ChangeShapes Go.WideShapes Go.ChangeAt Go.RowKit Go.Conc
set_option linter.unusedVariables false
set_option linter.unusedSimpArgs false
/-- the reference's locks of set S in block b tell the plain locks s; G: where their row lies -/
structure RlI (w0 w : World) (b : Nat) (S : SetR) (s : Ls) (G : List Nat) : Prop where
  rl : ∃ A c, Rl w0 w b S s A c ∧ fp A = G
  ok : LsOk s
section
variable {w0 w w' : World} {b : Nat} {S : SetR} {s s' : Ls} {G G' : List Nat}
theorem RlI.base (h : RlI w0 w b S s G) : ∀ k ∈ b :: G, w0.heap.size ≤ k ∧ k < w.heap.size := by
  obtain ⟨⟨A, c, h1, rfl⟩, _⟩ := h
  intro k hk
  rcases List.mem_cons.1 hk with rfl | hk
  · exact ⟨h1.base, h1.blk.lt⟩
  · exact own_fp h1.row.own k hk
theorem RlI.below (h : RlI w0 w b S s G) : Below w0.heap.size w0 w := by
  obtain ⟨⟨A, c, h1, rfl⟩, _⟩ := h
  exact h1.below
theorem RlI.turned {F : List Nat} (h : RlI w0 w b S s G) (ht : Turned F w w') (hd : ∀ k ∈ b :: G, k ∉ F) (hF : ∀ k ∈ F, w0.heap.size ≤ k) : RlI w0 w' b S s G := by
  obtain ⟨⟨A, c, h1, rfl⟩, h2⟩ := h
  exact ⟨⟨A, c, h1.turned ht (hd b (by simp)) (fun k hk => hd k (by simp [hk])) hF, rfl⟩, h2⟩
theorem RlI.over (h : RlI w0 w b S s G) (hb : Below w.heap.size w w') : RlI w0 w' b S s G := h.turned (Turned.of_below hb []) (by simp) (by simp)
theorem RlI.post (h : RlI w0 w b S s G) (ho : LsOk s') (hp : RlPost w0 w b S s' w') : ∃ G', RlI w0 w' b S s' G' ∧ Stp w b G w' G' := by
  obtain ⟨A', c', h1, h2, h3⟩ := hp
  exact ⟨fp A', ⟨⟨A', c', h1, rfl⟩, ho⟩, h2.mono (fun k hk => by simp at hk; simp [hk]), fun k hk => .inr (h3 k hk)⟩
theorem ri_ask (h : RlI w0 w b S s G) (t r : Int) (h8 : s.count < 800000) : Calls Tryz.prog 13 #[.pointer (some ⟨b, 0, none⟩), .int .i64 t, .int .i64 r] w fun e w' => e = .returned (.int .i64 (askC s t r)) ∧ ∃ G', RlI w0 w' b S (askS s t r) G' ∧ Stp w b G w' G' := by
  obtain ⟨⟨A, c, h1, rfl⟩, h2⟩ := id h
  by_cases hc : askC s t r = 0
  · by_cases hp : s.proto = 3
    · refine (rl_ask3 h1 h2 hc hp).mono ?_
      rintro e w' ⟨rfl, hp⟩
      exact ⟨by rw [hc], h.post (h2.asks t r) hp⟩
    · refine (rl_ask1 h1 h2 hc hp h8).mono ?_
      rintro e w' ⟨rfl, hp⟩
      exact ⟨by rw [hc], h.post (h2.asks t r) hp⟩
  · refine (rl_ask_no h1 hc).mono ?_
    rintro e w' ⟨rfl, rfl⟩
    exact ⟨rfl, fp A, by unfold askS; rw [if_neg hc]; exact h, Stp.same (Below.refl _ _)⟩
theorem ri_leave (h : RlI w0 w b S s G) (t : Int) : Calls Tryz.prog 18 #[.pointer (some ⟨b, 0, none⟩), .int .i64 t] w fun e w' => e = .returned (.int .i64 (leaveC s t)) ∧ ∃ G', RlI w0 w' b S (leaveS s t) G' ∧ Stp w b G w' G' := by
  obtain ⟨⟨A, c, h1, rfl⟩, h2⟩ := id h
  by_cases hc : leaveC s t = 0
  · refine (rl_leave h1 h2 hc).mono ?_
    rintro e w' ⟨rfl, hp⟩
    exact ⟨by rw [hc], h.post (h2.leave t) hp⟩
  · refine (rl_leave_no h1 hc).mono ?_
    rintro e w' ⟨rfl, rfl⟩
    have hn : s.get t = none := by
      unfold leaveC at hc
      cases hg : s.get t with
      | none => rfl
      | some a => rw [hg] at hc; simp at hc
    have hs : leaveS s t = s := by
      unfold leaveS
      have : (s.L.filter fun a => !(a.task == t)) = s.L := List.filter_eq_self.2 fun a ha => by simpa using get_none.1 hn a ha
      rw [this]
    exact ⟨rfl, fp A, by rw [hs]; exact h, Stp.same (Below.refl _ _)⟩
theorem ri_grant (h : RlI w0 w b S s G) (h8 : s.count < 900000) : Calls Tryz.prog 16 #[.pointer (some ⟨b, 0, none⟩)] w fun e w' => ∃ B n k, e = .returned (.slice B n k) ∧ OwnInts w.heap.size w' B n k (grantL s) ∧ ∃ G', RlI w0 w' b S (grantS s) G' ∧ Stp w b G w' G' := by
  obtain ⟨⟨A, c, h1, rfl⟩, h2⟩ := id h
  refine (rl_grant h1 h2 h8).mono ?_
  rintro e w' ⟨B, n, k, rfl, ho, hp⟩
  exact ⟨B, n, k, rfl, ho, h.post h2.grant hp⟩
theorem ri_holds (h : RlI w0 w b S s G) (t : Int) : Calls Tryz.prog 44 #[.pointer (some ⟨b, 0, none⟩), .int .i64 t] w fun e w' => e = .returned (.bool (holdsS s t)) ∧ w = w' := by
  obtain ⟨⟨A, c, h1, rfl⟩, h2⟩ := h
  exact rl_holds h1 t
theorem ri_boost (h : RlI w0 w b S s G) (t : Int) : Calls Tryz.prog 45 #[.pointer (some ⟨b, 0, none⟩), .int .i64 t] w fun e w' => e = .returned (.int .i64 (boostS s t)) ∧ Below w.heap.size w w' := by
  obtain ⟨⟨A, c, h1, rfl⟩, h2⟩ := h
  refine (rl_boost h1 t).mono ?_
  rintro e w' ⟨rfl, n, rfl⟩
  exact ⟨rfl, below_drewN (Below.refl _ _) n⟩
theorem ri_holder (h : RlI w0 w b S s G) (r : Int) : Calls Tryz.prog 46 #[.pointer (some ⟨b, 0, none⟩), .int .i64 r] w fun e w' => e = .returned (holderV s r) ∧ w = w' := by
  obtain ⟨⟨A, c, h1, rfl⟩, h2⟩ := h
  exact rl_holder h1 r
theorem ri_waiting (h : RlI w0 w b S s G) : Calls Tryz.prog 47 #[.pointer (some ⟨b, 0, none⟩)] w fun e w' => ∃ A n c, e = .returned (.slice A n c) ∧ OwnInts w.heap.size w' A n c (waitS s) ∧ Below w.heap.size w w' := by
  obtain ⟨⟨A, c, h1, rfl⟩, h2⟩ := h
  exact rl_waiting h1 h2
end
theorem none_set (w : World) : SetOk w ⟨0, none, 0, [], none, 0, [], none, 0, []⟩ := ⟨by decide, ⟨⟨fun _ => ⟨rfl, rfl⟩, by decide, by decide⟩, .inl rfl, by simp⟩, ⟨⟨fun _ => ⟨rfl, rfl⟩, by decide, by decide⟩, .inl rfl, by simp⟩, ⟨⟨fun _ => ⟨rfl, rfl⟩, by decide, by decide⟩, .inl rfl, by simp⟩⟩
set_option maxHeartbeats 2000000 in
theorem ri_new (w0 w : World) (s : SetR) (hs0 : SetOk w0 s) (h0 : Below w0.heap.size w0 w) : Calls Tryz.prog 11 #[.agg #[.int .i64 s.proto, .slice s.ca s.cores.length s.cc, .slice s.ha s.homes.length s.hc, .slice s.ta s.tasks.length s.tc]] w fun e w' => ∃ b S G, e = .returned (.pointer (some ⟨b, 0, none⟩)) ∧ RlI w0 w' b S (lsOf s) G ∧ w.heap.size ≤ b ∧ G = [] ∧ Below w.heap.size w w' := by
  have hs := hs0.keep (Keeps.of_below h0)
  have HS0 := hidp hs0
  have H0 := hidp h0
  have HZ0 : Hid (w0.heap.size ≤ w.heap.size) := hidp h0.size
  have hb := (Below.refl w.heap.size w).alloc (Nat.le_refl _) (.cells #[.int .i64 s.proto, .slice s.ca s.cores.length s.cc, .slice s.ha s.homes.length s.hc, .slice s.ta s.tasks.length s.tc] 25)
  have HB := hidp hb
  have HZ := hidp (Bk.new w 25 #[.int .i64 s.proto, .slice s.ca s.cores.length s.cc, .slice s.ha s.homes.length s.hc, .slice s.ta s.tasks.length s.tc])
  have CR := rok_any s _ (hs.keep (Keeps.of_below hb))
  clear hb hs hs0 h0
  cases hok : okS s with
  | false =>
    rw [hok] at CR
    have hls : lsOf s = lsZero := by unfold lsOf; rw [hok]; rfl
    go_enter Tryz.func11, Tryz.ntmps11
    go_wp2_with fail
    refine CR.mono ?_
    rintro e w2 ⟨rfl, hb2⟩
    have HB2 := hidp (HB.out.trans (hb2.mono HB.out.size))
    clear CR hb2
    go_wp2_with fail
    go_ret
    have hb3 := HB2.out.alloc HB2.out.size (.cells #[.int .i64 0, .slice none 0 0, .slice none 0 0, .slice none 0 0, .slice none 0 0, .int .i64 0] 80)
    refine ⟨w2.heap.size, ⟨0, none, 0, [], none, 0, [], none, 0, []⟩, [], rfl, ⟨⟨none, 0, ⟨?_, ?_, by simp [fp], Nat.le_trans HZ0.out HB2.out.size, H0.out.trans (hb3.mono HZ0.out), none_set w0, ?_⟩, rfl⟩, by rw [hls]; exact lsZero_ok⟩, HB2.out.size, rfl, hb3⟩
    · rw [hls]; exact Bk.new w2 80 #[.int .i64 0, .slice none 0 0, .slice none 0 0, .slice none 0 0, .slice none 0 0, .int .i64 0]
    · rw [hls]; exact OwnA.empty _ _
    · rw [hls]; exact ⟨rfl, rfl, rfl, rfl, rfl⟩
  | true =>
    rw [hok] at CR
    have hls : lsOf s = lsNew s := by unfold lsOf; rw [if_pos hok]
    have HG := hidp (Good.of hok)
    go_enter Tryz.func11, Tryz.ntmps11
    go_wp2_with fail
    refine CR.mono ?_
    rintro e w2 ⟨rfl, hb2⟩
    have HB2 := hidp (HB.out.trans (hb2.mono HB.out.size))
    have HZ2 := hidp (HZ.out.turned (Turned.of_below hb2 []) (by simp))
    have y0 : w2.cell? ⟨w.heap.size, 0, none⟩ = some (.int .i64 s.proto) := HZ2.out.cell 0
    have y1 : w2.cell? ⟨w.heap.size, 1, none⟩ = some (.slice s.ca s.cores.length s.cc) := HZ2.out.cell 1
    have y2 : w2.cell? ⟨w.heap.size, 2, none⟩ = some (.slice s.ha s.homes.length s.hc) := HZ2.out.cell 2
    have y3 : w2.cell? ⟨w.heap.size, 3, none⟩ = some (.slice s.ta s.tasks.length s.tc) := HZ2.out.cell 3
    clear CR hb2
    go_wp2_with fail
    go_ret
    have hb3 := HB2.out.alloc HB2.out.size (.cells #[.int .i64 s.proto, .slice s.ca s.cores.length s.cc, .slice s.ha s.homes.length s.hc, .slice s.ta s.tasks.length s.tc, .slice none 0 0, .int .i64 0] 80)
    refine ⟨w2.heap.size, s, [], rfl, ⟨⟨none, 0, ⟨?_, ?_, by simp [fp], Nat.le_trans HZ0.out HB2.out.size, H0.out.trans (hb3.mono HZ0.out), HS0.out, ?_⟩, rfl⟩, by rw [hls]; exact lsNew_ok HG.out⟩, HB2.out.size, rfl, hb3⟩
    · rw [hls]; exact Bk.new w2 80 #[.int .i64 s.proto, .slice s.ca s.cores.length s.cc, .slice s.ha s.homes.length s.hc, .slice s.ta s.tasks.length s.tc, .slice none 0 0, .int .i64 0]
    · rw [hls]; exact OwnA.empty _ _
    · rw [hls]; exact ⟨rfl, rfl, rfl, rfl, rfl⟩
theorem waitS_len {s : Ls} (ho : LsOk s) : (waitS s).length ≤ 6 := by
  unfold waitS
  rw [List.length_map]
  exact Nat.le_trans (List.length_filter_le _ _) (by rw [List.length_range]; exact ho.n6)
theorem OwnInts.row23 {B : Nat} {w : World} {A : Option Addr} {n c : Nat} {zs : List Int} (h : OwnInts B w A n c zs) : Row w .i64 A zs := Lies.row (B := w.heap.size) (Lies.of_own h.1)
section
variable {w0 w1 w w' : World} {bl b : Nat} {S : SetR} {s : Ls} {F G : List Nat}
set_option maxHeartbeats 4000000 in
theorem alike23_any (L : LxI w0 w bl s F) (R : RlI w1 w b S s G) : Calls Tryz.prog 19 #[.pointer (some ⟨bl, 0, none⟩), .pointer (some ⟨b, 0, none⟩)] w fun e w' => e = .returned (.bool true) ∧ Below w.heap.size w w' := by
  have HL := hidp L
  have HR := hidp R
  have hb0 := hidp (Below.refl w.heap.size w)
  clear L R
  go_enter Tryz.func19, Tryz.ntmps19
  go_wp2
  go_loopg [5] 8 (fun g iv wr => ∃ (k : Nat) (i : Int), k + g = 8 ∧ iv = .int .i64 i ∧ Hid (i = (k : Int) - 1) ∧ Hid (Below w.heap.size w wr))
  case atStart => exact ⟨0, -1, by omega, rfl, hidp rfl, hb0⟩
  case round =>
    obtain ⟨k, i, hk, rfl, HI, HB⟩ := hrel
    have Hk := hidp hk
    have wi1 : IntKind.i64.wrap (i + 1) = i + 1 := IntWalk.i64_in _ (by have := HI.out; omega)
    have LL := HL.out.over HB.out
    have RR := HR.out.over HB.out
    clear hk
    by_cases hle : i ≤ 6
    · have C1 := li_holds LL i
      have C2 := ri_holds RR i
      have C3 := li_boost LL i
      have C4 := ri_boost RR i
      obtain ⟨H, hH⟩ : ∃ H, holdsS s i = H := ⟨_, rfl⟩
      obtain ⟨B, hB⟩ : ∃ B, boostS s i = B := ⟨_, rfl⟩
      rw [hH] at C1 C2
      rw [hB] at C3 C4
      have e1 : (H != H) = false := by simp
      have e2 : (B != B) = false := by simp
      clear hH hB LL RR
      go_wp2_with fail
      refine C1.mono ?_
      rintro e u ⟨rfl, rfl⟩
      go_wp2_with fail
      refine C2.mono ?_
      rintro e u ⟨rfl, rfl⟩
      go_wp2_with fail
      refine C3.mono ?_
      rintro e u ⟨rfl, rfl⟩
      go_wp2_with fail
      refine C4.mono ?_
      rintro e u ⟨rfl, hb4⟩
      have HB4 := hidp (HB.out.trans (hb4.mono HB.out.size))
      clear C1 C2 C3 C4 hb4
      go_wp2_with fail
      go_roundg (8 - k - 1)
      case measure => have := Hk.out; have := HI.out; omega
      case rel => exact ⟨k + 1, i + 1, by have := Hk.out; have := HI.out; omega, by go_num, hidp (by have := HI.out; omega), HB4⟩
    · clear LL RR wi1
      go_wp2
      go_loopg [6] 6 (fun g iv wr => ∃ (k : Nat) (i : Int), k + g = 6 ∧ iv = .int .i64 i ∧ Hid (i = (k : Int) - 1) ∧ Hid (Below w.heap.size w wr))
      case atStart => exact ⟨0, -1, by omega, rfl, hidp rfl, HB⟩
      case round =>
        clear HB HI Hk
        obtain ⟨k, i, hk, rfl, HI, HB⟩ := hrel
        have Hk := hidp hk
        have wi1 : IntKind.i64.wrap (i + 1) = i + 1 := IntWalk.i64_in _ (by have := HI.out; omega)
        have LL := HL.out.over HB.out
        have RR := HR.out.over HB.out
        clear hk
        by_cases hle4 : i ≤ 4
        · have C1 := li_holder LL i
          cases hho : holderS s i with
          | none =>
            have hv : holderV s i = .tuple #[.int .i64 0, .bool false] := by unfold holderV; rw [hho]
            rw [hv] at C1
            clear hho
            go_wp2_with fail
            refine C1.mono ?_
            rintro e u ⟨rfl, hb1⟩
            have C2 := ri_holder (RR.over hb1) i
            rw [hv] at C2
            have HB1 := hidp (HB.out.trans (hb1.mono HB.out.size))
            clear C1 hb1 LL RR hv
            go_wp2_with fail
            refine C2.mono ?_
            rintro e u ⟨rfl, rfl⟩
            clear C2
            go_wp2_with fail
            go_roundg (6 - k - 1)
            case measure => have := Hk.out; have := HI.out; omega
            case rel => exact ⟨k + 1, i + 1, by have := Hk.out; have := HI.out; omega, by go_num, hidp (by have := HI.out; omega), HB1⟩
          | some t =>
            have hv : holderV s i = .tuple #[.int .i64 t, .bool true] := by unfold holderV; rw [hho]
            rw [hv] at C1
            have e1 : (t != t) = false := by simp
            clear hho
            go_wp2_with fail
            refine C1.mono ?_
            rintro e u ⟨rfl, hb1⟩
            have C2 := ri_holder (RR.over hb1) i
            rw [hv] at C2
            have HB1 := hidp (HB.out.trans (hb1.mono HB.out.size))
            clear C1 hb1 LL RR hv
            go_wp2_with fail
            refine C2.mono ?_
            rintro e u ⟨rfl, rfl⟩
            clear C2
            go_wp2_with fail
            go_roundg (6 - k - 1)
            case measure => have := Hk.out; have := HI.out; omega
            case rel => exact ⟨k + 1, i + 1, by have := Hk.out; have := HI.out; omega, by go_num, hidp (by have := HI.out; omega), HB1⟩
        · have C1 := li_waiting LL
          go_wp2_with fail
          refine C1.mono ?_
          rintro e u ⟨A1, n1, c1, rfl, o1, hb1⟩
          have C2 := ri_waiting (RR.over hb1)
          have HB1 := hidp (HB.out.trans (hb1.mono HB.out.size))
          have O1 := hidp o1
          clear C1 LL RR hb1 o1
          go_wp2_with fail
          refine C2.mono ?_
          rintro e u2 ⟨A2, n2, c2, rfl, o2, hb2⟩
          have HB2 := hidp (HB1.out.trans (hb2.mono HB1.out.size))
          have C3 := same_yes (c := c1) (d := c2) ((O1.out.row23).mono (Keeps.of_below hb2)) o2.row23 O1.out.2.1 o2.2.1 (by have := waitS_len HR.out.ok; omega)
          clear C2 hb2 o2
          go_wp2_with fail
          refine C3.mono ?_
          rintro e u3 ⟨rfl, q3⟩
          go_wp2_with fail
          go_ret
          obtain ⟨n, rfl⟩ := q3
          exact ⟨rfl, below_drewN HB2.out n⟩
end
end Go.Proofs.YtppgameimddimaaGreat

namespace Go.Proofs.YtppgameimddimaaGreat
open Go.ChangeShapes Go.WideShapes Go.ChangeAt Go.RowKit Go.Conc
set_option linter.unusedVariables false
set_option linter.unusedSimpArgs false
/-- nothing of X's blocks reads otherwise -/
def Kept (X : List Nat) (w w' : World) : Prop := ∃ F, Turned F w w' ∧ ∀ k ∈ X, k ∉ F
theorem Kept.bk {X : List Nat} {w w' : World} (h : Kept X w w') {g : Nat} {T : TypeId} {cs : Array Value} (hb : Bk w g T cs) (hg : g ∈ X) : Bk w' g T cs := by
  obtain ⟨F, h1, h2⟩ := h
  exact hb.turned h1 (h2 g hg)
theorem Kept.ints {X : List Nat} {w w' : World} (h : Kept X w w') {B n c : Nat} {A : Option Addr} {zs : List Int} (ho : OwnInts B w A n c zs) (hg : ∀ k ∈ fp A, k ∈ X) : OwnInts B w' A n c zs := by
  obtain ⟨F, h1, h2⟩ := h
  exact ho.turned h1 fun k hk hm => h2 k (hg k hk) hm
/-- both sides' locks: the program's tell s, the reference's t; X: blocks apart from both -/
def Both (w0 w : World) (bl b : Nat) (S : SetR) (s t : Ls) (X : List Nat) : Prop := ∃ F G, LxI w0 w bl s F ∧ RlI w0 w b S t G ∧ (∀ k ∈ bl :: F, k ∉ b :: G) ∧ ∀ k ∈ X, k ∉ bl :: F ∧ k ∉ b :: G ∧ k < w.heap.size
section
variable {w0 w w' : World} {bl b : Nat} {S : SetR} {s t s' t' : Ls} {X Y : List Nat}
theorem Both.below (h : Both w0 w bl b S s t X) : Below w0.heap.size w0 w := by
  obtain ⟨F, G, _, hr, _⟩ := h
  exact hr.below
theorem Both.over (h : Both w0 w bl b S s t X) (hb : Below w.heap.size w w') : Both w0 w' bl b S s t X := by
  obtain ⟨F, G, hl, hr, hd, hx⟩ := h
  exact ⟨F, G, hl.over hb, hr.over hb, hd, fun k hk => ⟨(hx k hk).1, (hx k hk).2.1, Nat.lt_of_lt_of_le (hx k hk).2.2 hb.size⟩⟩
theorem Both.less (h : Both w0 w bl b S s t X) (hy : ∀ k ∈ Y, k ∈ X) : Both w0 w bl b S s t Y := by
  obtain ⟨F, G, hl, hr, hd, hx⟩ := h
  exact ⟨F, G, hl, hr, hd, fun k hk => hx k (hy k hk)⟩
/-- a block made anew is apart -/
theorem Both.more (h : Both w0 w bl b S s t X) (o : Obj) : Both w0 (w.alloc o) bl b S s t (w.heap.size :: X) := by
  have h2 := h.over ((Below.refl w.heap.size w).alloc (Nat.le_refl _) o)
  obtain ⟨F, G, hl, hr, hd, hx⟩ := h
  obtain ⟨F', G', hl', hr', hd', hx'⟩ := h2
  refine ⟨F, G, hl.over ((Below.refl w.heap.size w).alloc (Nat.le_refl _) o), hr.over ((Below.refl w.heap.size w).alloc (Nat.le_refl _) o), hd, fun k hk => ?_⟩
  rcases List.mem_cons.1 hk with rfl | hk
  · exact ⟨fun hm => by have := hl.lt _ hm; omega, fun hm => by have := (hr.base _ hm).2; omega, by simp⟩
  · exact ⟨(hx k hk).1, (hx k hk).2.1, by have := (hx k hk).2.2; simp; omega⟩
theorem both_x {F G F' : List Nat} (hl : LxI w0 w bl s F) (hr : RlI w0 w b S t G) (hd : ∀ k ∈ bl :: F, k ∉ b :: G) (hx : ∀ k ∈ X, k ∉ bl :: F ∧ k ∉ b :: G ∧ k < w.heap.size) (hl' : LxI w0 w' bl s' F') (st : Stp w bl F w' F') : Both w0 w' bl b S s' t X ∧ Kept X w w' := by
  have hb := hl.lt
  have hsz := st.turned.size
  refine ⟨⟨F', G, hl', hr.turned st.turned (fun k hk hm => hd k hm hk) (fun k hk => ?_), fun k hk hm => ?_, fun k hk => ⟨fun hm => ?_, (hx k hk).2.1, ?_⟩⟩, bl :: F, st.turned, fun k hk => (hx k hk).1⟩
  · rcases List.mem_cons.1 hk with rfl | hk
    · exact hl.base
    · exact hl.news k hk
  · rcases List.mem_cons.1 hk with rfl | hk
    · exact hd _ (by simp) hm
    · rcases st.fps k hk with h1 | h1
      · exact hd k (by simp [h1]) hm
      · have := (hr.base k hm).2; omega
  · rcases List.mem_cons.1 hm with rfl | hm
    · exact (hx _ hk).1 (by simp)
    · rcases st.fps k hm with h1 | h1
      · exact (hx k hk).1 (by simp [h1])
      · have := (hx k hk).2.2; omega
  · have := (hx k hk).2.2; omega
theorem both_r {F G G' : List Nat} (hl : LxI w0 w bl s F) (hr : RlI w0 w b S t G) (hd : ∀ k ∈ bl :: F, k ∉ b :: G) (hx : ∀ k ∈ X, k ∉ bl :: F ∧ k ∉ b :: G ∧ k < w.heap.size) (hr' : RlI w0 w' b S t' G') (st : Stp w b G w' G') : Both w0 w' bl b S s t' X ∧ Kept X w w' := by
  have hb := hl.lt
  have hsz := st.turned.size
  refine ⟨⟨F, G', hl.turned st.turned (fun k hk hm => hd k hk hm) (fun k hk => (hr.base k hk).1), hr', fun k hk hm => ?_, fun k hk => ⟨(hx k hk).1, fun hm => ?_, ?_⟩⟩, b :: G, st.turned, fun k hk => (hx k hk).2.1⟩
  · rcases List.mem_cons.1 hm with rfl | hm
    · exact hd k hk (by simp)
    · rcases st.fps k hm with h1 | h1
      · exact hd k hk (by simp [h1])
      · have := hb k hk; omega
  · rcases List.mem_cons.1 hm with rfl | hm
    · exact (hx _ hk).2.1 (by simp)
    · rcases st.fps k hm with h1 | h1
      · exact (hx k hk).2.1 (by simp [h1])
      · have := (hx k hk).2.2; omega
  · have := (hx k hk).2.2; omega
theorem both_askX (h : Both w0 w bl b S s t X) {y r : Int} (hr : I64 r) (hc : s.count < 800000) (hp : s.proto = 1 ∨ s.proto = 2 ∨ s.proto = 3 ∨ s.prio.length = 0) : Calls Tryz.prog 12 #[.pointer (some ⟨bl, 0, none⟩), .int .i64 y, .int .i64 r] w fun e w' => e = .returned (.int .i64 (askC s y r)) ∧ Both w0 w' bl b S (askS s y r) t X ∧ Kept X w w' := by
  obtain ⟨F, G, hl, hrr, hd, hx⟩ := h
  refine (li_ask hl hr hc hp).mono ?_
  rintro e w' ⟨rfl, F', l', st⟩
  exact ⟨rfl, both_x hl hrr hd hx l' st⟩
theorem both_askR (h : Both w0 w bl b S s t X) (y r : Int) (hc : t.count < 800000) : Calls Tryz.prog 13 #[.pointer (some ⟨b, 0, none⟩), .int .i64 y, .int .i64 r] w fun e w' => e = .returned (.int .i64 (askC t y r)) ∧ Both w0 w' bl b S s (askS t y r) X ∧ Kept X w w' := by
  obtain ⟨F, G, hl, hrr, hd, hx⟩ := h
  refine (ri_ask hrr y r hc).mono ?_
  rintro e w' ⟨rfl, F', l', st⟩
  exact ⟨rfl, both_r hl hrr hd hx l' st⟩
theorem both_leaveX (h : Both w0 w bl b S s t X) (y : Int) : Calls Tryz.prog 17 #[.pointer (some ⟨bl, 0, none⟩), .int .i64 y] w fun e w' => e = .returned (.int .i64 (leaveC s y)) ∧ Both w0 w' bl b S (leaveS s y) t X ∧ Kept X w w' := by
  obtain ⟨F, G, hl, hrr, hd, hx⟩ := h
  refine (li_leave hl y).mono ?_
  rintro e w' ⟨rfl, F', l', st⟩
  exact ⟨rfl, both_x hl hrr hd hx l' st⟩
theorem both_leaveR (h : Both w0 w bl b S s t X) (y : Int) : Calls Tryz.prog 18 #[.pointer (some ⟨b, 0, none⟩), .int .i64 y] w fun e w' => e = .returned (.int .i64 (leaveC t y)) ∧ Both w0 w' bl b S s (leaveS t y) X ∧ Kept X w w' := by
  obtain ⟨F, G, hl, hrr, hd, hx⟩ := h
  refine (ri_leave hrr y).mono ?_
  rintro e w' ⟨rfl, F', l', st⟩
  exact ⟨rfl, both_r hl hrr hd hx l' st⟩
theorem both_grantX (h : Both w0 w bl b S s t X) (hc : s.count < 800000) : Calls Tryz.prog 15 #[.pointer (some ⟨bl, 0, none⟩)] w fun e w' => ∃ A n c, e = .returned (.slice A n c) ∧ OwnInts w.heap.size w' A n c (grantL s) ∧ Both w0 w' bl b S (grantS s) t (fp A ++ X) ∧ Kept X w w' := by
  obtain ⟨F, G, hl, hrr, hd, hx⟩ := h
  refine (li_grant hl hc).mono ?_
  rintro e w' ⟨A, n, c, F', rfl, ho, l', st, hap⟩
  obtain ⟨h1, h2⟩ := both_x hl hrr hd hx l' st
  refine ⟨A, n, c, rfl, ho, ?_, h2⟩
  have h3 := both_x hl hrr hd hx l' st
  have hsz := st.turned.size
  refine ⟨F', G, l', hrr.turned st.turned (fun k hk hm => hd k hm hk) (fun k hk => ?_), fun k hk hm => ?_, fun k hk => ?_⟩
  · rcases List.mem_cons.1 hk with rfl | hk
    · exact hl.base
    · exact hl.news k hk
  · rcases List.mem_cons.1 hk with rfl | hk
    · exact hd _ (by simp) hm
    · rcases st.fps k hk with h1 | h1
      · exact hd k (by simp [h1]) hm
      · have := (hrr.base k hm).2; omega
  · rcases List.mem_append.1 hk with hk | hk
    · have hb := own_fp ho.1 k hk
      exact ⟨fun hm => hap k hm hk, fun hm => by have := (hrr.base k hm).2; omega, hb.2⟩
    · refine ⟨fun hm => ?_, (hx k hk).2.1, by have := (hx k hk).2.2; omega⟩
      rcases List.mem_cons.1 hm with rfl | hm
      · exact (hx _ hk).1 (by simp)
      · rcases st.fps k hm with h1 | h1
        · exact (hx k hk).1 (by simp [h1])
        · have := (hx k hk).2.2; omega
theorem both_grantR (h : Both w0 w bl b S s t X) (hc : t.count < 900000) : Calls Tryz.prog 16 #[.pointer (some ⟨b, 0, none⟩)] w fun e w' => ∃ A n c, e = .returned (.slice A n c) ∧ OwnInts w.heap.size w' A n c (grantL t) ∧ Both w0 w' bl b S s (grantS t) X ∧ Kept X w w' := by
  obtain ⟨F, G, hl, hrr, hd, hx⟩ := h
  refine (ri_grant hrr hc).mono ?_
  rintro e w' ⟨A, n, c, rfl, ho, G', l', st⟩
  exact ⟨A, n, c, rfl, ho, both_r hl hrr hd hx l' st⟩
theorem both_alike (h : Both w0 w bl b S s s X) : Calls Tryz.prog 19 #[.pointer (some ⟨bl, 0, none⟩), .pointer (some ⟨b, 0, none⟩)] w fun e w' => e = .returned (.bool true) ∧ Both w0 w' bl b S s s X ∧ Below w.heap.size w w' := by
  obtain ⟨F, G, hl, hr, hd, hx⟩ := id h
  refine (alike23_any hl hr).mono ?_
  rintro e w' ⟨rfl, hb⟩
  exact ⟨rfl, h.over hb, hb⟩
end
end Go.Proofs.YtppgameimddimaaGreat

namespace Go.Proofs.YtppgameimddimaaGreat
theorem try_len (xs : List AL) : ∀ (s : Ls) (l : List Int), (xs.foldl try1 (s, l)).2.length ≤ l.length + xs.length := by
  induction xs with
  | nil => exact fun s l => by simp
  | cons a xs ih =>
    intro s l
    rw [List.foldl_cons, show try1 (s, l) a = (if heldS s a.res = true then (s, l) else (holdS s a.task, l ++ [a.task])) from rfl]
    split
    · have := ih s l; simp at this ⊢; omega
    · have := ih (holdS s a.task) (l ++ [a.task]); simp at this ⊢; omega
theorem grantL_len {s : Ls} (ho : LsOk s) : (grantL s).length ≤ 6 := by
  unfold grantL
  rw [(List.mergeSort_perm _ _).length_eq]
  unfold grantP
  have h1 := try_len (candS (letS s)) (letS s) []
  have h2 : (candS (letS s)).length ≤ 6 := by
    unfold candS
    rw [(List.mergeSort_perm _ _).length_eq]
    unfold waitG
    refine Nat.le_trans (List.length_filter_le _ _) ?_
    have h3 := (letS_all ho).1
    exact Nat.le_trans (tasks_le h3) h3.n6
  simp at h1
  omega
def PrS (s : Ls) : Prop := s.proto = 1 ∨ s.proto = 2 ∨ s.proto = 3 ∨ s.prio.length = 0
theorem PrS.same {s t : Ls} (h : PrS s) (hs : SameLs s t) : PrS t := by
  unfold PrS at *
  rw [hs.proto, hs.prio]
  exact h
theorem PrS.of (s : SetR) : PrS (lsOf s) := by
  unfold lsOf
  cases hok : okS s with
  | false => exact .inr (.inr (.inr rfl))
  | true =>
    have := (Good.of hok).proto
    show s.proto = 1 ∨ s.proto = 2 ∨ s.proto = 3 ∨ _
    omega
end Go.Proofs.YtppgameimddimaaGreat
set_option maxHeartbeats 8000000
set_option maxRecDepth 100000
namespace Go.Proofs.YtppgameimddimaaGreat.lockPlays
open Go.ChangeShapes Go.WideShapes Go.ChangeAt Go.RowKit
open Go.ChangeMaps (open_string shut_string)
set_option linter.unusedVariables false

/-- THE WALK: the Go text returns true, and writes nothing that was there. -/
theorem walk (s0 : SetR) (a1 : Option Addr) (len1 cap1 : Nat) (z1 : List (Int × Int × Int)) (w : World) (w0 : SetOk w s0) (w1 : IsTrips w a1 len1 cap1 z1) :
    Calls Tryz.prog 3 #[.agg #[.int .i64 s0.proto, .slice s0.ca s0.cores.length s0.cc, .slice s0.ha s0.homes.length s0.hc, .slice s0.ta s0.tasks.length s0.tc], .slice a1 len1 cap1] w fun e w' => e = .returned (.bool true) ∧ Below w.heap.size w w' := by
  obtain ⟨hl, hcap, hc, hfit⟩ := w1
  subst hl
  obtain ⟨ps, hps⟩ : ∃ ps, z1 = ps := ⟨_, rfl⟩
  subst hps
  obtain ⟨S, hS⟩ : ∃ S, s0 = S := ⟨_, rfl⟩
  subst hS
  have HF := hidp hfit
  have HC := hidp hc
  have HSO := hidp w0
  have hb := (Below.refl w.heap.size w).alloc (Nat.le_refl _) (.cells #[.int .i64 s0.proto, .slice s0.ca s0.cores.length s0.cc, .slice s0.ha s0.homes.length s0.hc, .slice s0.ta s0.tasks.length s0.tc] 25)
  have HZ0 := hidp (Bk.new w 25 #[.int .i64 s0.proto, .slice s0.ca s0.cores.length s0.cc, .slice s0.ha s0.homes.length s0.hc, .slice s0.ta s0.tasks.length s0.tc])
  have HB0 := hidp hb
  clear w0 hfit hc hcap hb
  go_enter Tryz.func3, Tryz.ntmps3
  go_wp2_with fail
  refine (known23_any _).mono ?_
  rintro e u1 ⟨rfl, hb1⟩
  have HB1 := hidp (HB0.out.trans (hb1.mono HB0.out.size))
  have HZ1 := hidp (HZ0.out.turned (Turned.of_below hb1 []) (by simp))
  have SO1 := HSO.out.keep (Keeps.of_below HB1.out)
  have z0 : u1.cell? ⟨w.heap.size, 0, none⟩ = some (.int .i64 s0.proto) := HZ1.out.cell 0
  have z1' : u1.cell? ⟨w.heap.size, 1, none⟩ = some (.slice s0.ca s0.cores.length s0.cc) := HZ1.out.cell 1
  have z2 : u1.cell? ⟨w.heap.size, 2, none⟩ = some (.slice s0.ha s0.homes.length s0.hc) := HZ1.out.cell 2
  have z3 : u1.cell? ⟨w.heap.size, 3, none⟩ = some (.slice s0.ta s0.tasks.length s0.tc) := HZ1.out.cell 3
  have CF := few23_any s0 u1 SO1
  clear hb1 SO1
  go_wp2_with fail
  refine CF.mono ?_
  rintro e u2 ⟨⟨fb, rfl⟩, hb2⟩
  have HB2 := hidp (HB1.out.trans (hb2.mono HB1.out.size))
  have HZ2 := hidp (HZ1.out.turned (Turned.of_below hb2 []) (by simp))
  have SO2 := HSO.out.keep (Keeps.of_below HB2.out)
  clear hb2 CF z0 z1' z2 z3
  cases fb with
  | false =>
    go_wp2_with fail
    go_ret
    exact ⟨rfl, HB2.out⟩
  | true =>
    by_cases h80 : 80 < z1.length
    · have h80I : (80 : Int) < (z1.length : Int) := by omega
      go_wp2_with fail
      go_ret
      exact ⟨rfl, HB2.out⟩
    · have h80I : ¬ (80 : Int) < (z1.length : Int) := by omega
      have hs : u2.drew.cell? ⟨w.heap.size, 0, none⟩ = some (.int .i64 s0.proto) ∧ u2.drew.cell? ⟨w.heap.size, 1, none⟩ = some (.slice s0.ca s0.cores.length s0.cc) ∧ u2.drew.cell? ⟨w.heap.size, 2, none⟩ = some (.slice s0.ha s0.homes.length s0.hc) ∧ u2.drew.cell? ⟨w.heap.size, 3, none⟩ = some (.slice s0.ta s0.tasks.length s0.tc) := ⟨HZ2.out.cell 0, HZ2.out.cell 1, HZ2.out.cell 2, HZ2.out.cell 3⟩
      have HW1 : Hid (w.heap.size + 1 ≤ u2.drew.heap.size) := hidp HZ2.out.lt
      have SOd : SetOk u2.drew s0 := SO2.keep (Keeps.of_below (Below.refl _ _).drew)
      have HSOd := hidp SOd
      have CN := li_new u2.drew u2.drew s0 SOd (Below.refl _ _)
      have HZ3 := hidp (HZ2.out.turned ((Turned.refl [] u2).drew) (by simp))
      have HB3 : Hid (Below w.heap.size w u2.drew) := hidp HB2.out.drew
      clear SO2 SOd
      go_wp2_with fail
      go_region_held3 (fun w' => w'.cell? ⟨w.heap.size, 0, none⟩ = some (.int .i64 s0.proto) ∧ w'.cell? ⟨w.heap.size, 1, none⟩ = some (.slice s0.ca s0.cores.length s0.cc) ∧ w'.cell? ⟨w.heap.size, 2, none⟩ = some (.slice s0.ha s0.homes.length s0.hc) ∧ w'.cell? ⟨w.heap.size, 3, none⟩ = some (.slice s0.ta s0.tasks.length s0.tc)) (exact hs)
        (first
          | (go_at_call 10; refine CN.mono ?_; rintro e u4 ⟨bl, F, rfl, l4, hbl, hF, hb4⟩; have HL4 := hidp l4; have HF4 := hidp hF; have Hbl := hidp hbl; have hz4 := HZ3.out.turned (Turned.of_below hb4 []) (by simp); have HZ4 := hidp hz4; have hs : u4.cell? ⟨w.heap.size, 0, none⟩ = some (.int .i64 s0.proto) ∧ u4.cell? ⟨w.heap.size, 1, none⟩ = some (.slice s0.ca s0.cores.length s0.cc) ∧ u4.cell? ⟨w.heap.size, 2, none⟩ = some (.slice s0.ha s0.homes.length s0.hc) ∧ u4.cell? ⟨w.heap.size, 3, none⟩ = some (.slice s0.ta s0.tasks.length s0.tc) := ⟨hz4.cell 0, hz4.cell 1, hz4.cell 2, hz4.cell 3⟩; have CR := ri_new u2.drew u4 s0 HSOd.out hb4; clear CN l4 hF hbl hz4)
          | (go_at_call 11; refine CR.mono ?_; rintro e u5 ⟨b, S, G, rfl, r5, hbb, rfl, hb5⟩; have HR5 := hidp r5; have HL5 := hidp (HL4.out.over hb5); have Hbb := hidp hbb; have hz5 := HZ4.out.turned (Turned.of_below hb5 []) (by simp); have hs : u5.cell? ⟨w.heap.size, 0, none⟩ = some (.int .i64 s0.proto) ∧ u5.cell? ⟨w.heap.size, 1, none⟩ = some (.slice s0.ca s0.cores.length s0.cc) ∧ u5.cell? ⟨w.heap.size, 2, none⟩ = some (.slice s0.ha s0.homes.length s0.hc) ∧ u5.cell? ⟨w.heap.size, 3, none⟩ = some (.slice s0.ta s0.tasks.length s0.tc) := ⟨hz5.cell 0, hz5.cell 1, hz5.cell 2, hz5.cell 3⟩; clear CR r5 hbb hz5))
      have BO0 : Hid (Both u2.drew u5 bl b S (lsOf s0) (lsOf s0) []) := hidp ⟨F, [], HL5.out, HR5.out, fun k hk hm => by have h1 := HL4.out.lt k hk; have h2 := Hbb.out; simp at hm; omega, by simp⟩
      have HBx : Hid (Below w.heap.size w u5) := hidp (HB3.out.trans ((BO0.out.below).mono HB3.out.size))
      have HPr0 := hidp (PrS.of s0)
      have HCn0 : Hid ((lsOf s0).count ≤ 7 * ((0 : Nat) : Int)) := hidp (by unfold lsOf; split <;> exact Int.le_refl _)
      clear HL4 HL5 HR5 HF4 Hbl Hbb HZ4 hs HZ3 HZ2 HZ1 HZ0 HB1 HB0 HB2
      go_wp2
      go_loopg [7] z1.length (fun g iv wr => ∃ (i : Nat) (s : Ls), i + g = z1.length ∧ iv = .int .i64 i ∧ Hid (PrS s) ∧ Hid (s.count ≤ 7 * (i : Int)) ∧ Hid (Both u2.drew wr bl b S s s []) ∧ Hid (Below w.heap.size w wr))
      case atStart => exact ⟨0, lsOf s0, by omega, rfl, HPr0, HCn0, BO0, HBx⟩
      case round =>
        clear HPr0 HCn0 BO0 HBx
        obtain ⟨i, s, hi, rfl, HPr, HCn, BO, HB⟩ := hrel
        have Hi := hidp hi
        by_cases hlt : i < z1.length
        · obtain ⟨g, off, hA, hcl⟩ := HC.out.resolve_left (by intro e; rw [e] at hlt; simp at hlt)
          subst hA
          have hfk := HF.out (z1.getD i (0, 0, 0)) (by simp [List.getD, hlt])
          obtain ⟨x, Hx⟩ : ∃ x, Hid ((z1.getD i (0, 0, 0)).1 = x) := ⟨_, hidp rfl⟩
          obtain ⟨y, Hy⟩ : ∃ x, Hid ((z1.getD i (0, 0, 0)).2.1 = x) := ⟨_, hidp rfl⟩
          obtain ⟨v, Hv⟩ : ∃ x, Hid ((z1.getD i (0, 0, 0)).2.2 = x) := ⟨_, hidp rfl⟩
          have hc2 := hcl i hlt
          rw [Hx.out, Hy.out, Hv.out] at hc2 hfk
          obtain ⟨fx, fy, fv⟩ := hfk
          have cx := Keeps.of_below HB.out _ _ hc2.1
          have cy := Keeps.of_below HB.out _ _ hc2.2.1
          have cv := Keeps.of_below HB.out _ _ hc2.2.2
          have BOa := hidp (BO.out.more (.cells #[.int .i64 x, .int .i64 y, .int .i64 v] 34))
          have hal := (Below.refl wr.heap.size wr).alloc (Nat.le_refl _) (.cells #[.int .i64 x, .int .i64 y, .int .i64 v] 34)
          have HBa := hidp (HB.out.trans (hal.mono HB.out.size))
          have HBX := hidp (Bk.new wr 34 #[.int .i64 x, .int .i64 y, .int .i64 v])
          have bx0 : (wr.alloc (.cells #[.int .i64 x, .int .i64 y, .int .i64 v] 34)).cell? ⟨wr.heap.size, 0, none⟩ = some (.int .i64 x) := HBX.out.cell 0
          have bx1 : (wr.alloc (.cells #[.int .i64 x, .int .i64 y, .int .i64 v] 34)).cell? ⟨wr.heap.size, 1, none⟩ = some (.int .i64 y) := HBX.out.cell 1
          have bx2 : (wr.alloc (.cells #[.int .i64 x, .int .i64 y, .int .i64 v] 34)).cell? ⟨wr.heap.size, 2, none⟩ = some (.int .i64 v) := HBX.out.cell 2
          have d3 : decide (z1.length ≤ i) = false := decide_eq_false (by omega)
          have jI : (i : Int) < (z1.length : Int) := by omega
          have hi80 : i < 80 := by omega
          have HFv := hidp fv
          have OK : Hid (LsOk s) := hidp (by obtain ⟨F, G, _, hr, _⟩ := BO.out; exact hr.ok)
          have wi1 : IntKind.i64.wrap ((i : Int) + 1) = (i : Int) + 1 := IntWalk.i64_in _ (by omega)
          clear hcl hc2 fx fy fv hal hi
          by_cases h3 : x ≤ 3
          · have CX := both_askX (BOa.out.over (Below.refl _ _).drew) (y := y) (r := v) HFv.out (by have := HCn.out; omega) HPr.out
            have hs : (wr.alloc (.cells #[.int .i64 x, .int .i64 y, .int .i64 v] 34)).drew.cell? ⟨wr.heap.size, 1, none⟩ = some (.int .i64 y) ∧ (wr.alloc (.cells #[.int .i64 x, .int .i64 y, .int .i64 v] 34)).drew.cell? ⟨wr.heap.size, 2, none⟩ = some (.int .i64 v) := ⟨bx1, bx2⟩
            have HBX1 := hidp (HBX.out.turned ((Turned.refl [] _).drew) (by simp))
            have hcn8 : s.count < 800000 := by have := HCn.out; omega
            have HPr2 := hidp (HPr.out.same (same_ask s y v))
            have HC2 : Hid ((askS s y v).count ≤ 7 * ((i + 1 : Nat) : Int)) := hidp (by have := HCn.out; have := (ask_count s y v).1; omega)
            obtain ⟨ac, hac⟩ : ∃ ac, askC s y v = ac := ⟨_, rfl⟩
            have Hac := hidp hac
            rw [hac] at CX
            have e1 : (ac == ac) = true := by simp
            clear hac
            go_wp2_with fail
            go_region_held3 (fun w' => w'.cell? ⟨wr.heap.size, 1, none⟩ = some (.int .i64 y) ∧ w'.cell? ⟨wr.heap.size, 2, none⟩ = some (.int .i64 v)) (exact hs)
              (first
                | (go_at_call 12; refine CX.mono ?_; rintro e u6 ⟨rfl, bo6, kp6⟩; have BO6 := hidp bo6; have hx6 := kp6.bk HBX1.out (by simp); have HX6 := hidp hx6; have hs : u6.cell? ⟨wr.heap.size, 1, none⟩ = some (.int .i64 y) ∧ u6.cell? ⟨wr.heap.size, 2, none⟩ = some (.int .i64 v) := ⟨hx6.cell 1, hx6.cell 2⟩; have CR := both_askR BO6.out y v hcn8; rw [Hac.out] at CR; clear CX bo6 kp6 hx6)
                | (go_at_call 13; refine CR.mono ?_; rintro e u7 ⟨rfl, bo7, kp7⟩; have BO7 := hidp bo7; have hx7 := kp7.bk HX6.out (by simp); have hs : u7.cell? ⟨wr.heap.size, 1, none⟩ = some (.int .i64 y) ∧ u7.cell? ⟨wr.heap.size, 2, none⟩ = some (.int .i64 v) := ⟨hx7.cell 1, hx7.cell 2⟩; clear CR bo7 kp7 hx7))
            have CAL := both_alike (BO7.out.less (Y := []) (by simp))
            go_wp2_with fail
            refine CAL.mono ?_
            rintro e u8 ⟨rfl, bo8, hb8⟩
            have BO8 := hidp bo8
            have HB8 : Hid (Below w.heap.size w u8) := hidp (HB3.out.trans (bo8.below.mono HB3.out.size))
            clear CAL bo8 hb8
            go_wp2_with fail
            go_roundg (z1.length - i - 1)
            case measure => have := Hi.out; omega
            case rel => exact ⟨i + 1, askS s y v, by have := Hi.out; omega, by go_num, HPr2, HC2, BO8, HB8⟩
          · by_cases h6 : x ≤ 6
            · have CX := both_grantX BOa.out (by have := HCn.out; omega)
              have hcn8 : s.count < 900000 := by have := HCn.out; omega
              have HPr2 := hidp (HPr.out.same (same_grant s))
              have HC2 : Hid ((grantS s).count ≤ 7 * ((i + 1 : Nat) : Int)) := hidp (by have := HCn.out; have := (grant_count OK.out).1; omega)
              have HGL := hidp (grantL_len OK.out)
              go_wp2_with fail
              refine CX.mono ?_
              rintro e u6 ⟨A1, n1, c1, rfl, o1, bo6, kp6⟩
              have BO6 := hidp bo6
              have O1 := hidp o1
              have CR := both_grantR BO6.out hcn8
              clear CX o1 bo6 kp6 bx0 bx1 bx2
              go_wp2_with fail
              refine CR.mono ?_
              rintro e u7 ⟨A2, n2, c2, rfl, o2, bo7, kp7⟩
              have BO7 := hidp bo7
              have O12 := hidp (kp7.ints O1.out (fun k hk => by simp [hk]))
              have CS := same_yes (c := c1) (d := c2) O12.out.row23 o2.row23 O12.out.2.1 o2.2.1 (by have := HGL.out; omega)
              clear CR o2 bo7 kp7
              go_wp2_with fail
              refine CS.mono ?_
              rintro e u7' ⟨rfl, nd, rfl⟩
              have CAL := both_alike ((BO7.out.less (Y := []) (by simp)).over (below_drewN (Below.refl _ _) nd))
              clear CS
              go_wp2_with fail
              refine CAL.mono ?_
              rintro e u8 ⟨rfl, bo8, hb8⟩
              have BO8 := hidp bo8
              have HB8 : Hid (Below w.heap.size w u8) := hidp (HB3.out.trans (bo8.below.mono HB3.out.size))
              clear CAL bo8 hb8
              go_wp2_with fail
              go_roundg (z1.length - i - 1)
              case measure => have := Hi.out; omega
              case rel => exact ⟨i + 1, grantS s, by have := Hi.out; omega, by go_num, HPr2, HC2, BO8, HB8⟩
            · have CX := both_leaveX (BOa.out.over (Below.refl _ _).drew) y
              have hs : (wr.alloc (.cells #[.int .i64 x, .int .i64 y, .int .i64 v] 34)).drew.cell? ⟨wr.heap.size, 1, none⟩ = some (.int .i64 y) := bx1
              have HBX1 := hidp (HBX.out.turned ((Turned.refl [] _).drew) (by simp))
              have HPr2 := hidp (HPr.out.same (same_leave s y))
              have HC2 : Hid ((leaveS s y).count ≤ 7 * ((i + 1 : Nat) : Int)) := hidp (by have := HCn.out; show s.count ≤ _; omega)
              obtain ⟨ac, hac⟩ : ∃ ac, leaveC s y = ac := ⟨_, rfl⟩
              have Hac := hidp hac
              rw [hac] at CX
              have e1 : (ac == ac) = true := by simp
              clear hac
              go_wp2_with fail
              go_region_held3 (fun w' => w'.cell? ⟨wr.heap.size, 1, none⟩ = some (.int .i64 y)) (exact hs)
                (first
                  | (go_at_call 17; refine CX.mono ?_; rintro e u6 ⟨rfl, bo6, kp6⟩; have BO6 := hidp bo6; have hx6 := kp6.bk HBX1.out (by simp); have HX6 := hidp hx6; have hs : u6.cell? ⟨wr.heap.size, 1, none⟩ = some (.int .i64 y) := hx6.cell 1; have CR := both_leaveR BO6.out y; rw [Hac.out] at CR; clear CX bo6 kp6 hx6)
                  | (go_at_call 18; refine CR.mono ?_; rintro e u7 ⟨rfl, bo7, kp7⟩; have BO7 := hidp bo7; have hx7 := kp7.bk HX6.out (by simp); have hs : u7.cell? ⟨wr.heap.size, 1, none⟩ = some (.int .i64 y) := hx7.cell 1; clear CR bo7 kp7 hx7))
              have CAL := both_alike (BO7.out.less (Y := []) (by simp))
              go_wp2_with fail
              refine CAL.mono ?_
              rintro e u8 ⟨rfl, bo8, hb8⟩
              have BO8 := hidp bo8
              have HB8 : Hid (Below w.heap.size w u8) := hidp (HB3.out.trans (bo8.below.mono HB3.out.size))
              clear CAL bo8 hb8
              go_wp2_with fail
              go_roundg (z1.length - i - 1)
              case measure => have := Hi.out; omega
              case rel => exact ⟨i + 1, leaveS s y, by have := Hi.out; omega, by go_num, HPr2, HC2, BO8, HB8⟩
        · obtain rfl : i = z1.length := by omega
          go_wp2
          go_ret
          exact ⟨rfl, HB.out⟩

theorem own : ownKnob Tryz.prog.godebug = none := by kernel_rfl
theorem laidOut : laidOutB Tryz.prog = true := by kernel_rfl

/-! THE ROW's STEP -/
set_option maxRecDepth 100000 in
theorem lifted (os : Os) (started : os.Started) (H : Type) (enc : TypeId × Value → H) :
    ReturnsInHanded {} Tryz.checked os 3 .any (Rows.lockPlaysSpec.pre6 enc Tryz.prog Tryz.f3 Rows.lockPlaysRow.domain false) (Rows.lockPlaysSpec.post enc Tryz.prog Tryz.f3 false true false false) := by
  refine returnsInHanded_of_change (C := Tryz.checked) own started (by kernel_rfl) Tryz.func3
    (ChangeSpec.witness6 (enc := enc) (C := Tryz.checked) false ⟨#[], #[.agg #[.int .i64 0, .slice none 0 0, .slice none 0 0, .slice none 0 0], .slice none 0 0], []⟩ 8 (by kernel_rfl) (by kernel_rfl) (by kernel_rfl) (by kernel_rfl)) ?_
  intro W base args ds gs before hval0 hW hcnd _
  have hval : ∀ (j : Nat) t v, Tryz.f3.params[j]? = some t → args[j]? = some v → Value.okWide Tryz.prog W .any base t v := hval0
  have hW' := hW
  obtain ⟨p, q, hA0, hV, rfl, hfz, hnd⟩ := hW
  have hA : DataW.TrodAll enc Tryz.prog W 0 (fun _ => true) true Tryz.f3.params.toList args.toList ds p := hA0
  rw [Tryz.params3] at hA hval
  obtain ⟨v0, vs0, d0, ds0, p0, q0, hargs, rfl, rfl, h0, r0⟩ := trodAll_cons hA
  obtain ⟨v1, vs1, d1, ds1, p1, q1, rfl, rfl, rfl, h1, r1⟩ := trodAll_cons r0
  obtain ⟨rfl, rfl, rfl⟩ := trodAll_nil r1
  obtain rfl : args = #[v0, v1] := by cases args; simp_all
  obtain ⟨rfl, rfl⟩ := trodVars_none hV
  have k0 := h0
  have lt0 : ∀ x ∈ p0, x.block < W.heap.size := by obtain ⟨m, hm⟩ := k0; exact DataW.trod_lt m _ _ _ hm
  obtain ⟨s0, w0, rfl⟩ := setTypes.arg_set (hval 0 25 v0 rfl rfl) h0
  obtain ⟨a1, len1, cap1, rfl⟩ := okWide_slice Tryz.underlying26 (hval 1 26 v1 rfl rfl)
  have k1 := h1
  have lt1 : ∀ x ∈ p1, x.block < W.heap.size := by obtain ⟨m, hm⟩ := k1; exact DataW.trod_lt m _ _ _ hm
  obtain ⟨z1, w1⟩ : ∃ zs, IsTrips W a1 len1 cap1 zs := by
    obtain ⟨fuel, hf⟩ := h1
    obtain ⟨x1, x2, x3, zs, hcs, hz⟩ := open_trips Tryz.underlying26 Tryz.underlying34 (by kernel_rfl) (by kernel_rfl) Tryz.underlying3 Tryz.underlying3 Tryz.underlying3 hf
    simp [Value.cells] at hcs
    obtain ⟨rfl, rfl, rfl⟩ := hcs
    exact ⟨zs, hz⟩
  clear hA0 hval0
  refine (walk s0 a1 len1 cap1 z1 W w0 w1).mono fun e W' ⟨he, bel⟩ => ?_
  subst he
  exact ⟨_, rfl, _, _, _, [], _, [], hW', trodAll_mk1 (shut_bool Tryz.underlying4 _), (trodAll_cons_mk (Below.trod laidOut (by kernel_rfl) (of_decide_eq_true (by kernel_rfl)) k0 bel lt0) (trodAll_cons_mk (Below.trod laidOut (by kernel_rfl) (of_decide_eq_true (by kernel_rfl)) k1 bel lt1) trodAll_mk0)), rfl, bel.frame _, fun h => by cases h⟩

theorem over : Rows.lockPlaysRow.holds Tryz.pinned (OpenSpec.ofChange Rows.lockPlaysSpec) :=
  OpenClaim.holds_of_wide 3 Tryz.f3 rfl rfl rfl rfl rfl rfl rfl ⟨rfl, rfl, rfl, rfl, rfl⟩ rfl rfl rfl rfl rfl (by kernel_rfl) Tryz.func3 (by kernel_rfl)
    (of_decide_eq_true (by kernel_rfl)) (by unfold Func.isWrapper; first | (rw [if_pos (by decide +kernel)]; kernel_rfl) | (rw [if_neg (by decide +kernel)]; exact ⟨rfl, rfl⟩))
    (fun os started H enc _ => lifted os started H enc)

/-- THE STATEMENT -/
theorem proved : Rows.LockPlaysSaid := over
#print axioms proved
end Go.Proofs.YtppgameimddimaaGreat.lockPlays

