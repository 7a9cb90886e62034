/- LockOne: each resource has one holder at most, of an agents' cluster all together have; behind a grant nobody waits for what nobody holds, but outside a gate; who holds one isn't two. No condition. -/
import Derived.Test.YtlmdiechnidghaaGreatLkJM
import Derived.Test.YtlmdiechnidghaaGreatLkVM
import Derived.Test.YtlmdiechnidghaaGreatCrowd23M
import Derived.Test.YtlmdiechnidghaaGreatHold23M
import Derived.Test.YtlmdiechnidghaaGreatRows2
import Derived.Deep.Slices
import Derived.Deep.Fields
import Derived.ChangeArms
import Derived.ChangeSame
namespace Go.Proofs.YtlmdiechnidghaaGreat
open Go.ChangeShapes Go.WideShapes Go.ChangeAt Go.RowKit
set_option linter.unusedVariables false
def FewP23 (w : World) (e : Ending) (w' : World) : Prop := (∃ b : Bool, e = .returned (.bool b)) ∧ Below w.heap.size w w'
set_option maxRecDepth 100000 in
theorem few23_any (s : SetR) (w : World) (hs : SetOk w s) : Calls Tryz.prog 9 #[.agg #[.int .i64 s.proto, .slice s.ca s.cores.length s.cc, .slice s.ha s.homes.length s.hc, .slice s.ta s.tasks.length s.tc]] w (FewP23 w) := by
  have hb := (Below.refl w.heap.size w).alloc (Nat.le_refl _) (.cells #[.int .i64 s.proto, .slice s.ca s.cores.length s.cc, .slice s.ha s.homes.length s.hc, .slice s.ta s.tasks.length s.tc] 25)
  have CB := hidp (SetCells.new w s 25)
  have l1 : s.tasks.length ≤ maxLen := Nat.le_trans hs.tasks.sl.2.1 hs.tasks.sl.2.2
  have l2 : s.cores.length ≤ maxLen := Nat.le_trans hs.cores.sl.2.1 hs.cores.sl.2.2
  have l3 : s.homes.length ≤ maxLen := Nat.le_trans hs.homes.sl.2.1 hs.homes.sl.2.2
  unfold maxLen at l1 l2 l3
  have HR := hidp hs.tasks.at_
  have Hok := hidp hs.tasks.ok
  clear hs
  obtain ⟨proto, ca, cc, cores, ha, hc, homes, ta, tc, tasks⟩ := s
  dsimp only at HR Hok l1 l2 l3 hb ⊢
  have F : ∀ b : Bool, ∀ w', Below w.heap.size w w' → FewP23 w (.returned (.bool b)) w' := fun b w' h => ⟨⟨b, rfl⟩, h⟩
  have HF := hidp F
  clear F
  have hc0 : (8 : Int) < (cores.length : Int) ∨ ¬ (8 : Int) < (cores.length : Int) ∧ (10 : Int) < (homes.length : Int) ∨ ¬ (8 : Int) < (cores.length : Int) ∧ ¬ (10 : Int) < (homes.length : Int) ∧ (9 : Int) < (tasks.length : Int) ∨ ¬ (8 : Int) < (cores.length : Int) ∧ ¬ (10 : Int) < (homes.length : Int) ∧ ¬ (9 : Int) < (tasks.length : Int) := by omega
  rcases hc0 with h | ⟨h, g⟩ | ⟨h, g, f⟩ | ⟨h, g, f⟩
  · go_enter Tryz.func9, Tryz.ntmps9
    go_wp2
    go_ret
    exact HF.out _ _ hb
  · go_enter Tryz.func9, Tryz.ntmps9
    go_wp2
    go_ret
    exact HF.out _ _ hb
  · go_enter Tryz.func9, Tryz.ntmps9
    go_wp2
    go_ret
    exact HF.out _ _ hb
  · go_enter Tryz.func9, Tryz.ntmps9
    go_wp2
    go_loopg [3] tasks.length (fun gg i wr => ∃ k : Nat, k + gg = tasks.length ∧ i = .int .i64 k ∧ SetCells wr w.heap.size ⟨proto, ca, cc, cores, ha, hc, homes, ta, tc, tasks⟩ ∧ Below w.heap.size w wr)
    case atStart => exact ⟨0, by omega, rfl, CB.out, hb⟩
    case round =>
      obtain ⟨k, hk, rfl, sc, hw⟩ := hrel
      have sc2 := sc
      obtain ⟨c0, c1, c2, c3⟩ := sc2
      dsimp only at c0 c1 c2 c3
      by_cases hlt : k < tasks.length
      · obtain ⟨g0, off, hA, hcl⟩ := HR.out.resolve_left (by intro e; rw [e] at hlt; simp at hlt)
        subst hA
        obtain ⟨t, HT⟩ : ∃ t, Hid (tasks.getD k default = t) := ⟨_, rfl⟩
        have tcl := (HT.out ▸ hcl k hlt).keep (Keeps.of_below hw)
        obtain ⟨d0, _, _, _, _, d5⟩ := tcl
        have hok := Hok.out t (HT.out ▸ getD_mem hlt)
        have n1 := hok.name
        have n2 : t.parts.length ≤ maxLen := Nat.le_trans hok.sl.2.1 hok.sl.2.2
        unfold maxLen at n1 n2
        clear hcl hok
        by_cases z1 : (20 : Int) < (t.name.size : Int)
        · go_wp2
          go_ret
          exact HF.out _ _ hw
        · by_cases z2 : (10 : Int) < (t.parts.length : Int)
          · go_wp2
            go_ret
            exact HF.out _ _ hw
          · go_wp2
            go_roundg (gk - 1)
            case measure => omega
            case rel => exact ⟨k + 1, by omega, by go_num, sc, hw⟩
      · go_wp2
        go_ret
        exact HF.out _ _ hw

end Go.Proofs.YtlmdiechnidghaaGreat

namespace Go.Proofs.YtlmdiechnidghaaGreat.Trips
open Go.ChangeShapes Go.WideShapes Go.ChangeAt Go.RowKit Go.Deep
set_option linter.unusedVariables false
/-- a slice that came in reads as these -/
structure _root_.Go.Proofs.YtlmdiechnidghaaGreat.IsTrips (w : World) (a : Option Addr) (len cap : Nat) (ps : List (Int × Int × Int)) : Prop where
  hlen : len = ps.length
  hcap : (a = none → len = 0 ∧ cap = 0) ∧ len ≤ cap ∧ cap ≤ maxLen
  hrow : ps = [] ∨ ∃ b off, a = some ⟨b, off, none⟩ ∧ ∀ i, i < ps.length → w.cell? ⟨b, off + i * 3, none⟩ = some (.int .i64 (ps.getD i (0, 0, 0)).1) ∧ w.cell? ⟨b, off + i * 3 + 1, none⟩ = some (.int .i64 (ps.getD i (0, 0, 0)).2.1) ∧ w.cell? ⟨b, off + i * 3 + 2, none⟩ = some (.int .i64 (ps.getD i (0, 0, 0)).2.2)
  hfit : ∀ p ∈ ps, I64 p.1 ∧ I64 p.2.1 ∧ I64 p.2.2
variable {H : Type} {enc : TypeId × Value → H} {P : Program} {w : World}
/-- one field of a struct of one-cell fields -/
theorem field_of {fs : Array Field} {t : TypeId} {fuel : Nat} {cs : List Value} {x : DataW H × List MemPlace} (ht : P.underlying t = some (.struct fs)) (hone : oneCellFields P fs = true) (hC : P.cellsOf t = fs.size)
    (h : DataW.trod enc P w 0 (fun _ => true) true fuel t cs = some x) : cs.length = fs.size ∧ ∀ (j : Nat) (f : Field), fs[j]? = some f → ∃ v y n, cs[j]? = some v ∧ DataW.trod enc P w 0 (fun _ => true) true n f.type [v] = some y := by
  obtain ⟨xs, n, _, _, hl, hx, hf⟩ := DataW.trod_struct ht h
  rw [hC] at hl
  refine ⟨hl, fun j f hj => ?_⟩
  obtain ⟨ho, hk⟩ := hone_of hone j f hj
  have hjl : j < fs.size := (Array.getElem?_eq_some_iff.1 hj).1
  have h1 := hf j f hj
  rw [ho, hk, take1_drop cs j (.bool false) (by omega), List.getElem?_eq_getElem (by omega)] at h1
  exact ⟨_, _, n, by simp [List.getD, List.getElem?_eq_getElem (show j < cs.length by omega)], h1⟩
theorem int_field {k : IntKind} {t : TypeId} {n : Nat} {v : Value} {y : DataW H × List MemPlace} (u : P.underlying t = some (.int k)) (h : DataW.trod enc P w 0 (fun _ => true) true n t [v] = some y) : ∃ z, v = .int k z ∧ (Lit.int k z).wf = true := by
  obtain ⟨z, e, _, hz⟩ := DataW.trod_int u h
  exact ⟨z, by injection e, hz⟩
/-- a slice of structs, every element by its cells -/
theorem slice_of {t e : TypeId} {k fuel : Nat} {cs : List Value} {x : DataW H × List MemPlace} (ht : P.underlying t = some (.slice e)) (hC : P.cellsOf e = k) (hk : 0 < k) (h : DataW.trod enc P w 0 (fun _ => true) true fuel t cs = some x) :
    ∃ a len cap, cs = [.slice a len cap] ∧ ((a = none → len = 0 ∧ cap = 0) ∧ len ≤ cap ∧ cap ≤ maxLen) ∧ (len = 0 ∨ ∃ b off, a = some ⟨b, off, none⟩ ∧ ∀ i, i < len → ∃ cs' x' n, cs'.length = k ∧ (∀ j, j < k → w.cell? ⟨b, off + i * k + j, none⟩ = cs'[j]?) ∧ DataW.trod enc P w 0 (fun _ => true) true n e cs' = some x') := by
  rcases open_slice ht h with ⟨rfl, _⟩ | ⟨a, len, cap, m, n, D, Pl, rfl, _, hl, hm, hmm, _, hi⟩
  · exact ⟨none, 0, 0, rfl, ⟨fun _ => ⟨rfl, rfl⟩, Nat.le_refl _, Nat.zero_le _⟩, .inl rfl⟩
  · refine ⟨some a, len, cap, rfl, ⟨(fun e => by cases e), hl, hm⟩, ?_⟩
    have hlm : len ≤ m := by rw [hmm]; simpa using hl
    by_cases h0 : len = 0
    · exact .inl h0
    · right
      obtain ⟨b, off, spot⟩ := a
      obtain ⟨c0, hc0, _⟩ := hi 0 (by omega)
      obtain ⟨_, l0, g0⟩ := World.cells?_some hc0
      rw [hC] at l0 g0
      have hs : spot = none := by
        have := g0 0 hk
        rw [List.getElem?_eq_getElem (by omega)] at this
        simpa [Addr.add] using World.cell?_spot this
      subst hs
      refine ⟨b, off, rfl, fun i hlt => ?_⟩
      obtain ⟨c1, hc1, t1⟩ := hi i (by omega)
      obtain ⟨_, l1, g1⟩ := World.cells?_some hc1
      rw [hC] at l1 g1
      refine ⟨c1, _, n, l1, fun j hj => ?_, t1⟩
      have := g1 j hj
      simpa [Addr.add_lit, Nat.add_assoc] using this
theorem _root_.Go.Proofs.YtlmdiechnidghaaGreat.open_trips {t e : TypeId} {f0 f1 f2 : Field} {fuel : Nat} {cs : List Value} {x : DataW H × List MemPlace} (ht : P.underlying t = some (.slice e)) (he : P.underlying e = some (.struct #[f0, f1, f2])) (hone : oneCellFields P #[f0, f1, f2] = true) (hC : P.cellsOf e = 3)
    (u0 : P.underlying f0.type = some (.int .i64)) (u1 : P.underlying f1.type = some (.int .i64)) (u2 : P.underlying f2.type = some (.int .i64))
    (h : DataW.trod enc P w 0 (fun _ => true) true fuel t cs = some x) : ∃ a len cap ps, cs = [.slice a len cap] ∧ IsTrips w a len cap ps := by
  obtain ⟨a, len, cap, rfl, hs, hi⟩ := slice_of ht hC (by omega) h
  rcases hi with rfl | ⟨b, off, rfl, hi⟩
  · exact ⟨a, 0, cap, [], rfl, rfl, hs, .inl rfl, by simp⟩
  · have hp : ∀ i, i < len → ∃ p : Int × Int × Int, (I64 p.1 ∧ I64 p.2.1 ∧ I64 p.2.2) ∧ w.cell? ⟨b, off + i * 3, none⟩ = some (.int .i64 p.1) ∧ w.cell? ⟨b, off + i * 3 + 1, none⟩ = some (.int .i64 p.2.1) ∧ w.cell? ⟨b, off + i * 3 + 2, none⟩ = some (.int .i64 p.2.2) := fun i hlt => by
      obtain ⟨cs', x', n, hl, hc, ht⟩ := hi i hlt
      obtain ⟨hl2, hf⟩ := field_of he hone hC ht
      obtain ⟨v0, _, _, e0, t0⟩ := hf 0 f0 rfl
      obtain ⟨v1, _, _, e1, t1⟩ := hf 1 f1 rfl
      obtain ⟨v2, _, _, e2, t2⟩ := hf 2 f2 rfl
      obtain ⟨z0, rfl, g0⟩ := int_field u0 t0
      obtain ⟨z1, rfl, g1⟩ := int_field u1 t1
      obtain ⟨z2, rfl, g2⟩ := int_field u2 t2
      exact ⟨(z0, z1, z2), ⟨i64_of g0, i64_of g1, i64_of g2⟩, by rw [← e0, ← hc 0 (by omega)]; rfl, by rw [← e1, ← hc 1 (by omega)], by rw [← e2, ← hc 2 (by omega)]⟩
    obtain ⟨f, hf⟩ := choose_lt hp
    have hl : ((List.range len).map f).length = len := by simp
    refine ⟨_, len, cap, (List.range len).map f, rfl, hl.symm, hs, .inr ⟨b, off, rfl, fun i hlt => ?_⟩, fun p hp => ?_⟩
    · rw [hl] at hlt
      have := (hf i hlt).2
      simpa [List.getD, hlt] using this
    · obtain ⟨i, hlt, rfl⟩ := List.mem_map.1 hp
      exact (hf i (by simpa using hlt)).1
/-- a struct of three ints -/
theorem _root_.Go.Proofs.YtlmdiechnidghaaGreat.open_trip {t : TypeId} {f0 f1 f2 : Field} {fuel : Nat} {cs : List Value} {x : DataW H × List MemPlace} (ht : P.underlying t = some (.struct #[f0, f1, f2])) (hone : oneCellFields P #[f0, f1, f2] = true) (hC : P.cellsOf t = 3)
    (u0 : P.underlying f0.type = some (.int .i64)) (u1 : P.underlying f1.type = some (.int .i64)) (u2 : P.underlying f2.type = some (.int .i64))
    (h : DataW.trod enc P w 0 (fun _ => true) true fuel t cs = some x) : ∃ a b c, cs = [.int .i64 a, .int .i64 b, .int .i64 c] ∧ I64 a ∧ I64 b ∧ I64 c := by
  obtain ⟨hl2, hf⟩ := field_of ht hone hC h
  obtain ⟨v0, _, _, e0, t0⟩ := hf 0 f0 rfl
  obtain ⟨v1, _, _, e1, t1⟩ := hf 1 f1 rfl
  obtain ⟨v2, _, _, e2, t2⟩ := hf 2 f2 rfl
  obtain ⟨z0, rfl, g0⟩ := int_field u0 t0
  obtain ⟨z1, rfl, g1⟩ := int_field u1 t1
  obtain ⟨z2, rfl, g2⟩ := int_field u2 t2
  refine ⟨z0, z1, z2, ?_, i64_of g0, i64_of g1, i64_of g2⟩
  match cs, hl2, e0, e1, e2 with
  | [a, b, c], _, e0, e1, e2 => simp at e0 e1 e2; rw [e0, e1, e2]
end Go.Proofs.YtlmdiechnidghaaGreat.Trips

namespace Go.Proofs.YtlmdiechnidghaaGreat
open Go.ChangeShapes Go.WideShapes Go.ChangeAt Go.RowKit
set_option linter.unusedVariables false

set_option maxHeartbeats 1000000 in
theorem rname_any (s : ByteArray) (w : World) (hs : s.size ≤ maxLen) : Calls Tryz.prog 101 #[.string s] w fun e w' => e = .returned (.bool (nameB s)) ∧ w = w' := by
  unfold maxLen at hs
  go_enter Tryz.func101, Tryz.ntmps101
  go_wp2
  go_loopg [3] s.size (fun g i wr => ∃ k : Nat, k + g = s.size ∧ i = .int .i64 k ∧ Hid (∀ j, j < k → okB j (byteAt s j) = true) ∧ w = wr)
  case atStart => exact ⟨0, by omega, rfl, hidp (by omega), rfl⟩
  case round =>
    obtain ⟨k, hk, rfl, Ho, rfl⟩ := hrel
    by_cases hlt : k < s.size
    · obtain ⟨c, hc⟩ : ∃ c : Int, (s[k].toNat : Int) = c := ⟨_, rfl⟩
      have Hc : Hid (byteAt s k = c) := hidp (by rw [byteAt_is s k hlt, hc])
      have Hn : Hid (okB k c = true → ∀ j, j < k + 1 → okB j (byteAt s j) = true) := hidp (fun h j hj => by
        by_cases e : j = k
        · subst e; rw [Hc.out]; exact h
        · exact Ho.out j (by omega))
      have Hx : Hid (okB k c = false → nameB s = false) := hidp (fun h => nameB_not hlt (by rw [Hc.out]; exact h))
      have bd := byte_bd s k
      rw [Hc.out] at bd
      obtain ⟨b0, b1⟩ := bd
      have hcase : (97 ≤ c ∧ c ≤ 122) ∨ (c < 97 ∧ c < 48) ∨ (c < 97 ∧ 57 < c) ∨ (122 < c ∧ 97 ≤ c ∧ 57 < c) ∨ (c < 97 ∧ 48 ≤ c ∧ c ≤ 57 ∧ k = 0) ∨ (c < 97 ∧ 48 ≤ c ∧ c ≤ 57 ∧ 0 < k) := by omega
      rcases hcase with ⟨g1, g2⟩ | ⟨g1, g2⟩ | ⟨g1, g2⟩ | ⟨g1, g2, g3⟩ | ⟨g1, g2, g3, g4⟩ | ⟨g1, g2, g3, g4⟩
      · have Hy : Hid (okB k c = true) := hidp (by simp [okB, g1, g2])
        go_wp2
        go_roundg (gk - 1)
        case measure => omega
        case rel => exact ⟨k + 1, by omega, by go_num, hidp (Hn.out Hy.out), rfl⟩
      · have Hy : Hid (okB k c = false) := hidp (by simp [okB]; omega)
        go_wp2
        go_ret
        exact ⟨ret_bool (Hx.out Hy.out).symm, rfl⟩
      · have Hy : Hid (okB k c = false) := hidp (by simp [okB]; omega)
        go_wp2
        go_ret
        exact ⟨ret_bool (Hx.out Hy.out).symm, rfl⟩
      · have Hy : Hid (okB k c = false) := hidp (by simp [okB]; omega)
        go_wp2
        go_ret
        exact ⟨ret_bool (Hx.out Hy.out).symm, rfl⟩
      · subst g4
        have Hy : Hid (okB 0 c = false) := hidp (by simp [okB]; omega)
        go_wp2
        go_ret
        exact ⟨ret_bool (Hx.out Hy.out).symm, rfl⟩
      · have Hy : Hid (okB k c = true) := hidp (by simp [okB, g2, g3, g4])
        have kb : ((k : Int) == 0) = false := by simp; omega
        go_wp2
        go_roundg (gk - 1)
        case measure => omega
        case rel => exact ⟨k + 1, by omega, by go_num, hidp (Hn.out Hy.out), rfl⟩
    · by_cases h1 : 1 ≤ s.size
      · by_cases h8 : s.size ≤ 8
        · have H := hidp (nameB_all (s := s) (by omega) (fun j hj => Ho.out j (by omega)))
          go_wp2
          go_ret
          exact ⟨ret_bool (by rw [H.out]; simp; try omega), rfl⟩
        · have H := hidp (nameB_long (s := s) (by omega))
          have h9 : decide (s.size ≤ 8) = false := by simpa using h8
          go_wp2
          go_ret
          exact ⟨ret_bool (by rw [H.out]; simp; try omega), rfl⟩
      · have H := hidp (nameB_long (s := s) (by omega))
        have h9 : decide (1 ≤ s.size) = false := by simpa using h1
        go_wp2
        go_ret
        exact ⟨ret_bool H.out.symm, rfl⟩

/-- a set's box, read by the reference -/
theorem rpart_any (s : SetR) (p : PartM) (w : World) (l : s.homes.length ≤ maxLen) : Calls Tryz.prog 102 #[.agg #[.int .i64 s.proto, .slice s.ca s.cores.length s.cc, .slice s.ha s.homes.length s.hc, .slice s.ta s.tasks.length s.tc], .agg #[.int .i64 p.kind, .int .i64 p.len, .int .i64 p.res]] w fun e w' => e = .returned (.bool (partB p s.homes.length)) ∧ Below w.heap.size w w' := by
  unfold maxLen at l
  obtain ⟨kd, ln, rs⟩ := p
  have sc := ((SetCells.new w s 25).keep (Keeps.alloc _ (.cells #[.int .i64 kd, .int .i64 ln, .int .i64 rs] 94)))
  obtain ⟨c0, c1, c2, c3⟩ := sc
  have hb := ((Below.refl w.heap.size w).alloc (Nat.le_refl _) (.cells #[.int .i64 s.proto, .slice s.ca s.cores.length s.cc, .slice s.ha s.homes.length s.hc, .slice s.ta s.tasks.length s.tc] 25)).alloc (by simp) (.cells #[.int .i64 kd, .int .i64 ln, .int .i64 rs] 94)
  have hcase : (kd < 1) ∨ (1 ≤ kd ∧ 3 < kd) ∨ (1 ≤ kd ∧ kd ≤ 3 ∧ ln < 1) ∨ (1 ≤ kd ∧ kd ≤ 3 ∧ 1 ≤ ln ∧ 60 < ln) ∨ (1 ≤ kd ∧ kd ≤ 3 ∧ 1 ≤ ln ∧ ln ≤ 60) := by omega
  rcases hcase with g | ⟨g, g1⟩ | ⟨g, g1, g2⟩ | ⟨g, g1, g2, g3⟩ | ⟨g, g1, g2, g3⟩
  · have H : Hid (partB ⟨kd, ln, rs⟩ s.homes.length = false) := hidp (by unfold partB; dsimp only; rw [if_neg (by omega), if_neg (by omega)])
    go_enter Tryz.func102, Tryz.ntmps102
    go_wp2
    go_ret
    exact ⟨ret_bool H.out.symm, hb⟩
  · have H : Hid (partB ⟨kd, ln, rs⟩ s.homes.length = false) := hidp (by unfold partB; dsimp only; rw [if_neg (by omega), if_neg (by omega)])
    go_enter Tryz.func102, Tryz.ntmps102
    go_wp2
    go_ret
    exact ⟨ret_bool H.out.symm, hb⟩
  · have H : Hid (partB ⟨kd, ln, rs⟩ s.homes.length = false) := hidp (by
      have e : inB ln 1 60 = false := inB_false.2 (by omega)
      unfold partB; dsimp only; rw [e]; split; rfl; split <;> rfl)
    go_enter Tryz.func102, Tryz.ntmps102
    go_wp2
    go_ret
    exact ⟨ret_bool H.out.symm, hb⟩
  · have H : Hid (partB ⟨kd, ln, rs⟩ s.homes.length = false) := hidp (by
      have e : inB ln 1 60 = false := inB_false.2 (by omega)
      unfold partB; dsimp only; rw [e]; split; rfl; split <;> rfl)
    go_enter Tryz.func102, Tryz.ntmps102
    go_wp2
    go_ret
    exact ⟨ret_bool H.out.symm, hb⟩
  · have e : inB ln 1 60 = true := inB_true.2 ⟨g2, g3⟩
    by_cases k3 : kd = 3
    · subst k3
      have hc2 : (rs < 0) ∨ (0 ≤ rs ∧ (s.homes.length : Int) ≤ rs) ∨ (0 ≤ rs ∧ rs < (s.homes.length : Int)) := by omega
      rcases hc2 with h | ⟨h, h2⟩ | ⟨h, h2⟩
      · have H : Hid (partB ⟨3, ln, rs⟩ s.homes.length = false) := hidp (by
          have e2 : inB rs 0 ((s.homes.length : Int) - 1) = false := inB_false.2 (by omega)
          unfold partB; simp [e, e2])
        go_enter Tryz.func102, Tryz.ntmps102
        go_wp2
        go_ret
        exact ⟨ret_bool H.out.symm, hb⟩
      · have H : Hid (partB ⟨3, ln, rs⟩ s.homes.length = false) := hidp (by
          have e2 : inB rs 0 ((s.homes.length : Int) - 1) = false := inB_false.2 (by omega)
          unfold partB; simp [e, e2])
        go_enter Tryz.func102, Tryz.ntmps102
        go_wp2
        go_ret
        exact ⟨ret_bool (by rw [H.out]; simp; try omega), hb⟩
      · have H : Hid (partB ⟨3, ln, rs⟩ s.homes.length = true) := hidp (by
          have e2 : inB rs 0 ((s.homes.length : Int) - 1) = true := inB_true.2 (by omega)
          unfold partB; simp [e, e2])
        go_enter Tryz.func102, Tryz.ntmps102
        go_wp2
        go_ret
        exact ⟨ret_bool H.out.symm, hb⟩
    · have k4 : (kd == 3) = false := by simpa using k3
      have k5 : (kd != 3) = true := by simpa using k3
      have k6 : kd = 1 ∨ kd = 2 := by omega
      have H : Hid (partB ⟨kd, ln, rs⟩ s.homes.length = (rs == 0)) := hidp (by
        unfold partB; dsimp only; rw [if_neg k3, if_pos k6, e, Bool.true_and]
        by_cases z : rs = 0
        · subst z; decide
        · have : inB rs 0 0 = false := inB_false.2 (by omega)
          rw [this]; symm; simpa using z)
      clear k3 k6
      go_enter Tryz.func102, Tryz.ntmps102
      go_wp2
      go_ret
      exact ⟨ret_bool H.out.symm, hb⟩
end Go.Proofs.YtlmdiechnidghaaGreat

namespace Go.Proofs.YtlmdiechnidghaaGreat
open Go.ChangeShapes Go.WideShapes Go.ChangeAt Go.RowKit
set_option linter.unusedVariables false

def placesB (s : SetR) : Bool := inB s.cores.length 1 3 && (decide (s.homes.length ≤ 4) && (allB s.cores 1 3 && allB s.homes 0 ((s.cores.length : Int) - 1)))
theorem allB_not {zs : List Int} {lo hi : Int} {k : Nat} {n : Int} (hk : k < zs.length) (hn : zs.getD k 0 = n) (h : inB n lo hi = false) : allB zs lo hi = false := by
  unfold allB
  rw [List.all_eq_false]
  refine ⟨n, ?_, by simp [h]⟩
  rw [← hn]; simp [List.getD, hk]
theorem allB_all {zs : List Int} {lo hi : Int} (h : ∀ j, j < zs.length → inB (zs.getD j 0) lo hi = true) : allB zs lo hi = true := by
  unfold allB
  rw [List.all_eq_true]
  intro x hx
  obtain ⟨j, hj, rfl⟩ := List.mem_iff_getElem.1 hx
  have := h j hj
  simpa [List.getD, hj] using this
theorem inB_next {zs : List Int} {lo hi : Int} {k : Nat} {n : Int} (hn : zs.getD k 0 = n) (h : inB n lo hi = true) (g : ∀ j, j < k → inB (zs.getD j 0) lo hi = true) : ∀ j, j < k + 1 → inB (zs.getD j 0) lo hi = true := fun j hj => by
  by_cases e : j = k
  · subst e; rw [hn]; exact h
  · exact g j (by omega)

set_option maxHeartbeats 2000000 in
theorem places_any (s : SetR) (w : World) (hs : SetOk w s) : Calls Tryz.prog 72 #[.agg #[.int .i64 s.proto, .slice s.ca s.cores.length s.cc, .slice s.ha s.homes.length s.hc, .slice s.ta s.tasks.length s.tc]] w fun e w' => e = .returned (.bool (placesB s)) ∧ Below w.heap.size w w' := by
  have l1 : s.cores.length ≤ maxLen := Nat.le_trans hs.cores.sl.2.1 hs.cores.sl.2.2
  have l2 : s.homes.length ≤ maxLen := Nat.le_trans hs.homes.sl.2.1 hs.homes.sl.2.2
  unfold maxLen at l1 l2
  have SC := SetCells.new w s 25
  have hb := ((Below.refl w.heap.size w).alloc (Nat.le_refl _) (.cells #[.int .i64 s.proto, .slice s.ca s.cores.length s.cc, .slice s.ha s.homes.length s.hc, .slice s.ta s.tasks.length s.tc] 25))
  have RC := hidp hs.cores.at_
  have RH := hidp hs.homes.at_
  clear hs
  obtain ⟨proto, ca, cc, cores, ha, hc, homes, ta, tc, tasks⟩ := s
  dsimp only at RC RH l1 l2 hb ⊢
  have PB : ∀ b : Bool, (inB cores.length 1 3 && (decide (homes.length ≤ 4) && (allB cores 1 3 && allB homes 0 ((cores.length : Int) - 1)))) = b → placesB ⟨proto, ca, cc, cores, ha, hc, homes, ta, tc, tasks⟩ = b := fun b h => h
  have HB := hidp PB
  clear PB
  have hcase : ((cores.length : Int) < 1) ∨ (1 ≤ (cores.length : Int) ∧ 3 < (cores.length : Int)) ∨ (1 ≤ (cores.length : Int) ∧ (cores.length : Int) ≤ 3 ∧ 4 < (homes.length : Int)) ∨ (1 ≤ (cores.length : Int) ∧ (cores.length : Int) ≤ 3 ∧ (homes.length : Int) ≤ 4) := by omega
  rcases hcase with g | ⟨g, g1⟩ | ⟨g, g1, g2⟩ | ⟨g, g1, g2⟩
  · have H := hidp (HB.out false (by rw [show inB cores.length 1 3 = false from inB_false.2 (by omega)]; rfl))
    obtain ⟨c0, c1, c2, c3⟩ := SC
    go_enter Tryz.func72, Tryz.ntmps72
    go_wp2
    go_ret
    exact ⟨ret_bool H.out.symm, hb⟩
  · have H := hidp (HB.out false (by rw [show inB cores.length 1 3 = false from inB_false.2 (by omega)]; rfl))
    obtain ⟨c0, c1, c2, c3⟩ := SC
    go_enter Tryz.func72, Tryz.ntmps72
    go_wp2
    go_ret
    exact ⟨ret_bool H.out.symm, hb⟩
  · have H := hidp (HB.out false (by rw [show decide (homes.length ≤ 4) = false by simp; omega]; simp))
    obtain ⟨c0, c1, c2, c3⟩ := SC
    go_enter Tryz.func72, Tryz.ntmps72
    go_wp2
    go_ret
    exact ⟨ret_bool H.out.symm, hb⟩
  · have e1 : inB cores.length 1 3 = true := inB_true.2 ⟨g, g1⟩
    have e2 : decide (homes.length ≤ 4) = true := by simp; omega
    have E1 := hidp e1
    have E2 := hidp e2
    clear e1 e2
    have SC2 := SC
    obtain ⟨c0, c1, c2, c3⟩ := SC2
    go_enter Tryz.func72, Tryz.ntmps72
    go_wp2
    go_loopg [3] cores.length (fun gg i wr => ∃ k : Nat, k + gg = cores.length ∧ i = .int .i64 k ∧ Hid (∀ j, j < k → inB (cores.getD j 0) 1 3 = true) ∧ SetCells wr w.heap.size ⟨proto, ca, cc, cores, ha, hc, homes, ta, tc, tasks⟩ ∧ Below w.heap.size w wr)
    case atStart => exact ⟨0, by omega, rfl, hidp (by omega), SC, hb⟩
    case round =>
      obtain ⟨k, hk, rfl, Ho, sc, hw⟩ := hrel
      clear c0 c1 c2 c3
      have sc2 := sc
      obtain ⟨c0, c1, c2, c3⟩ := sc2
      dsimp only at c0 c1 c2 c3
      by_cases hlt : k < cores.length
      · obtain ⟨gg, off, hA, hcl⟩ := RC.out.resolve_left (by intro e; rw [e] at hlt; simp at hlt)
        subst hA
        obtain ⟨n, HN⟩ : ∃ n, Hid (cores.getD k 0 = n) := ⟨_, rfl⟩
        have cn := Keeps.of_below hw _ _ (HN.out ▸ hcl k hlt)
        clear hcl
        have hcase : n < 1 ∨ (1 ≤ n ∧ 3 < n) ∨ (1 ≤ n ∧ n ≤ 3) := by omega
        rcases hcase with h | ⟨h, h2⟩ | ⟨h, h2⟩
        · have H := hidp (HB.out false (by rw [allB_not hlt HN.out (inB_false.2 (by omega))]; simp))
          go_wp2
          go_ret
          exact ⟨ret_bool H.out.symm, hw⟩
        · have H := hidp (HB.out false (by rw [allB_not hlt HN.out (inB_false.2 (by omega))]; simp))
          go_wp2
          go_ret
          exact ⟨ret_bool H.out.symm, hw⟩
        · have Hn := hidp (inB_next HN.out (inB_true.2 ⟨h, h2⟩) Ho.out)
          go_wp2
          go_roundg (gk - 1)
          case measure => omega
          case rel => exact ⟨k + 1, by omega, by go_num, Hn, sc, hw⟩
      · have E3 : Hid (allB cores 1 3 = true) := hidp (allB_all (fun j hj => Ho.out j (by omega)))
        go_wp2
        obtain ⟨wo, rfl⟩ : ∃ wo : World, wo = wr := ⟨_, rfl⟩
        go_loopg [4] homes.length (fun gg i wr => ∃ k : Nat, k + gg = homes.length ∧ i = .int .i64 k ∧ Hid (∀ j, j < k → inB (homes.getD j 0) 0 ((cores.length : Int) - 1) = true) ∧ SetCells wr w.heap.size ⟨proto, ca, cc, cores, ha, hc, homes, ta, tc, tasks⟩ ∧ Below w.heap.size w wr)
        case atStart => exact ⟨0, by omega, rfl, hidp (by omega), sc, hw⟩
        case round =>
          obtain ⟨k, hk, rfl, Ho, sc, hw⟩ := hrel
          clear c0 c1 c2 c3
          have sc2 := sc
          obtain ⟨c0, c1, c2, c3⟩ := sc2
          dsimp only at c0 c1 c2 c3
          by_cases hlt : k < homes.length
          · obtain ⟨gg, off, hA, hcl⟩ := RH.out.resolve_left (by intro e; rw [e] at hlt; simp at hlt)
            subst hA
            obtain ⟨n, HN⟩ : ∃ n, Hid (homes.getD k 0 = n) := ⟨_, rfl⟩
            have cn := Keeps.of_below hw _ _ (HN.out ▸ hcl k hlt)
            clear hcl
            have hcase : n < 0 ∨ (0 ≤ n ∧ (cores.length : Int) ≤ n) ∨ (0 ≤ n ∧ n < (cores.length : Int)) := by omega
            rcases hcase with h | ⟨h, h2⟩ | ⟨h, h2⟩
            · have H := hidp (HB.out false (by rw [allB_not hlt HN.out (inB_false.2 (by omega))]; simp))
              have d : decide (n < 0) = true := by simpa using h
              go_wp2
              go_quiet (fail)
              go_wp2
              go_ret
              exact ⟨ret_bool H.out.symm, below_drewN hw _⟩
            · have H := hidp (HB.out false (by rw [allB_not hlt HN.out (inB_false.2 (by omega))]; simp))
              have d : decide (n < 0) = false := by simpa using h
              go_wp2
              go_quiet (fail)
              go_wp2
              go_ret
              exact ⟨ret_bool H.out.symm, below_drewN hw _⟩
            · have Hn := hidp (inB_next HN.out (inB_true.2 ⟨h, by omega⟩) Ho.out)
              have d : decide (n < 0) = false := by simpa using h
              go_wp2
              go_quiet (fail)
              go_wp2
              go_roundg (gk - 1)
              case measure => omega
              case rel => exact ⟨k + 1, by omega, by go_num, Hn, sc.keep (Keeps.drewN _ _), below_drewN hw _⟩
          · have E4 : Hid (allB homes 0 ((cores.length : Int) - 1) = true) := hidp (allB_all (fun j hj => Ho.out j (by omega)))
            have H := hidp (HB.out true (by rw [E1.out, E2.out, E3.out, E4.out]; rfl))
            go_wp2
            go_ret
            exact ⟨ret_bool H.out.symm, hw⟩
end Go.Proofs.YtlmdiechnidghaaGreat

namespace Go.Proofs.YtlmdiechnidghaaGreat
open Go.ChangeShapes Go.WideShapes Go.ChangeAt Go.RowKit
set_option linter.unusedVariables false

theorem taken_none {ts : List TaskR} {t : TaskR} {k : Nat} (hk : k ≤ ts.length) (h : ∀ j, j < k → likeB t (ts.getD j default) = false) : takenB (ts.take k) t = false := by
  unfold takenB
  rw [List.any_eq_false]
  intro x hx
  obtain ⟨j, hj, e⟩ := List.mem_iff_getElem.1 hx
  rw [List.length_take] at hj
  have := h j (by omega)
  rw [List.getElem_take] at e
  simp [List.getD, show j < ts.length by omega, e] at this
  simp [this]
theorem taken_some {ts : List TaskR} {t o : TaskR} {k j : Nat} (hk : k ≤ ts.length) (hj : j < k) (ho : ts.getD j default = o) (h : likeB t o = true) : takenB (ts.take k) t = true := by
  unfold takenB
  rw [List.any_eq_true]
  refine ⟨o, ?_, h⟩
  rw [← ho]
  have h1 : j < ts.length := by omega
  simp only [List.getD, List.getElem?_eq_getElem h1, Option.getD_some]
  exact List.mem_iff_getElem.2 ⟨j, by rw [List.length_take]; omega, by rw [List.getElem_take]⟩

set_option maxHeartbeats 20000000 in
set_option maxRecDepth 100000 in
theorem rtask_row (proto : Int) (ca : Option Addr) (cc : Nat) (cores : List Int) (ha : Option Addr) (hc : Nat) (homes : List Int) (g off tc : Nat) (tasks : List TaskR) (k : Nat) (w : World)
    (hs : SetOk w ⟨proto, ca, cc, cores, ha, hc, homes, some ⟨g, off, none⟩, tc, tasks⟩) (hk : k < tasks.length) :
    Calls Tryz.prog 73 #[.agg #[.int .i64 proto, .slice ca cores.length cc, .slice ha homes.length hc, .slice (some ⟨g, off, none⟩) tasks.length tc], .int .i64 k] w fun e w' => e = .returned (.int .i64 (taskE ⟨proto, ca, cc, cores, ha, hc, homes, some ⟨g, off, none⟩, tc, tasks⟩ k)) ∧ Below w.heap.size w w' := by
  have l1 : cores.length ≤ maxLen := Nat.le_trans hs.cores.sl.2.1 hs.cores.sl.2.2
  have l2 : homes.length ≤ maxLen := Nat.le_trans hs.homes.sl.2.1 hs.homes.sl.2.2
  have l3 : tasks.length ≤ maxLen := Nat.le_trans hs.tasks.sl.2.1 hs.tasks.sl.2.2
  have L2 := hidp l2
  unfold maxLen at l1 l2 l3
  obtain ⟨t, HT⟩ : ∃ t, Hid (tasks.getD k default = t) := ⟨_, rfl⟩
  have Tok := hs.tasks.ok t (HT.out ▸ getD_mem hk)
  obtain ⟨g', off', hA, hcl⟩ := hs.tasks.at_.resolve_left (by intro e; dsimp only at e; rw [e] at hk; simp at hk)
  obtain ⟨rfl, rfl⟩ : g = g' ∧ off = off' := by injection hA with hA; injection hA with h1 h2; exact ⟨h1, h2⟩
  dsimp only at hcl
  have Hcl := hidp hcl
  have hb := (Below.refl w.heap.size w).alloc (Nat.le_refl _) (.cells #[.int .i64 proto, .slice ca cores.length cc, .slice ha homes.length hc, .slice (some ⟨g, off, none⟩) tasks.length tc] 25)
  have SC := SetCells.new w ⟨proto, ca, cc, cores, ha, hc, homes, some ⟨g, off, none⟩, tc, tasks⟩ 25
  obtain ⟨nm, per, dl, prio, cl, pa, pc, parts⟩ := t
  have tcl := (HT.out ▸ hcl k hk).keep (Keeps.of_below hb)
  have hn := Tok.name
  have Hpt := hidp Tok.at_
  have lp : parts.length ≤ maxLen := Nat.le_trans Tok.sl.2.1 Tok.sl.2.2
  have Lp := hidp lp
  unfold maxLen at lp
  dsimp only at tcl hn Hpt
  obtain ⟨d0, d1, d2, d3, d4, d5⟩ := tcl
  dsimp only at d0 d1 d2 d3 d4 d5
  have so := SC
  obtain ⟨o0, o1, o2, o3⟩ := so
  dsimp only at o0 o1 o2 o3
  have tb := TaskBox.new (w.alloc (.cells #[.int .i64 proto, .slice ca cores.length cc, .slice ha homes.length hc, .slice (some ⟨g, off, none⟩) tasks.length tc] 25)) ⟨nm, per, dl, prio, cl, pa, pc, parts⟩ 57
  rw [show (w.alloc (.cells #[.int .i64 proto, .slice ca cores.length cc, .slice ha homes.length hc, .slice (some ⟨g, off, none⟩) tasks.length tc] 25)).heap.size = w.heap.size + 1 by simp] at tb
  replace SC := SC.keep (Keeps.alloc _ (.cells #[.string nm, .int .i64 per, .int .i64 dl, .int .i64 prio, .int .i64 cl, .slice pa parts.length pc] 57))
  replace hb := hb.alloc (by simp) (.cells #[.string nm, .int .i64 per, .int .i64 dl, .int .i64 prio, .int .i64 cl, .slice pa parts.length pc] 57)
  have tb2 := tb
  obtain ⟨b0, b1, b2, b3, b4, b5⟩ := tb2
  dsimp only at b0 b1 b2 b3 b4 b5
  have sc2 := SC
  obtain ⟨c0, c1, c2, c3⟩ := sc2
  dsimp only at c0 c1 c2 c3
  clear hA hcl Tok
  obtain ⟨nb, Hnb⟩ : ∃ nb, Hid (nameB nm = nb) := ⟨_, rfl⟩
  have hcase : (nameB nm = false) ∨ (nameB nm = true ∧ per < 1) ∨ (nameB nm = true ∧ 1 ≤ per ∧ 3000 < per) ∨ (nameB nm = true ∧ 1 ≤ per ∧ per ≤ 3000 ∧ dl < 1) ∨ (nameB nm = true ∧ 1 ≤ per ∧ per ≤ 3000 ∧ 1 ≤ dl ∧ per < dl) ∨
      (nameB nm = true ∧ 1 ≤ per ∧ per ≤ 3000 ∧ 1 ≤ dl ∧ dl ≤ per ∧ prio < 1) ∨ (nameB nm = true ∧ 1 ≤ per ∧ per ≤ 3000 ∧ 1 ≤ dl ∧ dl ≤ per ∧ 1 ≤ prio ∧ 1000 < prio) ∨ (nameB nm = true ∧ 1 ≤ per ∧ per ≤ 3000 ∧ 1 ≤ dl ∧ dl ≤ per ∧ 1 ≤ prio ∧ prio ≤ 1000) := by
    cases nameB nm
    · exact .inl rfl
    · simp only [true_and]; omega
  rcases hcase with n1 | ⟨n1, n2⟩ | ⟨n1, n2, n3⟩ | ⟨n1, n2, n3, n4⟩ | ⟨n1, n2, n3, n4, n5⟩ | ⟨n1, n2, n3, n4, n5, n6⟩ | ⟨n1, n2, n3, n4, n5, n6, n7⟩ | ⟨n1, n2, n3, n4, n5, n6, n7⟩
  · have p1 : formB ⟨nm, per, dl, prio, cl, pa, pc, parts⟩ = false := by unfold formB; dsimp only; rw [n1]; rfl
    have Hy : Hid (taskE ⟨proto, ca, cc, cores, ha, hc, homes, some ⟨g, off, none⟩, tc, tasks⟩ k = 10) := hidp (by unfold taskE; dsimp only; rw [HT.out, p1]; simp)
    clear p1
    go_enter Tryz.func73, Tryz.ntmps73
    go_wp2_with (first | (go_at_call 101; (with_reducible refine (rname_any _ _ hn).mono ?_); rintro e w' ⟨rfl, rfl⟩))
    go_ret
    exact ⟨ret_int Hy.out.symm, hb⟩
  · have p1 : formB ⟨nm, per, dl, prio, cl, pa, pc, parts⟩ = false := by unfold formB; dsimp only; rw [n1, show inB per 1 3000 = false from inB_false.2 (by omega)]; rfl
    have Hy : Hid (taskE ⟨proto, ca, cc, cores, ha, hc, homes, some ⟨g, off, none⟩, tc, tasks⟩ k = 10) := hidp (by unfold taskE; dsimp only; rw [HT.out, p1]; simp)
    clear p1
    go_enter Tryz.func73, Tryz.ntmps73
    go_wp2_with (first | (go_at_call 101; (with_reducible refine (rname_any _ _ hn).mono ?_); rintro e w' ⟨rfl, rfl⟩))
    go_ret
    exact ⟨ret_int Hy.out.symm, hb⟩
  · have p1 : formB ⟨nm, per, dl, prio, cl, pa, pc, parts⟩ = false := by unfold formB; dsimp only; rw [n1, show inB per 1 3000 = false from inB_false.2 (by omega)]; rfl
    have Hy : Hid (taskE ⟨proto, ca, cc, cores, ha, hc, homes, some ⟨g, off, none⟩, tc, tasks⟩ k = 10) := hidp (by unfold taskE; dsimp only; rw [HT.out, p1]; simp)
    clear p1
    go_enter Tryz.func73, Tryz.ntmps73
    go_wp2_with (first | (go_at_call 101; (with_reducible refine (rname_any _ _ hn).mono ?_); rintro e w' ⟨rfl, rfl⟩))
    go_ret
    exact ⟨ret_int Hy.out.symm, hb⟩
  · have p1 : formB ⟨nm, per, dl, prio, cl, pa, pc, parts⟩ = false := by unfold formB; dsimp only; rw [n1, show inB per 1 3000 = true from inB_true.2 (by omega), show inB dl 1 per = false from inB_false.2 (by omega)]; rfl
    have Hy : Hid (taskE ⟨proto, ca, cc, cores, ha, hc, homes, some ⟨g, off, none⟩, tc, tasks⟩ k = 10) := hidp (by unfold taskE; dsimp only; rw [HT.out, p1]; simp)
    clear p1
    go_enter Tryz.func73, Tryz.ntmps73
    go_wp2_with (first | (go_at_call 101; (with_reducible refine (rname_any _ _ hn).mono ?_); rintro e w' ⟨rfl, rfl⟩))
    go_ret
    exact ⟨ret_int Hy.out.symm, hb⟩
  · have p1 : formB ⟨nm, per, dl, prio, cl, pa, pc, parts⟩ = false := by unfold formB; dsimp only; rw [n1, show inB per 1 3000 = true from inB_true.2 (by omega), show inB dl 1 per = false from inB_false.2 (by omega)]; rfl
    have Hy : Hid (taskE ⟨proto, ca, cc, cores, ha, hc, homes, some ⟨g, off, none⟩, tc, tasks⟩ k = 10) := hidp (by unfold taskE; dsimp only; rw [HT.out, p1]; simp)
    clear p1
    go_enter Tryz.func73, Tryz.ntmps73
    go_wp2_with (first | (go_at_call 101; (with_reducible refine (rname_any _ _ hn).mono ?_); rintro e w' ⟨rfl, rfl⟩))
    go_ret
    exact ⟨ret_int Hy.out.symm, hb⟩
  · have p1 : formB ⟨nm, per, dl, prio, cl, pa, pc, parts⟩ = false := by unfold formB; dsimp only; rw [n1, show inB per 1 3000 = true from inB_true.2 (by omega), show inB dl 1 per = true from inB_true.2 (by omega), show inB prio 1 1000 = false from inB_false.2 (by omega)]; rfl
    have Hy : Hid (taskE ⟨proto, ca, cc, cores, ha, hc, homes, some ⟨g, off, none⟩, tc, tasks⟩ k = 10) := hidp (by unfold taskE; dsimp only; rw [HT.out, p1]; simp)
    clear p1
    go_enter Tryz.func73, Tryz.ntmps73
    go_wp2_with (first | (go_at_call 101; (with_reducible refine (rname_any _ _ hn).mono ?_); rintro e w' ⟨rfl, rfl⟩))
    go_ret
    exact ⟨ret_int Hy.out.symm, hb⟩
  · have p1 : formB ⟨nm, per, dl, prio, cl, pa, pc, parts⟩ = false := by unfold formB; dsimp only; rw [n1, show inB per 1 3000 = true from inB_true.2 (by omega), show inB dl 1 per = true from inB_true.2 (by omega), show inB prio 1 1000 = false from inB_false.2 (by omega)]; rfl
    have Hy : Hid (taskE ⟨proto, ca, cc, cores, ha, hc, homes, some ⟨g, off, none⟩, tc, tasks⟩ k = 10) := hidp (by unfold taskE; dsimp only; rw [HT.out, p1]; simp)
    clear p1
    go_enter Tryz.func73, Tryz.ntmps73
    go_wp2_with (first | (go_at_call 101; (with_reducible refine (rname_any _ _ hn).mono ?_); rintro e w' ⟨rfl, rfl⟩))
    go_ret
    exact ⟨ret_int Hy.out.symm, hb⟩
  · have P1 : Hid (formB ⟨nm, per, dl, prio, cl, pa, pc, parts⟩ = true) := hidp (by unfold formB; dsimp only; rw [n1, show inB per 1 3000 = true from inB_true.2 (by omega), show inB dl 1 per = true from inB_true.2 (by omega), show inB prio 1 1000 = true from inB_true.2 (by omega)]; rfl)
    have hcase : cl < 0 ∨ (0 ≤ cl ∧ (cores.length : Int) ≤ cl) ∨ (0 ≤ cl ∧ cl < (cores.length : Int)) := by omega
    rcases hcase with h | ⟨h, h2⟩ | ⟨h, h2⟩
    · have p2 : inB cl 0 ((cores.length : Int) - 1) = false := inB_false.2 (by omega)
      have Hy : Hid (taskE ⟨proto, ca, cc, cores, ha, hc, homes, some ⟨g, off, none⟩, tc, tasks⟩ k = 16) := hidp (by unfold taskE; dsimp only; rw [HT.out]; dsimp only; rw [P1.out, p2]; simp)
      clear p2
      go_enter Tryz.func73, Tryz.ntmps73
      go_wp2_with (first | (go_at_call 101; (with_reducible refine (rname_any _ _ hn).mono ?_); rintro e w' ⟨rfl, rfl⟩))
      go_ret
      exact ⟨ret_int Hy.out.symm, hb⟩
    · have p2 : inB cl 0 ((cores.length : Int) - 1) = false := inB_false.2 (by omega)
      have Hy : Hid (taskE ⟨proto, ca, cc, cores, ha, hc, homes, some ⟨g, off, none⟩, tc, tasks⟩ k = 16) := hidp (by unfold taskE; dsimp only; rw [HT.out]; dsimp only; rw [P1.out, p2]; simp)
      clear p2
      go_enter Tryz.func73, Tryz.ntmps73
      go_wp2_with (first | (go_at_call 101; (with_reducible refine (rname_any _ _ hn).mono ?_); rintro e w' ⟨rfl, rfl⟩))
      go_ret
      exact ⟨ret_int Hy.out.symm, hb⟩
    · have P2 : Hid (inB cl 0 ((cores.length : Int) - 1) = true) := hidp (inB_true.2 (by omega))
      go_enter Tryz.func73, Tryz.ntmps73
      go_wp2_with (first | (go_at_call 101; (with_reducible refine (rname_any _ _ hn).mono ?_); rintro e w' ⟨rfl, rfl⟩))
      go_loopg [6] k (fun gg i wr => ∃ j : Nat, j + gg = k ∧ i = .int .i64 j ∧ Hid (∀ m, m < j → likeB ⟨nm, per, dl, prio, cl, pa, pc, parts⟩ (tasks.getD m default) = false) ∧ SetCells wr w.heap.size ⟨proto, ca, cc, cores, ha, hc, homes, some ⟨g, off, none⟩, tc, tasks⟩ ∧ TaskBox wr (w.heap.size + 1) ⟨nm, per, dl, prio, cl, pa, pc, parts⟩ ∧ Below w.heap.size w wr)
      case atStart => exact ⟨0, by omega, rfl, hidp (by omega), SC, tb, hb⟩
      case round =>
        obtain ⟨j, hj, rfl, Ho, sc, tb, hb⟩ := hrel
        clear c0 c1 c2 c3 b0 b1 b2 b3 b4 b5 d0 d1 d2 d3 d4 d5 o0 o1 o2 o3
        have sc2 := sc
        obtain ⟨c0, c1, c2, c3⟩ := sc2
        have tb2 := tb
        obtain ⟨b0, b1, b2, b3, b4, b5⟩ := tb2
        dsimp only at c0 c1 c2 c3 b0 b1 b2 b3 b4 b5
        by_cases hlt : j < k
        · obtain ⟨o, HO⟩ : ∃ o, Hid (tasks.getD j default = o) := ⟨_, rfl⟩
          have ocl := (HO.out ▸ Hcl.out j (by omega)).keep (Keeps.of_below hb)
          obtain ⟨d0, _, _, d3, _, _⟩ := ocl
          have hjl : j < tasks.length := by omega
          have hjl2 : (j : Int) < (tasks.length : Int) := by omega
          by_cases z1 : (o.name.toList == nm.toList) = true
          · have p3 := taken_some (t := ⟨nm, per, dl, prio, cl, pa, pc, parts⟩) (Nat.le_of_lt hk) hlt HO.out (by unfold likeB; dsimp only; rw [z1]; rfl)
            have Hy : Hid (taskE ⟨proto, ca, cc, cores, ha, hc, homes, some ⟨g, off, none⟩, tc, tasks⟩ k = 17) := hidp (by unfold taskE; dsimp only; rw [HT.out]; dsimp only; rw [P1.out, P2.out, p3]; simp)
            clear p3
            go_wp2
            go_quiet (fail)
            go_wp2
            go_ret
            exact ⟨ret_int Hy.out.symm, below_drewN hb _⟩
          · have z1 : (o.name.toList == nm.toList) = false := by simpa using z1
            by_cases z2 : (o.prio == prio) = true
            · have p3 := taken_some (t := ⟨nm, per, dl, prio, cl, pa, pc, parts⟩) (Nat.le_of_lt hk) hlt HO.out (by unfold likeB; dsimp only; rw [z1, z2]; rfl)
              have Hy : Hid (taskE ⟨proto, ca, cc, cores, ha, hc, homes, some ⟨g, off, none⟩, tc, tasks⟩ k = 17) := hidp (by unfold taskE; dsimp only; rw [HT.out]; dsimp only; rw [P1.out, P2.out, p3]; simp)
              have z3 : o.prio = prio := by simpa using z2
              have Hz3 := hidp z3
              clear p3 z3
              go_wp2
              go_quiet (fail)
              go_wp2
              go_ret
              exact ⟨ret_int Hy.out.symm, below_drewN hb _⟩
            · have z2 : (o.prio == prio) = false := by simpa using z2
              have Hn : Hid (∀ m, m < j + 1 → likeB ⟨nm, per, dl, prio, cl, pa, pc, parts⟩ (tasks.getD m default) = false) := hidp (fun m hm => by
                by_cases e : m = j
                · subst e; rw [HO.out]; unfold likeB; dsimp only; rw [z1, z2]; rfl
                · exact Ho.out m (by omega))
              go_wp2
              go_quiet (fail)
              go_wp2
              go_roundg (gk - 1)
              case measure => omega
              case rel => exact ⟨j + 1, by omega, by go_num, Hn, sc.keep (Keeps.drewN _ _), tb.keep (Keeps.drewN _ _), below_drewN hb _⟩
        · obtain rfl : j = k := by omega
          have P3 : Hid (takenB (tasks.take j) ⟨nm, per, dl, prio, cl, pa, pc, parts⟩ = false) := hidp (taken_none (Nat.le_of_lt hk) Ho.out)
          have hcase : ((parts.length : Int) < 1) ∨ (1 ≤ (parts.length : Int) ∧ 6 < (parts.length : Int)) ∨ (1 ≤ (parts.length : Int) ∧ (parts.length : Int) ≤ 6) := by omega
          rcases hcase with q1 | ⟨q1, q2⟩ | ⟨q1, q2⟩
          · have p4 : partsB parts homes.length = false := by unfold partsB; rw [show inB parts.length 1 6 = false from inB_false.2 (by omega)]; rfl
            have Hy : Hid (taskE ⟨proto, ca, cc, cores, ha, hc, homes, some ⟨g, off, none⟩, tc, tasks⟩ j = 15) := hidp (by unfold taskE; dsimp only; rw [HT.out]; dsimp only; rw [P1.out, P2.out, P3.out, p4]; simp)
            clear p4
            go_wp2
            go_ret
            exact ⟨ret_int Hy.out.symm, hb⟩
          · have p4 : partsB parts homes.length = false := by unfold partsB; rw [show inB parts.length 1 6 = false from inB_false.2 (by omega)]; rfl
            have Hy : Hid (taskE ⟨proto, ca, cc, cores, ha, hc, homes, some ⟨g, off, none⟩, tc, tasks⟩ j = 15) := hidp (by unfold taskE; dsimp only; rw [HT.out]; dsimp only; rw [P1.out, P2.out, P3.out, p4]; simp)
            clear p4
            go_wp2
            go_ret
            exact ⟨ret_int Hy.out.symm, hb⟩
          · have P4 : Hid (inB parts.length 1 6 = true) := hidp (inB_true.2 (by omega))
            obtain ⟨gp, op, hP, hpl⟩ := Hpt.out.resolve_left (by intro e; rw [e] at q1; simp at q1)
            subst hP
            have Hpl := hidp hpl
            clear hpl
            go_wp2
            obtain ⟨wo, rfl⟩ : ∃ wo : World, wo = wr := ⟨_, rfl⟩
            go_loopg [7] parts.length (fun gg i wr => ∃ m : Nat, m + gg = parts.length ∧ i = .int .i64 m ∧ Hid (∀ n, n < m → partB (parts.getD n default) homes.length = true) ∧ SetCells wr w.heap.size ⟨proto, ca, cc, cores, ha, hc, homes, some ⟨g, off, none⟩, tc, tasks⟩ ∧ TaskBox wr (w.heap.size + 1) ⟨nm, per, dl, prio, cl, some ⟨gp, op, none⟩, pc, parts⟩ ∧ Below w.heap.size w wr)
            case atStart => exact ⟨0, by omega, rfl, hidp (by omega), sc, tb, hb⟩
            case round =>
              obtain ⟨m, hm, rfl, Hm, sc, tb, hb⟩ := hrel
              clear c0 c1 c2 c3 b0 b1 b2 b3 b4 b5
              have sc2 := sc
              obtain ⟨c0, c1, c2, c3⟩ := sc2
              have tb2 := tb
              obtain ⟨b0, b1, b2, b3, b4, b5⟩ := tb2
              dsimp only at c0 c1 c2 c3 b0 b1 b2 b3 b4 b5
              by_cases hml : m < parts.length
              · obtain ⟨p, HP⟩ : ∃ p, Hid (parts.getD m default = p) := ⟨_, rfl⟩
                have pcl := (HP.out ▸ Hpl.out m hml).keep (Keeps.of_below hb)
                have hml2 : (m : Int) < (parts.length : Int) := by omega
                go_wp2_with fail
                have sc := sc.keep (Keeps.drew wr)
                have tb := tb.keep (Keeps.drew wr)
                have pcl := pcl.keep (Keeps.drew wr)
                have hb := hb.drew
                by_cases z : partB p homes.length = true
                · have Hn : Hid (∀ n, n < m + 1 → partB (parts.getD n default) homes.length = true) := hidp (fun n hn => by
                    by_cases e : n = m
                    · subst e; rw [HP.out]; exact z
                    · exact Hm.out n (by omega))
                  go_region_held3 (fun w' => w'.cell? ⟨w.heap.size, 0, none⟩ = some (.int .i64 proto) ∧ w'.cell? ⟨w.heap.size, 1, none⟩ = some (.slice ca cores.length cc) ∧ w'.cell? ⟨w.heap.size, 2, none⟩ = some (.slice ha homes.length hc) ∧ w'.cell? ⟨w.heap.size, 3, none⟩ = some (.slice (some ⟨g, off, none⟩) tasks.length tc) ∧ w'.cell? ⟨w.heap.size + 1, 5, none⟩ = some (.slice (some ⟨gp, op, none⟩) parts.length pc) ∧ w'.cell? ⟨gp, op + m * 3, none⟩ = some (.int .i64 p.kind) ∧ w'.cell? ⟨gp, op + m * 3 + 1, none⟩ = some (.int .i64 p.len) ∧ w'.cell? ⟨gp, op + m * 3 + 2, none⟩ = some (.int .i64 p.res)) (exact ⟨sc.1, sc.2.1, sc.2.2.1, sc.2.2.2, tb.2.2.2.2.2, pcl⟩)
                    (first
                      | (go_at_call 102; refine (rpart_any ⟨proto, ca, cc, cores, ha, hc, homes, some ⟨g, off, none⟩, tc, tasks⟩ p _ L2.out).mono ?_; rintro e u ⟨rfl, hb2⟩; have hb := hb.trans (hb2.mono hb.size); have sc := sc.keep (Keeps.of_below hb2); have tb := tb.keep (Keeps.of_below hb2); have pcl := pcl.keep (Keeps.of_below hb2)))
                  go_wp2_with fail
                  go_roundg (gk - 1)
                  case measure => omega
                  case rel => exact ⟨m + 1, by omega, by go_num, Hn, sc, tb, hb⟩
                · have z : partB p homes.length = false := by simpa using z
                  have p4 : partsB parts homes.length = false := by unfold partsB; rw [not_all_getD hml HP.out z]; simp
                  have Hy : Hid (taskE ⟨proto, ca, cc, cores, ha, hc, homes, some ⟨g, off, none⟩, tc, tasks⟩ j = 15) := hidp (by unfold taskE; dsimp only; rw [HT.out]; dsimp only; rw [P1.out, P2.out, P3.out, p4]; simp)
                  clear p4
                  go_region_held3 (fun w' => w'.cell? ⟨w.heap.size, 0, none⟩ = some (.int .i64 proto) ∧ w'.cell? ⟨w.heap.size, 1, none⟩ = some (.slice ca cores.length cc) ∧ w'.cell? ⟨w.heap.size, 2, none⟩ = some (.slice ha homes.length hc) ∧ w'.cell? ⟨w.heap.size, 3, none⟩ = some (.slice (some ⟨g, off, none⟩) tasks.length tc) ∧ w'.cell? ⟨w.heap.size + 1, 5, none⟩ = some (.slice (some ⟨gp, op, none⟩) parts.length pc) ∧ w'.cell? ⟨gp, op + m * 3, none⟩ = some (.int .i64 p.kind) ∧ w'.cell? ⟨gp, op + m * 3 + 1, none⟩ = some (.int .i64 p.len) ∧ w'.cell? ⟨gp, op + m * 3 + 2, none⟩ = some (.int .i64 p.res)) (exact ⟨sc.1, sc.2.1, sc.2.2.1, sc.2.2.2, tb.2.2.2.2.2, pcl⟩)
                    (first
                      | (go_at_call 102; refine (rpart_any ⟨proto, ca, cc, cores, ha, hc, homes, some ⟨g, off, none⟩, tc, tasks⟩ p _ L2.out).mono ?_; rintro e u ⟨rfl, hb2⟩; have hb := hb.trans (hb2.mono hb.size); have sc := sc.keep (Keeps.of_below hb2); have tb := tb.keep (Keeps.of_below hb2); have pcl := pcl.keep (Keeps.of_below hb2)))
                  go_wp2_with fail
                  go_ret
                  exact ⟨ret_int Hy.out.symm, hb⟩
              · have p4 : partsB parts homes.length = true := by unfold partsB; rw [P4.out, all_getD (f := fun p => partB p homes.length) (fun n hn => Hm.out n (by omega))]; rfl
                have Hy : Hid (taskE ⟨proto, ca, cc, cores, ha, hc, homes, some ⟨g, off, none⟩, tc, tasks⟩ j = 0) := hidp (by unfold taskE; dsimp only; rw [HT.out]; dsimp only; rw [P1.out, P2.out, P3.out, p4]; simp)
                clear p4
                go_wp2
                go_ret
                exact ⟨ret_int Hy.out.symm, hb⟩
end Go.Proofs.YtlmdiechnidghaaGreat

namespace Go.Proofs.YtlmdiechnidghaaGreat
open Go.ChangeShapes Go.WideShapes Go.ChangeAt Go.RowKit
set_option linter.unusedVariables false

theorem rtask_any (s : SetR) (k : Nat) (w : World) (hs : SetOk w s) (hk : k < s.tasks.length) : Calls Tryz.prog 73 #[.agg #[.int .i64 s.proto, .slice s.ca s.cores.length s.cc, .slice s.ha s.homes.length s.hc, .slice s.ta s.tasks.length s.tc], .int .i64 k] w fun e w' => e = .returned (.int .i64 (taskE s k)) ∧ Below w.heap.size w w' := by
  obtain ⟨g, off, hA, _⟩ := hs.tasks.at_.resolve_left (by intro e; rw [e] at hk; simp at hk)
  obtain ⟨proto, ca, cc, cores, ha, hc, homes, ta, tc, tasks⟩ := s
  dsimp only at hA
  subst hA
  exact rtask_row proto ca cc cores ha hc homes g off tc tasks k w hs hk
theorem placesB_frame {s : SetR} (h : inB s.proto 1 3 = true) : frameV s = if placesB s = false then 16 else if 6 < s.tasks.length then 11 else if s.tasks.length = 0 then 14 else 0 := by
  unfold frameV placesB
  rw [if_neg (by rw [h]; decide)]
  cases inB s.cores.length 1 3
  · simp
  · cases allB s.cores 1 3
    · simp
    · by_cases h4 : s.homes.length ≤ 4
      · have h4' : ¬ 4 < s.homes.length := by omega
        cases allB s.homes 0 ((s.cores.length : Int) - 1) <;> simp [h4, h4']
      · have h4' : 4 < s.homes.length := by omega
        simp [h4, h4']
theorem chk_frame {s : SetR} {v : Int} (h : frameV s = v) (h0 : v ≠ 0) : chkAt s = -1 ∧ chkE s = v := by
  unfold chkAt chkE
  rw [h, if_pos h0, if_pos h0]
  exact ⟨rfl, rfl⟩

set_option maxHeartbeats 4000000 in
set_option maxRecDepth 100000 in
theorem rcheck_any (s : SetR) (w : World) (hs : SetOk w s) : Calls Tryz.prog 48 #[.agg #[.int .i64 s.proto, .slice s.ca s.cores.length s.cc, .slice s.ha s.homes.length s.hc, .slice s.ta s.tasks.length s.tc]] w fun e w' => e = .returned (.tuple #[.int .i64 (chkAt s), .int .i64 (chkE s)]) ∧ Below w.heap.size w w' := by
  have l3 : s.tasks.length ≤ maxLen := Nat.le_trans hs.tasks.sl.2.1 hs.tasks.sl.2.2
  unfold maxLen at l3
  have hb := (Below.refl w.heap.size w).alloc (Nat.le_refl _) (.cells #[.int .i64 s.proto, .slice s.ca s.cores.length s.cc, .slice s.ha s.homes.length s.hc, .slice s.ta s.tasks.length s.tc] 25)
  have sc := SetCells.new w s 25
  have hs := hs.keep (Keeps.of_below hb)
  have sc2 := sc
  obtain ⟨c0, c1, c2, c3⟩ := sc2
  have hcase : s.proto < 1 ∨ (1 ≤ s.proto ∧ 3 < s.proto) ∨ (1 ≤ s.proto ∧ s.proto ≤ 3) := by omega
  rcases hcase with p | ⟨p, p2⟩ | ⟨p, p2⟩
  · have H := hidp (chk_frame (s := s) (v := 10) (by unfold frameV; rw [if_pos (inB_false.2 (by omega))]) (by decide))
    go_enter Tryz.func48, Tryz.ntmps48
    go_wp2
    go_ret2
    exact ⟨ret_ii H.out.1.symm H.out.2.symm, hb⟩
  · have H := hidp (chk_frame (s := s) (v := 10) (by unfold frameV; rw [if_pos (inB_false.2 (by omega))]) (by decide))
    go_enter Tryz.func48, Tryz.ntmps48
    go_wp2
    go_ret2
    exact ⟨ret_ii H.out.1.symm H.out.2.symm, hb⟩
  · have Hf := hidp (placesB_frame (s := s) (inB_true.2 ⟨p, p2⟩))
    by_cases q : placesB s = true
    · by_cases q6 : 6 < s.tasks.length
      · have H := hidp (chk_frame (s := s) (v := 11) (by rw [Hf.out, if_neg (by rw [q]; decide), if_pos q6]) (by decide))
        go_enter Tryz.func48, Tryz.ntmps48
        go_wp2_with (first | (go_at_call 72; (with_reducible refine (places_any _ _ hs).mono ?_); rintro e u ⟨rfl, hb2⟩; replace hb := hb.trans (hb2.mono hb.size); replace sc := sc.keep (Keeps.of_below hb2); replace hs := hs.keep (Keeps.of_below hb2); have sc3 := sc; obtain ⟨e0, e1, e2, e3⟩ := sc3; clear hb2))
        go_ret2
        exact ⟨ret_ii H.out.1.symm H.out.2.symm, hb⟩
      · by_cases q0 : s.tasks.length = 0
        · have H := hidp (chk_frame (s := s) (v := 14) (by rw [Hf.out, if_neg (by rw [q]; decide), if_neg q6, if_pos q0]) (by decide))
          have q1 : ((s.tasks.length : Int) == 0) = true := by simp [q0]
          clear q0
          go_enter Tryz.func48, Tryz.ntmps48
          go_wp2_with (first | (go_at_call 72; (with_reducible refine (places_any _ _ hs).mono ?_); rintro e u ⟨rfl, hb2⟩; replace hb := hb.trans (hb2.mono hb.size); replace sc := sc.keep (Keeps.of_below hb2); replace hs := hs.keep (Keeps.of_below hb2); have sc3 := sc; obtain ⟨e0, e1, e2, e3⟩ := sc3; clear hb2))
          go_ret2
          exact ⟨ret_ii H.out.1.symm H.out.2.symm, hb⟩
        · have Hf0 : Hid (frameV s = 0) := hidp (by rw [Hf.out, if_neg (by rw [q]; decide), if_neg q6, if_neg q0])
          have q1 : ((s.tasks.length : Int) == 0) = false := by simp; intro e; exact q0 (by simp [e])
          clear q0
          go_enter Tryz.func48, Tryz.ntmps48
          go_wp2_with (first | (go_at_call 72; (with_reducible refine (places_any _ _ hs).mono ?_); rintro e u ⟨rfl, hb2⟩; replace hb := hb.trans (hb2.mono hb.size); replace sc := sc.keep (Keeps.of_below hb2); replace hs := hs.keep (Keeps.of_below hb2); have sc3 := sc; obtain ⟨e0, e1, e2, e3⟩ := sc3; clear hb2))
          clear c0 c1 c2 c3 e0 e1 e2 e3
          go_loopg [4] s.tasks.length (fun gg i wr => ∃ k : Nat, k + gg = s.tasks.length ∧ i = .int .i64 k ∧ Hid (∀ j, j < k → taskE s j = 0) ∧ SetCells wr w.heap.size s ∧ SetOk wr s ∧ Below w.heap.size w wr)
          case atStart => exact ⟨0, by omega, rfl, hidp (by omega), sc, hs, hb⟩
          case round =>
            obtain ⟨k, hk, rfl, Ho, sc, hs, hb⟩ := hrel
            have sc3 := sc
            obtain ⟨c0, c1, c2, c3⟩ := sc3
            by_cases hlt : k < s.tasks.length
            · obtain ⟨v, Hv⟩ : ∃ v, Hid (taskE s k = v) := ⟨_, rfl⟩
              by_cases z : v = 0
              · have Hn : Hid (∀ j, j < k + 1 → taskE s j = 0) := hidp (fun j hj => by
                  by_cases e : j = k
                  · subst e; rw [Hv.out]; exact z
                  · exact Ho.out j (by omega))
                subst z
                go_wp2_with (first | (go_at_call 73; (with_reducible refine (rtask_any _ _ _ hs hlt).mono ?_); rintro e u ⟨rfl, hb2⟩; rw [Hv.out]; replace hb := hb.trans (hb2.mono hb.size); replace sc := sc.keep (Keeps.of_below hb2); replace hs := hs.keep (Keeps.of_below hb2); clear hb2))
                go_roundg (gk - 1)
                case measure => omega
                case rel => exact ⟨k + 1, by omega, by go_num, Hn, sc, hs, hb⟩
              · have H := hidp (chk_here Hf0.out hlt Ho.out (by rw [Hv.out]; exact z))
                have z2 : (v == 0) = false := by simpa using z
                clear z
                go_wp2_with (first | (go_at_call 73; (with_reducible refine (rtask_any _ _ _ hs hlt).mono ?_); rintro e u ⟨rfl, hb2⟩; rw [Hv.out]; replace hb := hb.trans (hb2.mono hb.size); clear hb2))
                go_ret2
                exact ⟨ret_ii H.out.1.symm (by rw [H.out.2, Hv.out]), hb⟩
            · have H := hidp (chk_none Hf0.out (fun j hj => Ho.out j (by omega)))
              go_wp2
              go_ret2
              exact ⟨ret_ii H.out.1.symm H.out.2.symm, hb⟩
    · have q : placesB s = false := by simpa using q
      have H := hidp (chk_frame (s := s) (v := 16) (by rw [Hf.out, if_pos q]) (by decide))
      go_enter Tryz.func48, Tryz.ntmps48
      go_wp2_with (first | (go_at_call 72; (with_reducible refine (places_any _ _ hs).mono ?_); rintro e u ⟨rfl, hb2⟩; replace hb := hb.trans (hb2.mono hb.size); clear hb2))
      go_ret2
      exact ⟨ret_ii H.out.1.symm H.out.2.symm, hb⟩

theorem rok_any (s : SetR) (w : World) (hs : SetOk w s) : Calls Tryz.prog 20 #[.agg #[.int .i64 s.proto, .slice s.ca s.cores.length s.cc, .slice s.ha s.homes.length s.hc, .slice s.ta s.tasks.length s.tc]] w fun e w' => e = .returned (.bool (okS s)) ∧ Below w.heap.size w w' := by
  have hb := (Below.refl w.heap.size w).alloc (Nat.le_refl _) (.cells #[.int .i64 s.proto, .slice s.ca s.cores.length s.cc, .slice s.ha s.homes.length s.hc, .slice s.ta s.tasks.length s.tc] 25)
  have H := hidp (hs.keep (Keeps.of_below hb))
  have Ho : Hid (okS s = (chkE s == 0)) := hidp rfl
  clear hs
  go_enter Tryz.func20, Tryz.ntmps20
  go_wp2_with (first | (go_at_call 48; (with_reducible refine (rcheck_any _ _ H.out).mono ?_); rintro e w2 ⟨rfl, hb2⟩))
  go_ret
  exact ⟨ret_bool Ho.out.symm, hb.trans (hb2.mono hb.size)⟩
end Go.Proofs.YtlmdiechnidghaaGreat

namespace Go.Proofs.YtlmdiechnidghaaGreat
end Go.Proofs.YtlmdiechnidghaaGreat
set_option maxHeartbeats 8000000
set_option maxRecDepth 100000
namespace Go.Proofs.YtlmdiechnidghaaGreat.lockOne
open Go.ChangeShapes Go.WideShapes Go.ChangeAt Go.RowKit
open Go.ChangeMaps (open_string shut_string)
set_option linter.unusedVariables false

/-- THE WALK: the Go text returns true, and writes nothing that was there. -/
theorem walk (s0 : SetR) (a1 : Option Addr) (len1 cap1 : Nat) (z1 : List (Int × Int × Int)) (w : World) (w0 : SetOk w s0) (w1 : IsTrips w a1 len1 cap1 z1) :
    Calls Tryz.prog 4 #[.agg #[.int .i64 s0.proto, .slice s0.ca s0.cores.length s0.cc, .slice s0.ha s0.homes.length s0.hc, .slice s0.ta s0.tasks.length s0.tc], .slice a1 len1 cap1] w fun e w' => e = .returned (.bool true) ∧ Below w.heap.size w w' := by
  obtain ⟨hl, hcap, hc, hfit⟩ := w1
  subst hl
  obtain ⟨ps, hps⟩ : ∃ ps, z1 = ps := ⟨_, rfl⟩
  subst hps
  obtain ⟨S, hS⟩ : ∃ S, s0 = S := ⟨_, rfl⟩
  subst hS
  have HF := hidp hfit
  have HC := hidp hc
  have HSO := hidp w0
  have hb := (Below.refl w.heap.size w).alloc (Nat.le_refl _) (.cells #[.int .i64 s0.proto, .slice s0.ca s0.cores.length s0.cc, .slice s0.ha s0.homes.length s0.hc, .slice s0.ta s0.tasks.length s0.tc] 25)
  have HZ0 := hidp (Bk.new w 25 #[.int .i64 s0.proto, .slice s0.ca s0.cores.length s0.cc, .slice s0.ha s0.homes.length s0.hc, .slice s0.ta s0.tasks.length s0.tc])
  have HB0 := hidp hb
  clear w0 hfit hc hcap hb
  go_enter Tryz.func4, Tryz.ntmps4
  go_wp2_with fail
  refine (known23_any _).mono ?_
  rintro e u1 ⟨rfl, hb1⟩
  have HB1 := hidp (HB0.out.trans (hb1.mono HB0.out.size))
  have HZ1 := hidp (HZ0.out.turned (Turned.of_below hb1 []) (by simp))
  have SO1 := HSO.out.keep (Keeps.of_below HB1.out)
  have z0 : u1.cell? ⟨w.heap.size, 0, none⟩ = some (.int .i64 s0.proto) := HZ1.out.cell 0
  have z1' : u1.cell? ⟨w.heap.size, 1, none⟩ = some (.slice s0.ca s0.cores.length s0.cc) := HZ1.out.cell 1
  have z2 : u1.cell? ⟨w.heap.size, 2, none⟩ = some (.slice s0.ha s0.homes.length s0.hc) := HZ1.out.cell 2
  have z3 : u1.cell? ⟨w.heap.size, 3, none⟩ = some (.slice s0.ta s0.tasks.length s0.tc) := HZ1.out.cell 3
  have CF := few23_any s0 u1 SO1
  clear hb1 SO1
  go_wp2_with fail
  refine CF.mono ?_
  rintro e u2 ⟨⟨fb, rfl⟩, hb2⟩
  have HB2 := hidp (HB1.out.trans (hb2.mono HB1.out.size))
  have HZ2 := hidp (HZ1.out.turned (Turned.of_below hb2 []) (by simp))
  have y0 : u2.cell? ⟨w.heap.size, 0, none⟩ = some (.int .i64 s0.proto) := HZ2.out.cell 0
  have y1 : u2.cell? ⟨w.heap.size, 1, none⟩ = some (.slice s0.ca s0.cores.length s0.cc) := HZ2.out.cell 1
  have y2 : u2.cell? ⟨w.heap.size, 2, none⟩ = some (.slice s0.ha s0.homes.length s0.hc) := HZ2.out.cell 2
  have y3 : u2.cell? ⟨w.heap.size, 3, none⟩ = some (.slice s0.ta s0.tasks.length s0.tc) := HZ2.out.cell 3
  have SO2 := HSO.out.keep (Keeps.of_below HB2.out)
  have CR := rok_any s0 u2 SO2
  clear hb2 CF z0 z1' z2 z3 SO2
  cases fb with
  | false =>
    go_wp2_with fail
    go_ret
    exact ⟨rfl, HB2.out⟩
  | true =>
    cases hok : okS s0 with
    | false =>
      rw [hok] at CR
      clear hok
      go_wp2_with fail
      refine CR.mono ?_
      rintro e u3 ⟨rfl, hb3⟩
      have HB3 := hidp (HB2.out.trans (hb3.mono HB2.out.size))
      go_wp2_with fail
      go_ret
      exact ⟨rfl, HB3.out⟩
    | true =>
      have HG := hidp (Good.of hok)
      have hlsn : lsOf s0 = lsNew s0 := by unfold lsOf; rw [if_pos hok]
      rw [hok] at CR
      have Hls := hidp hlsn
      clear hok hlsn
      go_wp2_with fail
      refine CR.mono ?_
      rintro e u3 ⟨rfl, hb3⟩
      have HB3 := hidp (HB2.out.trans (hb3.mono HB2.out.size))
      have HZ3 := hidp (HZ2.out.turned (Turned.of_below hb3 []) (by simp))
      clear hb3 CR y0 y1 y2 y3
      by_cases h60 : 60 < z1.length
      · have h60I : (60 : Int) < (z1.length : Int) := by omega
        go_wp2_with fail
        go_ret
        exact ⟨rfl, HB3.out⟩
      · have h60I : ¬ (60 : Int) < (z1.length : Int) := by omega
        have y0 : u3.cell? ⟨w.heap.size, 0, none⟩ = some (.int .i64 s0.proto) := HZ3.out.cell 0
        have y1 : u3.cell? ⟨w.heap.size, 1, none⟩ = some (.slice s0.ca s0.cores.length s0.cc) := HZ3.out.cell 1
        have y2 : u3.cell? ⟨w.heap.size, 2, none⟩ = some (.slice s0.ha s0.homes.length s0.hc) := HZ3.out.cell 2
        have y3 : u3.cell? ⟨w.heap.size, 3, none⟩ = some (.slice s0.ta s0.tasks.length s0.tc) := HZ3.out.cell 3
        have CN := li_new u3 u3 s0 (HSO.out.keep (Keeps.of_below HB3.out)) (Below.refl _ _)
        rw [Hls.out] at CN
        have HW1 : Hid (w.heap.size + 1 ≤ u3.heap.size) := hidp (by have := HZ3.out.lt; omega)
        go_wp2_with fail
        refine CN.mono ?_
        rintro e u4 ⟨bl, F, rfl, l0, _, _, _⟩
        have hal := (Below.refl u4.heap.size u4).alloc (Nat.le_refl _) (.cells #[.int .i64 0, .int .i64 0, .int .i64 0, .int .i64 0, .int .i64 0, .int .i64 0] 44)
        have L0 := hidp (l0.over hal)
        have B0 : Hid (Bk (u4.alloc (.cells #[.int .i64 0, .int .i64 0, .int .i64 0, .int .i64 0, .int .i64 0, .int .i64 0] 44)) u4.heap.size 44 (intsA [0, 0, 0, 0, 0, 0])) := hidp (Bk.new u4 44 #[.int .i64 0, .int .i64 0, .int .i64 0, .int .i64 0, .int .i64 0, .int .i64 0])
        have AP0 : Hid (u4.heap.size ∉ bl :: F) := hidp (fun hm => by have := l0.lt _ hm; omega)
        have HZ4 := hidp ((HZ3.out.turned (Turned.of_below l0.below []) (by simp)).turned (Turned.of_below hal []) (by simp))
        have HBa := hidp (HB3.out.trans ((l0.below.trans (hal.mono l0.below.size)).mono HB3.out.size))
        have HIB : Hid (u3.heap.size ≤ u4.heap.size) := hidp l0.below.size
        have HWn0 : Hid (Wants (lsNew s0) [0, 0, 0, 0, 0, 0]) := hidp ⟨rfl, fun t ht => by
          have : t = 0 ∨ t = 1 ∨ t = 2 ∨ t = 3 ∨ t = 4 ∨ t = 5 := by omega
          rcases this with rfl | rfl | rfl | rfl | rfl | rfl <;> rfl⟩
        clear CN l0 hal y0 y1 y2 y3
        go_wp2
        obtain ⟨ib, hib⟩ : ∃ ib, u4.heap.size = ib := ⟨_, rfl⟩
        rw [hib] at B0 AP0 HIB ⊢
        clear hib
        go_loopg [7] z1.length (fun g iv wr => ∃ (i : Nat) (s : Ls) (F : List Nat) (ws : List Int), i + g = z1.length ∧ iv = .int .i64 i ∧ Hid (Wants s ws) ∧ Hid (s.proto = s0.proto ∧ s.homes = s0.homes ∧ s.prio.length = s0.tasks.length) ∧ Hid (s.count ≤ 7 * (i : Int)) ∧ Hid (LxI u3 wr bl s F) ∧ Hid (Bk wr ib 44 (intsA ws)) ∧ Hid (ib ∉ bl :: F) ∧ Hid (Bk wr w.heap.size 25 #[.int .i64 s0.proto, .slice s0.ca s0.cores.length s0.cc, .slice s0.ha s0.homes.length s0.hc, .slice s0.ta s0.tasks.length s0.tc]) ∧ Hid (Below w.heap.size w wr))
        case atStart => exact ⟨0, lsNew s0, F, _, by omega, rfl, HWn0, hidp ⟨rfl, rfl, by simp [lsNew]⟩, hidp (by show (0 : Int) ≤ _; omega), L0, B0, AP0, HZ4, HBa⟩
        case round =>
          clear HWn0 L0 B0 AP0 HZ4 HBa
          obtain ⟨i, s, F, ws, hi, rfl, HWn, HSH, HCn, L, B, AP, HZ, HB⟩ := hrel
          have Hi := hidp hi
          by_cases hlt : i < z1.length
          · obtain ⟨g, off, hA, hcl⟩ := HC.out.resolve_left (by intro e; rw [e] at hlt; simp at hlt)
            subst hA
            have hfk := HF.out (z1.getD i (0, 0, 0)) (by simp [List.getD, hlt])
            obtain ⟨x, Hx⟩ : ∃ x, Hid ((z1.getD i (0, 0, 0)).1 = x) := ⟨_, hidp rfl⟩
            obtain ⟨y, Hy⟩ : ∃ x, Hid ((z1.getD i (0, 0, 0)).2.1 = x) := ⟨_, hidp rfl⟩
            obtain ⟨v, Hv⟩ : ∃ x, Hid ((z1.getD i (0, 0, 0)).2.2 = x) := ⟨_, hidp rfl⟩
            have hc2 := hcl i hlt
            rw [Hx.out, Hy.out, Hv.out] at hc2 hfk
            obtain ⟨fx, fy, fv⟩ := hfk
            have cx := Keeps.of_below HB.out _ _ hc2.1
            have cy := Keeps.of_below HB.out _ _ hc2.2.1
            have cv := Keeps.of_below HB.out _ _ hc2.2.2
            have hal := (Below.refl wr.heap.size wr).alloc (Nat.le_refl _) (.cells #[.int .i64 x, .int .i64 y, .int .i64 v] 34)
            have La := hidp (L.out.over hal)
            have Ba := hidp (B.out.turned (Turned.of_below hal []) (by simp))
            have HZa := hidp (HZ.out.turned (Turned.of_below hal []) (by simp))
            have HBa := hidp (HB.out.trans (hal.mono HB.out.size))
            have BXk := Bk.new wr 34 #[.int .i64 x, .int .i64 y, .int .i64 v]
            have HBX := hidp BXk
            have bx0 : (wr.alloc (.cells #[.int .i64 x, .int .i64 y, .int .i64 v] 34)).cell? ⟨wr.heap.size, 0, none⟩ = some (.int .i64 x) := BXk.cell 0
            have bx1 : (wr.alloc (.cells #[.int .i64 x, .int .i64 y, .int .i64 v] 34)).cell? ⟨wr.heap.size, 1, none⟩ = some (.int .i64 y) := BXk.cell 1
            have bx2 : (wr.alloc (.cells #[.int .i64 x, .int .i64 y, .int .i64 v] 34)).cell? ⟨wr.heap.size, 2, none⟩ = some (.int .i64 v) := BXk.cell 2
            have HAX : Hid (wr.heap.size ∉ bl :: F) := hidp (fun hm => by have := L.out.lt _ hm; omega)
            have d3 : decide (z1.length ≤ i) = false := decide_eq_false (by omega)
            have jI : (i : Int) < (z1.length : Int) := by omega
            have hi60 : i < 60 := by omega
            have hpr : s.proto = 1 ∨ s.proto = 2 ∨ s.proto = 3 ∨ s.prio.length = 0 := by rw [HSH.out.1]; have := HG.out.proto; omega
            have Hpr := hidp hpr
            have HFv := hidp fv
            clear hcl hc2 fx fy fv BXk hal hpr hi
            by_cases h4 : x ≤ 4
            · have OKs := L.out.ok
              by_cases hcz : askC s y v = 0
              · have CL := li_ask La.out (t := y) (r := v) HFv.out (by have := HCn.out; omega) Hpr.out
                rw [hcz] at CL
                obtain ⟨hw2, yb0, yb1⟩ := HWn.out.ask OKs hcz
                obtain ⟨_, hv2, _⟩ := askC_zero hcz
                unfold Ls.hasR at hv2
                rw [HSH.out.2.1] at hv2
                have hnh := HG.out.nhomes
                obtain ⟨yn, rfl⟩ : ∃ yn : Nat, y = (yn : Int) := ⟨y.toNat, by omega⟩
                rw [Int.toNat_natCast] at hw2
                have HW2 := hidp hw2
                have yn6 : yn < 6 := by omega
                have wv : IntKind.i64.wrap (v + 1) = v + 1 := IntWalk.i64_in _ (by omega)
                have dy6 : decide (6 ≤ yn) = false := decide_eq_false (by omega)
                have hct := hidp (ask_count s (yn : Int) v).1
                have hsa := hidp (same_ask s (yn : Int) v)
                clear hw2 hcz OKs hv2
                go_wp2_with fail
                refine CL.mono ?_
                rintro e wx ⟨rfl, F2, l2, st2⟩
                have HV : Hid (v + 1 = v + 1) := hidp rfl
                have AP2a : ib ∉ bl :: F2 := fun hm => by
                  rcases List.mem_cons.1 hm with h | h
                  · exact AP.out (h ▸ by simp)
                  · rcases st2.fps _ h with h | h
                    · exact AP.out (List.mem_cons_of_mem _ h)
                    · have := Ba.out.lt; omega
                have b2 := Ba.out.turned st2.turned AP.out
                have cb2 := intsA_at b2 (i := yn) (by rw [HWn.out.len]; omega)
                have fz := b2.frozen yn
                have bxx := HBX.out.turned st2.turned HAX.out
                have bz1 : wx.cell? ⟨wr.heap.size, 1, none⟩ = some (.int .i64 (yn : Int)) := bxx.cell 1
                have bz2 : wx.cell? ⟨wr.heap.size, 2, none⟩ = some (.int .i64 v) := bxx.cell 2
                have hz2 := HZa.out.turned st2.turned (fun hm => by
                  rcases List.mem_cons.1 hm with h | h
                  · have := L.out.base; have := HW1.out; omega
                  · have := L.out.news _ h; have := HW1.out; omega)
                have HBx := hidp (HBa.out.trans (st2.turned.below HBa.out.size (fun q hq => by
                  rcases List.mem_cons.1 hq with rfl | hq
                  · have := L.out.base; have := HW1.out; omega
                  · have := L.out.news q hq; have := HW1.out; omega)))
                have tz : Turned [ib] wx (wx.setCell ⟨ib, yn, none⟩ (.int .i64 (v + 1))) := (Turned.refl [ib] wx).setCell (.inl (by simp)) _
                have B2 : Hid (Bk (wx.setCell ⟨ib, yn, none⟩ (.int .i64 (v + 1))) ib 44 (intsA (ws.set yn (v + 1)))) := hidp (by have := b2.put yn (.int .i64 (v + 1)); simpa [intsA] using this)
                have L2 := hidp (l2.turned tz (fun q hq hm => by rw [List.mem_singleton] at hm; subst hm; exact AP2a hq) (fun q hq => by rw [List.mem_singleton] at hq; subst hq; have := HIB.out; omega))
                have HZ2 := hidp (hz2.turned tz (by intro hm; rw [List.mem_singleton] at hm; have := HIB.out; have := HW1.out; omega))
                have HB2 := hidp (HBx.out.trans (tz.below HBx.out.size (fun q hq => by rw [List.mem_singleton] at hq; have := HIB.out; have := HW1.out; omega)))
                have AP2 := hidp AP2a
                have HWn2 := HW2
                have HSH2 : Hid ((askS s (yn : Int) v).proto = s0.proto ∧ (askS s (yn : Int) v).homes = s0.homes ∧ (askS s (yn : Int) v).prio.length = s0.tasks.length) := hidp (by rw [hsa.out.proto, hsa.out.homes, hsa.out.prio]; exact HSH.out)
                have HC2 : Hid ((askS s (yn : Int) v).count ≤ 7 * (i : Int) + 1) := hidp (by have := HCn.out; have := hct.out; omega)
                obtain ⟨s2, hs2⟩ : ∃ s2, askS s (yn : Int) v = s2 := ⟨_, rfl⟩
                obtain ⟨ws2, hw2⟩ : ∃ ws2, ws.set yn (v + 1) = ws2 := ⟨_, rfl⟩
                rw [hs2] at L2 HWn2 HSH2 HC2
                rw [hw2] at HWn2 B2
                clear hs2 hw2 CL l2 st2 b2 tz AP2a bxx hz2
                obtain ⟨wz, hwz⟩ : ∃ wz, wx.setCell ⟨ib, yn, none⟩ (.int .i64 (v + 1)) = wz := ⟨_, rfl⟩
                rw [hwz] at B2 L2 HB2 HZ2
                go_wp2_with fail
                try rw [hwz]
                clear hwz bx0 bx1 bx2 bz1 bz2 cx cy cv
                have CG := li_grant L2.out (by have := HC2.out; omega)
                go_wp2_with fail
                refine CG.mono ?_
                rintro e w3 ⟨A9, n9, c9, F3, rfl, o9, l3, s3, ap9⟩
                have OK2 := hidp L2.out.ok
                obtain ⟨full, outs⟩ := grant_full OK2.out
                have HFu := hidp full
                have HOu := hidp outs
                have HW3 := hidp HWn2.out.grant
                have HSH3 : Hid ((grantS s2).proto = s0.proto ∧ (grantS s2).homes = s0.homes ∧ (grantS s2).prio.length = s0.tasks.length) := hidp (by
                  have hsm := same_grant s2
                  rw [hsm.proto, hsm.homes, hsm.prio]; exact HSH2.out)
                have HC3 : Hid ((grantS s2).count ≤ 7 * ((i + 1 : Nat) : Int)) := hidp (by have := HC2.out; have := (grant_count OK2.out).1; omega)
                have B3 := hidp (B2.out.turned s3.turned AP2.out)
                have HZ3 := hidp (HZ2.out.turned s3.turned (fun hm => by
                  rcases List.mem_cons.1 hm with h | h
                  · have := L2.out.base; have := HW1.out; omega
                  · have := L2.out.news _ h; have := HW1.out; omega))
                have AP3 : Hid (ib ∉ bl :: F3) := hidp (fun hm => by
                  rcases List.mem_cons.1 hm with h | h
                  · exact AP2.out (h ▸ by simp)
                  · rcases s3.fps _ h with h | h
                    · exact AP2.out (List.mem_cons_of_mem _ h)
                    · have := B2.out.lt; omega)
                have HB3 := hidp (HB2.out.trans (s3.turned.below HB2.out.size (fun q hq => by
                  rcases List.mem_cons.1 hq with rfl | hq
                  · have := L2.out.base; have := HW1.out; omega
                  · have := L2.out.news q hq; have := HW1.out; omega)))
                obtain ⟨gl, hgl⟩ : ∃ gl, grantL s2 = gl := ⟨_, rfl⟩
                obtain ⟨s4, hs4⟩ : ∃ s4, grantS s2 = s4 := ⟨_, rfl⟩
                rw [hgl] at o9 HOu
                rw [hs4] at l3 HFu HOu HW3 HSH3 HC3
                have L3 := hidp l3
                have O9 := hidp o9
                have hn9 : n9 = gl.length := o9.2.1
                have hn9m : n9 ≤ maxLen := Nat.le_trans o9.2.2.1 o9.2.2.2.1
                unfold maxLen at hn9m
                clear CG l3 s3 ap9 o9 full outs hgl hs4
                go_wp2
                go_loopg [10] n9 (fun g kv wr2 => ∃ k : Nat, k + g = n9 ∧ kv = .int .i64 k ∧ Hid (Below w3.heap.size w3 wr2))
                case atStart => exact ⟨0, by omega, rfl, hidp (Below.refl _ _)⟩
                case round =>
                  obtain ⟨k, hk, rfl, HQ⟩ := hrel
                  have Hk := hidp hk
                  by_cases hk9 : k < n9
                  · obtain ⟨g9, hg9, ck0⟩ := own_cell O9.out (i := k) (by omega)
                    obtain ⟨gk, hgk⟩ : ∃ gk, gl.getD k 0 = gk := ⟨_, rfl⟩
                    rw [hgk] at ck0
                    have hmem : gk ∈ gl := by rw [← hgk]; simp [List.getD, show k < gl.length by omega]
                    have hho := HOu.out gk hmem
                    have LL := L3.out.over HQ.out
                    have CH := li_holds (LL.over (Below.refl wr.heap.size wr).drew) gk
                    rw [hho] at CH
                    have hget : ∃ a ∈ s4.L, a.task = gk ∧ s4.get gk = some a := by
                      unfold holdsS at hho
                      cases hx : s4.get gk with
                      | none => rw [hx] at hho; cases hho
                      | some a => exact ⟨a, (get_mem hx).1, (get_mem hx).2, rfl⟩
                    obtain ⟨a, ham, hat, hag⟩ := hget
                    have hht := L3.out.ok.tk a ham
                    have hrr := L3.out.ok.rs a ham
                    have hpl := HSH3.out.2.2
                    unfold Ls.has at hht
                    unfold Ls.hasR at hrr
                    obtain ⟨tk, rfl⟩ : ∃ tk : Nat, gk = (tk : Int) := ⟨gk.toNat, by omega⟩
                    have tk6 : tk < 6 := by have := HG.out.ntasks.2; omega
                    have tkn : (tk : Int) < (s0.tasks.length : Int) := by omega
                    obtain ⟨wk, hwk⟩ : ∃ wk, ws2.getD tk 0 = wk := ⟨_, rfl⟩
                    have hwk1 : 1 ≤ wk := by
                      rw [← hwk, HW3.out.at_ tk tk6]
                      unfold wantS
                      rw [hag]; dsimp only; omega
                    have cwk := intsA_at (B3.out.turned (Turned.of_below HQ.out []) (by simp)) (i := tk) (by rw [HW3.out.len]; exact tk6)
                    rw [hwk] at cwk
                    have ck := Keeps.of_below HQ.out _ _ ck0
                    have c3 : wr.cell? ⟨w.heap.size, 3, none⟩ = some (.slice s0.ta s0.tasks.length s0.tc) := Keeps.of_below HQ.out _ _ (HZ3.out.cell 3)
                    have hs : wr.drew.cell? ⟨g9, k, none⟩ = some (.int .i64 (tk : Int)) ∧ wr.drew.cell? ⟨w.heap.size, 3, none⟩ = some (.slice s0.ta s0.tasks.length s0.tc) ∧ wr.drew.cell? ⟨ib, tk, none⟩ = some (.int .i64 wk) := ⟨ck, c3, cwk⟩
                    have d1 : decide ((tk : Int) < 0) = false := decide_eq_false (by omega)
                    have d2 : decide (s0.tasks.length ≤ tk) = false := decide_eq_false (by omega)
                    have d2' : decide ((s0.tasks.length : Int) ≤ (tk : Int)) = false := decide_eq_false (by omega)
                    have d3 : decide (n9 ≤ k) = false := decide_eq_false (by omega)
                    have d6 : decide (6 ≤ tk) = false := decide_eq_false (by omega)
                    have d5 : (wk == 0) = false := by simp; omega
                    have tI0 : (0 : Int) ≤ (tk : Int) := by omega
                    have tI6 : (tk : Int) < 6 := by omega
                    have tI5 : (tk : Int) ≤ 5 := by omega
                    have tI6' : (tk : Int) ≤ 6 := by omega
                    have wk1 : IntKind.i64.wrap ((k : Int) + 1) = (k : Int) + 1 := IntWalk.i64_in _ (by omega)
                    have kI : (k : Int) < (n9 : Int) := by omega
                    have HQ2 := hidp (HQ.out.drew)
                    clear hgk hmem hho LL ham hat hag hht hrr hpl hwk cwk ck c3 ck0
                    subst hg9
                    go_wp2_with fail
                    go_region_held3 (fun w' => w'.cell? ⟨g9, k, none⟩ = some (.int .i64 (tk : Int)) ∧ w'.cell? ⟨w.heap.size, 3, none⟩ = some (.slice s0.ta s0.tasks.length s0.tc) ∧ w'.cell? ⟨ib, tk, none⟩ = some (.int .i64 wk)) (exact hs)
                      (first
                        | (go_at_call 21; refine CH.mono ?_; rintro e u ⟨rfl, rfl⟩))
                    go_wp2_with fail
                    go_roundg (n9 - k - 1)
                    case measure => have := Hk.out; omega
                    case rel => exact ⟨k + 1, by have := Hk.out; omega, by go_num, HQ2⟩
                  · obtain rfl : k = n9 := by omega
                    have L4 := hidp (L3.out.over HQ.out)
                    have B4 := hidp (B3.out.turned (Turned.of_below HQ.out []) (by simp))
                    have HZ4 := hidp (HZ3.out.turned (Turned.of_below HQ.out []) (by simp))
                    have HB4 := hidp (HB3.out.trans (HQ.out.mono HB3.out.size))
                    have SO4 := HSO.out.keep (Keeps.of_below HB4.out)
                    obtain ⟨a0, a1, a2, a3, a4, a5, hws⟩ : ∃ a0 a1 a2 a3 a4 a5, ws2 = [a0, a1, a2, a3, a4, a5] := by
                      have hl6 := HW3.out.len
                      match ws2, hl6 with
                      | [a0, a1, a2, a3, a4, a5], _ => exact ⟨a0, a1, a2, a3, a4, a5, rfl⟩
                    have HW4 := HW3.out
                    rw [hws] at HW4
                    have CHH := holders23_any s0 SO4 HG.out L4.out HSH3.out HFu.out HW4
                    have z0 : wr.cell? ⟨w.heap.size, 0, none⟩ = some (.int .i64 s0.proto) := HZ4.out.cell 0
                    have z1 : wr.cell? ⟨w.heap.size, 1, none⟩ = some (.slice s0.ca s0.cores.length s0.cc) := HZ4.out.cell 1
                    have z2 : wr.cell? ⟨w.heap.size, 2, none⟩ = some (.slice s0.ha s0.homes.length s0.hc) := HZ4.out.cell 2
                    have z3 : wr.cell? ⟨w.heap.size, 3, none⟩ = some (.slice s0.ta s0.tasks.length s0.tc) := HZ4.out.cell 3
                    have y0 := intsA_at B4.out (i := 0) (by rw [hws]; simp)
                    have y1 := intsA_at B4.out (i := 1) (by rw [hws]; simp)
                    have y2 := intsA_at B4.out (i := 2) (by rw [hws]; simp)
                    have y3 := intsA_at B4.out (i := 3) (by rw [hws]; simp)
                    have y4 := intsA_at B4.out (i := 4) (by rw [hws]; simp)
                    have y5 := intsA_at B4.out (i := 5) (by rw [hws]; simp)
                    rw [hws] at y0 y1 y2 y3 y4 y5
                    simp only [List.getD_cons_zero, List.getD_cons_succ] at y0 y1 y2 y3 y4 y5
                    have Hws := hidp hws
                    clear SO4 HW4 hws hk
                    go_wp2_with fail
                    refine CHH.mono ?_
                    rintro e w5 ⟨rfl, hb5⟩
                    have L5 := hidp (L4.out.over hb5)
                    have B5 := hidp (B4.out.turned (Turned.of_below hb5 []) (by simp))
                    have HZ5 := hidp (HZ4.out.turned (Turned.of_below hb5 []) (by simp))
                    have HB5 := hidp (HB4.out.trans (hb5.mono HB4.out.size))
                    clear CHH hb5 z0 z1 z2 z3 y0 y1 y2 y3 y4 y5
                    go_wp2_with fail
                    go_roundg (z1.length - i - 1)
                    case measure => have := Hi.out; omega
                    case rel => exact ⟨i + 1, s4, F3, ws2, by have := Hi.out; omega, by go_num, HW3, HSH3, HC3, L5, B5, AP3, HZ5, HB5⟩
              · have CL := li_ask_no La.out (t := y) (r := v) hcz
                obtain ⟨qc, hqc⟩ : ∃ qc, askC s y v = qc := ⟨_, rfl⟩
                rw [hqc] at CL hcz
                have hcz2 : (qc == 0) = false := by simpa using hcz
                have L2 := La
                have B2 := Ba
                have HZ2 := HZa
                have HB2 := HBa
                have AP2 := AP
                have HWn2 := HWn
                have HSH2 := HSH
                have HC2 : Hid (s.count ≤ 7 * (i : Int) + 1) := hidp (by have := HCn.out; omega)
                clear hqc hcz OKs
                go_wp2_with fail
                refine CL.mono ?_
                rintro e u ⟨rfl, rfl⟩
                clear bx0 bx1 bx2 cx cy cv
                have CG := li_grant L2.out (by have := HC2.out; omega)
                go_wp2_with fail
                refine CG.mono ?_
                rintro e w3 ⟨A9, n9, c9, F3, rfl, o9, l3, s3, ap9⟩
                have OK2 := hidp L2.out.ok
                obtain ⟨full, outs⟩ := grant_full OK2.out
                have HFu := hidp full
                have HOu := hidp outs
                have HW3 := hidp HWn2.out.grant
                have HSH3 : Hid ((grantS s).proto = s0.proto ∧ (grantS s).homes = s0.homes ∧ (grantS s).prio.length = s0.tasks.length) := hidp (by
                  have hsm := same_grant s
                  rw [hsm.proto, hsm.homes, hsm.prio]; exact HSH2.out)
                have HC3 : Hid ((grantS s).count ≤ 7 * ((i + 1 : Nat) : Int)) := hidp (by have := HC2.out; have := (grant_count OK2.out).1; omega)
                have B3 := hidp (B2.out.turned s3.turned AP2.out)
                have HZ3 := hidp (HZ2.out.turned s3.turned (fun hm => by
                  rcases List.mem_cons.1 hm with h | h
                  · have := L2.out.base; have := HW1.out; omega
                  · have := L2.out.news _ h; have := HW1.out; omega))
                have AP3 : Hid (ib ∉ bl :: F3) := hidp (fun hm => by
                  rcases List.mem_cons.1 hm with h | h
                  · exact AP2.out (h ▸ by simp)
                  · rcases s3.fps _ h with h | h
                    · exact AP2.out (List.mem_cons_of_mem _ h)
                    · have := B2.out.lt; omega)
                have HB3 := hidp (HB2.out.trans (s3.turned.below HB2.out.size (fun q hq => by
                  rcases List.mem_cons.1 hq with rfl | hq
                  · have := L2.out.base; have := HW1.out; omega
                  · have := L2.out.news q hq; have := HW1.out; omega)))
                obtain ⟨gl, hgl⟩ : ∃ gl, grantL s = gl := ⟨_, rfl⟩
                obtain ⟨s4, hs4⟩ : ∃ s4, grantS s = s4 := ⟨_, rfl⟩
                rw [hgl] at o9 HOu
                rw [hs4] at l3 HFu HOu HW3 HSH3 HC3
                have L3 := hidp l3
                have O9 := hidp o9
                have hn9 : n9 = gl.length := o9.2.1
                have hn9m : n9 ≤ maxLen := Nat.le_trans o9.2.2.1 o9.2.2.2.1
                unfold maxLen at hn9m
                clear CG l3 s3 ap9 o9 full outs hgl hs4
                go_wp2
                go_loopg [10] n9 (fun g kv wr2 => ∃ k : Nat, k + g = n9 ∧ kv = .int .i64 k ∧ Hid (Below w3.heap.size w3 wr2))
                case atStart => exact ⟨0, by omega, rfl, hidp (Below.refl _ _)⟩
                case round =>
                  obtain ⟨k, hk, rfl, HQ⟩ := hrel
                  have Hk := hidp hk
                  by_cases hk9 : k < n9
                  · obtain ⟨g9, hg9, ck0⟩ := own_cell O9.out (i := k) (by omega)
                    obtain ⟨gk, hgk⟩ : ∃ gk, gl.getD k 0 = gk := ⟨_, rfl⟩
                    rw [hgk] at ck0
                    have hmem : gk ∈ gl := by rw [← hgk]; simp [List.getD, show k < gl.length by omega]
                    have hho := HOu.out gk hmem
                    have LL := L3.out.over HQ.out
                    have CH := li_holds (LL.over (Below.refl wr.heap.size wr).drew) gk
                    rw [hho] at CH
                    have hget : ∃ a ∈ s4.L, a.task = gk ∧ s4.get gk = some a := by
                      unfold holdsS at hho
                      cases hx : s4.get gk with
                      | none => rw [hx] at hho; cases hho
                      | some a => exact ⟨a, (get_mem hx).1, (get_mem hx).2, rfl⟩
                    obtain ⟨a, ham, hat, hag⟩ := hget
                    have hht := L3.out.ok.tk a ham
                    have hrr := L3.out.ok.rs a ham
                    have hpl := HSH3.out.2.2
                    unfold Ls.has at hht
                    unfold Ls.hasR at hrr
                    obtain ⟨tk, rfl⟩ : ∃ tk : Nat, gk = (tk : Int) := ⟨gk.toNat, by omega⟩
                    have tk6 : tk < 6 := by have := HG.out.ntasks.2; omega
                    have tkn : (tk : Int) < (s0.tasks.length : Int) := by omega
                    obtain ⟨wk, hwk⟩ : ∃ wk, ws.getD tk 0 = wk := ⟨_, rfl⟩
                    have hwk1 : 1 ≤ wk := by
                      rw [← hwk, HW3.out.at_ tk tk6]
                      unfold wantS
                      rw [hag]; dsimp only; omega
                    have cwk := intsA_at (B3.out.turned (Turned.of_below HQ.out []) (by simp)) (i := tk) (by rw [HW3.out.len]; exact tk6)
                    rw [hwk] at cwk
                    have ck := Keeps.of_below HQ.out _ _ ck0
                    have c3 : wr.cell? ⟨w.heap.size, 3, none⟩ = some (.slice s0.ta s0.tasks.length s0.tc) := Keeps.of_below HQ.out _ _ (HZ3.out.cell 3)
                    have hs : wr.drew.cell? ⟨g9, k, none⟩ = some (.int .i64 (tk : Int)) ∧ wr.drew.cell? ⟨w.heap.size, 3, none⟩ = some (.slice s0.ta s0.tasks.length s0.tc) ∧ wr.drew.cell? ⟨ib, tk, none⟩ = some (.int .i64 wk) := ⟨ck, c3, cwk⟩
                    have d1 : decide ((tk : Int) < 0) = false := decide_eq_false (by omega)
                    have d2 : decide (s0.tasks.length ≤ tk) = false := decide_eq_false (by omega)
                    have d2' : decide ((s0.tasks.length : Int) ≤ (tk : Int)) = false := decide_eq_false (by omega)
                    have d3 : decide (n9 ≤ k) = false := decide_eq_false (by omega)
                    have d6 : decide (6 ≤ tk) = false := decide_eq_false (by omega)
                    have d5 : (wk == 0) = false := by simp; omega
                    have tI0 : (0 : Int) ≤ (tk : Int) := by omega
                    have tI6 : (tk : Int) < 6 := by omega
                    have tI5 : (tk : Int) ≤ 5 := by omega
                    have tI6' : (tk : Int) ≤ 6 := by omega
                    have wk1 : IntKind.i64.wrap ((k : Int) + 1) = (k : Int) + 1 := IntWalk.i64_in _ (by omega)
                    have kI : (k : Int) < (n9 : Int) := by omega
                    have HQ2 := hidp (HQ.out.drew)
                    clear hgk hmem hho LL ham hat hag hht hrr hpl hwk cwk ck c3 ck0
                    subst hg9
                    go_wp2_with fail
                    go_region_held3 (fun w' => w'.cell? ⟨g9, k, none⟩ = some (.int .i64 (tk : Int)) ∧ w'.cell? ⟨w.heap.size, 3, none⟩ = some (.slice s0.ta s0.tasks.length s0.tc) ∧ w'.cell? ⟨ib, tk, none⟩ = some (.int .i64 wk)) (exact hs)
                      (first
                        | (go_at_call 21; refine CH.mono ?_; rintro e u ⟨rfl, rfl⟩))
                    go_wp2_with fail
                    go_roundg (n9 - k - 1)
                    case measure => have := Hk.out; omega
                    case rel => exact ⟨k + 1, by have := Hk.out; omega, by go_num, HQ2⟩
                  · obtain rfl : k = n9 := by omega
                    have L4 := hidp (L3.out.over HQ.out)
                    have B4 := hidp (B3.out.turned (Turned.of_below HQ.out []) (by simp))
                    have HZ4 := hidp (HZ3.out.turned (Turned.of_below HQ.out []) (by simp))
                    have HB4 := hidp (HB3.out.trans (HQ.out.mono HB3.out.size))
                    have SO4 := HSO.out.keep (Keeps.of_below HB4.out)
                    obtain ⟨a0, a1, a2, a3, a4, a5, hws⟩ : ∃ a0 a1 a2 a3 a4 a5, ws = [a0, a1, a2, a3, a4, a5] := by
                      have hl6 := HW3.out.len
                      match ws, hl6 with
                      | [a0, a1, a2, a3, a4, a5], _ => exact ⟨a0, a1, a2, a3, a4, a5, rfl⟩
                    have HW4 := HW3.out
                    rw [hws] at HW4
                    have CHH := holders23_any s0 SO4 HG.out L4.out HSH3.out HFu.out HW4
                    have z0 : wr.cell? ⟨w.heap.size, 0, none⟩ = some (.int .i64 s0.proto) := HZ4.out.cell 0
                    have z1 : wr.cell? ⟨w.heap.size, 1, none⟩ = some (.slice s0.ca s0.cores.length s0.cc) := HZ4.out.cell 1
                    have z2 : wr.cell? ⟨w.heap.size, 2, none⟩ = some (.slice s0.ha s0.homes.length s0.hc) := HZ4.out.cell 2
                    have z3 : wr.cell? ⟨w.heap.size, 3, none⟩ = some (.slice s0.ta s0.tasks.length s0.tc) := HZ4.out.cell 3
                    have y0 := intsA_at B4.out (i := 0) (by rw [hws]; simp)
                    have y1 := intsA_at B4.out (i := 1) (by rw [hws]; simp)
                    have y2 := intsA_at B4.out (i := 2) (by rw [hws]; simp)
                    have y3 := intsA_at B4.out (i := 3) (by rw [hws]; simp)
                    have y4 := intsA_at B4.out (i := 4) (by rw [hws]; simp)
                    have y5 := intsA_at B4.out (i := 5) (by rw [hws]; simp)
                    rw [hws] at y0 y1 y2 y3 y4 y5
                    simp only [List.getD_cons_zero, List.getD_cons_succ] at y0 y1 y2 y3 y4 y5
                    have Hws := hidp hws
                    clear SO4 HW4 hws hk
                    go_wp2_with fail
                    refine CHH.mono ?_
                    rintro e w5 ⟨rfl, hb5⟩
                    have L5 := hidp (L4.out.over hb5)
                    have B5 := hidp (B4.out.turned (Turned.of_below hb5 []) (by simp))
                    have HZ5 := hidp (HZ4.out.turned (Turned.of_below hb5 []) (by simp))
                    have HB5 := hidp (HB4.out.trans (hb5.mono HB4.out.size))
                    clear CHH hb5 z0 z1 z2 z3 y0 y1 y2 y3 y4 y5
                    go_wp2_with fail
                    go_roundg (z1.length - i - 1)
                    case measure => have := Hi.out; omega
                    case rel => exact ⟨i + 1, s4, F3, ws, by have := Hi.out; omega, by go_num, HW3, HSH3, HC3, L5, B5, AP3, HZ5, HB5⟩
            · have CL := li_leave La.out y
              have OKs := L.out.ok
              by_cases hcz : leaveC s y = 0
              · rw [hcz] at CL
                obtain ⟨hw2, yb0, yb1⟩ := HWn.out.leave OKs hcz
                obtain ⟨yn, rfl⟩ : ∃ yn : Nat, y = (yn : Int) := ⟨y.toNat, by omega⟩
                rw [Int.toNat_natCast] at hw2
                have HW2 := hidp hw2
                have yn6 : yn < 6 := by omega
                have dy6 : decide (6 ≤ yn) = false := decide_eq_false (by omega)
                have hct : Hid ((leaveS s (yn : Int)).count ≤ s.count + 1) := hidp (by show s.count ≤ _; omega)
                have hsa := hidp (same_leave s (yn : Int))
                clear hw2 hcz OKs
                go_wp2_with fail
                refine CL.mono ?_
                rintro e wx ⟨rfl, F2, l2, st2⟩
                have AP2a : ib ∉ bl :: F2 := fun hm => by
                  rcases List.mem_cons.1 hm with h | h
                  · exact AP.out (h ▸ by simp)
                  · rcases st2.fps _ h with h | h
                    · exact AP.out (List.mem_cons_of_mem _ h)
                    · have := Ba.out.lt; omega
                have b2 := Ba.out.turned st2.turned AP.out
                have cb2 := intsA_at b2 (i := yn) (by rw [HWn.out.len]; omega)
                have fz := b2.frozen yn
                have bxx := HBX.out.turned st2.turned HAX.out
                have bz1 : wx.cell? ⟨wr.heap.size, 1, none⟩ = some (.int .i64 (yn : Int)) := bxx.cell 1
                have bz2 : wx.cell? ⟨wr.heap.size, 2, none⟩ = some (.int .i64 v) := bxx.cell 2
                have hz2 := HZa.out.turned st2.turned (fun hm => by
                  rcases List.mem_cons.1 hm with h | h
                  · have := L.out.base; have := HW1.out; omega
                  · have := L.out.news _ h; have := HW1.out; omega)
                have HBx := hidp (HBa.out.trans (st2.turned.below HBa.out.size (fun q hq => by
                  rcases List.mem_cons.1 hq with rfl | hq
                  · have := L.out.base; have := HW1.out; omega
                  · have := L.out.news q hq; have := HW1.out; omega)))
                have tz : Turned [ib] wx (wx.setCell ⟨ib, yn, none⟩ (.int .i64 0)) := (Turned.refl [ib] wx).setCell (.inl (by simp)) _
                have B2 : Hid (Bk (wx.setCell ⟨ib, yn, none⟩ (.int .i64 0)) ib 44 (intsA (ws.set yn 0))) := hidp (by have := b2.put yn (.int .i64 0); simpa [intsA] using this)
                have L2 := hidp (l2.turned tz (fun q hq hm => by rw [List.mem_singleton] at hm; subst hm; exact AP2a hq) (fun q hq => by rw [List.mem_singleton] at hq; subst hq; have := HIB.out; omega))
                have HZ2 := hidp (hz2.turned tz (by intro hm; rw [List.mem_singleton] at hm; have := HIB.out; have := HW1.out; omega))
                have HB2 := hidp (HBx.out.trans (tz.below HBx.out.size (fun q hq => by rw [List.mem_singleton] at hq; have := HIB.out; have := HW1.out; omega)))
                have AP2 := hidp AP2a
                have HWn2 := HW2
                have HSH2 : Hid ((leaveS s (yn : Int)).proto = s0.proto ∧ (leaveS s (yn : Int)).homes = s0.homes ∧ (leaveS s (yn : Int)).prio.length = s0.tasks.length) := hidp (by rw [hsa.out.proto, hsa.out.homes, hsa.out.prio]; exact HSH.out)
                have HC2 : Hid ((leaveS s (yn : Int)).count ≤ 7 * (i : Int) + 1) := hidp (by have := HCn.out; have := hct.out; omega)
                obtain ⟨s2, hs2⟩ : ∃ s2, leaveS s (yn : Int) = s2 := ⟨_, rfl⟩
                obtain ⟨ws2, hw2⟩ : ∃ ws2, ws.set yn 0 = ws2 := ⟨_, rfl⟩
                rw [hs2] at L2 HWn2 HSH2 HC2
                rw [hw2] at HWn2 B2
                clear hs2 hw2 CL l2 st2 b2 tz AP2a bxx hz2
                obtain ⟨wz, hwz⟩ : ∃ wz, wx.setCell ⟨ib, yn, none⟩ (.int .i64 0) = wz := ⟨_, rfl⟩
                rw [hwz] at B2 L2 HB2 HZ2
                go_wp2_with fail
                try rw [hwz]
                clear hwz bx0 bx1 bx2 bz1 bz2 cx cy cv
                have CG := li_grant L2.out (by have := HC2.out; omega)
                go_wp2_with fail
                refine CG.mono ?_
                rintro e w3 ⟨A9, n9, c9, F3, rfl, o9, l3, s3, ap9⟩
                have OK2 := hidp L2.out.ok
                obtain ⟨full, outs⟩ := grant_full OK2.out
                have HFu := hidp full
                have HOu := hidp outs
                have HW3 := hidp HWn2.out.grant
                have HSH3 : Hid ((grantS s2).proto = s0.proto ∧ (grantS s2).homes = s0.homes ∧ (grantS s2).prio.length = s0.tasks.length) := hidp (by
                  have hsm := same_grant s2
                  rw [hsm.proto, hsm.homes, hsm.prio]; exact HSH2.out)
                have HC3 : Hid ((grantS s2).count ≤ 7 * ((i + 1 : Nat) : Int)) := hidp (by have := HC2.out; have := (grant_count OK2.out).1; omega)
                have B3 := hidp (B2.out.turned s3.turned AP2.out)
                have HZ3 := hidp (HZ2.out.turned s3.turned (fun hm => by
                  rcases List.mem_cons.1 hm with h | h
                  · have := L2.out.base; have := HW1.out; omega
                  · have := L2.out.news _ h; have := HW1.out; omega))
                have AP3 : Hid (ib ∉ bl :: F3) := hidp (fun hm => by
                  rcases List.mem_cons.1 hm with h | h
                  · exact AP2.out (h ▸ by simp)
                  · rcases s3.fps _ h with h | h
                    · exact AP2.out (List.mem_cons_of_mem _ h)
                    · have := B2.out.lt; omega)
                have HB3 := hidp (HB2.out.trans (s3.turned.below HB2.out.size (fun q hq => by
                  rcases List.mem_cons.1 hq with rfl | hq
                  · have := L2.out.base; have := HW1.out; omega
                  · have := L2.out.news q hq; have := HW1.out; omega)))
                obtain ⟨gl, hgl⟩ : ∃ gl, grantL s2 = gl := ⟨_, rfl⟩
                obtain ⟨s4, hs4⟩ : ∃ s4, grantS s2 = s4 := ⟨_, rfl⟩
                rw [hgl] at o9 HOu
                rw [hs4] at l3 HFu HOu HW3 HSH3 HC3
                have L3 := hidp l3
                have O9 := hidp o9
                have hn9 : n9 = gl.length := o9.2.1
                have hn9m : n9 ≤ maxLen := Nat.le_trans o9.2.2.1 o9.2.2.2.1
                unfold maxLen at hn9m
                clear CG l3 s3 ap9 o9 full outs hgl hs4
                go_wp2
                go_loopg [10] n9 (fun g kv wr2 => ∃ k : Nat, k + g = n9 ∧ kv = .int .i64 k ∧ Hid (Below w3.heap.size w3 wr2))
                case atStart => exact ⟨0, by omega, rfl, hidp (Below.refl _ _)⟩
                case round =>
                  obtain ⟨k, hk, rfl, HQ⟩ := hrel
                  have Hk := hidp hk
                  by_cases hk9 : k < n9
                  · obtain ⟨g9, hg9, ck0⟩ := own_cell O9.out (i := k) (by omega)
                    obtain ⟨gk, hgk⟩ : ∃ gk, gl.getD k 0 = gk := ⟨_, rfl⟩
                    rw [hgk] at ck0
                    have hmem : gk ∈ gl := by rw [← hgk]; simp [List.getD, show k < gl.length by omega]
                    have hho := HOu.out gk hmem
                    have LL := L3.out.over HQ.out
                    have CH := li_holds (LL.over (Below.refl wr.heap.size wr).drew) gk
                    rw [hho] at CH
                    have hget : ∃ a ∈ s4.L, a.task = gk ∧ s4.get gk = some a := by
                      unfold holdsS at hho
                      cases hx : s4.get gk with
                      | none => rw [hx] at hho; cases hho
                      | some a => exact ⟨a, (get_mem hx).1, (get_mem hx).2, rfl⟩
                    obtain ⟨a, ham, hat, hag⟩ := hget
                    have hht := L3.out.ok.tk a ham
                    have hrr := L3.out.ok.rs a ham
                    have hpl := HSH3.out.2.2
                    unfold Ls.has at hht
                    unfold Ls.hasR at hrr
                    obtain ⟨tk, rfl⟩ : ∃ tk : Nat, gk = (tk : Int) := ⟨gk.toNat, by omega⟩
                    have tk6 : tk < 6 := by have := HG.out.ntasks.2; omega
                    have tkn : (tk : Int) < (s0.tasks.length : Int) := by omega
                    obtain ⟨wk, hwk⟩ : ∃ wk, ws2.getD tk 0 = wk := ⟨_, rfl⟩
                    have hwk1 : 1 ≤ wk := by
                      rw [← hwk, HW3.out.at_ tk tk6]
                      unfold wantS
                      rw [hag]; dsimp only; omega
                    have cwk := intsA_at (B3.out.turned (Turned.of_below HQ.out []) (by simp)) (i := tk) (by rw [HW3.out.len]; exact tk6)
                    rw [hwk] at cwk
                    have ck := Keeps.of_below HQ.out _ _ ck0
                    have c3 : wr.cell? ⟨w.heap.size, 3, none⟩ = some (.slice s0.ta s0.tasks.length s0.tc) := Keeps.of_below HQ.out _ _ (HZ3.out.cell 3)
                    have hs : wr.drew.cell? ⟨g9, k, none⟩ = some (.int .i64 (tk : Int)) ∧ wr.drew.cell? ⟨w.heap.size, 3, none⟩ = some (.slice s0.ta s0.tasks.length s0.tc) ∧ wr.drew.cell? ⟨ib, tk, none⟩ = some (.int .i64 wk) := ⟨ck, c3, cwk⟩
                    have d1 : decide ((tk : Int) < 0) = false := decide_eq_false (by omega)
                    have d2 : decide (s0.tasks.length ≤ tk) = false := decide_eq_false (by omega)
                    have d2' : decide ((s0.tasks.length : Int) ≤ (tk : Int)) = false := decide_eq_false (by omega)
                    have d3 : decide (n9 ≤ k) = false := decide_eq_false (by omega)
                    have d6 : decide (6 ≤ tk) = false := decide_eq_false (by omega)
                    have d5 : (wk == 0) = false := by simp; omega
                    have tI0 : (0 : Int) ≤ (tk : Int) := by omega
                    have tI6 : (tk : Int) < 6 := by omega
                    have tI5 : (tk : Int) ≤ 5 := by omega
                    have tI6' : (tk : Int) ≤ 6 := by omega
                    have wk1 : IntKind.i64.wrap ((k : Int) + 1) = (k : Int) + 1 := IntWalk.i64_in _ (by omega)
                    have kI : (k : Int) < (n9 : Int) := by omega
                    have HQ2 := hidp (HQ.out.drew)
                    clear hgk hmem hho LL ham hat hag hht hrr hpl hwk cwk ck c3 ck0
                    subst hg9
                    go_wp2_with fail
                    go_region_held3 (fun w' => w'.cell? ⟨g9, k, none⟩ = some (.int .i64 (tk : Int)) ∧ w'.cell? ⟨w.heap.size, 3, none⟩ = some (.slice s0.ta s0.tasks.length s0.tc) ∧ w'.cell? ⟨ib, tk, none⟩ = some (.int .i64 wk)) (exact hs)
                      (first
                        | (go_at_call 21; refine CH.mono ?_; rintro e u ⟨rfl, rfl⟩))
                    go_wp2_with fail
                    go_roundg (n9 - k - 1)
                    case measure => have := Hk.out; omega
                    case rel => exact ⟨k + 1, by have := Hk.out; omega, by go_num, HQ2⟩
                  · obtain rfl : k = n9 := by omega
                    have L4 := hidp (L3.out.over HQ.out)
                    have B4 := hidp (B3.out.turned (Turned.of_below HQ.out []) (by simp))
                    have HZ4 := hidp (HZ3.out.turned (Turned.of_below HQ.out []) (by simp))
                    have HB4 := hidp (HB3.out.trans (HQ.out.mono HB3.out.size))
                    have SO4 := HSO.out.keep (Keeps.of_below HB4.out)
                    obtain ⟨a0, a1, a2, a3, a4, a5, hws⟩ : ∃ a0 a1 a2 a3 a4 a5, ws2 = [a0, a1, a2, a3, a4, a5] := by
                      have hl6 := HW3.out.len
                      match ws2, hl6 with
                      | [a0, a1, a2, a3, a4, a5], _ => exact ⟨a0, a1, a2, a3, a4, a5, rfl⟩
                    have HW4 := HW3.out
                    rw [hws] at HW4
                    have CHH := holders23_any s0 SO4 HG.out L4.out HSH3.out HFu.out HW4
                    have z0 : wr.cell? ⟨w.heap.size, 0, none⟩ = some (.int .i64 s0.proto) := HZ4.out.cell 0
                    have z1 : wr.cell? ⟨w.heap.size, 1, none⟩ = some (.slice s0.ca s0.cores.length s0.cc) := HZ4.out.cell 1
                    have z2 : wr.cell? ⟨w.heap.size, 2, none⟩ = some (.slice s0.ha s0.homes.length s0.hc) := HZ4.out.cell 2
                    have z3 : wr.cell? ⟨w.heap.size, 3, none⟩ = some (.slice s0.ta s0.tasks.length s0.tc) := HZ4.out.cell 3
                    have y0 := intsA_at B4.out (i := 0) (by rw [hws]; simp)
                    have y1 := intsA_at B4.out (i := 1) (by rw [hws]; simp)
                    have y2 := intsA_at B4.out (i := 2) (by rw [hws]; simp)
                    have y3 := intsA_at B4.out (i := 3) (by rw [hws]; simp)
                    have y4 := intsA_at B4.out (i := 4) (by rw [hws]; simp)
                    have y5 := intsA_at B4.out (i := 5) (by rw [hws]; simp)
                    rw [hws] at y0 y1 y2 y3 y4 y5
                    simp only [List.getD_cons_zero, List.getD_cons_succ] at y0 y1 y2 y3 y4 y5
                    have Hws := hidp hws
                    clear SO4 HW4 hws hk
                    go_wp2_with fail
                    refine CHH.mono ?_
                    rintro e w5 ⟨rfl, hb5⟩
                    have L5 := hidp (L4.out.over hb5)
                    have B5 := hidp (B4.out.turned (Turned.of_below hb5 []) (by simp))
                    have HZ5 := hidp (HZ4.out.turned (Turned.of_below hb5 []) (by simp))
                    have HB5 := hidp (HB4.out.trans (hb5.mono HB4.out.size))
                    clear CHH hb5 z0 z1 z2 z3 y0 y1 y2 y3 y4 y5
                    go_wp2_with fail
                    go_roundg (z1.length - i - 1)
                    case measure => have := Hi.out; omega
                    case rel => exact ⟨i + 1, s4, F3, ws2, by have := Hi.out; omega, by go_num, HW3, HSH3, HC3, L5, B5, AP3, HZ5, HB5⟩
              · have hes : leaveS s y = s := by
                  unfold leaveC at hcz
                  cases hg : s.get y with
                  | some a => rw [hg] at hcz; simp at hcz
                  | none =>
                    unfold leaveS
                    rw [List.filter_eq_self.2 (fun a ha => by have := get_none.1 hg a ha; simpa using this)]
                obtain ⟨qc, hqc⟩ : ∃ qc, leaveC s y = qc := ⟨_, rfl⟩
                rw [hqc] at CL hcz
                rw [hes] at CL
                have hcz2 : (qc == 0) = false := by simpa using hcz
                have HWn2 := HWn
                have HSH2 := HSH
                have HC2 : Hid (s.count ≤ 7 * (i : Int) + 1) := hidp (by have := HCn.out; omega)
                clear hqc hcz OKs hes
                go_wp2_with fail
                refine CL.mono ?_
                rintro e wx ⟨rfl, F2, l2, st2⟩
                have L2 := hidp l2
                have B2 := hidp (Ba.out.turned st2.turned AP.out)
                have HZ2 := hidp (HZa.out.turned st2.turned (fun hm => by
                  rcases List.mem_cons.1 hm with h | h
                  · have := L.out.base; have := HW1.out; omega
                  · have := L.out.news _ h; have := HW1.out; omega))
                have AP2 : Hid (ib ∉ bl :: F2) := hidp (fun hm => by
                  rcases List.mem_cons.1 hm with h | h
                  · exact AP.out (h ▸ by simp)
                  · rcases st2.fps _ h with h | h
                    · exact AP.out (List.mem_cons_of_mem _ h)
                    · have := Ba.out.lt; omega)
                have HB2 := hidp (HBa.out.trans (st2.turned.below HBa.out.size (fun q hq => by
                  rcases List.mem_cons.1 hq with rfl | hq
                  · have := L.out.base; have := HW1.out; omega
                  · have := L.out.news q hq; have := HW1.out; omega)))
                clear CL l2 st2 bx0 bx1 bx2 cx cy cv
                have CG := li_grant L2.out (by have := HC2.out; omega)
                go_wp2_with fail
                refine CG.mono ?_
                rintro e w3 ⟨A9, n9, c9, F3, rfl, o9, l3, s3, ap9⟩
                have OK2 := hidp L2.out.ok
                obtain ⟨full, outs⟩ := grant_full OK2.out
                have HFu := hidp full
                have HOu := hidp outs
                have HW3 := hidp HWn2.out.grant
                have HSH3 : Hid ((grantS s).proto = s0.proto ∧ (grantS s).homes = s0.homes ∧ (grantS s).prio.length = s0.tasks.length) := hidp (by
                  have hsm := same_grant s
                  rw [hsm.proto, hsm.homes, hsm.prio]; exact HSH2.out)
                have HC3 : Hid ((grantS s).count ≤ 7 * ((i + 1 : Nat) : Int)) := hidp (by have := HC2.out; have := (grant_count OK2.out).1; omega)
                have B3 := hidp (B2.out.turned s3.turned AP2.out)
                have HZ3 := hidp (HZ2.out.turned s3.turned (fun hm => by
                  rcases List.mem_cons.1 hm with h | h
                  · have := L2.out.base; have := HW1.out; omega
                  · have := L2.out.news _ h; have := HW1.out; omega))
                have AP3 : Hid (ib ∉ bl :: F3) := hidp (fun hm => by
                  rcases List.mem_cons.1 hm with h | h
                  · exact AP2.out (h ▸ by simp)
                  · rcases s3.fps _ h with h | h
                    · exact AP2.out (List.mem_cons_of_mem _ h)
                    · have := B2.out.lt; omega)
                have HB3 := hidp (HB2.out.trans (s3.turned.below HB2.out.size (fun q hq => by
                  rcases List.mem_cons.1 hq with rfl | hq
                  · have := L2.out.base; have := HW1.out; omega
                  · have := L2.out.news q hq; have := HW1.out; omega)))
                obtain ⟨gl, hgl⟩ : ∃ gl, grantL s = gl := ⟨_, rfl⟩
                obtain ⟨s4, hs4⟩ : ∃ s4, grantS s = s4 := ⟨_, rfl⟩
                rw [hgl] at o9 HOu
                rw [hs4] at l3 HFu HOu HW3 HSH3 HC3
                have L3 := hidp l3
                have O9 := hidp o9
                have hn9 : n9 = gl.length := o9.2.1
                have hn9m : n9 ≤ maxLen := Nat.le_trans o9.2.2.1 o9.2.2.2.1
                unfold maxLen at hn9m
                clear CG l3 s3 ap9 o9 full outs hgl hs4
                go_wp2
                go_loopg [10] n9 (fun g kv wr2 => ∃ k : Nat, k + g = n9 ∧ kv = .int .i64 k ∧ Hid (Below w3.heap.size w3 wr2))
                case atStart => exact ⟨0, by omega, rfl, hidp (Below.refl _ _)⟩
                case round =>
                  obtain ⟨k, hk, rfl, HQ⟩ := hrel
                  have Hk := hidp hk
                  by_cases hk9 : k < n9
                  · obtain ⟨g9, hg9, ck0⟩ := own_cell O9.out (i := k) (by omega)
                    obtain ⟨gk, hgk⟩ : ∃ gk, gl.getD k 0 = gk := ⟨_, rfl⟩
                    rw [hgk] at ck0
                    have hmem : gk ∈ gl := by rw [← hgk]; simp [List.getD, show k < gl.length by omega]
                    have hho := HOu.out gk hmem
                    have LL := L3.out.over HQ.out
                    have CH := li_holds (LL.over (Below.refl wr.heap.size wr).drew) gk
                    rw [hho] at CH
                    have hget : ∃ a ∈ s4.L, a.task = gk ∧ s4.get gk = some a := by
                      unfold holdsS at hho
                      cases hx : s4.get gk with
                      | none => rw [hx] at hho; cases hho
                      | some a => exact ⟨a, (get_mem hx).1, (get_mem hx).2, rfl⟩
                    obtain ⟨a, ham, hat, hag⟩ := hget
                    have hht := L3.out.ok.tk a ham
                    have hrr := L3.out.ok.rs a ham
                    have hpl := HSH3.out.2.2
                    unfold Ls.has at hht
                    unfold Ls.hasR at hrr
                    obtain ⟨tk, rfl⟩ : ∃ tk : Nat, gk = (tk : Int) := ⟨gk.toNat, by omega⟩
                    have tk6 : tk < 6 := by have := HG.out.ntasks.2; omega
                    have tkn : (tk : Int) < (s0.tasks.length : Int) := by omega
                    obtain ⟨wk, hwk⟩ : ∃ wk, ws.getD tk 0 = wk := ⟨_, rfl⟩
                    have hwk1 : 1 ≤ wk := by
                      rw [← hwk, HW3.out.at_ tk tk6]
                      unfold wantS
                      rw [hag]; dsimp only; omega
                    have cwk := intsA_at (B3.out.turned (Turned.of_below HQ.out []) (by simp)) (i := tk) (by rw [HW3.out.len]; exact tk6)
                    rw [hwk] at cwk
                    have ck := Keeps.of_below HQ.out _ _ ck0
                    have c3 : wr.cell? ⟨w.heap.size, 3, none⟩ = some (.slice s0.ta s0.tasks.length s0.tc) := Keeps.of_below HQ.out _ _ (HZ3.out.cell 3)
                    have hs : wr.drew.cell? ⟨g9, k, none⟩ = some (.int .i64 (tk : Int)) ∧ wr.drew.cell? ⟨w.heap.size, 3, none⟩ = some (.slice s0.ta s0.tasks.length s0.tc) ∧ wr.drew.cell? ⟨ib, tk, none⟩ = some (.int .i64 wk) := ⟨ck, c3, cwk⟩
                    have d1 : decide ((tk : Int) < 0) = false := decide_eq_false (by omega)
                    have d2 : decide (s0.tasks.length ≤ tk) = false := decide_eq_false (by omega)
                    have d2' : decide ((s0.tasks.length : Int) ≤ (tk : Int)) = false := decide_eq_false (by omega)
                    have d3 : decide (n9 ≤ k) = false := decide_eq_false (by omega)
                    have d6 : decide (6 ≤ tk) = false := decide_eq_false (by omega)
                    have d5 : (wk == 0) = false := by simp; omega
                    have tI0 : (0 : Int) ≤ (tk : Int) := by omega
                    have tI6 : (tk : Int) < 6 := by omega
                    have tI5 : (tk : Int) ≤ 5 := by omega
                    have tI6' : (tk : Int) ≤ 6 := by omega
                    have wk1 : IntKind.i64.wrap ((k : Int) + 1) = (k : Int) + 1 := IntWalk.i64_in _ (by omega)
                    have kI : (k : Int) < (n9 : Int) := by omega
                    have HQ2 := hidp (HQ.out.drew)
                    clear hgk hmem hho LL ham hat hag hht hrr hpl hwk cwk ck c3 ck0
                    subst hg9
                    go_wp2_with fail
                    go_region_held3 (fun w' => w'.cell? ⟨g9, k, none⟩ = some (.int .i64 (tk : Int)) ∧ w'.cell? ⟨w.heap.size, 3, none⟩ = some (.slice s0.ta s0.tasks.length s0.tc) ∧ w'.cell? ⟨ib, tk, none⟩ = some (.int .i64 wk)) (exact hs)
                      (first
                        | (go_at_call 21; refine CH.mono ?_; rintro e u ⟨rfl, rfl⟩))
                    go_wp2_with fail
                    go_roundg (n9 - k - 1)
                    case measure => have := Hk.out; omega
                    case rel => exact ⟨k + 1, by have := Hk.out; omega, by go_num, HQ2⟩
                  · obtain rfl : k = n9 := by omega
                    have L4 := hidp (L3.out.over HQ.out)
                    have B4 := hidp (B3.out.turned (Turned.of_below HQ.out []) (by simp))
                    have HZ4 := hidp (HZ3.out.turned (Turned.of_below HQ.out []) (by simp))
                    have HB4 := hidp (HB3.out.trans (HQ.out.mono HB3.out.size))
                    have SO4 := HSO.out.keep (Keeps.of_below HB4.out)
                    obtain ⟨a0, a1, a2, a3, a4, a5, hws⟩ : ∃ a0 a1 a2 a3 a4 a5, ws = [a0, a1, a2, a3, a4, a5] := by
                      have hl6 := HW3.out.len
                      match ws, hl6 with
                      | [a0, a1, a2, a3, a4, a5], _ => exact ⟨a0, a1, a2, a3, a4, a5, rfl⟩
                    have HW4 := HW3.out
                    rw [hws] at HW4
                    have CHH := holders23_any s0 SO4 HG.out L4.out HSH3.out HFu.out HW4
                    have z0 : wr.cell? ⟨w.heap.size, 0, none⟩ = some (.int .i64 s0.proto) := HZ4.out.cell 0
                    have z1 : wr.cell? ⟨w.heap.size, 1, none⟩ = some (.slice s0.ca s0.cores.length s0.cc) := HZ4.out.cell 1
                    have z2 : wr.cell? ⟨w.heap.size, 2, none⟩ = some (.slice s0.ha s0.homes.length s0.hc) := HZ4.out.cell 2
                    have z3 : wr.cell? ⟨w.heap.size, 3, none⟩ = some (.slice s0.ta s0.tasks.length s0.tc) := HZ4.out.cell 3
                    have y0 := intsA_at B4.out (i := 0) (by rw [hws]; simp)
                    have y1 := intsA_at B4.out (i := 1) (by rw [hws]; simp)
                    have y2 := intsA_at B4.out (i := 2) (by rw [hws]; simp)
                    have y3 := intsA_at B4.out (i := 3) (by rw [hws]; simp)
                    have y4 := intsA_at B4.out (i := 4) (by rw [hws]; simp)
                    have y5 := intsA_at B4.out (i := 5) (by rw [hws]; simp)
                    rw [hws] at y0 y1 y2 y3 y4 y5
                    simp only [List.getD_cons_zero, List.getD_cons_succ] at y0 y1 y2 y3 y4 y5
                    have Hws := hidp hws
                    clear SO4 HW4 hws hk
                    go_wp2_with fail
                    refine CHH.mono ?_
                    rintro e w5 ⟨rfl, hb5⟩
                    have L5 := hidp (L4.out.over hb5)
                    have B5 := hidp (B4.out.turned (Turned.of_below hb5 []) (by simp))
                    have HZ5 := hidp (HZ4.out.turned (Turned.of_below hb5 []) (by simp))
                    have HB5 := hidp (HB4.out.trans (hb5.mono HB4.out.size))
                    clear CHH hb5 z0 z1 z2 z3 y0 y1 y2 y3 y4 y5
                    go_wp2_with fail
                    go_roundg (z1.length - i - 1)
                    case measure => have := Hi.out; omega
                    case rel => exact ⟨i + 1, s4, F3, ws, by have := Hi.out; omega, by go_num, HW3, HSH3, HC3, L5, B5, AP3, HZ5, HB5⟩
          · obtain rfl : i = z1.length := by omega
            go_wp2
            go_ret
            exact ⟨rfl, HB.out⟩

theorem own : ownKnob Tryz.prog.godebug = none := by kernel_rfl
theorem laidOut : laidOutB Tryz.prog = true := by kernel_rfl

/-! THE ROW's STEP -/
set_option maxRecDepth 100000 in
theorem lifted (os : Os) (started : os.Started) (H : Type) (enc : TypeId × Value → H) :
    ReturnsInHanded {} Tryz.checked os 4 .any (Rows.lockOneSpec.pre6 enc Tryz.prog Tryz.f4 Rows.lockOneRow.domain false) (Rows.lockOneSpec.post enc Tryz.prog Tryz.f4 false true false false) := by
  refine returnsInHanded_of_change (C := Tryz.checked) own started (by kernel_rfl) Tryz.func4
    (ChangeSpec.witness6 (enc := enc) (C := Tryz.checked) false ⟨#[], #[.agg #[.int .i64 0, .slice none 0 0, .slice none 0 0, .slice none 0 0], .slice none 0 0], []⟩ 8 (by kernel_rfl) (by kernel_rfl) (by kernel_rfl) (by kernel_rfl)) ?_
  intro W base args ds gs before hval0 hW hcnd _
  have hval : ∀ (j : Nat) t v, Tryz.f4.params[j]? = some t → args[j]? = some v → Value.okWide Tryz.prog W .any base t v := hval0
  have hW' := hW
  obtain ⟨p, q, hA0, hV, rfl, hfz, hnd⟩ := hW
  have hA : DataW.TrodAll enc Tryz.prog W 0 (fun _ => true) true Tryz.f4.params.toList args.toList ds p := hA0
  rw [Tryz.params4] at hA hval
  obtain ⟨v0, vs0, d0, ds0, p0, q0, hargs, rfl, rfl, h0, r0⟩ := trodAll_cons hA
  obtain ⟨v1, vs1, d1, ds1, p1, q1, rfl, rfl, rfl, h1, r1⟩ := trodAll_cons r0
  obtain ⟨rfl, rfl, rfl⟩ := trodAll_nil r1
  obtain rfl : args = #[v0, v1] := by cases args; simp_all
  obtain ⟨rfl, rfl⟩ := trodVars_none hV
  have k0 := h0
  have lt0 : ∀ x ∈ p0, x.block < W.heap.size := by obtain ⟨m, hm⟩ := k0; exact DataW.trod_lt m _ _ _ hm
  obtain ⟨s0, w0, rfl⟩ := setTypes.arg_set (hval 0 25 v0 rfl rfl) h0
  obtain ⟨a1, len1, cap1, rfl⟩ := okWide_slice Tryz.underlying26 (hval 1 26 v1 rfl rfl)
  have k1 := h1
  have lt1 : ∀ x ∈ p1, x.block < W.heap.size := by obtain ⟨m, hm⟩ := k1; exact DataW.trod_lt m _ _ _ hm
  obtain ⟨z1, w1⟩ : ∃ zs, IsTrips W a1 len1 cap1 zs := by
    obtain ⟨fuel, hf⟩ := h1
    obtain ⟨x1, x2, x3, zs, hcs, hz⟩ := open_trips Tryz.underlying26 Tryz.underlying34 (by kernel_rfl) (by kernel_rfl) Tryz.underlying3 Tryz.underlying3 Tryz.underlying3 hf
    simp [Value.cells] at hcs
    obtain ⟨rfl, rfl, rfl⟩ := hcs
    exact ⟨zs, hz⟩
  clear hA0 hval0
  refine (walk s0 a1 len1 cap1 z1 W w0 w1).mono fun e W' ⟨he, bel⟩ => ?_
  subst he
  exact ⟨_, rfl, _, _, _, [], _, [], hW', trodAll_mk1 (shut_bool Tryz.underlying4 _), (trodAll_cons_mk (Below.trod laidOut (by kernel_rfl) (of_decide_eq_true (by kernel_rfl)) k0 bel lt0) (trodAll_cons_mk (Below.trod laidOut (by kernel_rfl) (of_decide_eq_true (by kernel_rfl)) k1 bel lt1) trodAll_mk0)), rfl, bel.frame _, fun h => by cases h⟩

theorem over : Rows.lockOneRow.holds Tryz.pinned (OpenSpec.ofChange Rows.lockOneSpec) :=
  OpenClaim.holds_of_wide 4 Tryz.f4 rfl rfl rfl rfl rfl rfl rfl ⟨rfl, rfl, rfl, rfl, rfl⟩ rfl rfl rfl rfl rfl (by kernel_rfl) Tryz.func4 (by kernel_rfl)
    (of_decide_eq_true (by kernel_rfl)) (by unfold Func.isWrapper; first | (rw [if_pos (by decide +kernel)]; kernel_rfl) | (rw [if_neg (by decide +kernel)]; exact ⟨rfl, rfl⟩))
    (fun os started H enc _ => lifted os started H enc)

/-- THE STATEMENT -/
theorem proved : Rows.LockOneSaid := over
#print axioms proved
end Go.Proofs.YtlmdiechnidghaaGreat.lockOne

