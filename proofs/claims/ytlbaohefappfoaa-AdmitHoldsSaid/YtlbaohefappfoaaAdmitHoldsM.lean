/- AdmitHolds: of who is admitted each bound is what comes of all bounds, within its deadline, and no lesser ones hold. No condition. -/
import Derived.Test.YtlbaohefappfoaaOwnT
import Derived.Test.YtlbaohefappfoaaToken3
import Derived.Test.YtlbaohefappfoaaAgent3
import Derived.Test.YtlbaohefappfoaaOwnPut
import Derived.Test.YtlbaohefappfoaaLit
import Derived.Test.YtlbaohefappfoaaOkMk
import Derived.Test.YtlbaohefappfoaaDemandNums
import Derived.Deep.DeepCutAuto
import Derived.Deep.CutRange
import Derived.BigRegion
import Derived.Deep.RegionHeld3
import Derived.Test.YtlbaohefappfoaaSame1
import Derived.Test.YtlbaohefappfoaaOk3
import Derived.Test.YtlbaohefappfoaaSound
import Derived.Test.YtlbaohefappfoaaRef7d
import Derived.Test.YtlbaohefappfoaaReg
import Derived.StillTailTactics
namespace Go.Proofs.Ytlbaohefappfoaa
open Go.ChangeShapes Go.WideShapes Go.ChangeAt Go.RowKit
set_option linter.unusedVariables false
/-- a set made by hand, whose row of tasks is of the call's own -/
def OneS18 (w : World) (B : Nat) (proto : Int) (ts : List TaskR) (e : Ending) : Prop := ∃ (ca ha ta : Option Addr) (cc hc tc : Nat), e = .returned (.agg #[.int .i64 proto, .slice ca 1 cc, .slice ha 1 hc, .slice ta ts.length tc]) ∧ IntsOk w ca cc [1] ∧ IntsOk w ha hc [0] ∧ OwnT B w ta ts.length tc ts ∧ (∀ k ∈ fp ca, k ∉ fp ta ∧ B ≤ k ∧ k < w.heap.size) ∧ ∀ k ∈ fp ha, k ∉ fp ta ∧ B ≤ k ∧ k < w.heap.size
theorem one18_any (proto : Int) (a : Option Addr) (c : Nat) (ps : List PartM) (w : World) : Calls Try.prog 16 #[.int .i64 proto, .slice a ps.length c] w fun e w' => OneS18 w' w.heap.size proto [⟨⟨#[97]⟩, 100, 100, 1, 0, a, c, ps⟩] e ∧ Below w.heap.size w w' := by
  go_enter Try.func16, Try.ntmps16
  go_wp2
  have B1 := ((Bk.at_ (w := w.alloc (.cells #[.int .i64 proto, .slice (some ⟨w.heap.size + 1, 0, none⟩) 1 1, .slice (some ⟨w.heap.size + 1 + 1, 0, none⟩) 1 1, .slice (some ⟨w.heap.size + 1 + 1 + 1, 0, none⟩) 1 1] 25)) (g := w.heap.size + 1) (t := 3) (cs := ([1].map (Value.int .i64)).toArray) (by simp) rfl).alloc (.cells #[.int .i64 0] 3)).alloc (.cells #[.string ⟨#[97]⟩, .int .i64 100, .int .i64 100, .int .i64 1, .int .i64 0, .slice a ps.length c] 42)
  have B2 := (Bk.at_ (w := (w.alloc (.cells #[.int .i64 proto, .slice (some ⟨w.heap.size + 1, 0, none⟩) 1 1, .slice (some ⟨w.heap.size + 1 + 1, 0, none⟩) 1 1, .slice (some ⟨w.heap.size + 1 + 1 + 1, 0, none⟩) 1 1] 25)).alloc (.cells #[.int .i64 1] 3)) (g := w.heap.size + 1 + 1) (t := 3) (cs := ([0].map (Value.int .i64)).toArray) (by simp) rfl).alloc (.cells #[.string ⟨#[97]⟩, .int .i64 100, .int .i64 100, .int .i64 1, .int .i64 0, .slice a ps.length c] 42)
  have B3 := Bk.at_ (w := ((w.alloc (.cells #[.int .i64 proto, .slice (some ⟨w.heap.size + 1, 0, none⟩) 1 1, .slice (some ⟨w.heap.size + 1 + 1, 0, none⟩) 1 1, .slice (some ⟨w.heap.size + 1 + 1 + 1, 0, none⟩) 1 1] 25)).alloc (.cells #[.int .i64 1] 3)).alloc (.cells #[.int .i64 0] 3)) (g := w.heap.size + 1 + 1 + 1) (t := 42) (cs := (ttc [⟨⟨#[97]⟩, 100, 100, 1, 0, a, c, ps⟩]).toArray) (by simp) rfl
  refine bodyPost_ret (v := .agg #[.int .i64 proto, .slice (some ⟨w.heap.size + 1, 0, none⟩) 1 1, .slice (some ⟨w.heap.size + 1 + 1, 0, none⟩) 1 1, .slice (some ⟨w.heap.size + 1 + 1 + 1, 0, none⟩) 1 1]) (by simp [results, Try.results16, go_sem]) rfl
    ⟨⟨_, _, _, 1, 1, 1, rfl, ⟨⟨(fun e => by cases e), by simp, by first | decide | (simp; done) | (simp; decide)⟩, ints_lit B1, by first | decide | (simp; done) | (simp; decide)⟩, ⟨⟨(fun e => by cases e), by simp, by first | decide | (simp; done) | (simp; decide)⟩, ints_lit B2, by first | decide | (simp; done) | (simp; decide)⟩, ⟨own_lit B3 (by omega) (ttc_len _) (by first | decide | (simp; done) | (simp; decide)), rfl, by first | decide | (simp; done) | (simp; decide), (fun e => by cases e)⟩, by simp [fp]; try omega, by simp [fp]; try omega⟩, ?_⟩
  exact ((((Below.refl _ _).alloc (Nat.le_refl _) _).alloc (by simp) _).alloc (by simp; omega) _).alloc (by simp; omega) _
/-- two tasks at one cluster -/
def twoS18 (S : SetR) (proto run lock run2 lock2 : Int) : Prop := S.proto = proto ∧ S.cores = [1] ∧ S.homes = [0] ∧ ∃ (a1 a2 : Option Addr) (c1 c2 : Nat), S.tasks = [⟨⟨#[97]⟩, 100, 100, 1, 0, a1, c1, [⟨1, run, 0⟩, ⟨3, lock, 0⟩]⟩, ⟨⟨#[98]⟩, 200, 200, 2, 0, a2, c2, [⟨1, run2, 0⟩, ⟨3, lock2, 0⟩]⟩]
def TwoP18 (w : World) (proto run lock run2 lock2 : Int) (e : Ending) (w' : World) : Prop := (∃ S : SetR, e = .returned (.agg #[.int .i64 S.proto, .slice S.ca S.cores.length S.cc, .slice S.ha S.homes.length S.hc, .slice S.ta S.tasks.length S.tc]) ∧ SetOk w' S ∧ twoS18 S proto run lock run2 lock2) ∧ Below w.heap.size w w'
set_option maxRecDepth 100000 in
theorem two18_any (proto run lock run2 lock2 : Int) (w : World) (h0 : I64 proto) (h1 : I64 run) (h2 : I64 lock) (h3 : I64 run2) (h4 : I64 lock2) : Calls Try.prog 17 #[.int .i64 proto, .int .i64 run, .int .i64 lock, .int .i64 run2, .int .i64 lock2] w (TwoP18 w proto run lock run2 lock2) := by
  obtain ⟨i0, hi0, hy0, hy1, hy2⟩ := info_parts infoTask
  have P0 := (Bk.new w 25 #[.int .i64 0, .slice none 0 0, .slice none 0 0, .slice none 0 0]).alloc (.cells (ptc [⟨1, run, 0⟩, ⟨3, lock, 0⟩]).toArray 49)
  have P1 := Bk.at_ (w := w.alloc (.cells #[.int .i64 0, .slice none 0 0, .slice none 0 0, .slice none 0 0] 25)) (g := w.heap.size + 1) (t := 49) (cs := (ptc [⟨1, run, 0⟩, ⟨3, lock, 0⟩]).toArray) (by simp) rfl
  have hb0 := ((Below.refl w.heap.size w).alloc (Nat.le_refl _) (.cells #[.int .i64 0, .slice none 0 0, .slice none 0 0, .slice none 0 0] 25)).alloc (by simp) (.cells (ptc [⟨1, run, 0⟩, ⟨3, lock, 0⟩]).toArray 49)
  have hz0 : ((w.alloc (.cells #[.int .i64 0, .slice none 0 0, .slice none 0 0, .slice none 0 0] 25)).alloc (.cells (ptc [⟨1, run, 0⟩, ⟨3, lock, 0⟩]).toArray 49)).heap.size = w.heap.size + 2 := by simp
  have Hz0 := hidp hz0
  clear hz0
  go_enter Try.func17, Try.ntmps17
  go_wp2_with fail
  refine (one18_any proto (some ⟨w.heap.size + 1, 0, none⟩) 2 [⟨1, run, 0⟩, ⟨3, lock, 0⟩] _).mono ?_
  rintro e w2 ⟨⟨ca, ha, ta, cc, hc, tc, rfl, kc, kh, kt, n1, n2⟩, hb⟩
  have hsz : w.heap.size + 2 ≤ w2.heap.size := by have := hb.size; rw [← Hz0.out]; exact this
  replace P0 := P0.below hb
  replace P1 := P1.below hb
  have hbe := hb0.trans (hb.mono hb0.size)
  clear hb hb0
  have kt := kt.low (show w.heap.size + 2 ≤ _ by rw [← Hz0.out]; exact Nat.le_refl _)
  have n1' : ∀ k ∈ fp ca, k ∉ fp ta ∧ w.heap.size + 2 ≤ k ∧ k < w2.heap.size := fun k hk => ⟨(n1 k hk).1, by have := (n1 k hk).2.1; rw [← Hz0.out]; exact this, (n1 k hk).2.2⟩
  have n2' : ∀ k ∈ fp ha, k ∉ fp ta ∧ w.heap.size + 2 ≤ k ∧ k < w2.heap.size := fun k hk => ⟨(n2 k hk).1, by have := (n2 k hk).2.1; rw [← Hz0.out]; exact this, (n2 k hk).2.2⟩
  have N1 := hidp n1'
  have N2 := hidp n2'
  have Hft := hidp (own_fp kt.own)
  clear n1 n2 n1' n2'
  obtain ⟨V, hV⟩ : ∃ V, w2.heap.size = V := ⟨_, rfl⟩
  have HV := hidp hV
  clear hV
  -- the boxes that come now
  have T0 := (((Turned.refl [] w2).alloc (.cells #[.int .i64 proto, .slice ca 1 cc, .slice ha 1 hc, .slice ta 1 tc] 25)).alloc (.cells (ptc [⟨1, run2, 0⟩, ⟨3, lock2, 0⟩]).toArray 49)).alloc (.cells (ttc [⟨⟨#[98]⟩, 200, 200, 2, 0, some ⟨w2.heap.size + 1, 0, none⟩, 2, [⟨1, run2, 0⟩, ⟨3, lock2, 0⟩]⟩]).toArray 42)
  have X0 := ((Bk.new w2 25 #[.int .i64 proto, .slice ca 1 cc, .slice ha 1 hc, .slice ta 1 tc]).alloc (.cells (ptc [⟨1, run2, 0⟩, ⟨3, lock2, 0⟩]).toArray 49)).alloc (.cells (ttc [⟨⟨#[98]⟩, 200, 200, 2, 0, some ⟨w2.heap.size + 1, 0, none⟩, 2, [⟨1, run2, 0⟩, ⟨3, lock2, 0⟩]⟩]).toArray 42)
  have X1 := (Bk.at_ (w := w2.alloc (.cells #[.int .i64 proto, .slice ca 1 cc, .slice ha 1 hc, .slice ta 1 tc] 25)) (g := w2.heap.size + 1) (t := 49) (cs := (ptc [⟨1, run2, 0⟩, ⟨3, lock2, 0⟩]).toArray) (by simp) rfl).alloc (.cells (ttc [⟨⟨#[98]⟩, 200, 200, 2, 0, some ⟨w2.heap.size + 1, 0, none⟩, 2, [⟨1, run2, 0⟩, ⟨3, lock2, 0⟩]⟩]).toArray 42)
  have S2 := Lies.newCells' ((w2.alloc (.cells #[.int .i64 proto, .slice ca 1 cc, .slice ha 1 hc, .slice ta 1 tc] 25)).alloc (.cells (ptc [⟨1, run2, 0⟩, ⟨3, lock2, 0⟩]).toArray 49)) (ttc [⟨⟨#[98]⟩, 200, 200, 2, 0, some ⟨w2.heap.size + 1, 0, none⟩, 2, [⟨1, run2, 0⟩, ⟨3, lock2, 0⟩]⟩]) 42
  rw [show ((w2.alloc (.cells #[.int .i64 proto, .slice ca 1 cc, .slice ha 1 hc, .slice ta 1 tc] 25)).alloc (.cells (ptc [⟨1, run2, 0⟩, ⟨3, lock2, 0⟩]).toArray 49)).heap.size = w2.heap.size + 1 + 1 by simp] at S2
  have O2 := hidp (ttc_one [⟨⟨#[98]⟩, 200, 200, 2, 0, some ⟨w2.heap.size + 1, 0, none⟩, 2, [⟨1, run2, 0⟩, ⟨3, lock2, 0⟩]⟩])
  have hown := own_turned kt.own T0 (by simp)
  have Z2 : Hid (w.heap.size + 2 ≤ (((w2.alloc (.cells #[.int .i64 proto, .slice ca 1 cc, .slice ha 1 hc, .slice ta 1 tc] 25)).alloc (.cells (ptc [⟨1, run2, 0⟩, ⟨3, lock2, 0⟩]).toArray 49)).alloc (.cells (ttc [⟨⟨#[98]⟩, 200, 200, 2, 0, some ⟨w2.heap.size + 1, 0, none⟩, 2, [⟨1, run2, 0⟩, ⟨3, lock2, 0⟩]⟩]).toArray 42)).heap.size) := hidp (Nat.le_trans hsz T0.size)
  have HS2 := hidp S2
  have HT0 := hidp T0
  have HX0 := hidp X0
  have HX1 := hidp X1
  clear S2 T0 X0 X1
  go_wp2_with (at_builtin; go_loud ((refine wpList_app2 _ rfl (.tmp 20) (.tmp 27) 23 rfl (w.heap.size + 2) 42 i0 _ 6 72 Try.underlying23 hi0 hy0 hy1 hy2 rfl (by decide) ta 1 tc _ rfl hown _ _ 1 1 (ttc [⟨⟨#[98]⟩, 200, 200, 2, 0, some ⟨w2.heap.size + 1, 0, none⟩, 2, [⟨1, run2, 0⟩, ⟨3, lock2, 0⟩]⟩]) rfl (by simp) rfl HS2.out O2.out (by decide) (by decide) Z2.out ?_; intro A' c' w3 happ; have X0 := HX0.out.turned happ.turned (fun hf => by have := (Hft.out _ hf).2; omega); have Y0 := (P0.turned HT0.out (by simp)).turned happ.turned (fun hf => by have := (Hft.out _ hf).1; omega); obtain ⟨f0, f1, f2, f3⟩ := ZF4 X0; obtain ⟨e0, e1, e2, e3⟩ := Z4 X0; obtain ⟨p0, p1, p2, p3⟩ := ZF4 Y0; obtain ⟨q0, q1, q2, q3⟩ := Z4 Y0)))
  have TS := (Turned.refl [w2.heap.size] w3).setCell (p := ⟨w2.heap.size, 3, none⟩) (.inl (by simp)) (.slice A' 2 c')
  have TP := put4_turned (w3.setCell ⟨w2.heap.size, 3, none⟩ (.slice A' 2 c')) w.heap.size (.int .i64 proto) (.slice ca 1 cc) (.slice ha 1 hc) (.slice A' 2 c')
  have PB := put4_bk (v0 := .int .i64 proto) (v1 := .slice ca 1 cc) (v2 := .slice ha 1 hc) (v3 := .slice A' 2 c') (Y0.turned TS (by simp; omega))
  have gV : ∀ k, k < w2.heap.size → k ∉ [w2.heap.size] := fun k hk hm => by simp at hm; omega
  have gH : ∀ k, w.heap.size + 1 ≤ k → k ∉ [w.heap.size] := fun k hk hm => by simp at hm; omega
  have kc5 := (((kc.turned HT0.out (by simp)).turned happ.turned (fun k hk => (N1.out k hk).1)).turned TS (fun k hk => gV k (N1.out k hk).2.2)).turned TP (fun k hk => gH k (by have := (N1.out k hk).2.1; omega))
  have kh5 := (((kh.turned HT0.out (by simp)).turned happ.turned (fun k hk => (N2.out k hk).1)).turned TS (fun k hk => gV k (N2.out k hk).2.2)).turned TP (fun k hk => gH k (by have := (N2.out k hk).2.1; omega))
  have P5 := parts_lit (((P1.turned HT0.out (by simp)).turned happ.turned (fun hf => by have := (Hft.out _ hf).1; omega)).turned TS (gV _ (by omega)) |>.turned TP (gH _ (by omega)))
  have Q5 := parts_lit ((HX1.out.turned happ.turned (fun hf => by have := (Hft.out _ hf).2; omega)).turned TS (by simp) |>.turned TP (gH _ (by omega)))
  have o3 := kt.app (ts := [⟨⟨#[98]⟩, 200, 200, 2, 0, some ⟨w2.heap.size + 1, 0, none⟩, 2, [⟨1, run2, 0⟩, ⟨3, lock2, 0⟩]⟩]) happ rfl
  have hz5 := HT0.out.size
  have o5 := (o3.turned TS (fun k hk => by
    rcases happ.fps k hk with h | h
    · exact gV k (Hft.out k h).2
    · intro hm; simp at hm h; omega)).turned TP (fun k hk => gH k (by have := (own_fp o3.own k hk).1; omega))
  have hall := (((hbe.trans (HT0.out.below hbe.size (by simp))).trans (happ.turned.below (Nat.le_trans hbe.size hz5) (fun k hk => by have := (Hft.out k hk).1; omega))).trans (TS.below (Nat.le_trans (Nat.le_trans hbe.size hz5) happ.turned.size) (by simp; omega))).trans (TP.below (Nat.le_trans (Nat.le_trans (Nat.le_trans hbe.size hz5) happ.turned.size) TS.size) (by simp))
  have W2 : ∀ x y : Int, I64 x → I64 y → ∀ p ∈ [PartM.mk 1 x 0, PartM.mk 3 y 0], p.wf := fun x y hx hy p hp => by
    simp at hp
    rcases hp with rfl | rfl
    · exact ⟨(by show I64 1; decide), hx, (by show I64 0; decide)⟩
    · exact ⟨(by show I64 3; decide), hy, (by show I64 0; decide)⟩
  have SL2 : ∀ a : Addr, SlOk (some a) 2 2 := fun a => ⟨(fun e => by cases e), Nat.le_refl _, by decide⟩
  have K1 := TaskOk.mk (w := put4 (w3.setCell ⟨w2.heap.size, 3, none⟩ (.slice A' 2 c')) w.heap.size (.int .i64 proto) (.slice ca 1 cc) (.slice ha 1 hc) (.slice A' 2 c')) (t := ⟨⟨#[97]⟩, 100, 100, 1, 0, some ⟨w.heap.size + 1, 0, none⟩, 2, [⟨1, run, 0⟩, ⟨3, lock, 0⟩]⟩) (by show 1 ≤ maxLen; decide) (by show I64 100; decide) (by show I64 100; decide) (by show I64 1; decide) (by show I64 0; decide) (SL2 _) P5 (W2 _ _ h1 h2)
  have K2 := TaskOk.mk (w := put4 (w3.setCell ⟨w2.heap.size, 3, none⟩ (.slice A' 2 c')) w.heap.size (.int .i64 proto) (.slice ca 1 cc) (.slice ha 1 hc) (.slice A' 2 c')) (t := ⟨⟨#[98]⟩, 200, 200, 2, 0, some ⟨w2.heap.size + 1, 0, none⟩, 2, [⟨1, run2, 0⟩, ⟨3, lock2, 0⟩]⟩) (by show 1 ≤ maxLen; decide) (by show I64 200; decide) (by show I64 200; decide) (by show I64 2; decide) (by show I64 0; decide) (SL2 _) Q5 (W2 _ _ h3 h4)
  have KA : TasksOk (put4 (w3.setCell ⟨w2.heap.size, 3, none⟩ (.slice A' 2 c')) w.heap.size (.int .i64 proto) (.slice ca 1 cc) (.slice ha 1 hc) (.slice A' 2 c')) A' c' [⟨⟨#[97]⟩, 100, 100, 1, 0, some ⟨w.heap.size + 1, 0, none⟩, 2, [⟨1, run, 0⟩, ⟨3, lock, 0⟩]⟩, ⟨⟨#[98]⟩, 200, 200, 2, 0, some ⟨w2.heap.size + 1, 0, none⟩, 2, [⟨1, run2, 0⟩, ⟨3, lock2, 0⟩]⟩] := ⟨o5.sl, o5.tasks, fun t ht => by
    simp only [List.mem_cons, List.not_mem_nil, or_false] at ht
    rcases ht with rfl | rfl
    · exact K1
    · exact K2⟩
  obtain ⟨r0, r1, r2, r3⟩ := Z4 PB
  unfold put4 at r0 r1 r2 r3 kc5 kh5 KA hall
  refine bodyPost_ret (v := .agg #[.int .i64 proto, .slice ca 1 cc, .slice ha 1 hc, .slice A' 2 c']) (by simp [results, Try.results17, go_sem, r0, r1, r2, r3]) rfl ⟨⟨⟨proto, ca, cc, [1], ha, hc, [0], A', c', [⟨⟨#[97]⟩, 100, 100, 1, 0, some ⟨w.heap.size + 1, 0, none⟩, 2, [⟨1, run, 0⟩, ⟨3, lock, 0⟩]⟩, ⟨⟨#[98]⟩, 200, 200, 2, 0, some ⟨w2.heap.size + 1, 0, none⟩, 2, [⟨1, run2, 0⟩, ⟨3, lock2, 0⟩]⟩]⟩, rfl, ⟨h0, kc5, kh5, KA⟩, rfl, rfl, rfl, _, _, _, _, rfl⟩, hall⟩

end Go.Proofs.Ytlbaohefappfoaa

namespace Go.Proofs.Ytlbaohefappfoaa
open Go.ChangeShapes Go.WideShapes Go.ChangeAt Go.RowKit
set_option linter.unusedVariables false

def waitV (s : SetR) (bs : List Int) (of part : Int) : Int :=
  if bs.length = s.tasks.length then (if s.proto = 1 then fairV s of part else if s.proto = 2 then agentV s bs of part else tokV s of part) else 0
def waitK (s : SetR) (bs : List Int) (of part : Int) : Bool :=
  if bs.length = s.tasks.length then (if s.proto = 2 then agentK s bs of part else fairK s of part) else false
theorem lock_part {s : SetR} {of part : Int} (h : fairK s of part = true) : okS s = true ∧ 1 ≤ (partAt s of part).len ∧ (partAt s of part).len ≤ 60 ∧ (partAt s of part).kind = 3 := by
  obtain ⟨f1, f2, f3, f4⟩ := fairK_iff.1 h
  obtain ⟨ho, r1, r2⟩ := thereB_true.1 f1
  have hp : partAt s of part ∈ (s.tasks.getD of.toNat default).parts := by unfold partAt; exact getD_mem (by omega)
  have hlen := ((Good.of ho).parts _ (getD_mem (by omega : of.toNat < s.tasks.length))).lens _ hp
  exact ⟨ho, hlen.1, hlen.2, f4⟩
theorem fairV_bd (s : SetR) (of part : Int) : 0 ≤ fairV s of part ∧ fairV s of part ≤ 420 := by
  unfold fairV
  split
  · rename_i h
    obtain ⟨ho, h1, h2, _⟩ := lock_part h
    have hg := Good.of ho
    have hb := tot_small (fun x (hx : x ∈ othL of 0 s.tasks) => by have := othL_bd (fun q hq => (hg.parts q hq).lens) x hx; omega)
    have hl := Nat.le_trans (othL_len of 0 s.tasks) hg.ntasks.2
    omega
  · omega
theorem agent_lock {s : SetR} {bs : List Int} {of part : Int} (h : agentK s bs of part = true) : fairK s of part = true ∧ bs.length = s.tasks.length := by
  cases e : agentB s bs of part with
  | true => exact agentB_true.1 e
  | false => unfold agentK agentO at h; rw [e] at h; cases h
theorem agentV_no {s : SetR} {bs : List Int} {of part : Int} (h : agentK s bs of part = false) : agentV s bs of part = 0 := by
  unfold agentK at h
  unfold agentV
  cases e : agentO s bs of part with
  | none => rfl
  | some v => rw [e] at h; cases h
theorem agentV_in {s : SetR} {bs : List Int} {of part : Int} (h : agentK s bs of part = true) : leastV s of part ≤ agentV s bs of part ∧ agentV s bs of part ≤ 3000 := by
  obtain ⟨k1, k2⟩ := agent_lock h
  obtain ⟨ho, h1, h2, _⟩ := lock_part k1
  have hlo := lowerV_bd s of (homeV s of part)
  have hb : agentB s bs of part = true := agentB_true.2 ⟨k1, k2⟩
  unfold agentK agentO at h
  unfold agentV agentO
  rw [if_pos hb] at h ⊢
  cases e : fixO (winF (leastV s of part) (rivL s bs (prioOf s of) (homeV s of part) 0 s.tasks)) (leastV s of part) with
  | none => rw [e] at h; cases h
  | some v =>
    obtain ⟨a, b, _, _⟩ := fixO_some (by unfold leastV; omega) e
    exact ⟨a, b⟩
theorem agentV_bd (s : SetR) (bs : List Int) (of part : Int) : 0 ≤ agentV s bs of part ∧ agentV s bs of part ≤ 3000 := by
  cases e : agentK s bs of part with
  | true =>
    obtain ⟨a, b⟩ := agentV_in e
    obtain ⟨k1, k2⟩ := agent_lock e
    obtain ⟨ho, h1, h2, _⟩ := lock_part k1
    have hlo := lowerV_bd s of (homeV s of part)
    unfold leastV at a; omega
  | false => rw [agentV_no e]; omega
theorem tokV_bd (s : SetR) (of part : Int) : 0 ≤ tokV s of part ∧ tokV s of part ≤ 2940 := by
  have h1 := insV_bd s of part
  have h2 := outV_bd s of
  unfold tokV; split <;> omega
theorem waitV_bd (s : SetR) (bs : List Int) (of part : Int) : 0 ≤ waitV s bs of part ∧ waitV s bs of part ≤ 3000 := by
  have h1 := fairV_bd s of part
  have h2 := agentV_bd s bs of part
  have h3 := tokV_bd s of part
  unfold waitV
  split
  · split
    · omega
    · split <;> omega
  · omega
theorem waitK_lock {s : SetR} {bs : List Int} {of part : Int} (h : waitK s bs of part = true) : fairK s of part = true ∧ bs.length = s.tasks.length := by
  unfold waitK at h
  split at h
  · rename_i e
    split at h
    · exact agent_lock h
    · exact ⟨h, e⟩
  · cases h
/-- what a part takes, and whether that is told -/
def pW (s : SetR) (bs : List Int) (of : Int) (k : Nat) : Int := if (partAt s of k).kind = 3 then waitV s bs of k else 0
def pK (s : SetR) (bs : List Int) (of : Int) (k : Nat) : Bool := if (partAt s of k).kind = 3 then waitK s bs of k else true
def upTo (f : Nat → Bool) : Nat → Bool
  | 0 => true
  | k + 1 => upTo f k && f k
theorem upTo_iff (f : Nat → Bool) (n : Nat) : upTo f n = true ↔ ∀ k, k < n → f k = true := by
  induction n with
  | zero => simp [upTo]
  | succ n ih =>
    simp only [upTo, Bool.and_eq_true, ih]
    constructor
    · rintro ⟨a, b⟩ k hk
      by_cases e : k = n
      · subst e; exact b
      · exact a k (by omega)
    · intro h; exact ⟨fun k hk => h k (by omega), h n (by omega)⟩
theorem upTo_not {f : Nat → Bool} {n k : Nat} (hk : k < n) (h : f k = false) : upTo f n = false := by
  rw [Bool.eq_false_iff]; intro h2
  rw [(upTo_iff f n).1 h2 k hk] at h; cases h
def partsOf (s : SetR) (of : Int) : List PartM := (s.tasks.getD of.toNat default).parts
def waitsK (s : SetR) (bs : List Int) (of : Int) : Bool := thereB s of && upTo (pK s bs of) (partsOf s of).length
def waitsL (s : SetR) (bs : List Int) (of : Int) : List Int := if waitsK s bs of = true then (List.range (partsOf s of).length).map (pW s bs of) else []
theorem pW_bd (s : SetR) (bs : List Int) (of : Int) (k : Nat) : 0 ≤ pW s bs of k ∧ pW s bs of k ≤ 3000 := by
  have := waitV_bd s bs of k
  unfold pW; split <;> omega
theorem waits_no {s : SetR} {bs : List Int} {of : Int} (h : thereB s of = false) : waitsK s bs of = false ∧ waitsL s bs of = [] := by
  have e : waitsK s bs of = false := by unfold waitsK; rw [h]; rfl
  exact ⟨e, by unfold waitsL; rw [e]; rfl⟩
theorem waits_off {s : SetR} {bs : List Int} {of : Int} {k : Nat} (hk : k < (partsOf s of).length) (h : pK s bs of k = false) : waitsK s bs of = false ∧ waitsL s bs of = [] := by
  have e : waitsK s bs of = false := by unfold waitsK; rw [upTo_not hk h, Bool.and_false]
  exact ⟨e, by unfold waitsL; rw [e]; rfl⟩
theorem waits_yes {s : SetR} {bs : List Int} {of : Int} (h : thereB s of = true) (hk : ∀ k, k < (partsOf s of).length → pK s bs of k = true) : waitsK s bs of = true ∧ waitsL s bs of = (List.range (partsOf s of).length).map (pW s bs of) := by
  have e : waitsK s bs of = true := by unfold waitsK; rw [h, (upTo_iff _ _).2 hk]; rfl
  exact ⟨e, by unfold waitsL; rw [if_pos e]⟩
theorem range_snoc (f : Nat → Int) (k : Nat) : (List.range (k + 1)).map f = (List.range k).map f ++ [f k] := by simp [List.range_succ]
theorem waitsL_len (s : SetR) (bs : List Int) (of : Int) : (waitsL s bs of).length ≤ 6 ∧ ∀ n ∈ waitsL s bs of, 0 ≤ n ∧ n ≤ 3000 := by
  by_cases e : waitsK s bs of = true
  · have h : thereB s of = true := by
      cases h : thereB s of with
      | true => rfl
      | false => rw [(waits_no (bs := bs) h).1] at e; cases e
    obtain ⟨ho, r1, r2⟩ := thereB_true.1 h
    have hl := ((Good.of ho).parts _ (getD_mem (by omega : of.toNat < s.tasks.length))).len
    unfold waitsL
    rw [if_pos e]
    refine ⟨by simp; exact hl.2, fun n hn => ?_⟩
    obtain ⟨k, _, rfl⟩ := List.mem_map.1 hn
    exact pW_bd _ _ _ _
  · unfold waitsL; rw [if_neg e]; simp
theorem tot_cap {l : List Int} {c : Int} (h : ∀ n ∈ l, 0 ≤ n ∧ n ≤ c) : 0 ≤ tot l ∧ tot l ≤ c * (l.length : Int) := by
  induction l with
  | nil => simp [tot]
  | cons a l ih =>
    have h1 := ih (fun n hn => h n (by simp [hn]))
    have h2 := h a (by simp)
    simp only [tot, List.length_cons]
    rw [Int.natCast_succ, Int.mul_add, Int.mul_one]
    omega
theorem waitsT_bd (s : SetR) (bs : List Int) (of : Int) : 0 ≤ tot (waitsL s bs of) ∧ tot (waitsL s bs of) ≤ 18000 := by
  obtain ⟨h1, h2⟩ := waitsL_len s bs of
  have := tot_cap h2
  omega
end Go.Proofs.Ytlbaohefappfoaa

namespace Go.Proofs.Ytlbaohefappfoaa
open Go.ChangeShapes Go.WideShapes Go.ChangeAt Go.RowKit
set_option linter.unusedVariables false
set_option linter.unusedSimpArgs false

theorem there16_any (s : SetR) (of : Int) (w : World) (hs : SetOk w s) : Calls Try.prog 23 #[.agg #[.int .i64 s.proto, .slice s.ca s.cores.length s.cc, .slice s.ha s.homes.length s.hc, .slice s.ta s.tasks.length s.tc], .int .i64 of] w fun e w' => e = .returned (.bool (thereB s of)) ∧ Below w.heap.size w w' := by
  have hb := (Below.refl w.heap.size w).alloc (Nat.le_refl _) (.cells #[.int .i64 s.proto, .slice s.ca s.cores.length s.cc, .slice s.ha s.homes.length s.hc, .slice s.ta s.tasks.length s.tc] 25)
  have sc := SetCells.new w s 25
  have H := hidp (hs.keep (Keeps.of_below hb))
  have l3 : s.tasks.length ≤ maxLen := Nat.le_trans hs.tasks.sl.2.1 hs.tasks.sl.2.2
  unfold maxLen at l3
  clear hs
  by_cases e : chkE s = 0
  · have e1 : (chkE s == 0) = true := by simpa using e
    have ho : okS s = true := e1
    clear e
    by_cases h0 : 0 ≤ of
    · have Hv : Hid (thereB s of = decide (of < s.tasks.length)) := hidp (by simp [thereB, ho, h0])
      clear ho
      go_enter Try.func23, Try.ntmps23
      go_wp2_with (first | (go_at_call 18; (with_reducible refine (check_any _ _ H.out).mono ?_); rintro e w2 ⟨rfl, hb2⟩; have sc2 := sc.keep (Keeps.of_below hb2); obtain ⟨c0, c1, c2, c3⟩ := sc2))
      go_ret
      exact ⟨ret_bool Hv.out.symm, hb.trans (hb2.mono hb.size)⟩
    · have Hv : Hid (thereB s of = false) := hidp (by simp [thereB, h0])
      have d0 : decide (0 ≤ of) = false := by simpa using h0
      clear ho h0
      go_enter Try.func23, Try.ntmps23
      go_wp2_with (first | (go_at_call 18; (with_reducible refine (check_any _ _ H.out).mono ?_); rintro e w2 ⟨rfl, hb2⟩; have sc2 := sc.keep (Keeps.of_below hb2); obtain ⟨c0, c1, c2, c3⟩ := sc2))
      go_ret
      exact ⟨ret_bool Hv.out.symm, hb.trans (hb2.mono hb.size)⟩
  · have e1 : (chkE s == 0) = false := by simpa using e
    have Hv : Hid (thereB s of = false) := hidp (by unfold thereB okS; rw [e1]; rfl)
    clear e
    go_enter Try.func23, Try.ntmps23
    go_wp2_with (first | (go_at_call 18; (with_reducible refine (check_any _ _ H.out).mono ?_); rintro e w2 ⟨rfl, hb2⟩; have sc2 := sc.keep (Keeps.of_below hb2); obtain ⟨c0, c1, c2, c3⟩ := sc2))
    go_ret
    exact ⟨ret_bool Hv.out.symm, hb.trans (hb2.mono hb.size)⟩


set_option maxHeartbeats 1000000 in
theorem wpart_any (s : SetR) (bs : List Int) (ba : Option Addr) (bc : Nat) (of part : Int) (w : World) (hs : SetOk w s) (hB : IntsOk w ba bc bs) : Calls Try.prog 24 #[.agg #[.int .i64 s.proto, .slice s.ca s.cores.length s.cc, .slice s.ha s.homes.length s.hc, .slice s.ta s.tasks.length s.tc], .slice ba bs.length bc, .int .i64 of, .int .i64 part] w fun e w' => e = .returned (.tuple #[.int .i64 (waitV s bs of part), .bool (waitK s bs of part)]) ∧ Below w.heap.size w w' := by
  have hb := (Below.refl w.heap.size w).alloc (Nat.le_refl _) (.cells #[.int .i64 s.proto, .slice s.ca s.cores.length s.cc, .slice s.ha s.homes.length s.hc, .slice s.ta s.tasks.length s.tc] 25)
  have sc := SetCells.new w s 25
  have H := hs.keep (Keeps.of_below hb)
  have HB := hB.keep (Keeps.of_below hb)
  have l3 : s.tasks.length ≤ maxLen := Nat.le_trans hs.tasks.sl.2.1 hs.tasks.sl.2.2
  have l4 : bs.length ≤ maxLen := Nat.le_trans hB.sl.2.1 hB.sl.2.2
  unfold maxLen at l3 l4
  by_cases e2 : bs.length = s.tasks.length
  · have d1 : ((bs.length : Int) != (s.tasks.length : Int)) = false := by simp [e2]
    by_cases p1 : s.proto = 1
    · have HV : Hid (waitV s bs of part = fairV s of part) := hidp (by unfold waitV; rw [if_pos e2, if_pos p1])
      have HK : Hid (waitK s bs of part = fairK s of part) := hidp (by unfold waitK; rw [if_pos e2, if_neg (by omega)])
      have q1 : (s.proto == 1) = true := by simpa using p1
      clear p1 e2
      go_enter Try.func24, Try.ntmps24
      go_wp2_with fail
      refine (part_any s of part _ H).mono ?_
      rintro e w2 ⟨rfl, hb2⟩
      replace hb := hb.trans (hb2.mono hb.size)
      clear hb2
      go_wp2
      go_ret2
      exact ⟨ret_ib HV.out.symm HK.out.symm, hb⟩
    · have q1 : (s.proto == 1) = false := by simpa using p1
      by_cases p2 : s.proto = 2
      · have HV : Hid (waitV s bs of part = agentV s bs of part) := hidp (by unfold waitV; rw [if_pos e2, if_neg p1, if_pos p2])
        have HK : Hid (waitK s bs of part = agentK s bs of part) := hidp (by unfold waitK; rw [if_pos e2, if_pos p2])
        have q2 : (s.proto == 2) = true := by simpa using p2
        clear p1 p2 e2
        go_enter Try.func24, Try.ntmps24
        go_wp2_with fail
        refine (apart_any s bs ba bc of part _ H HB).mono ?_
        rintro e w2 ⟨rfl, hb2⟩
        replace hb := hb.trans (hb2.mono hb.size)
        clear hb2
        go_wp2
        go_ret2
        exact ⟨ret_ib HV.out.symm HK.out.symm, hb⟩
      · have q2 : (s.proto == 2) = false := by simpa using p2
        have HV : Hid (waitV s bs of part = tokV s of part) := hidp (by unfold waitV; rw [if_pos e2, if_neg p1, if_neg p2])
        have HK : Hid (waitK s bs of part = fairK s of part) := hidp (by unfold waitK; rw [if_pos e2, if_neg p2])
        by_cases p3 : s.proto = 3
        · have q3 : (s.proto == 3) = true := by simpa using p3
          clear p1 p2 p3 e2
          go_enter Try.func24, Try.ntmps24
          go_wp2_with fail
          refine (tpart_any s of part _ H).mono ?_
          rintro e w2 ⟨rfl, hb2⟩
          replace hb := hb.trans (hb2.mono hb.size)
          clear hb2
          go_wp2
          go_ret2
          exact ⟨ret_ib HV.out.symm HK.out.symm, hb⟩
        · have q3 : (s.proto == 3) = false := by simpa using p3
          have hk : fairK s of part = false := by
            rw [Bool.eq_false_iff]; intro h
            have := (Good.of (lock_part h).1).proto
            omega
          have HV2 : Hid (waitV s bs of part = 0) := hidp (by rw [HV.out]; unfold tokV; rw [hk]; rfl)
          have HK2 : Hid (waitK s bs of part = false) := hidp (by rw [HK.out, hk])
          clear p1 p2 p3 e2 hk
          go_enter Try.func24, Try.ntmps24
          go_wp2
          go_ret2
          exact ⟨ret_ib HV2.out.symm HK2.out.symm, hb⟩
  · have d1 : ((bs.length : Int) != (s.tasks.length : Int)) = true := by simp; omega
    have HV : Hid (waitV s bs of part = 0) := hidp (by unfold waitV; rw [if_neg e2])
    have HK : Hid (waitK s bs of part = false) := hidp (by unfold waitK; rw [if_neg e2])
    clear e2
    go_enter Try.func24, Try.ntmps24
    go_wp2
    go_ret2
    exact ⟨ret_ib HV.out.symm HK.out.symm, hb⟩

theorem OwnN.none (B : Nat) (w : World) : OwnN B w none 0 0 [] := ⟨World.ownsRow_nil _ _ _ _, rfl, by decide, fun _ => ⟨rfl, rfl⟩⟩
theorem OwnN.app {B : Nat} {w w1 w2 : World} {A A' : Option Addr} {n c c' : Nat} {rs ps : List Int} {m : Nat} (h : OwnN B w A n c rs) (ha : App B 3 1 w1 A A' (n + m) c' (rs.map (Value.int .i64) ++ ps.map (Value.int .i64)) w2) (hm : m = ps.length) : OwnN B w2 A' (n + m) c' (rs ++ ps) :=
  ⟨by rw [List.map_append]; exact ha.own, by rw [List.length_append, h.len, hm], ha.cap, ha.nil⟩
theorem ints_one (x : Int) : ∀ u ∈ [x].map (Value.int .i64), u.oneCell' = true := fun u hu => by simp at hu; subst hu; rfl
/-- a row of numbers, and a word -/
def RowK (w : World) (zs : List Int) (k : Bool) (e : Ending) (w' : World) : Prop := ∃ A c, e = .returned (.tuple #[.slice A zs.length c, .bool k]) ∧ IntsOk w' A c zs ∧ Below w.heap.size w w'
theorem RowK.eq {w w' : World} {zs ys : List Int} {k j : Bool} {e : Ending} (h : RowK w zs k e w') (h1 : zs = ys) (h2 : k = j) : RowK w ys j e w' := h1 ▸ h2 ▸ h

set_option maxHeartbeats 4000000 in
set_option maxRecDepth 100000 in
theorem wall_any (s : SetR) (bs : List Int) (ba : Option Addr) (bc : Nat) (of : Int) (w : World) (hs : SetOk w s) (hB : IntsOk w ba bc bs) : Calls Try.prog 14 #[.agg #[.int .i64 s.proto, .slice s.ca s.cores.length s.cc, .slice s.ha s.homes.length s.hc, .slice s.ta s.tasks.length s.tc], .slice ba bs.length bc, .int .i64 of] w (RowK w (waitsL s bs of) (waitsK s bs of)) := by
  have hb := (Below.refl w.heap.size w).alloc (Nat.le_refl _) (.cells #[.int .i64 s.proto, .slice s.ca s.cores.length s.cc, .slice s.ha s.homes.length s.hc, .slice s.ta s.tasks.length s.tc] 25)
  have sc := SetCells.new w s 25
  have H := hs.keep (Keeps.of_below hb)
  have l3 : s.tasks.length ≤ maxLen := Nat.le_trans hs.tasks.sl.2.1 hs.tasks.sl.2.2
  unfold maxLen at l3
  by_cases e : thereB s of = true
  · have Hth := hidp e
    obtain ⟨ho, r1, r2⟩ := thereB_true.1 e
    obtain ⟨n, rfl⟩ : ∃ n : Nat, of = n := ⟨of.toNat, by omega⟩
    have hn : n < s.tasks.length := by omega
    have hg := Good.of ho
    obtain ⟨t, HT⟩ : ∃ t, Hid (s.tasks.getD n default = t) := ⟨_, rfl⟩
    have hm : t ∈ s.tasks := HT.out ▸ getD_mem hn
    have Tok := hs.tasks.ok t hm
    have Tg := hg.parts t hm
    obtain ⟨g, off, hA, hcl⟩ := hs.tasks.at_.resolve_left (by intro e; rw [e] at hn; simp at hn)
    have Ht5 := hidp ((HT.out ▸ hcl n hn).2.2.2.2.2)
    have hpl := Tg.len
    obtain ⟨gp, op, hP, hpc⟩ := Tok.at_.resolve_left (by intro e; rw [e] at hpl; simp at hpl)
    have Hpc := hidp hpc
    obtain ⟨parts, hparts⟩ : ∃ parts, t.parts = parts := ⟨_, rfl⟩
    have Hpt : Hid (partsOf s n = parts) := hidp (by unfold partsOf; simp only [Int.toNat_natCast]; rw [HT.out, hparts])
    rw [hP, hparts] at Ht5
    rw [hparts] at Hpc hpl
    obtain ⟨V, HV⟩ : ∃ V : Nat → Int, Hid (∀ k : Nat, waitV s bs n k = V k) := ⟨fun k => waitV s bs n k, hidp (fun _ => rfl)⟩
    obtain ⟨K, HK⟩ : ∃ K : Nat → Bool, Hid (∀ k : Nat, waitK s bs n k = K k) := ⟨fun k => waitK s bs n k, hidp (fun _ => rfl)⟩
    have Hpa : Hid (∀ k : Nat, partAt s n k = parts.getD k default) := hidp (fun k => by unfold partAt; have := Hpt.out; unfold partsOf at this; rw [this]; simp)
    obtain ⟨PW, HPW⟩ : ∃ f : Nat → Int, Hid (pW s bs n = f) := ⟨_, hidp rfl⟩
    obtain ⟨PK, HPK⟩ : ∃ f : Nat → Bool, Hid (pK s bs n = f) := ⟨_, hidp rfl⟩
    have HPWl : Hid (∀ k, (parts.getD k default).kind = 3 → PW k = V k ∧ PK k = K k) := hidp (fun k h => by
      rw [← HPW.out, ← HPK.out]; unfold pW pK; rw [Hpa.out, if_pos h, if_pos h, HV.out, HK.out]; exact ⟨rfl, rfl⟩)
    have HPWn : Hid (∀ k, (parts.getD k default).kind ≠ 3 → PW k = 0 ∧ PK k = true) := hidp (fun k h => by
      rw [← HPW.out, ← HPK.out]; unfold pW pK; rw [Hpa.out, if_neg h, if_neg h]; exact ⟨rfl, rfl⟩)
    have HWb : Hid (∀ k, 0 ≤ PW k ∧ PW k ≤ 3000) := hidp (fun k => by rw [← HPW.out]; exact pW_bd s bs n k)
    have Hoff : Hid (∀ k, k < parts.length → PK k = false → waitsK s bs n = false ∧ waitsL s bs n = []) := hidp (fun k hk h => waits_off (by rw [Hpt.out]; exact hk) (by rw [HPK.out]; exact h))
    have Hyes : Hid ((∀ k, k < parts.length → PK k = true) → waitsK s bs n = true ∧ waitsL s bs n = (List.range parts.length).map PW) := hidp (fun h => by
      have := waits_yes (s := s) (bs := bs) (of := n) Hth.out (by rw [Hpt.out, HPK.out]; exact h)
      rw [Hpt.out, HPW.out] at this; exact this)
    obtain ⟨RL, HRL⟩ : ∃ L, Hid (waitsL s bs n = L) := ⟨_, hidp rfl⟩
    obtain ⟨RK, HRK⟩ : ∃ L, Hid (waitsK s bs n = L) := ⟨_, hidp rfl⟩
    rw [HRL.out, HRK.out] at Hoff Hyes ⊢
    have HS1 := hidp (fun u (h : Below w.heap.size w u) => hs.keep (Keeps.of_below h))
    have HB1 := hidp (fun u (h : Below w.heap.size w u) => hB.keep (Keeps.of_below h))
    obtain ⟨S, HSS⟩ : ∃ S : SetR, Hid (S = s) := ⟨s, rfl⟩
    obtain ⟨i0, hi0, hy0, hy1, hy2⟩ := info_parts infoZ
    clear hcl hm Tok Tg hpc hP hparts hg ho HT e hs hB r1
    have dn : decide (s.tasks.length ≤ n) = false := by simp; omega
    obtain ⟨proto, ca, cc, cores, ha, hc, homes, ta, tc, tasks⟩ := s
    dsimp only at hA hn l3 r2 hb sc H dn HS1 ⊢
    subst hA
    go_enter Try.func14, Try.ntmps14
    go_wp2
    go_step3
    go_wp2_with fail
    refine (there16_any _ _ _ H).mono ?_
    rintro e w2 ⟨rfl, hb2⟩
    replace hb := hb.trans (hb2.mono hb.size)
    replace sc := sc.keep (Keeps.of_below hb2)
    clear hb2
    try clear sc_0 sc_1 sc_2 sc_3
    have scx := sc
    obtain ⟨sc_0, sc_1, sc_2, sc_3⟩ := scx
    try dsimp only at sc_0 sc_1 sc_2 sc_3
    rw [Hth.out]
    have hz0 : w.heap.size + 1 ≤ w2.heap.size := cell_lt sc_0
    have d5 := Keeps.of_below hb _ _ Ht5.out
    go_wp2
    go_step3
    go_wp2
    clear sc_0 sc_1 sc_2 sc_3 d5
    go_loopg [8, 9, 24] parts.length (fun gg a ok i wr => ∃ (k c : Nat) (A : Option Addr), k + gg = parts.length ∧ i = .int .i64 k ∧ ok = .bool true ∧ a = .slice A k c ∧ Hid (∀ j, j < k → PK j = true) ∧ OwnN (w.heap.size + 1) wr A k c ((List.range k).map PW) ∧ SetCells wr w.heap.size ⟨proto, ca, cc, cores, ha, hc, homes, some ⟨g, off, none⟩, tc, tasks⟩ ∧ Below w.heap.size w wr ∧ w.heap.size + 1 ≤ wr.heap.size)
    case atStart => exact ⟨0, 0, none, by omega, rfl, rfl, rfl, hidp (fun j hj => by omega), OwnN.none _ _, sc, hb, hz0⟩
    case round =>
      clear sc hb
      obtain ⟨k, c, A, hk, rfl, rfl, rfl, Hk, ho, sc, hw, hz⟩ := hrel
      by_cases hlt : k < parts.length
      · obtain ⟨p, HP⟩ : ∃ p, Hid (parts.getD k default = p) := ⟨_, rfl⟩
        have pcl := (HP.out ▸ Hpc.out k hlt).keep (Keeps.of_below hw)
        obtain ⟨x0, x1, x2⟩ := pcl
        have hw1 := hw.alloc hw.size (.cells #[.int .i64 p.kind, .int .i64 p.len, .int .i64 p.res] 49)
        have ho1 := ho.turned ((Turned.refl [] wr).alloc (.cells #[.int .i64 p.kind, .int .i64 p.len, .int .i64 p.res] 49)) (by simp)
        have hz1 : w.heap.size + 1 ≤ (wr.alloc (.cells #[.int .i64 p.kind, .int .i64 p.len, .int .i64 p.res] 49)).heap.size := Nat.le_trans hz (by simp)
        have sc1 := sc.keep (Keeps.alloc wr (.cells #[.int .i64 p.kind, .int .i64 p.len, .int .i64 p.res] 49))
        obtain ⟨sc_0, sc_1, sc_2, sc_3⟩ := id sc1
        dsimp only at sc_0 sc_1 sc_2 sc_3
        have N2 : Hid (k + 1 ≤ maxLen) := hidp (by unfold maxLen; omega)
        have T2 : Hid ((k + 1) * 8 ≤ 140737488355328) := hidp (by omega)
        by_cases e : p.kind = 3
        · obtain ⟨v1, v2⟩ := HPWl.out k (by rw [HP.out]; exact e)
          have e' : (p.kind == 3) = true := by simpa using e
          obtain ⟨b, Hb⟩ : ∃ b, Hid (K k = b) := ⟨_, rfl⟩
          rw [Hb.out] at v2
          obtain ⟨v, Hv⟩ : ∃ v, Hid (PW k = v) := ⟨_, rfl⟩
          rw [Hv.out] at v1
          have Hvv := hidp v1.symm
          have Hpk := hidp v2
          clear v1 v2 e
          cases b with
          | false =>
            obtain ⟨f1, f2⟩ := Hoff.out k hlt Hpk.out
            have F1 := hidp f1
            have F2 := hidp f2
            clear f1 f2
            go_wp2_with fail
            refine (wpart_any _ bs ba bc n k _ (HS1.out _ hw1) (HB1.out _ hw1)).mono ?_
            rintro e w3 ⟨rfl, hb3⟩
            rw [HV.out k, HK.out k, Hb.out]
            go_wp2_with fail
            try rw [Exit.noGoto_ret]
            go_ret2
            exact RowK.eq ⟨none, 0, rfl, nil_ints _, hw1.trans (hb3.mono hw1.size)⟩ F2.out.symm F1.out.symm
          | true =>
            go_wp2_with fail
            refine (wpart_any _ bs ba bc n k _ (HS1.out _ hw1) (HB1.out _ hw1)).mono ?_
            rintro e w3 ⟨rfl, hb3⟩
            rw [HV.out k, HK.out k, Hb.out, Hvv.out]
            have hw3 := hw1.trans (hb3.mono hw1.size)
            have hown4 := ((ho1.turned (Turned.of_below hb3 []) (by simp)).turned ((Turned.refl [] w3).alloc (.cells #[.int .i64 v] 3)) (by simp))
            have S2 := hidp (Lies.newCells' w3 [.int .i64 v] 3)
            have Z2 : Hid (w.heap.size + 1 ≤ (w3.alloc (.cells #[.int .i64 v] 3)).heap.size) := hidp (Nat.le_trans hz1 (Nat.le_trans hb3.size (by simp)))
            have sc4 := (sc1.keep (Keeps.of_below hb3)).keep (Keeps.alloc _ (.cells #[.int .i64 v] 3))
            have hw4 := hw3.alloc hw3.size (.cells #[.int .i64 v] 3)
            have O2 := hidp (ints_one v)
            have Hfp := hidp (own_fp hown4.own)
            clear x0 x1 x2 sc_0 sc_1 sc_2 sc_3
            go_wp2_with (at_builtin; refine wpList_app2 _ rfl (.tmp 42) (.tmp 44) 22 rfl (w.heap.size + 1) 3 i0 _ 1 8 Try.underlying22 hi0 hy0 hy1 hy2 rfl (by decide) A k c _ rfl hown4.own _ _ 1 1 [.int .i64 v] rfl (by simp) rfl S2.out O2.out N2.out T2.out Z2.out ?_; intro A' c' w5 happ)
            go_roundg (gk - 1)
            case measure => omega
            case rel => exact ⟨k + 1, c', A', by omega, by go_num, rfl, rfl, hidp (fun j hj => by
              by_cases ej : j = k
              · subst ej; exact Hpk.out
              · exact Hk.out j (by omega)), by rw [range_snoc, Hv.out]; exact hown4.app (ps := [v]) happ rfl, sc4.turned happ.turned (fun hf => by have := (Hfp.out _ hf).1; omega), hw4.trans (happ.turned.below hw4.size (fun j hj => by have := (Hfp.out _ hj).1; omega)), Nat.le_trans Z2.out happ.turned.size⟩
        · obtain ⟨v1, v2⟩ := HPWn.out k (by rw [HP.out]; exact e)
          have e' : (p.kind == 3) = false := by simpa using e
          have Hv := hidp v1
          have Hpk := hidp v2
          clear v1 v2 e
          have hw3 := hw1
          have hown4 := ho1.turned ((Turned.refl [] (wr.alloc (.cells #[.int .i64 p.kind, .int .i64 p.len, .int .i64 p.res] 49))).alloc (.cells #[.int .i64 0] 3)) (by simp)
          have S2' := Lies.newCells' (wr.alloc (.cells #[.int .i64 p.kind, .int .i64 p.len, .int .i64 p.res] 49)) [.int .i64 0] 3
          rw [show (wr.alloc (.cells #[.int .i64 p.kind, .int .i64 p.len, .int .i64 p.res] 49)).heap.size = wr.heap.size + 1 by simp] at S2'
          have S2 := hidp S2'
          clear S2'
          have Z2 : Hid (w.heap.size + 1 ≤ ((wr.alloc (.cells #[.int .i64 p.kind, .int .i64 p.len, .int .i64 p.res] 49)).alloc (.cells #[.int .i64 0] 3)).heap.size) := hidp (Nat.le_trans hz1 (by simp))
          have sc4 := sc1.keep (Keeps.alloc _ (.cells #[.int .i64 0] 3))
          have hw4 := hw3.alloc hw3.size (.cells #[.int .i64 0] 3)
          have O2 := hidp (ints_one 0)
          have Hfp := hidp (own_fp hown4.own)
          go_wp2_with (at_builtin; refine wpList_app2 _ rfl (.tmp 42) (.tmp 44) 22 rfl (w.heap.size + 1) 3 i0 _ 1 8 Try.underlying22 hi0 hy0 hy1 hy2 rfl (by decide) A k c _ rfl hown4.own _ _ 1 1 [.int .i64 0] rfl (by simp) rfl S2.out O2.out N2.out T2.out Z2.out ?_; intro A' c' w5 happ)
          go_roundg (gk - 1)
          case measure => omega
          case rel => exact ⟨k + 1, c', A', by omega, by go_num, rfl, rfl, hidp (fun j hj => by
              by_cases ej : j = k
              · subst ej; exact Hpk.out
              · exact Hk.out j (by omega)), by rw [range_snoc, Hv.out]; exact hown4.app (ps := [0]) happ rfl, sc4.turned happ.turned (fun hf => by have := (Hfp.out _ hf).1; omega), hw4.trans (happ.turned.below hw4.size (fun j hj => by have := (Hfp.out _ hj).1; omega)), Nat.le_trans Z2.out happ.turned.size⟩
      · obtain rfl : k = parts.length := by omega
        obtain ⟨f1, f2⟩ := Hyes.out Hk.out
        have F1 := hidp f1
        have F2 := hidp f2
        have hrow := ho.ok (fun x hx => by obtain ⟨j, _, rfl⟩ := List.mem_map.1 hx; have := HWb.out j; unfold I64; omega)
        have Hr := hidp hrow
        clear f1 f2 hrow
        go_wp2
        try rw [Exit.noGoto_ret]
        go_ret2
        exact RowK.eq ⟨A, c, by simp, Hr.out, hw⟩ F2.out.symm F1.out.symm
  · have e : thereB s of = false := by simpa using e
    obtain ⟨k1, k2⟩ := waits_no (bs := bs) e
    have Hth := hidp e
    have F1 := hidp k1
    have F2 := hidp k2
    clear e k1 k2 hs hB
    go_enter Try.func14, Try.ntmps14
    go_wp2
    go_step3
    go_wp2_with fail
    refine (there16_any _ _ _ H).mono ?_
    rintro e w2 ⟨rfl, hb2⟩
    replace hb := hb.trans (hb2.mono hb.size)
    replace sc := sc.keep (Keeps.of_below hb2)
    clear hb2
    rw [Hth.out]
    go_wp2
    go_ret2
    exact RowK.eq ⟨none, 0, rfl, nil_ints _, hb⟩ F2.out.symm F1.out.symm

set_option maxHeartbeats 1000000 in
set_option maxRecDepth 100000 in
theorem wsum_any (s : SetR) (bs : List Int) (ba : Option Addr) (bc : Nat) (of : Int) (w : World) (hs : SetOk w s) (hB : IntsOk w ba bc bs) : Calls Try.prog 36 #[.agg #[.int .i64 s.proto, .slice s.ca s.cores.length s.cc, .slice s.ha s.homes.length s.hc, .slice s.ta s.tasks.length s.tc], .slice ba bs.length bc, .int .i64 of] w fun e w' => e = .returned (.tuple #[.int .i64 (tot (waitsL s bs of)), .bool (waitsK s bs of)]) ∧ Below w.heap.size w w' := by
  have hb := (Below.refl w.heap.size w).alloc (Nat.le_refl _) (.cells #[.int .i64 s.proto, .slice s.ca s.cores.length s.cc, .slice s.ha s.homes.length s.hc, .slice s.ta s.tasks.length s.tc] 25)
  have sc := SetCells.new w s 25
  have H := hs.keep (Keeps.of_below hb)
  have HB := hB.keep (Keeps.of_below hb)
  have h6 := waitsL_len s bs of
  obtain ⟨L, HL⟩ : ∃ L, Hid (waitsL s bs of = L) := ⟨_, hidp rfl⟩
  obtain ⟨K, HK⟩ : ∃ K, Hid (waitsK s bs of = K) := ⟨_, hidp rfl⟩
  rw [HL.out] at h6
  obtain ⟨l6, hb6⟩ := h6
  have HP := hidp hb6
  have HW := wall_any s bs ba bc of _ H HB
  rw [HL.out, HK.out] at HW ⊢
  clear hs hB H HB hb6
  go_enter Try.func36, Try.ntmps36
  go_wp2_with fail
  refine HW.mono ?_
  rintro e w2 ⟨A, c, rfl, hr, hb2⟩
  replace hb := hb.trans (hb2.mono hb.size)
  have HR := hidp hr.at_
  clear hr hb2 HW sc
  go_wp2
  go_loopg [10, 22] L.length (fun gg a i wr => ∃ (k : Nat) (x : Int), k + gg = L.length ∧ i = .int .i64 k ∧ a = .int .i64 x ∧ Hid (tot (L.take k) = x) ∧ w2 = wr)
  case atStart => exact ⟨0, 0, by omega, rfl, rfl, hidp rfl, rfl⟩
  case round =>
    obtain ⟨k, x, hk, rfl, rfl, Hx, rfl⟩ := hrel
    have hx := tot_cap (fun n (hn : n ∈ L.take k) => HP.out n (List.mem_of_mem_take hn))
    rw [Hx.out, List.length_take] at hx
    obtain ⟨x0, x1⟩ := hx
    have x2 : x ≤ 18000 := by omega
    clear x1
    by_cases hlt : k < L.length
    · obtain ⟨g, off, hA, hcl⟩ := HR.out.resolve_left (by intro e; rw [e] at hlt; simp at hlt)
      subst hA
      obtain ⟨v, Hv⟩ : ∃ v, Hid (L.getD k 0 = v) := ⟨_, rfl⟩
      have c1 := Hv.out ▸ hcl k hlt
      have hv := HP.out v (by rw [← Hv.out]; simp [List.getD, hlt])
      obtain ⟨v0, v1⟩ := hv
      have Hs : Hid (tot (L.take (k + 1)) = x + v) := hidp (by rw [tot_snoc _ _ hlt, Hx.out, Hv.out])
      clear hcl
      go_wp2
      go_roundg (gk - 1)
      case measure => omega
      case rel => exact ⟨k + 1, x + v, by omega, by go_num, rfl, Hs, rfl⟩
    · obtain rfl : k = L.length := by omega
      have Hz : Hid (tot L = x) := hidp (by have := Hx.out; rw [List.take_length] at this; exact this)
      go_wp2
      go_ret2
      exact ⟨ret_ib Hz.out.symm rfl, hb⟩
end Go.Proofs.Ytlbaohefappfoaa

namespace Go.Proofs.Ytlbaohefappfoaa
open Go.ChangeShapes Go.WideShapes Go.ChangeAt Go.RowKit
set_option linter.unusedVariables false
set_option linter.unusedSimpArgs false
def RowN (w : World) (zs : List Int) (k : Bool) (e : Ending) (w' : World) : Prop := ∃ A c, e = .returned (.tuple #[.slice A zs.length c, .bool k]) ∧ IntsOk w' A c zs ∧ Below w.heap.size w w' ∧ ∀ k ∈ fp A, w.heap.size ≤ k
theorem RowN.eq {w w' : World} {zs ys : List Int} {k j : Bool} {e : Ending} (h : RowN w zs k e w') (h1 : zs = ys) (h2 : k = j) : RowN w ys j e w' := h1 ▸ h2 ▸ h

set_option maxHeartbeats 4000000 in
set_option maxRecDepth 100000 in
theorem wallN_any (s : SetR) (bs : List Int) (ba : Option Addr) (bc : Nat) (of : Int) (w : World) (hs : SetOk w s) (hB : IntsOk w ba bc bs) : Calls Try.prog 14 #[.agg #[.int .i64 s.proto, .slice s.ca s.cores.length s.cc, .slice s.ha s.homes.length s.hc, .slice s.ta s.tasks.length s.tc], .slice ba bs.length bc, .int .i64 of] w (RowN w (waitsL s bs of) (waitsK s bs of)) := by
  have hb := (Below.refl w.heap.size w).alloc (Nat.le_refl _) (.cells #[.int .i64 s.proto, .slice s.ca s.cores.length s.cc, .slice s.ha s.homes.length s.hc, .slice s.ta s.tasks.length s.tc] 25)
  have sc := SetCells.new w s 25
  have H := hs.keep (Keeps.of_below hb)
  have l3 : s.tasks.length ≤ maxLen := Nat.le_trans hs.tasks.sl.2.1 hs.tasks.sl.2.2
  unfold maxLen at l3
  by_cases e : thereB s of = true
  · have Hth := hidp e
    obtain ⟨ho, r1, r2⟩ := thereB_true.1 e
    obtain ⟨n, rfl⟩ : ∃ n : Nat, of = n := ⟨of.toNat, by omega⟩
    have hn : n < s.tasks.length := by omega
    have hg := Good.of ho
    obtain ⟨t, HT⟩ : ∃ t, Hid (s.tasks.getD n default = t) := ⟨_, rfl⟩
    have hm : t ∈ s.tasks := HT.out ▸ getD_mem hn
    have Tok := hs.tasks.ok t hm
    have Tg := hg.parts t hm
    obtain ⟨g, off, hA, hcl⟩ := hs.tasks.at_.resolve_left (by intro e; rw [e] at hn; simp at hn)
    have Ht5 := hidp ((HT.out ▸ hcl n hn).2.2.2.2.2)
    have hpl := Tg.len
    obtain ⟨gp, op, hP, hpc⟩ := Tok.at_.resolve_left (by intro e; rw [e] at hpl; simp at hpl)
    have Hpc := hidp hpc
    obtain ⟨parts, hparts⟩ : ∃ parts, t.parts = parts := ⟨_, rfl⟩
    have Hpt : Hid (partsOf s n = parts) := hidp (by unfold partsOf; simp only [Int.toNat_natCast]; rw [HT.out, hparts])
    rw [hP, hparts] at Ht5
    rw [hparts] at Hpc hpl
    obtain ⟨V, HV⟩ : ∃ V : Nat → Int, Hid (∀ k : Nat, waitV s bs n k = V k) := ⟨fun k => waitV s bs n k, hidp (fun _ => rfl)⟩
    obtain ⟨K, HK⟩ : ∃ K : Nat → Bool, Hid (∀ k : Nat, waitK s bs n k = K k) := ⟨fun k => waitK s bs n k, hidp (fun _ => rfl)⟩
    have Hpa : Hid (∀ k : Nat, partAt s n k = parts.getD k default) := hidp (fun k => by unfold partAt; have := Hpt.out; unfold partsOf at this; rw [this]; simp)
    obtain ⟨PW, HPW⟩ : ∃ f : Nat → Int, Hid (pW s bs n = f) := ⟨_, hidp rfl⟩
    obtain ⟨PK, HPK⟩ : ∃ f : Nat → Bool, Hid (pK s bs n = f) := ⟨_, hidp rfl⟩
    have HPWl : Hid (∀ k, (parts.getD k default).kind = 3 → PW k = V k ∧ PK k = K k) := hidp (fun k h => by
      rw [← HPW.out, ← HPK.out]; unfold pW pK; rw [Hpa.out, if_pos h, if_pos h, HV.out, HK.out]; exact ⟨rfl, rfl⟩)
    have HPWn : Hid (∀ k, (parts.getD k default).kind ≠ 3 → PW k = 0 ∧ PK k = true) := hidp (fun k h => by
      rw [← HPW.out, ← HPK.out]; unfold pW pK; rw [Hpa.out, if_neg h, if_neg h]; exact ⟨rfl, rfl⟩)
    have HWb : Hid (∀ k, 0 ≤ PW k ∧ PW k ≤ 3000) := hidp (fun k => by rw [← HPW.out]; exact pW_bd s bs n k)
    have Hoff : Hid (∀ k, k < parts.length → PK k = false → waitsK s bs n = false ∧ waitsL s bs n = []) := hidp (fun k hk h => waits_off (by rw [Hpt.out]; exact hk) (by rw [HPK.out]; exact h))
    have Hyes : Hid ((∀ k, k < parts.length → PK k = true) → waitsK s bs n = true ∧ waitsL s bs n = (List.range parts.length).map PW) := hidp (fun h => by
      have := waits_yes (s := s) (bs := bs) (of := n) Hth.out (by rw [Hpt.out, HPK.out]; exact h)
      rw [Hpt.out, HPW.out] at this; exact this)
    obtain ⟨RL, HRL⟩ : ∃ L, Hid (waitsL s bs n = L) := ⟨_, hidp rfl⟩
    obtain ⟨RK, HRK⟩ : ∃ L, Hid (waitsK s bs n = L) := ⟨_, hidp rfl⟩
    rw [HRL.out, HRK.out] at Hoff Hyes ⊢
    have HS1 := hidp (fun u (h : Below w.heap.size w u) => hs.keep (Keeps.of_below h))
    have HB1 := hidp (fun u (h : Below w.heap.size w u) => hB.keep (Keeps.of_below h))
    obtain ⟨S, HSS⟩ : ∃ S : SetR, Hid (S = s) := ⟨s, rfl⟩
    obtain ⟨i0, hi0, hy0, hy1, hy2⟩ := info_parts infoZ
    clear hcl hm Tok Tg hpc hP hparts hg ho HT e hs hB r1
    have dn : decide (s.tasks.length ≤ n) = false := by simp; omega
    obtain ⟨proto, ca, cc, cores, ha, hc, homes, ta, tc, tasks⟩ := s
    dsimp only at hA hn l3 r2 hb sc H dn HS1 ⊢
    subst hA
    go_enter Try.func14, Try.ntmps14
    go_wp2
    go_step3
    go_wp2_with fail
    refine (there16_any _ _ _ H).mono ?_
    rintro e w2 ⟨rfl, hb2⟩
    replace hb := hb.trans (hb2.mono hb.size)
    replace sc := sc.keep (Keeps.of_below hb2)
    clear hb2
    try clear sc_0 sc_1 sc_2 sc_3
    have scx := sc
    obtain ⟨sc_0, sc_1, sc_2, sc_3⟩ := scx
    try dsimp only at sc_0 sc_1 sc_2 sc_3
    rw [Hth.out]
    have hz0 : w.heap.size + 1 ≤ w2.heap.size := cell_lt sc_0
    have d5 := Keeps.of_below hb _ _ Ht5.out
    go_wp2
    go_step3
    go_wp2
    clear sc_0 sc_1 sc_2 sc_3 d5
    go_loopg [8, 9, 24] parts.length (fun gg a ok i wr => ∃ (k c : Nat) (A : Option Addr), k + gg = parts.length ∧ i = .int .i64 k ∧ ok = .bool true ∧ a = .slice A k c ∧ Hid (∀ j, j < k → PK j = true) ∧ OwnN (w.heap.size + 1) wr A k c ((List.range k).map PW) ∧ SetCells wr w.heap.size ⟨proto, ca, cc, cores, ha, hc, homes, some ⟨g, off, none⟩, tc, tasks⟩ ∧ Below w.heap.size w wr ∧ w.heap.size + 1 ≤ wr.heap.size)
    case atStart => exact ⟨0, 0, none, by omega, rfl, rfl, rfl, hidp (fun j hj => by omega), OwnN.none _ _, sc, hb, hz0⟩
    case round =>
      clear sc hb
      obtain ⟨k, c, A, hk, rfl, rfl, rfl, Hk, ho, sc, hw, hz⟩ := hrel
      by_cases hlt : k < parts.length
      · obtain ⟨p, HP⟩ : ∃ p, Hid (parts.getD k default = p) := ⟨_, rfl⟩
        have pcl := (HP.out ▸ Hpc.out k hlt).keep (Keeps.of_below hw)
        obtain ⟨x0, x1, x2⟩ := pcl
        have hw1 := hw.alloc hw.size (.cells #[.int .i64 p.kind, .int .i64 p.len, .int .i64 p.res] 49)
        have ho1 := ho.turned ((Turned.refl [] wr).alloc (.cells #[.int .i64 p.kind, .int .i64 p.len, .int .i64 p.res] 49)) (by simp)
        have hz1 : w.heap.size + 1 ≤ (wr.alloc (.cells #[.int .i64 p.kind, .int .i64 p.len, .int .i64 p.res] 49)).heap.size := Nat.le_trans hz (by simp)
        have sc1 := sc.keep (Keeps.alloc wr (.cells #[.int .i64 p.kind, .int .i64 p.len, .int .i64 p.res] 49))
        obtain ⟨sc_0, sc_1, sc_2, sc_3⟩ := id sc1
        dsimp only at sc_0 sc_1 sc_2 sc_3
        have N2 : Hid (k + 1 ≤ maxLen) := hidp (by unfold maxLen; omega)
        have T2 : Hid ((k + 1) * 8 ≤ 140737488355328) := hidp (by omega)
        by_cases e : p.kind = 3
        · obtain ⟨v1, v2⟩ := HPWl.out k (by rw [HP.out]; exact e)
          have e' : (p.kind == 3) = true := by simpa using e
          obtain ⟨b, Hb⟩ : ∃ b, Hid (K k = b) := ⟨_, rfl⟩
          rw [Hb.out] at v2
          obtain ⟨v, Hv⟩ : ∃ v, Hid (PW k = v) := ⟨_, rfl⟩
          rw [Hv.out] at v1
          have Hvv := hidp v1.symm
          have Hpk := hidp v2
          clear v1 v2 e
          cases b with
          | false =>
            obtain ⟨f1, f2⟩ := Hoff.out k hlt Hpk.out
            have F1 := hidp f1
            have F2 := hidp f2
            clear f1 f2
            go_wp2_with fail
            refine (wpart_any _ bs ba bc n k _ (HS1.out _ hw1) (HB1.out _ hw1)).mono ?_
            rintro e w3 ⟨rfl, hb3⟩
            rw [HV.out k, HK.out k, Hb.out]
            go_wp2_with fail
            try rw [Exit.noGoto_ret]
            go_ret2
            exact RowN.eq ⟨none, 0, rfl, nil_ints _, hw1.trans (hb3.mono hw1.size), by simp [fp]⟩ F2.out.symm F1.out.symm
          | true =>
            go_wp2_with fail
            refine (wpart_any _ bs ba bc n k _ (HS1.out _ hw1) (HB1.out _ hw1)).mono ?_
            rintro e w3 ⟨rfl, hb3⟩
            rw [HV.out k, HK.out k, Hb.out, Hvv.out]
            have hw3 := hw1.trans (hb3.mono hw1.size)
            have hown4 := ((ho1.turned (Turned.of_below hb3 []) (by simp)).turned ((Turned.refl [] w3).alloc (.cells #[.int .i64 v] 3)) (by simp))
            have S2 := hidp (Lies.newCells' w3 [.int .i64 v] 3)
            have Z2 : Hid (w.heap.size + 1 ≤ (w3.alloc (.cells #[.int .i64 v] 3)).heap.size) := hidp (Nat.le_trans hz1 (Nat.le_trans hb3.size (by simp)))
            have sc4 := (sc1.keep (Keeps.of_below hb3)).keep (Keeps.alloc _ (.cells #[.int .i64 v] 3))
            have hw4 := hw3.alloc hw3.size (.cells #[.int .i64 v] 3)
            have O2 := hidp (ints_one v)
            have Hfp := hidp (own_fp hown4.own)
            clear x0 x1 x2 sc_0 sc_1 sc_2 sc_3
            go_wp2_with (at_builtin; refine wpList_app2 _ rfl (.tmp 42) (.tmp 44) 22 rfl (w.heap.size + 1) 3 i0 _ 1 8 Try.underlying22 hi0 hy0 hy1 hy2 rfl (by decide) A k c _ rfl hown4.own _ _ 1 1 [.int .i64 v] rfl (by simp) rfl S2.out O2.out N2.out T2.out Z2.out ?_; intro A' c' w5 happ)
            go_roundg (gk - 1)
            case measure => omega
            case rel => exact ⟨k + 1, c', A', by omega, by go_num, rfl, rfl, hidp (fun j hj => by
              by_cases ej : j = k
              · subst ej; exact Hpk.out
              · exact Hk.out j (by omega)), by rw [range_snoc, Hv.out]; exact hown4.app (ps := [v]) happ rfl, sc4.turned happ.turned (fun hf => by have := (Hfp.out _ hf).1; omega), hw4.trans (happ.turned.below hw4.size (fun j hj => by have := (Hfp.out _ hj).1; omega)), Nat.le_trans Z2.out happ.turned.size⟩
        · obtain ⟨v1, v2⟩ := HPWn.out k (by rw [HP.out]; exact e)
          have e' : (p.kind == 3) = false := by simpa using e
          have Hv := hidp v1
          have Hpk := hidp v2
          clear v1 v2 e
          have hw3 := hw1
          have hown4 := ho1.turned ((Turned.refl [] (wr.alloc (.cells #[.int .i64 p.kind, .int .i64 p.len, .int .i64 p.res] 49))).alloc (.cells #[.int .i64 0] 3)) (by simp)
          have S2' := Lies.newCells' (wr.alloc (.cells #[.int .i64 p.kind, .int .i64 p.len, .int .i64 p.res] 49)) [.int .i64 0] 3
          rw [show (wr.alloc (.cells #[.int .i64 p.kind, .int .i64 p.len, .int .i64 p.res] 49)).heap.size = wr.heap.size + 1 by simp] at S2'
          have S2 := hidp S2'
          clear S2'
          have Z2 : Hid (w.heap.size + 1 ≤ ((wr.alloc (.cells #[.int .i64 p.kind, .int .i64 p.len, .int .i64 p.res] 49)).alloc (.cells #[.int .i64 0] 3)).heap.size) := hidp (Nat.le_trans hz1 (by simp))
          have sc4 := sc1.keep (Keeps.alloc _ (.cells #[.int .i64 0] 3))
          have hw4 := hw3.alloc hw3.size (.cells #[.int .i64 0] 3)
          have O2 := hidp (ints_one 0)
          have Hfp := hidp (own_fp hown4.own)
          go_wp2_with (at_builtin; refine wpList_app2 _ rfl (.tmp 42) (.tmp 44) 22 rfl (w.heap.size + 1) 3 i0 _ 1 8 Try.underlying22 hi0 hy0 hy1 hy2 rfl (by decide) A k c _ rfl hown4.own _ _ 1 1 [.int .i64 0] rfl (by simp) rfl S2.out O2.out N2.out T2.out Z2.out ?_; intro A' c' w5 happ)
          go_roundg (gk - 1)
          case measure => omega
          case rel => exact ⟨k + 1, c', A', by omega, by go_num, rfl, rfl, hidp (fun j hj => by
              by_cases ej : j = k
              · subst ej; exact Hpk.out
              · exact Hk.out j (by omega)), by rw [range_snoc, Hv.out]; exact hown4.app (ps := [0]) happ rfl, sc4.turned happ.turned (fun hf => by have := (Hfp.out _ hf).1; omega), hw4.trans (happ.turned.below hw4.size (fun j hj => by have := (Hfp.out _ hj).1; omega)), Nat.le_trans Z2.out happ.turned.size⟩
      · obtain rfl : k = parts.length := by omega
        obtain ⟨f1, f2⟩ := Hyes.out Hk.out
        have F1 := hidp f1
        have F2 := hidp f2
        have hrow := ho.ok (fun x hx => by obtain ⟨j, _, rfl⟩ := List.mem_map.1 hx; have := HWb.out j; unfold I64; omega)
        have Hr := hidp hrow
        have Hfn := hidp (own_fp ho.own)
        clear f1 f2 hrow
        go_wp2
        try rw [Exit.noGoto_ret]
        go_ret2
        exact RowN.eq ⟨A, c, by simp, Hr.out, hw, fun k hk => by have := (Hfn.out k hk).1; omega⟩ F2.out.symm F1.out.symm
  · have e : thereB s of = false := by simpa using e
    obtain ⟨k1, k2⟩ := waits_no (bs := bs) e
    have Hth := hidp e
    have F1 := hidp k1
    have F2 := hidp k2
    clear e k1 k2 hs hB
    go_enter Try.func14, Try.ntmps14
    go_wp2
    go_step3
    go_wp2_with fail
    refine (there16_any _ _ _ H).mono ?_
    rintro e w2 ⟨rfl, hb2⟩
    replace hb := hb.trans (hb2.mono hb.size)
    replace sc := sc.keep (Keeps.of_below hb2)
    clear hb2
    rw [Hth.out]
    go_wp2
    go_ret2
    exact RowN.eq ⟨none, 0, rfl, nil_ints _, hb, by simp [fp]⟩ F2.out.symm F1.out.symm

end Go.Proofs.Ytlbaohefappfoaa

namespace Go.Proofs.Ytlbaohefappfoaa
open Go.ChangeShapes Go.WideShapes Go.ChangeAt Go.RowKit
set_option linter.unusedVariables false

def taskAt (s : SetR) (of : Int) : TaskR := s.tasks.getD of.toNat default
def eachV (s : SetR) (of other : Int) : Int :=
  (if s.proto = 2 then atV s of (taskAt s other).cl else if (taskAt s of).cl = (taskAt s other).cl then sumK 3 (taskAt s of).parts else 0) +
  (if (taskAt s of).cl = (taskAt s other).cl ∧ (taskAt s of).prio < (taskAt s other).prio then sumK 1 (taskAt s of).parts else 0)
theorem eachV_bd {s : SetR} (ho : okS s = true) (of other : Int) : 0 ≤ eachV s of other ∧ eachV s of other ≤ 720 := by
  have h1 := atV_bd s of (taskAt s other).cl
  have hk : ∀ k, 0 ≤ sumK k (taskAt s of).parts ∧ sumK k (taskAt s of).parts ≤ 360 := fun k => by
    by_cases hl : of.toNat < s.tasks.length
    · have hg := (Good.of ho).parts _ (getD_mem (α := TaskR) hl)
      have := sumK_bd k hg.lens
      have := hg.len
      unfold taskAt; omega
    · have e : taskAt s of = default := by unfold taskAt; simp [List.getD, hl]
      rw [e]; show 0 ≤ sumK k [] ∧ sumK k [] ≤ 360; simp [sumK]
  have h2 := hk 3
  have h3 := hk 1
  unfold eachV
  (repeat' split) <;> omega
/-- what all but one do in a window, from number k on -/
def othW (s : SetR) (bs : List Int) (of wd : Int) : Nat → List TaskR → Int
  | _, [] => 0
  | k, t :: ts => (if (k : Int) = of then 0 else workV wd (bs.getD k 0) t.per (eachV s k of)) + othW s bs of wd (k + 1) ts
theorem othW_append (s : SetR) (bs : List Int) (of wd : Int) (k : Nat) (a b : List TaskR) : othW s bs of wd k (a ++ b) = othW s bs of wd k a + othW s bs of wd (k + a.length) b := by
  induction a generalizing k with
  | nil => simp [othW]
  | cons t a ih => simp only [List.cons_append, othW, ih, List.length_cons]; rw [show k + 1 + a.length = k + (a.length + 1) by omega]; omega
theorem othW_snoc (s : SetR) (bs : List Int) (of wd : Int) (ts : List TaskR) (n : Nat) (h : n < ts.length) : othW s bs of wd 0 (ts.take (n + 1)) = othW s bs of wd 0 (ts.take n) + (if (n : Int) = of then 0 else workV wd (bs.getD n 0) (ts.getD n default).per (eachV s n of)) := by
  rw [take_snocD ts n h, othW_append]
  simp [othW, List.length_take, Nat.min_eq_left (Nat.le_of_lt h)]
theorem othW_bd (s : SetR) (bs : List Int) (of wd : Int) (k : Nat) (ts : List TaskR) : 0 ≤ othW s bs of wd k ts ∧ othW s bs of wd k ts ≤ 1000000 * (ts.length : Int) := by
  induction ts generalizing k with
  | nil => simp [othW]
  | cons t ts ih =>
    have h1 := ih (k + 1)
    have h2 := workV_bd wd (bs.getD k 0) t.per (eachV s k of)
    simp only [othW, List.length_cons]
    split <;> omega
/-- no bound is below 0 -/
def nnB (bs : List Int) : Bool := bs.all (fun b => decide (0 ≤ b))
theorem nnB_true {bs : List Int} : nnB bs = true ↔ ∀ b ∈ bs, 0 ≤ b := by simp [nnB]
theorem nn_not {bs : List Int} {k : Nat} (hk : k < bs.length) (h : bs.getD k 0 < 0) : nnB bs = false := by
  rw [Bool.eq_false_iff]; intro h2
  have := nnB_true.1 h2 (bs.getD k 0) (by simp [List.getD, hk])
  omega
theorem nn_yes {bs : List Int} (h : ∀ k, k < bs.length → 0 ≤ bs.getD k 0) : nnB bs = true := by
  rw [nnB_true]; intro b hb
  obtain ⟨k, hk, e⟩ := List.getElem_of_mem hb
  have := h k hk
  simp [List.getD, hk, e] at this
  exact this
def othersB (s : SetR) (bs : List Int) (of : Int) : Bool := thereB s of && decide (bs.length = s.tasks.length)
theorem othersB_true {s : SetR} {bs : List Int} {of : Int} : othersB s bs of = true ↔ thereB s of = true ∧ bs.length = s.tasks.length := by simp [othersB]
def othersV (s : SetR) (bs : List Int) (of wd : Int) : Int := if othersB s bs of = true ∧ nnB bs = true then othW s bs of wd 0 s.tasks / s.cores.getD (taskAt s of).cl.toNat 0 else 0
theorem cores_at {s : SetR} {of : Int} (h : thereB s of = true) : 0 ≤ (taskAt s of).cl ∧ (taskAt s of).cl < s.cores.length ∧ 1 ≤ s.cores.getD (taskAt s of).cl.toNat 0 ∧ s.cores.getD (taskAt s of).cl.toNat 0 ≤ 3 := by
  obtain ⟨ho, r1, r2⟩ := thereB_true.1 h
  have hg := Good.of ho
  have h1 := hg.place (taskAt s of) (getD_mem (by omega))
  have h2 : (taskAt s of).cl.toNat < s.cores.length := by omega
  have h3 := hg.cores (s.cores.getD (taskAt s of).cl.toNat 0) (by simp [List.getD, h2])
  exact ⟨by omega, by omega, h3.1, h3.2⟩
theorem othersV_bd (s : SetR) (bs : List Int) (of wd : Int) : 0 ≤ othersV s bs of wd ∧ othersV s bs of wd ≤ 6000000 := by
  unfold othersV
  split
  · rename_i h
    obtain ⟨h1, _⟩ := othersB_true.1 h.1
    have hc := cores_at h1
    have hn := (Good.of (thereB_true.1 h1).1).ntasks.2
    have hb := othW_bd s bs of wd 0 s.tasks
    refine ⟨Int.ediv_nonneg hb.1 (by omega), Int.le_trans (Int.ediv_le_self _ hb.1) (by omega)⟩
  · omega
def ownV (s : SetR) (bs : List Int) (of : Int) : Int := if waitsK s bs of = true then sumK 1 (taskAt s of).parts + sumK 2 (taskAt s of).parts + tot (waitsL s bs of) else 0
theorem waitsK_there {s : SetR} {bs : List Int} {of : Int} (h : waitsK s bs of = true) : thereB s of = true := by
  cases e : thereB s of with
  | true => rfl
  | false => rw [(waits_no (bs := bs) e).1] at h; cases h
theorem sum12_bd {s : SetR} {of : Int} (h : thereB s of = true) (k : Int) : 0 ≤ sumK k (taskAt s of).parts ∧ sumK k (taskAt s of).parts ≤ 360 := by
  obtain ⟨ho, r1, r2⟩ := thereB_true.1 h
  have hg := (Good.of ho).parts (taskAt s of) (getD_mem (by omega))
  have := sumK_bd k hg.lens
  have := hg.len
  omega
theorem ownV_bd (s : SetR) (bs : List Int) (of : Int) : 0 ≤ ownV s bs of ∧ ownV s bs of ≤ 18720 := by
  unfold ownV
  split
  · rename_i h
    have h1 := sum12_bd (waitsK_there h) 1
    have h2 := sum12_bd (waitsK_there h) 2
    have h3 := waitsT_bd s bs of
    omega
  · omega
def nextK (s : SetR) (bs : List Int) (of : Int) : Bool := waitsK s bs of && decide (bs.length = s.tasks.length)
def nextV (s : SetR) (bs : List Int) (of : Int) : Int := if nextK s bs of = true then ownV s bs of + othersV s bs of (bs.getD of.toNat 0) else 0
theorem nextK_true {s : SetR} {bs : List Int} {of : Int} : nextK s bs of = true ↔ waitsK s bs of = true ∧ bs.length = s.tasks.length := by simp [nextK]
theorem nextV_bd (s : SetR) (bs : List Int) (of : Int) : 0 ≤ nextV s bs of ∧ nextV s bs of ≤ 6100000 := by
  have h1 := ownV_bd s bs of
  have h2 := othersV_bd s bs of (bs.getD of.toNat 0)
  unfold nextV; split <;> omega
end Go.Proofs.Ytlbaohefappfoaa

namespace Go.Proofs.Ytlbaohefappfoaa
open Go.ChangeShapes Go.WideShapes Go.ChangeAt Go.RowKit
set_option linter.unusedVariables false
/-- what two tasks at one cluster do to one another: the same by each protocol -/
theorem pair_each {S : SetR} {proto run lock run2 lock2 : Int} {a1 a2 : Option Addr} {c1 c2 : Nat} {n1 n2 : ByteArray} {e1 d1 q1 e2 d2 q2 : Int} (hok : okS S = true) (hp : S.proto = proto) (p3 : S.homes = [0]) (p4 : S.tasks = [⟨n1, e1, d1, q1, 0, a1, c1, [⟨1, run, 0⟩, ⟨3, lock, 0⟩]⟩, ⟨n2, e2, d2, q2, 0, a2, c2, [⟨1, run2, 0⟩, ⟨3, lock2, 0⟩]⟩]) :
    eachV S 1 0 = lock2 + (if q2 < q1 then run2 else 0) ∧ eachV S 0 1 = lock + (if q1 < q2 then run else 0) := by
  have s0 : atV S 0 0 = lock := by unfold atV; rw [show ((0 : Int)) = ((0 : Nat) : Int) from rfl, srv_in hok (by rw [p4]; simp), p4, p3]; simp [srvB, sumK]
  have s1 : atV S 1 0 = lock2 := by unfold atV; rw [show ((1 : Int)) = ((1 : Nat) : Int) from rfl, srv_in hok (by rw [p4]; simp), p4, p3]; simp [srvB, sumK]
  have t0 : taskAt S 0 = ⟨n1, e1, d1, q1, 0, a1, c1, [⟨1, run, 0⟩, ⟨3, lock, 0⟩]⟩ := by unfold taskAt; rw [p4]; rfl
  have t1 : taskAt S 1 = ⟨n2, e2, d2, q2, 0, a2, c2, [⟨1, run2, 0⟩, ⟨3, lock2, 0⟩]⟩ := by unfold taskAt; rw [p4]; rfl
  unfold eachV
  rw [t0, t1]
  simp only [s0, s1]
  simp [sumK]
theorem pair_others {S : SetR} {proto run lock run2 lock2 c : Int} {a1 a2 : Option Addr} {c1 c2 : Nat} {n1 n2 : ByteArray} {e1 d1 q1 e2 d2 q2 : Int} (hok : okS S = true) (hp : S.proto = proto) (p2 : S.cores = [c]) (p3 : S.homes = [0]) (p4 : S.tasks = [⟨n1, e1, d1, q1, 0, a1, c1, [⟨1, run, 0⟩, ⟨3, lock, 0⟩]⟩, ⟨n2, e2, d2, q2, 0, a2, c2, [⟨1, run2, 0⟩, ⟨3, lock2, 0⟩]⟩]) {b0 b1 : Int} (h0 : 0 ≤ b0) (h1 : 0 ≤ b1) (wd : Int) :
    othersV S [b0, b1] 0 wd = workV wd b1 e2 (lock2 + (if q2 < q1 then run2 else 0)) / c ∧ othersV S [b0, b1] 1 wd = workV wd b0 e1 (lock + (if q1 < q2 then run else 0)) / c := by
  obtain ⟨x0, x1⟩ := pair_each hok hp p3 p4
  have ht0 : thereB S 0 = true := thereB_true.2 ⟨hok, by decide, by rw [p4]; simp⟩
  have ht1 : thereB S 1 = true := thereB_true.2 ⟨hok, by decide, by rw [p4]; simp⟩
  have hl : ([b0, b1] : List Int).length = S.tasks.length := by rw [p4]; rfl
  have hn : nnB [b0, b1] = true := by simp [nnB, h0, h1]
  have t0 : (taskAt S 0).cl = 0 := by unfold taskAt; rw [p4]; rfl
  have t1 : (taskAt S 1).cl = 0 := by unfold taskAt; rw [p4]; rfl
  have w0 : othW S [b0, b1] 0 wd 0 S.tasks = workV wd b1 e2 (lock2 + (if q2 < q1 then run2 else 0)) := by
    rw [p4]; simp [othW, x0]
  have w1 : othW S [b0, b1] 1 wd 0 S.tasks = workV wd b0 e1 (lock + (if q1 < q2 then run else 0)) := by
    rw [p4]; simp [othW, x1]
  unfold othersV
  rw [if_pos (show othersB S [b0, b1] 0 = true ∧ nnB [b0, b1] = true from ⟨othersB_true.2 ⟨ht0, hl⟩, hn⟩), if_pos (show othersB S [b0, b1] 1 = true ∧ nnB [b0, b1] = true from ⟨othersB_true.2 ⟨ht1, hl⟩, hn⟩), w0, w1, t0, t1, p2]
  exact ⟨rfl, rfl⟩
theorem pair_fair {S : SetR} {run lock run2 lock2 : Int} {a1 a2 : Option Addr} {c1 c2 : Nat} {n1 n2 : ByteArray} {e1 d1 q1 e2 d2 q2 : Int} (hok : okS S = true) (p1 : S.proto = 1) (p4 : S.tasks = [⟨n1, e1, d1, q1, 0, a1, c1, [⟨1, run, 0⟩, ⟨3, lock, 0⟩]⟩, ⟨n2, e2, d2, q2, 0, a2, c2, [⟨1, run2, 0⟩, ⟨3, lock2, 0⟩]⟩]) (hl1 : 1 ≤ lock) (hl2 : 1 ≤ lock2) (b0 b1 : Int) :
    (waitsK S [b0, b1] 0 = true ∧ waitsL S [b0, b1] 0 = [0, lock + lock2] ∧ ownV S [b0, b1] 0 = run + (lock + lock2)) ∧ (waitsK S [b0, b1] 1 = true ∧ waitsL S [b0, b1] 1 = [0, lock2 + lock] ∧ ownV S [b0, b1] 1 = run2 + (lock2 + lock)) := by
  have ht0 : thereB S 0 = true := thereB_true.2 ⟨hok, by decide, by rw [p4]; simp⟩
  have ht1 : thereB S 1 = true := thereB_true.2 ⟨hok, by decide, by rw [p4]; simp⟩
  have hl : ([b0, b1] : List Int).length = S.tasks.length := by rw [p4]; rfl
  have k0 : fairK S 0 1 = true := fairK_iff.2 ⟨ht0, by decide, by rw [p4]; show (1 : Int) < 2; decide, by unfold partAt; rw [p4]; rfl⟩
  have k1 : fairK S 1 1 = true := fairK_iff.2 ⟨ht1, by decide, by rw [p4]; show (1 : Int) < 2; decide, by unfold partAt; rw [p4]; rfl⟩
  have m0 : maxL [⟨1, run, 0⟩, ⟨3, lock, 0⟩] = lock := by simp [maxL]; omega
  have m1 : maxL [⟨1, run2, 0⟩, ⟨3, lock2, 0⟩] = lock2 := by simp [maxL]; omega
  have z0 : ¬ lock = 0 := by omega
  have z1 : ¬ lock2 = 0 := by omega
  have q0 : partAt S 0 1 = ⟨3, lock, 0⟩ := by unfold partAt; rw [p4]; rfl
  have q1 : partAt S 1 1 = ⟨3, lock2, 0⟩ := by unfold partAt; rw [p4]; rfl
  have f0 : fairV S 0 1 = lock + lock2 := by unfold fairV; rw [if_pos k0, q0, p4]; simp [othL, m0, m1, z0, z1, tot]
  have f1 : fairV S 1 1 = lock2 + lock := by unfold fairV; rw [if_pos k1, q1, p4]; simp [othL, m0, m1, z0, z1, tot]
  have v0 : waitV S [b0, b1] 0 1 = lock + lock2 := by unfold waitV; rw [if_pos hl, if_pos p1, f0]
  have v1 : waitV S [b0, b1] 1 1 = lock2 + lock := by unfold waitV; rw [if_pos hl, if_pos p1, f1]
  have j0 : waitK S [b0, b1] 0 1 = true := by unfold waitK; rw [if_pos hl, if_neg (by omega), k0]
  have j1 : waitK S [b0, b1] 1 1 = true := by unfold waitK; rw [if_pos hl, if_neg (by omega), k1]
  have hp0 : partsOf S 0 = [⟨1, run, 0⟩, ⟨3, lock, 0⟩] := by unfold partsOf; rw [p4]; rfl
  have hp1 : partsOf S 1 = [⟨1, run2, 0⟩, ⟨3, lock2, 0⟩] := by unfold partsOf; rw [p4]; rfl
  have x0 : ∀ i : Int, i = 0 ∨ i = 1 → (partAt S i (0 : Nat)).kind = 1 ∧ (partAt S i (1 : Nat)).kind = 3 := fun i hi => by
    rcases hi with rfl | rfl <;> (unfold partAt; rw [p4]; exact ⟨rfl, rfl⟩)
  have y : ∀ (i v : Int), (i = 0 ∨ i = 1) → waitK S [b0, b1] i 1 = true → waitV S [b0, b1] i 1 = v → thereB S i = true → (partsOf S i).length = 2 → waitsK S [b0, b1] i = true ∧ waitsL S [b0, b1] i = [0, v] := fun i v hi hk hv ht hp => by
    obtain ⟨g0, g1⟩ := x0 i hi
    obtain ⟨y1, y2⟩ := waits_yes (s := S) (bs := [b0, b1]) (of := i) ht (by
      rw [hp]; intro k hk2
      match k, hk2 with
      | 0, _ => unfold pK; rw [if_neg (by rw [g0]; decide)]
      | 1, _ => unfold pK; rw [if_pos g1]; exact hk)
    refine ⟨y1, ?_⟩
    rw [y2, hp]
    show [pW S [b0, b1] i 0, pW S [b0, b1] i 1] = _
    have e0 : pW S [b0, b1] i 0 = 0 := by unfold pW; rw [if_neg (by rw [g0]; decide)]
    have e1 : pW S [b0, b1] i 1 = v := by unfold pW; rw [if_pos g1]; exact hv
    rw [e0, e1]
  obtain ⟨y1, y2⟩ := y 0 _ (.inl rfl) j0 v0 ht0 (by rw [hp0]; rfl)
  obtain ⟨w1, w2⟩ := y 1 _ (.inr rfl) j1 v1 ht1 (by rw [hp1]; rfl)
  have r0 : (taskAt S 0).parts = [⟨1, run, 0⟩, ⟨3, lock, 0⟩] := hp0
  have r1 : (taskAt S 1).parts = [⟨1, run2, 0⟩, ⟨3, lock2, 0⟩] := hp1
  refine ⟨⟨y1, y2, ?_⟩, ⟨w1, w2, ?_⟩⟩
  · unfold ownV; rw [if_pos y1, y2, r0]; simp [sumK, tot]
  · unfold ownV; rw [if_pos w1, w2, r1]; simp [sumK, tot]
end Go.Proofs.Ytlbaohefappfoaa

namespace Go.Proofs.Ytlbaohefappfoaa
open Go.ChangeShapes Go.WideShapes Go.ChangeAt Go.RowKit
set_option linter.unusedVariables false
set_option linter.unusedSimpArgs false

theorem there17_any (s : SetR) (of : Int) (w : World) (hs : SetOk w s) : Calls Try.prog 39 #[.agg #[.int .i64 s.proto, .slice s.ca s.cores.length s.cc, .slice s.ha s.homes.length s.hc, .slice s.ta s.tasks.length s.tc], .int .i64 of] w fun e w' => e = .returned (.bool (thereB s of)) ∧ Below w.heap.size w w' := by
  have hb := (Below.refl w.heap.size w).alloc (Nat.le_refl _) (.cells #[.int .i64 s.proto, .slice s.ca s.cores.length s.cc, .slice s.ha s.homes.length s.hc, .slice s.ta s.tasks.length s.tc] 25)
  have sc := SetCells.new w s 25
  have H := hidp (hs.keep (Keeps.of_below hb))
  have l3 : s.tasks.length ≤ maxLen := Nat.le_trans hs.tasks.sl.2.1 hs.tasks.sl.2.2
  unfold maxLen at l3
  clear hs
  by_cases e : chkE s = 0
  · have e1 : (chkE s == 0) = true := by simpa using e
    have ho : okS s = true := e1
    clear e
    by_cases h0 : 0 ≤ of
    · have Hv : Hid (thereB s of = decide (of < s.tasks.length)) := hidp (by simp [thereB, ho, h0])
      clear ho
      go_enter Try.func39, Try.ntmps39
      go_wp2_with (first | (go_at_call 18; (with_reducible refine (check_any _ _ H.out).mono ?_); rintro e w2 ⟨rfl, hb2⟩; have sc2 := sc.keep (Keeps.of_below hb2); obtain ⟨c0, c1, c2, c3⟩ := sc2))
      go_ret
      exact ⟨ret_bool Hv.out.symm, hb.trans (hb2.mono hb.size)⟩
    · have Hv : Hid (thereB s of = false) := hidp (by simp [thereB, h0])
      have d0 : decide (0 ≤ of) = false := by simpa using h0
      clear ho h0
      go_enter Try.func39, Try.ntmps39
      go_wp2_with (first | (go_at_call 18; (with_reducible refine (check_any _ _ H.out).mono ?_); rintro e w2 ⟨rfl, hb2⟩; have sc2 := sc.keep (Keeps.of_below hb2); obtain ⟨c0, c1, c2, c3⟩ := sc2))
      go_ret
      exact ⟨ret_bool Hv.out.symm, hb.trans (hb2.mono hb.size)⟩
  · have e1 : (chkE s == 0) = false := by simpa using e
    have Hv : Hid (thereB s of = false) := hidp (by unfold thereB okS; rw [e1]; rfl)
    clear e
    go_enter Try.func39, Try.ntmps39
    go_wp2_with (first | (go_at_call 18; (with_reducible refine (check_any _ _ H.out).mono ?_); rintro e w2 ⟨rfl, hb2⟩; have sc2 := sc.keep (Keeps.of_below hb2); obtain ⟨c0, c1, c2, c3⟩ := sc2))
    go_ret
    exact ⟨ret_bool Hv.out.symm, hb.trans (hb2.mono hb.size)⟩


set_option maxHeartbeats 4000000 in
set_option maxRecDepth 100000 in
theorem each_any (s : SetR) (a b : Nat) (w : World) (hs : SetOk w s) (ho : okS s = true) (ha : a < s.tasks.length) (hbl : b < s.tasks.length) : Calls Try.prog 41 #[.agg #[.int .i64 s.proto, .slice s.ca s.cores.length s.cc, .slice s.ha s.homes.length s.hc, .slice s.ta s.tasks.length s.tc], .int .i64 a, .int .i64 b] w fun e w' => e = .returned (.int .i64 (eachV s a b)) ∧ Below w.heap.size w w' := by
  have hb := (Below.refl w.heap.size w).alloc (Nat.le_refl _) (.cells #[.int .i64 s.proto, .slice s.ca s.cores.length s.cc, .slice s.ha s.homes.length s.hc, .slice s.ta s.tasks.length s.tc] 25)
  have sc := SetCells.new w s 25
  have H := hs.keep (Keeps.of_below hb)
  have l3 : s.tasks.length ≤ maxLen := Nat.le_trans hs.tasks.sl.2.1 hs.tasks.sl.2.2
  unfold maxLen at l3
  have hg := Good.of ho
  obtain ⟨t, HT⟩ : ∃ t, Hid (s.tasks.getD a default = t) := ⟨_, rfl⟩
  obtain ⟨o, HO⟩ : ∃ t, Hid (s.tasks.getD b default = t) := ⟨_, rfl⟩
  have hm : t ∈ s.tasks := HT.out ▸ getD_mem ha
  have TL : Hid (TaskLen w t) := hidp ⟨(hs.tasks.ok t hm).at_, (hg.parts t hm).lens, by have := (hg.parts t hm).len; omega⟩
  obtain ⟨g, off, hA, hcl⟩ := hs.tasks.at_.resolve_left (by intro e; rw [e] at ha; simp at ha)
  have Hta := hidp (HT.out ▸ hcl a ha)
  have Htb := hidp (HO.out ▸ hcl b hbl)
  obtain ⟨V, HV⟩ : ∃ V, Hid (atV s a o.cl = V) := ⟨_, hidp rfl⟩
  obtain ⟨L, HL⟩ : ∃ V, Hid (sumK 3 t.parts = V) := ⟨_, hidp rfl⟩
  obtain ⟨R, HR⟩ : ∃ V, Hid (sumK 1 t.parts = V) := ⟨_, hidp rfl⟩
  have HE : Hid (eachV s a b = (if s.proto = 2 then V else if t.cl = o.cl then L else 0) + (if t.cl = o.cl ∧ t.prio < o.prio then R else 0)) := hidp (by
    unfold eachV taskAt; simp only [Int.toNat_natCast]; rw [HT.out, HO.out, HV.out, HL.out, HR.out])
  have hV := atV_bd s a o.cl
  have hL := sumK_bd 3 (hg.parts t hm).lens
  have hR := sumK_bd 1 (hg.parts t hm).lens
  have h6 := (hg.parts t hm).len
  rw [HV.out] at hV
  rw [HL.out] at hL
  rw [HR.out] at hR
  obtain ⟨V0, V1⟩ := hV
  obtain ⟨L0, L1⟩ := hL
  obtain ⟨R0, R1⟩ := hR
  have L2 : L ≤ 360 := by omega
  have R2 : R ≤ 360 := by omega
  have HS1 : Hid (∀ u, Below w.heap.size w u → SetOk u s) := hidp (fun u h => hs.keep (Keeps.of_below h))
  clear L1 R1 h6 hcl hm hg ho hs
  obtain ⟨proto, ca, cc, cores, hha, hc, homes, ta, tc, tasks⟩ := s
  dsimp only at hA ha hbl l3 hb sc H HE HV HS1 ⊢
  subst hA
  have dn : decide (tasks.length ≤ a) = false := by simp; omega
  have dm : decide (tasks.length ≤ b) = false := by simp; omega
  obtain ⟨x0, x1, x2, x3, x4, x5⟩ := Hta.out.keep (Keeps.of_below hb)
  obtain ⟨y0, y1, y2, y3, y4, y5⟩ := Htb.out.keep (Keeps.of_below hb)
  go_enter Try.func41, Try.ntmps41
  go_upto_region 1 with fail
  go_cut [7, 8] from 11 to 20 (fun x y wx => ∃ g1 g2 : Nat, x = .pointer (some ⟨g1, 0, none⟩) ∧ y = .pointer (some ⟨g2, 0, none⟩) ∧ TaskBox wx g1 t ∧ TaskBox wx g2 o ∧ SetCells wx w.heap.size ⟨proto, ca, cc, cores, hha, hc, homes, some ⟨g, off, none⟩, tc, tasks⟩ ∧ Below w.heap.size w wx)
  case first =>
    have hs : (w.alloc (.cells #[.int .i64 proto, .slice ca cores.length cc, .slice hha homes.length hc, .slice (some ⟨g, off, none⟩) tasks.length tc] 25)).drew.cell? ⟨g, off + a * 6, none⟩ = some (.string t.name) ∧ (w.alloc (.cells #[.int .i64 proto, .slice ca cores.length cc, .slice hha homes.length hc, .slice (some ⟨g, off, none⟩) tasks.length tc] 25)).drew.cell? ⟨g, off + a * 6 + 1, none⟩ = some (.int .i64 t.per) ∧ (w.alloc (.cells #[.int .i64 proto, .slice ca cores.length cc, .slice hha homes.length hc, .slice (some ⟨g, off, none⟩) tasks.length tc] 25)).drew.cell? ⟨g, off + a * 6 + 2, none⟩ = some (.int .i64 t.dl) ∧ (w.alloc (.cells #[.int .i64 proto, .slice ca cores.length cc, .slice hha homes.length hc, .slice (some ⟨g, off, none⟩) tasks.length tc] 25)).drew.cell? ⟨g, off + a * 6 + 3, none⟩ = some (.int .i64 t.prio) ∧ (w.alloc (.cells #[.int .i64 proto, .slice ca cores.length cc, .slice hha homes.length hc, .slice (some ⟨g, off, none⟩) tasks.length tc] 25)).drew.cell? ⟨g, off + a * 6 + 4, none⟩ = some (.int .i64 t.cl) ∧ (w.alloc (.cells #[.int .i64 proto, .slice ca cores.length cc, .slice hha homes.length hc, .slice (some ⟨g, off, none⟩) tasks.length tc] 25)).drew.cell? ⟨g, off + a * 6 + 5, none⟩ = some (.slice t.pa t.parts.length t.pc) ∧ (w.alloc (.cells #[.int .i64 proto, .slice ca cores.length cc, .slice hha homes.length hc, .slice (some ⟨g, off, none⟩) tasks.length tc] 25)).drew.cell? ⟨g, off + b * 6, none⟩ = some (.string o.name) ∧ (w.alloc (.cells #[.int .i64 proto, .slice ca cores.length cc, .slice hha homes.length hc, .slice (some ⟨g, off, none⟩) tasks.length tc] 25)).drew.cell? ⟨g, off + b * 6 + 1, none⟩ = some (.int .i64 o.per) ∧ (w.alloc (.cells #[.int .i64 proto, .slice ca cores.length cc, .slice hha homes.length hc, .slice (some ⟨g, off, none⟩) tasks.length tc] 25)).drew.cell? ⟨g, off + b * 6 + 2, none⟩ = some (.int .i64 o.dl) ∧ (w.alloc (.cells #[.int .i64 proto, .slice ca cores.length cc, .slice hha homes.length hc, .slice (some ⟨g, off, none⟩) tasks.length tc] 25)).drew.cell? ⟨g, off + b * 6 + 3, none⟩ = some (.int .i64 o.prio) ∧ (w.alloc (.cells #[.int .i64 proto, .slice ca cores.length cc, .slice hha homes.length hc, .slice (some ⟨g, off, none⟩) tasks.length tc] 25)).drew.cell? ⟨g, off + b * 6 + 4, none⟩ = some (.int .i64 o.cl) ∧ (w.alloc (.cells #[.int .i64 proto, .slice ca cores.length cc, .slice hha homes.length hc, .slice (some ⟨g, off, none⟩) tasks.length tc] 25)).drew.cell? ⟨g, off + b * 6 + 5, none⟩ = some (.slice o.pa o.parts.length o.pc) ∧ (w.alloc (.cells #[.int .i64 proto, .slice ca cores.length cc, .slice hha homes.length hc, .slice (some ⟨g, off, none⟩) tasks.length tc] 25)).drew.cell? ⟨w.heap.size, 0, none⟩ = some (.int .i64 proto) ∧ (w.alloc (.cells #[.int .i64 proto, .slice ca cores.length cc, .slice hha homes.length hc, .slice (some ⟨g, off, none⟩) tasks.length tc] 25)).drew.cell? ⟨w.heap.size, 1, none⟩ = some (.slice ca cores.length cc) ∧ (w.alloc (.cells #[.int .i64 proto, .slice ca cores.length cc, .slice hha homes.length hc, .slice (some ⟨g, off, none⟩) tasks.length tc] 25)).drew.cell? ⟨w.heap.size, 2, none⟩ = some (.slice hha homes.length hc) ∧ (w.alloc (.cells #[.int .i64 proto, .slice ca cores.length cc, .slice hha homes.length hc, .slice (some ⟨g, off, none⟩) tasks.length tc] 25)).drew.cell? ⟨w.heap.size, 3, none⟩ = some (.slice (some ⟨g, off, none⟩) tasks.length tc) := And.intro x0 (And.intro x1 (And.intro x2 (And.intro x3 (And.intro x4 (And.intro x5 (And.intro y0 (And.intro y1 (And.intro y2 (And.intro y3 (And.intro y4 (And.intro y5 sc)))))))))))
    have hK16 : ∀ u v : World, Keeps u v → (u.cell? ⟨g, off + a * 6, none⟩ = some (.string t.name) ∧ u.cell? ⟨g, off + a * 6 + 1, none⟩ = some (.int .i64 t.per) ∧ u.cell? ⟨g, off + a * 6 + 2, none⟩ = some (.int .i64 t.dl) ∧ u.cell? ⟨g, off + a * 6 + 3, none⟩ = some (.int .i64 t.prio) ∧ u.cell? ⟨g, off + a * 6 + 4, none⟩ = some (.int .i64 t.cl) ∧ u.cell? ⟨g, off + a * 6 + 5, none⟩ = some (.slice t.pa t.parts.length t.pc) ∧ u.cell? ⟨g, off + b * 6, none⟩ = some (.string o.name) ∧ u.cell? ⟨g, off + b * 6 + 1, none⟩ = some (.int .i64 o.per) ∧ u.cell? ⟨g, off + b * 6 + 2, none⟩ = some (.int .i64 o.dl) ∧ u.cell? ⟨g, off + b * 6 + 3, none⟩ = some (.int .i64 o.prio) ∧ u.cell? ⟨g, off + b * 6 + 4, none⟩ = some (.int .i64 o.cl) ∧ u.cell? ⟨g, off + b * 6 + 5, none⟩ = some (.slice o.pa o.parts.length o.pc) ∧ u.cell? ⟨w.heap.size, 0, none⟩ = some (.int .i64 proto) ∧ u.cell? ⟨w.heap.size, 1, none⟩ = some (.slice ca cores.length cc) ∧ u.cell? ⟨w.heap.size, 2, none⟩ = some (.slice hha homes.length hc) ∧ u.cell? ⟨w.heap.size, 3, none⟩ = some (.slice (some ⟨g, off, none⟩) tasks.length tc)) → (v.cell? ⟨g, off + a * 6, none⟩ = some (.string t.name) ∧ v.cell? ⟨g, off + a * 6 + 1, none⟩ = some (.int .i64 t.per) ∧ v.cell? ⟨g, off + a * 6 + 2, none⟩ = some (.int .i64 t.dl) ∧ v.cell? ⟨g, off + a * 6 + 3, none⟩ = some (.int .i64 t.prio) ∧ v.cell? ⟨g, off + a * 6 + 4, none⟩ = some (.int .i64 t.cl) ∧ v.cell? ⟨g, off + a * 6 + 5, none⟩ = some (.slice t.pa t.parts.length t.pc) ∧ v.cell? ⟨g, off + b * 6, none⟩ = some (.string o.name) ∧ v.cell? ⟨g, off + b * 6 + 1, none⟩ = some (.int .i64 o.per) ∧ v.cell? ⟨g, off + b * 6 + 2, none⟩ = some (.int .i64 o.dl) ∧ v.cell? ⟨g, off + b * 6 + 3, none⟩ = some (.int .i64 o.prio) ∧ v.cell? ⟨g, off + b * 6 + 4, none⟩ = some (.int .i64 o.cl) ∧ v.cell? ⟨g, off + b * 6 + 5, none⟩ = some (.slice o.pa o.parts.length o.pc) ∧ v.cell? ⟨w.heap.size, 0, none⟩ = some (.int .i64 proto) ∧ v.cell? ⟨w.heap.size, 1, none⟩ = some (.slice ca cores.length cc) ∧ v.cell? ⟨w.heap.size, 2, none⟩ = some (.slice hha homes.length hc) ∧ v.cell? ⟨w.heap.size, 3, none⟩ = some (.slice (some ⟨g, off, none⟩) tasks.length tc)) := fun u v k h => And.intro (k _ _ h.1) (And.intro (k _ _ h.2.1) (And.intro (k _ _ h.2.2.1) (And.intro (k _ _ h.2.2.2.1) (And.intro (k _ _ h.2.2.2.2.1) (And.intro (k _ _ h.2.2.2.2.2.1) (And.intro (k _ _ h.2.2.2.2.2.2.1) (And.intro (k _ _ h.2.2.2.2.2.2.2.1) (And.intro (k _ _ h.2.2.2.2.2.2.2.2.1) (And.intro (k _ _ h.2.2.2.2.2.2.2.2.2.1) (And.intro (k _ _ h.2.2.2.2.2.2.2.2.2.2.1) (And.intro (k _ _ h.2.2.2.2.2.2.2.2.2.2.2.1) (And.intro (k _ _ h.2.2.2.2.2.2.2.2.2.2.2.2.1) (And.intro (k _ _ h.2.2.2.2.2.2.2.2.2.2.2.2.2.1) (And.intro (k _ _ h.2.2.2.2.2.2.2.2.2.2.2.2.2.2.1) (k _ _ h.2.2.2.2.2.2.2.2.2.2.2.2.2.2.2)))))))))))))))
    have HK := hidp hK16
    replace hb := hb.drew
    replace sc := sc.keep (Keeps.drew _)
    clear x0 x1 x2 x3 x4 x5 y0 y1 y2 y3 y4 y5 hK16 H
    refine wp_region_held_drew (S := fun w' => w'.cell? ⟨g, off + a * 6, none⟩ = some (.string t.name) ∧ w'.cell? ⟨g, off + a * 6 + 1, none⟩ = some (.int .i64 t.per) ∧ w'.cell? ⟨g, off + a * 6 + 2, none⟩ = some (.int .i64 t.dl) ∧ w'.cell? ⟨g, off + a * 6 + 3, none⟩ = some (.int .i64 t.prio) ∧ w'.cell? ⟨g, off + a * 6 + 4, none⟩ = some (.int .i64 t.cl) ∧ w'.cell? ⟨g, off + a * 6 + 5, none⟩ = some (.slice t.pa t.parts.length t.pc) ∧ w'.cell? ⟨g, off + b * 6, none⟩ = some (.string o.name) ∧ w'.cell? ⟨g, off + b * 6 + 1, none⟩ = some (.int .i64 o.per) ∧ w'.cell? ⟨g, off + b * 6 + 2, none⟩ = some (.int .i64 o.dl) ∧ w'.cell? ⟨g, off + b * 6 + 3, none⟩ = some (.int .i64 o.prio) ∧ w'.cell? ⟨g, off + b * 6 + 4, none⟩ = some (.int .i64 o.cl) ∧ w'.cell? ⟨g, off + b * 6 + 5, none⟩ = some (.slice o.pa o.parts.length o.pc) ∧ w'.cell? ⟨w.heap.size, 0, none⟩ = some (.int .i64 proto) ∧ w'.cell? ⟨w.heap.size, 1, none⟩ = some (.slice ca cores.length cc) ∧ w'.cell? ⟨w.heap.size, 2, none⟩ = some (.slice hha homes.length hc) ∧ w'.cell? ⟨w.heap.size, 3, none⟩ = some (.slice (some ⟨g, off, none⟩) tasks.length tc)) (by kernel_rfl) ?_ (fun hHeld => ?_)
    · exact hs
    generalize (w.alloc (.cells #[.int .i64 proto, .slice ca cores.length cc, .slice hha homes.length hc, .slice (some ⟨g, off, none⟩) tasks.length tc] 25)).drew = u1 at *
    refine wpAnyH_take (i := 0) (v := ?_) rfl (by kernel_rfl) (by kernel_rfl) (by kernel_rfl) (fun _ _ _ h => h) (Or.inl ⟨by rfl, ?_⟩) (by assumption) ?_
    rotate_left 1
    · ((intro w hSw; (try dsimp only at hSw); go_simp); (try with_reducible rfl))
    simp only [Act.put, List.setIfInBounds_toArray, List.set_cons_zero, List.set_cons_succ, List.getElem_toArray, List.getElem_cons_zero, List.getElem_cons_succ]
    refine wpAnyH_take (i := 1) (v := ?_) rfl (by kernel_rfl) (by kernel_rfl) (by kernel_rfl) (fun _ _ _ h => h) (Or.inl ⟨by rfl, ?_⟩) (by assumption) ?_
    rotate_left 1
    · ((intro w hSw; (try dsimp only at hSw); go_simp); (try with_reducible rfl))
    simp only [Act.put, List.setIfInBounds_toArray, List.set_cons_zero, List.set_cons_succ, List.getElem_toArray, List.getElem_cons_zero, List.getElem_cons_succ]
    refine wpAnyH_take (i := 2) (v := ?_) rfl (by kernel_rfl) (by kernel_rfl) (by kernel_rfl) (fun _ _ _ h => h) (Or.inl ⟨by rfl, ?_⟩) (by assumption) ?_
    rotate_left 1
    · ((intro w hSw; (try dsimp only at hSw); go_simp); (try with_reducible rfl))
    simp only [Act.put, List.setIfInBounds_toArray, List.set_cons_zero, List.set_cons_succ, List.getElem_toArray, List.getElem_cons_zero, List.getElem_cons_succ]
    refine wpAnyH_take (i := 3) (v := ?_) rfl (by kernel_rfl) (by kernel_rfl) (by kernel_rfl) (fun _ _ _ h => h) (Or.inl ⟨by rfl, ?_⟩) (by assumption) ?_
    rotate_left 1
    · ((intro w hSw; (try dsimp only at hSw); go_simp); (try with_reducible rfl))
    simp only [Act.put, List.setIfInBounds_toArray, List.set_cons_zero, List.set_cons_succ, List.getElem_toArray, List.getElem_cons_zero, List.getElem_cons_succ]
    refine wpAnyH_take (i := 4) (v := ?_) rfl (by kernel_rfl) (by kernel_rfl) (by kernel_rfl) (fun _ _ _ h => h) (Or.inl ⟨by rfl, ?_⟩) (by assumption) ?_
    rotate_left 1
    · ((intro w hSw; (try dsimp only at hSw); go_simp); (try with_reducible rfl))
    simp only [Act.put, List.setIfInBounds_toArray, List.set_cons_zero, List.set_cons_succ, List.getElem_toArray, List.getElem_cons_zero, List.getElem_cons_succ]
    refine wpAnyH_take (i := 5) (v := ?_) rfl (by kernel_rfl) (by kernel_rfl) (by kernel_rfl) (fun _ _ _ h => h) (Or.inl ⟨by rfl, ?_⟩) (by assumption) ?_
    rotate_left 1
    · ((intro w hSw; (try dsimp only at hSw); go_simp); (try with_reducible rfl))
    simp only [Act.put, List.setIfInBounds_toArray, List.set_cons_zero, List.set_cons_succ, List.getElem_toArray, List.getElem_cons_zero, List.getElem_cons_succ]
    refine wpAnyH_take (i := 6) (v := ?_) rfl (by kernel_rfl) (by kernel_rfl) (by kernel_rfl) (fun _ _ _ h => h) (Or.inl ⟨by rfl, ?_⟩) (by assumption) ?_
    rotate_left 1
    · ((intro w hSw; (try dsimp only at hSw); go_simp); (try with_reducible rfl))
    simp only [Act.put, List.setIfInBounds_toArray, List.set_cons_zero, List.set_cons_succ, List.getElem_toArray, List.getElem_cons_zero, List.getElem_cons_succ]
    refine wpAnyH_take (i := 7) (v := ?_) rfl (by kernel_rfl) (by kernel_rfl) (by kernel_rfl) (fun _ _ _ h => h) (Or.inl ⟨by rfl, ?_⟩) (by assumption) ?_
    rotate_left 1
    · ((intro w hSw; (try dsimp only at hSw); go_simp); (try with_reducible rfl))
    simp only [Act.put, List.setIfInBounds_toArray, List.set_cons_zero, List.set_cons_succ, List.getElem_toArray, List.getElem_cons_zero, List.getElem_cons_succ]
    refine wpAnyH_take (i := 8) (v := ?_) rfl (by kernel_rfl) (by kernel_rfl) (by kernel_rfl) (fun _ _ _ h => h) (Or.inl ⟨by rfl, ?_⟩) (by assumption) ?_
    rotate_left 1
    · ((intro w hSw; (try dsimp only at hSw); go_simp); (try with_reducible rfl))
    simp only [Act.put, List.setIfInBounds_toArray, List.set_cons_zero, List.set_cons_succ, List.getElem_toArray, List.getElem_cons_zero, List.getElem_cons_succ]
    refine wpAnyH_take (i := 9) (v := ?_) rfl (by kernel_rfl) (by kernel_rfl) (by kernel_rfl) (fun _ _ _ h => h) (Or.inl ⟨by rfl, ?_⟩) (by assumption) ?_
    rotate_left 1
    · ((intro w hSw; (try dsimp only at hSw); go_simp); (try with_reducible rfl))
    simp only [Act.put, List.setIfInBounds_toArray, List.set_cons_zero, List.set_cons_succ, List.getElem_toArray, List.getElem_cons_zero, List.getElem_cons_succ]
    refine wpAnyH_ready (rs := [10, 11]) (by kernel_rfl) (by simp) ?_
    refine AllReadyH.cons rfl (fun K hK => ?_) (AllReadyH.cons rfl (fun K hK => ?_) AllReadyH.nil)
    · go_simp
      refine hK.out _ _ ?_ (fun hHeld => ?_)
      · exact HK.out _ _ (Keeps.alloc u1 (.cells #[.string ⟨#[]⟩, .int .i64 0, .int .i64 0, .int .i64 0, .int .i64 0, .slice none 0 0] 42)) hs
      clear hK K
      try simp only [Act.put, List.setIfInBounds_toArray, List.set_cons_zero, List.set_cons_succ, List.getElem_toArray, List.getElem_cons_zero, List.getElem_cons_succ]
      refine wpAnyH_ready (rs := [11]) (by kernel_rfl) (by simp) ?_
      refine AllReadyH.cons rfl (fun K hK => ?_) AllReadyH.nil
      go_simp
      refine hK.out _ _ ?_ (fun hHeld => ?_)
      · exact HK.out _ _ ((Keeps.alloc u1 (.cells #[.string ⟨#[]⟩, .int .i64 0, .int .i64 0, .int .i64 0, .int .i64 0, .slice none 0 0] 42)).trans (Keeps.alloc _ (.cells #[.string ⟨#[]⟩, .int .i64 0, .int .i64 0, .int .i64 0, .int .i64 0, .slice none 0 0] 42))) hs
      clear hK K
      try simp only [Act.put, List.setIfInBounds_toArray, List.set_cons_zero, List.set_cons_succ, List.getElem_toArray, List.getElem_cons_zero, List.getElem_cons_succ]
      refine wpAnyH_ready (rs := [12]) (by kernel_rfl) (by simp) ?_
      refine AllReadyH.cons rfl (fun K hK => ?_) AllReadyH.nil
      go_simp
      refine hK.out _ _ ?_ (fun hHeld => ?_)
      · exact HK.out _ _ ((Keeps.alloc u1 (.cells #[.string t.name, .int .i64 t.per, .int .i64 t.dl, .int .i64 t.prio, .int .i64 t.cl, .slice t.pa t.parts.length t.pc] 42)).trans (Keeps.alloc _ (.cells #[.string ⟨#[]⟩, .int .i64 0, .int .i64 0, .int .i64 0, .int .i64 0, .slice none 0 0] 42))) hs
      clear hK K
      try simp only [Act.put, List.setIfInBounds_toArray, List.set_cons_zero, List.set_cons_succ, List.getElem_toArray, List.getElem_cons_zero, List.getElem_cons_succ]
      refine wpAnyH_ready (rs := [13]) (by kernel_rfl) (by simp) ?_
      refine AllReadyH.cons rfl (fun K hK => ?_) AllReadyH.nil
      go_simp
      refine hK.out _ _ ?_ (fun hHeld => ?_)
      · exact HK.out _ _ ((Keeps.alloc u1 (.cells #[.string t.name, .int .i64 t.per, .int .i64 t.dl, .int .i64 t.prio, .int .i64 t.cl, .slice t.pa t.parts.length t.pc] 42)).trans (Keeps.alloc _ (.cells #[.string o.name, .int .i64 o.per, .int .i64 o.dl, .int .i64 o.prio, .int .i64 o.cl, .slice o.pa o.parts.length o.pc] 42))) hs
      clear hK K
      try simp only [Act.put, List.setIfInBounds_toArray, List.set_cons_zero, List.set_cons_succ, List.getElem_toArray, List.getElem_cons_zero, List.getElem_cons_succ]
      refine wpAnyH_done (by kernel_rfl) ?_ _
      clear hHeld
      go_wp2_with fail
      go_meet
      have tb0 := TaskBox.new u1 t 42
      have tb1 := TaskBox.new (u1.alloc (.cells #[.string t.name, .int .i64 t.per, .int .i64 t.dl, .int .i64 t.prio, .int .i64 t.cl, .slice t.pa t.parts.length t.pc] 42)) o 42
      rw [show (u1.alloc (.cells #[.string t.name, .int .i64 t.per, .int .i64 t.dl, .int .i64 t.prio, .int .i64 t.cl, .slice t.pa t.parts.length t.pc] 42)).heap.size = u1.heap.size + 1 by simp] at tb1
      have tb2 := tb0.keep (Keeps.alloc _ (.cells #[.string o.name, .int .i64 o.per, .int .i64 o.dl, .int .i64 o.prio, .int .i64 o.cl, .slice o.pa o.parts.length o.pc] 42))
      exact ⟨_, _, rfl, rfl, tb2, tb1, (sc.keep (Keeps.alloc u1 (.cells #[.string t.name, .int .i64 t.per, .int .i64 t.dl, .int .i64 t.prio, .int .i64 t.cl, .slice t.pa t.parts.length t.pc] 42))).keep (Keeps.alloc _ (.cells #[.string o.name, .int .i64 o.per, .int .i64 o.dl, .int .i64 o.prio, .int .i64 o.cl, .slice o.pa o.parts.length o.pc] 42)), (hb.alloc hb.size (.cells #[.string t.name, .int .i64 t.per, .int .i64 t.dl, .int .i64 t.prio, .int .i64 t.cl, .slice t.pa t.parts.length t.pc] 42)).alloc (hb.alloc hb.size (.cells #[.string t.name, .int .i64 t.per, .int .i64 t.dl, .int .i64 t.prio, .int .i64 t.cl, .slice t.pa t.parts.length t.pc] 42)).size (.cells #[.string o.name, .int .i64 o.per, .int .i64 o.dl, .int .i64 o.prio, .int .i64 o.cl, .slice o.pa o.parts.length o.pc] 42)⟩
    · go_simp
      refine hK.out _ _ ?_ (fun hHeld => ?_)
      · exact HK.out _ _ (Keeps.alloc u1 (.cells #[.string ⟨#[]⟩, .int .i64 0, .int .i64 0, .int .i64 0, .int .i64 0, .slice none 0 0] 42)) hs
      clear hK K
      try simp only [Act.put, List.setIfInBounds_toArray, List.set_cons_zero, List.set_cons_succ, List.getElem_toArray, List.getElem_cons_zero, List.getElem_cons_succ]
      refine wpAnyH_ready (rs := [10]) (by kernel_rfl) (by simp) ?_
      refine AllReadyH.cons rfl (fun K hK => ?_) AllReadyH.nil
      go_simp
      refine hK.out _ _ ?_ (fun hHeld => ?_)
      · exact HK.out _ _ ((Keeps.alloc u1 (.cells #[.string ⟨#[]⟩, .int .i64 0, .int .i64 0, .int .i64 0, .int .i64 0, .slice none 0 0] 42)).trans (Keeps.alloc _ (.cells #[.string ⟨#[]⟩, .int .i64 0, .int .i64 0, .int .i64 0, .int .i64 0, .slice none 0 0] 42))) hs
      clear hK K
      try simp only [Act.put, List.setIfInBounds_toArray, List.set_cons_zero, List.set_cons_succ, List.getElem_toArray, List.getElem_cons_zero, List.getElem_cons_succ]
      refine wpAnyH_ready (rs := [12]) (by kernel_rfl) (by simp) ?_
      refine AllReadyH.cons rfl (fun K hK => ?_) AllReadyH.nil
      go_simp
      refine hK.out _ _ ?_ (fun hHeld => ?_)
      · exact HK.out _ _ ((Keeps.alloc u1 (.cells #[.string ⟨#[]⟩, .int .i64 0, .int .i64 0, .int .i64 0, .int .i64 0, .slice none 0 0] 42)).trans (Keeps.alloc _ (.cells #[.string t.name, .int .i64 t.per, .int .i64 t.dl, .int .i64 t.prio, .int .i64 t.cl, .slice t.pa t.parts.length t.pc] 42))) hs
      clear hK K
      try simp only [Act.put, List.setIfInBounds_toArray, List.set_cons_zero, List.set_cons_succ, List.getElem_toArray, List.getElem_cons_zero, List.getElem_cons_succ]
      refine wpAnyH_ready (rs := [13]) (by kernel_rfl) (by simp) ?_
      refine AllReadyH.cons rfl (fun K hK => ?_) AllReadyH.nil
      go_simp
      refine hK.out _ _ ?_ (fun hHeld => ?_)
      · exact HK.out _ _ ((Keeps.alloc u1 (.cells #[.string o.name, .int .i64 o.per, .int .i64 o.dl, .int .i64 o.prio, .int .i64 o.cl, .slice o.pa o.parts.length o.pc] 42)).trans (Keeps.alloc _ (.cells #[.string t.name, .int .i64 t.per, .int .i64 t.dl, .int .i64 t.prio, .int .i64 t.cl, .slice t.pa t.parts.length t.pc] 42))) hs
      clear hK K
      try simp only [Act.put, List.setIfInBounds_toArray, List.set_cons_zero, List.set_cons_succ, List.getElem_toArray, List.getElem_cons_zero, List.getElem_cons_succ]
      refine wpAnyH_done (by kernel_rfl) ?_ _
      clear hHeld
      go_wp2_with fail
      go_meet
      have tb0 := TaskBox.new u1 o 42
      have tb1 := TaskBox.new (u1.alloc (.cells #[.string o.name, .int .i64 o.per, .int .i64 o.dl, .int .i64 o.prio, .int .i64 o.cl, .slice o.pa o.parts.length o.pc] 42)) t 42
      rw [show (u1.alloc (.cells #[.string o.name, .int .i64 o.per, .int .i64 o.dl, .int .i64 o.prio, .int .i64 o.cl, .slice o.pa o.parts.length o.pc] 42)).heap.size = u1.heap.size + 1 by simp] at tb1
      have tb2 := tb0.keep (Keeps.alloc _ (.cells #[.string t.name, .int .i64 t.per, .int .i64 t.dl, .int .i64 t.prio, .int .i64 t.cl, .slice t.pa t.parts.length t.pc] 42))
      exact ⟨_, _, rfl, rfl, tb1, tb2, (sc.keep (Keeps.alloc u1 (.cells #[.string o.name, .int .i64 o.per, .int .i64 o.dl, .int .i64 o.prio, .int .i64 o.cl, .slice o.pa o.parts.length o.pc] 42))).keep (Keeps.alloc _ (.cells #[.string t.name, .int .i64 t.per, .int .i64 t.dl, .int .i64 t.prio, .int .i64 t.cl, .slice t.pa t.parts.length t.pc] 42)), (hb.alloc hb.size (.cells #[.string o.name, .int .i64 o.per, .int .i64 o.dl, .int .i64 o.prio, .int .i64 o.cl, .slice o.pa o.parts.length o.pc] 42)).alloc (hb.alloc hb.size (.cells #[.string o.name, .int .i64 o.per, .int .i64 o.dl, .int .i64 o.prio, .int .i64 o.cl, .slice o.pa o.parts.length o.pc] 42)).size (.cells #[.string t.name, .int .i64 t.per, .int .i64 t.dl, .int .i64 t.prio, .int .i64 t.cl, .slice t.pa t.parts.length t.pc] 42)⟩
  case rest =>
    obtain ⟨g1, g2, rfl, rfl, tb, ob, sc, hb⟩ := hcut
    clear x0 x1 x2 x3 x4 x5 y0 y1 y2 y3 y4 y5
    obtain ⟨sc_0, sc_1, sc_2, sc_3⟩ := id sc
    dsimp only at sc_0 sc_1 sc_2 sc_3
    obtain ⟨d0, d1, d2, d3, d4, d5⟩ := id tb
    obtain ⟨f0, f1, f2, f3, f4, f5⟩ := id ob
    have HEV := HE.out
    by_cases p2 : proto = 2
    · have q2 : (proto == 2) = true := by simpa using p2
      rw [if_pos p2] at HEV
      have HAt := at_any ⟨proto, ca, cc, cores, hha, hc, homes, some ⟨g, off, none⟩, tc, tasks⟩ a o.cl wc (HS1.out _ hb)
      rw [HV.out] at HAt
      by_cases c1 : t.cl = o.cl
      · by_cases c2 : t.prio < o.prio
        · rw [if_pos ⟨c1, c2⟩] at HEV
          have Hv := hidp HEV
          have e1 : (t.cl == o.cl) = true := by simpa using c1
          clear p2 c1 HEV
          go_wp2_with fail
          refine HAt.mono ?_
          rintro e w2 ⟨rfl, hb2⟩
          replace hb := hb.trans (hb2.mono hb.size)
          replace tb := tb.keep (Keeps.of_below hb2)
          replace ob := ob.keep (Keeps.of_below hb2)
          clear hb2 d0 d1 d2 d3 d4 d5 f0 f1 f2 f3 f4 f5 sc_0 sc_1 sc_2 sc_3
          obtain ⟨d0, d1, d2, d3, d4, d5⟩ := id tb
          obtain ⟨f0, f1, f2, f3, f4, f5⟩ := id ob
          go_wp2_with fail
          refine (runs_any t _ (TL.out.keep (Keeps.of_below hb))).mono ?_
          rintro e w3 ⟨rfl, hb2⟩
          rw [HR.out]
          replace hb := hb.trans (hb2.mono hb.size)
          go_wp2
          go_ret
          exact ⟨ret_int Hv.out.symm, hb⟩
        · rw [if_neg (fun h => c2 h.2), Int.add_zero] at HEV
          have Hv := hidp HEV
          have e1 : (t.cl == o.cl) = true := by simpa using c1
          clear p2 c1 HEV
          go_wp2_with fail
          refine HAt.mono ?_
          rintro e w2 ⟨rfl, hb2⟩
          replace hb := hb.trans (hb2.mono hb.size)
          replace tb := tb.keep (Keeps.of_below hb2)
          replace ob := ob.keep (Keeps.of_below hb2)
          clear hb2 d0 d1 d2 d3 d4 d5 f0 f1 f2 f3 f4 f5 sc_0 sc_1 sc_2 sc_3
          obtain ⟨d0, d1, d2, d3, d4, d5⟩ := id tb
          obtain ⟨f0, f1, f2, f3, f4, f5⟩ := id ob
          go_wp2
          go_ret
          exact ⟨ret_int Hv.out.symm, hb⟩
      · rw [if_neg (fun h => c1 h.1), Int.add_zero] at HEV
        have Hv := hidp HEV
        have e1 : (t.cl == o.cl) = false := by simpa using c1
        clear p2 c1 HEV
        go_wp2_with fail
        refine HAt.mono ?_
        rintro e w2 ⟨rfl, hb2⟩
        replace hb := hb.trans (hb2.mono hb.size)
        replace tb := tb.keep (Keeps.of_below hb2)
        replace ob := ob.keep (Keeps.of_below hb2)
        clear hb2 d0 d1 d2 d3 d4 d5 f0 f1 f2 f3 f4 f5 sc_0 sc_1 sc_2 sc_3
        obtain ⟨d0, d1, d2, d3, d4, d5⟩ := id tb
        obtain ⟨f0, f1, f2, f3, f4, f5⟩ := id ob
        go_wp2
        go_ret
        exact ⟨ret_int Hv.out.symm, hb⟩
    · have q2 : (proto == 2) = false := by simpa using p2
      rw [if_neg p2] at HEV
      by_cases c1 : t.cl = o.cl
      · rw [if_pos c1] at HEV
        by_cases c2 : t.prio < o.prio
        · rw [if_pos ⟨c1, c2⟩] at HEV
          have Hv := hidp HEV
          have e1 : (t.cl == o.cl) = true := by simpa using c1
          clear p2 c1 HEV
          go_wp2_with fail
          refine (locks_any t _ (TL.out.keep (Keeps.of_below hb))).mono ?_
          rintro e w2 ⟨rfl, hb2⟩
          rw [HL.out]
          replace hb := hb.trans (hb2.mono hb.size)
          replace tb := tb.keep (Keeps.of_below hb2)
          replace ob := ob.keep (Keeps.of_below hb2)
          clear hb2 d0 d1 d2 d3 d4 d5 f0 f1 f2 f3 f4 f5 sc_0 sc_1 sc_2 sc_3
          obtain ⟨d0, d1, d2, d3, d4, d5⟩ := id tb
          obtain ⟨f0, f1, f2, f3, f4, f5⟩ := id ob
          go_wp2_with fail
          refine (runs_any t _ (TL.out.keep (Keeps.of_below hb))).mono ?_
          rintro e w3 ⟨rfl, hb2⟩
          rw [HR.out]
          replace hb := hb.trans (hb2.mono hb.size)
          go_wp2
          go_ret
          exact ⟨ret_int Hv.out.symm, hb⟩
        · rw [if_neg (fun h => c2 h.2), Int.add_zero] at HEV
          have Hv := hidp HEV
          have e1 : (t.cl == o.cl) = true := by simpa using c1
          clear p2 c1 HEV
          go_wp2_with fail
          refine (locks_any t _ (TL.out.keep (Keeps.of_below hb))).mono ?_
          rintro e w2 ⟨rfl, hb2⟩
          rw [HL.out]
          replace hb := hb.trans (hb2.mono hb.size)
          replace tb := tb.keep (Keeps.of_below hb2)
          replace ob := ob.keep (Keeps.of_below hb2)
          clear hb2 d0 d1 d2 d3 d4 d5 f0 f1 f2 f3 f4 f5 sc_0 sc_1 sc_2 sc_3
          obtain ⟨d0, d1, d2, d3, d4, d5⟩ := id tb
          obtain ⟨f0, f1, f2, f3, f4, f5⟩ := id ob
          go_wp2
          go_ret
          exact ⟨ret_int Hv.out.symm, hb⟩
      · rw [if_neg c1, if_neg (fun h => c1 h.1), Int.add_zero] at HEV
        have Hv := hidp HEV
        have e1 : (t.cl == o.cl) = false := by simpa using c1
        clear p2 c1 HEV
        go_wp2
        go_ret
        exact ⟨ret_int Hv.out.symm, hb⟩
end Go.Proofs.Ytlbaohefappfoaa

namespace Go.Proofs.Ytlbaohefappfoaa
open Go.ChangeShapes Go.WideShapes Go.ChangeAt Go.RowKit
set_option linter.unusedVariables false
set_option linter.unusedSimpArgs false

set_option maxHeartbeats 2000000 in
set_option maxRecDepth 100000 in
theorem own_any (s : SetR) (bs : List Int) (ba : Option Addr) (bc : Nat) (of : Int) (w : World) (hs : SetOk w s) (hB : IntsOk w ba bc bs) : Calls Try.prog 21 #[.agg #[.int .i64 s.proto, .slice s.ca s.cores.length s.cc, .slice s.ha s.homes.length s.hc, .slice s.ta s.tasks.length s.tc], .slice ba bs.length bc, .int .i64 of] w fun e w' => e = .returned (.tuple #[.int .i64 (ownV s bs of), .bool (waitsK s bs of)]) ∧ Below w.heap.size w w' := by
  have hb := (Below.refl w.heap.size w).alloc (Nat.le_refl _) (.cells #[.int .i64 s.proto, .slice s.ca s.cores.length s.cc, .slice s.ha s.homes.length s.hc, .slice s.ta s.tasks.length s.tc] 25)
  have sc := SetCells.new w s 25
  have H := hs.keep (Keeps.of_below hb)
  have HB := hB.keep (Keeps.of_below hb)
  have l3 : s.tasks.length ≤ maxLen := Nat.le_trans hs.tasks.sl.2.1 hs.tasks.sl.2.2
  unfold maxLen at l3
  obtain ⟨T, HT0⟩ : ∃ T, Hid (tot (waitsL s bs of) = T) := ⟨_, hidp rfl⟩
  have hT := waitsT_bd s bs of
  rw [HT0.out] at hT
  obtain ⟨T0, T1⟩ := hT
  by_cases k : waitsK s bs of = true
  · have Hk := hidp k
    have hth := waitsK_there k
    obtain ⟨ho, r1, r2⟩ := thereB_true.1 hth
    obtain ⟨A, HA⟩ : ∃ A, Hid (sumK 1 (taskAt s of).parts = A) := ⟨_, hidp rfl⟩
    obtain ⟨B, HBb⟩ : ∃ B, Hid (sumK 2 (taskAt s of).parts = B) := ⟨_, hidp rfl⟩
    have hA := sum12_bd hth 1
    have hBb := sum12_bd hth 2
    rw [HA.out] at hA
    rw [HBb.out] at hBb
    obtain ⟨A0, A1⟩ := hA
    obtain ⟨B0, B1⟩ := hBb
    have Hv : Hid (ownV s bs of = A + B + T) := hidp (by unfold ownV; rw [if_pos k, HA.out, HBb.out, HT0.out])
    obtain ⟨n, rfl⟩ : ∃ n : Nat, of = n := ⟨of.toNat, by omega⟩
    have hn : n < s.tasks.length := by omega
    have hg := Good.of ho
    obtain ⟨t, HT⟩ : ∃ t, Hid (s.tasks.getD n default = t) := ⟨_, rfl⟩
    have hm : t ∈ s.tasks := HT.out ▸ getD_mem hn
    have TL : Hid (TaskLen w t) := hidp ⟨(hs.tasks.ok t hm).at_, (hg.parts t hm).lens, by have := (hg.parts t hm).len; omega⟩
    have e0 : taskAt s n = t := by unfold taskAt; simp only [Int.toNat_natCast]; exact HT.out
    rw [e0] at HA HBb
    obtain ⟨g, off, hA, hcl⟩ := hs.tasks.at_.resolve_left (by intro e; rw [e] at hn; simp at hn)
    have Htc := hidp (HT.out ▸ hcl n hn)
    have w1 : IntKind.i64.wrap (A + B) = A + B := IntWalk.i64_in _ (by omega)
    have w2 : IntKind.i64.wrap (A + B + T) = A + B + T := IntWalk.i64_in _ (by omega)
    clear hcl hm hg ho hs hB k hth e0 r1
    have dn : decide (s.tasks.length ≤ n) = false := by simp; omega
    obtain ⟨proto, ca, cc, cores, ha, hc, homes, ta, tc, tasks⟩ := s
    dsimp only at hA hn l3 r2 hb sc H dn ⊢
    subst hA
    go_enter Try.func21, Try.ntmps21
    go_wp2_with fail
    refine (wsum_any _ bs ba bc n _ H HB).mono ?_
    rintro e w3 ⟨rfl, hb2⟩
    replace hb := hb.trans (hb2.mono hb.size)
    replace sc := sc.keep (Keeps.of_below hb2)
    clear hb2
    try clear sc_0 sc_1 sc_2 sc_3
    have scx := sc
    obtain ⟨sc_0, sc_1, sc_2, sc_3⟩ := scx
    try dsimp only at sc_0 sc_1 sc_2 sc_3
    rw [HT0.out, Hk.out]
    obtain ⟨d0, d1, d2, d3, d4, d5⟩ := Htc.out.keep (Keeps.of_below hb)
    go_wp2_with fail
    have tb := (TaskBox.new w3 t 42).keep (Keeps.drew _)
    replace hb := (hb.alloc hb.size (.cells #[.string t.name, .int .i64 t.per, .int .i64 t.dl, .int .i64 t.prio, .int .i64 t.cl, .slice t.pa t.parts.length t.pc] 42)).drew
    clear d0 d1 d2 d3 d4 d5 sc_0 sc_1 sc_2 sc_3 sc H
    go_region_held3 (fun w' => w'.cell? ⟨w3.heap.size, 0, none⟩ = some (.string t.name) ∧ w'.cell? ⟨w3.heap.size, 1, none⟩ = some (.int .i64 t.per) ∧ w'.cell? ⟨w3.heap.size, 2, none⟩ = some (.int .i64 t.dl) ∧ w'.cell? ⟨w3.heap.size, 3, none⟩ = some (.int .i64 t.prio) ∧ w'.cell? ⟨w3.heap.size, 4, none⟩ = some (.int .i64 t.cl) ∧ w'.cell? ⟨w3.heap.size, 5, none⟩ = some (.slice t.pa t.parts.length t.pc)) (exact tb)
      (first
        | (go_at_call 37; refine (runs_any t _ (TL.out.keep (Keeps.of_below hb))).mono ?_; rintro e u ⟨rfl, hb3⟩; have tb := tb.keep (Keeps.of_below hb3); have hb := hb.trans (hb3.mono hb.size); rw [HA.out])
        | (go_at_call 38; refine (sleeps_any t _ (TL.out.keep (Keeps.of_below hb))).mono ?_; rintro e u ⟨rfl, hb3⟩; have tb := tb.keep (Keeps.of_below hb3); have hb := hb.trans (hb3.mono hb.size); rw [HBb.out]))
    clear w1 w2
    go_wp2_with fail
    go_ret2
    exact ⟨ret_ib Hv.out.symm Hk.out.symm, hb⟩
  · have k : waitsK s bs of = false := by simpa using k
    have Hk := hidp k
    have Hv : Hid (ownV s bs of = 0) := hidp (by unfold ownV; rw [k]; rfl)
    clear k hs hB
    go_enter Try.func21, Try.ntmps21
    go_wp2_with fail
    refine (wsum_any _ bs ba bc of _ H HB).mono ?_
    rintro e w3 ⟨rfl, hb2⟩
    replace hb := hb.trans (hb2.mono hb.size)
    replace sc := sc.keep (Keeps.of_below hb2)
    clear hb2
    rw [HT0.out, Hk.out]
    go_wp2
    go_ret2
    exact ⟨ret_ib Hv.out.symm Hk.out.symm, hb⟩

theorem workB_any (w0 b p e : Int) (w : World) (i0 : I64 w0) (i1 : I64 b) (i2 : I64 p) (i3 : I64 e) :
    Calls Try.prog 40 #[.int .i64 w0, .int .i64 b, .int .i64 p, .int .i64 e] w fun r w' => r = .returned (.int .i64 (workV w0 b p e)) ∧ Below w.heap.size w w' :=
  (work_any w0 b p e w i0 i1 i2 i3).mono fun r w' h => ⟨h.1, h.2.b⟩

set_option maxHeartbeats 4000000 in
set_option maxRecDepth 100000 in
theorem others17_any (s : SetR) (bs : List Int) (ba : Option Addr) (bc : Nat) (of wd : Int) (w : World) (hs : SetOk w s) (hB : IntsOk w ba bc bs) (hwd : I64 wd) : Calls Try.prog 22 #[.agg #[.int .i64 s.proto, .slice s.ca s.cores.length s.cc, .slice s.ha s.homes.length s.hc, .slice s.ta s.tasks.length s.tc], .slice ba bs.length bc, .int .i64 of, .int .i64 wd] w fun e w' => e = .returned (.int .i64 (othersV s bs of wd)) ∧ Below w.heap.size w w' := by
  have hb := (Below.refl w.heap.size w).alloc (Nat.le_refl _) (.cells #[.int .i64 s.proto, .slice s.ca s.cores.length s.cc, .slice s.ha s.homes.length s.hc, .slice s.ta s.tasks.length s.tc] 25)
  have sc := SetCells.new w s 25
  have H := hs.keep (Keeps.of_below hb)
  have l3 : s.tasks.length ≤ maxLen := Nat.le_trans hs.tasks.sl.2.1 hs.tasks.sl.2.2
  have l4 : bs.length ≤ maxLen := Nat.le_trans hB.sl.2.1 hB.sl.2.2
  unfold maxLen at l3 l4
  have Hwd := hidp hwd
  clear hwd
  by_cases e : thereB s of = true
  · have Hth := hidp e
    by_cases e2 : bs.length = s.tasks.length
    · have HL := hidp e2
      have d1 : ((bs.length : Int) != (s.tasks.length : Int)) = false := by simp [e2]
      obtain ⟨ho, r1, r2⟩ := thereB_true.1 e
      obtain ⟨c0, c1, c2, c3⟩ := cores_at e
      obtain ⟨n, rfl⟩ : ∃ n : Nat, of = n := ⟨of.toNat, by omega⟩
      have hn : n < s.tasks.length := by omega
      have hg := Good.of ho
      have n6 := hg.ntasks.2
      have Ho := hidp ho
      obtain ⟨cn, hcn⟩ : ∃ cn : Nat, (taskAt s n).cl = cn := ⟨(taskAt s n).cl.toNat, by omega⟩
      have hcl2 : cn < s.cores.length := by omega
      obtain ⟨nc, HNC⟩ : ∃ nc, Hid (s.cores.getD cn 0 = nc) := ⟨_, rfl⟩
      have e5 : s.cores.getD (taskAt s n).cl.toNat 0 = nc := by rw [hcn]; simpa using HNC.out
      rw [e5] at c2 c3
      obtain ⟨W, HW⟩ : ∃ W : Nat → Int, Hid (∀ k, othW s bs n wd 0 (s.tasks.take k) = W k) := ⟨fun k => othW s bs n wd 0 (s.tasks.take k), hidp (fun _ => rfl)⟩
      obtain ⟨E, HE⟩ : ∃ E : Nat → Int, Hid (∀ k : Nat, eachV s k n = E k) := ⟨fun k => eachV s k n, hidp (fun _ => rfl)⟩
      have HEb : Hid (∀ k, 0 ≤ E k ∧ E k ≤ 720) := hidp (fun k => by rw [← HE.out]; exact eachV_bd ho k n)
      have HW0 : Hid (W 0 = 0) := hidp (by rw [← HW.out]; simp [othW])
      have HWb : Hid (∀ k, 0 ≤ W k ∧ W k ≤ 6000000) := hidp (fun k => by
        rw [← HW.out]
        have h1 := othW_bd s bs n wd 0 (s.tasks.take k)
        have h2 : (s.tasks.take k).length ≤ 6 := by rw [List.length_take]; omega
        omega)
      have HWs : Hid (∀ k, k < s.tasks.length → W (k + 1) = W k + (if (k : Int) = n then 0 else workV wd (bs.getD k 0) (s.tasks.getD k default).per (E k))) := hidp (fun k hk => by rw [← HW.out, ← HW.out, ← HE.out]; exact othW_snoc s bs n wd s.tasks k hk)
      have HVy : Hid (nnB bs = true → othersV s bs n wd = W s.tasks.length / nc) := hidp (fun h => by
        unfold othersV; rw [if_pos ⟨othersB_true.2 ⟨e, e2⟩, h⟩, e5, ← HW.out, List.take_length])
      have HVn : Hid (nnB bs = false → othersV s bs n wd = 0) := hidp (fun h => by unfold othersV; rw [h, if_neg (fun g => by cases g.2)])
      have HR := hidp hs.tasks.at_
      have HRc := hidp hs.cores.at_
      have HBR := hidp hB.at_
      have HBw := hidp hB.wf
      have Hper := hidp (fun t ht => (hs.tasks.ok t ht).per)
      have HS1 : Hid (∀ u, Below w.heap.size w u → SetOk u s) := hidp (fun u h => hs.keep (Keeps.of_below h))
      have Hcn := hidp hcn
      have Hat : Hid ((s.tasks.getD n default).cl = cn) := hidp (by have := hcn; unfold taskAt at this; simpa using this)
      clear hg ho hs hB e e2 r1 HW c0 c1 e5 hcn
      obtain ⟨proto, ca, cc, cores, ha, hc, homes, ta, tc, tasks⟩ := s
      dsimp only at hn l3 r2 hb sc H d1 n6 hcl2 HR HRc HWs HL Hper HNC Hat HS1 Ho ⊢
      obtain ⟨g, off, hA, hcl⟩ := HR.out.resolve_left (by intro e; rw [e] at hn; simp at hn)
      subst hA
      have Hcl := hidp hcl
      obtain ⟨gc, oc, hCA, hcc⟩ := HRc.out.resolve_left (by intro e; rw [e] at hcl2; simp at hcl2)
      subst hCA
      have Hcc := hidp (HNC.out ▸ hcc cn hcl2)
      obtain ⟨gb, ob, hBA, hbl⟩ := HBR.out.resolve_left (by intro e; have := HL.out; rw [e] at this; simp at this; omega)
      subst hBA
      have Hbl := hidp hbl
      clear hcl hcc hbl
      have dn : decide (tasks.length ≤ n) = false := by simp; omega
      have dc : decide (cores.length ≤ cn) = false := by simp; omega
      have z0 : (nc == 0) = false := by simp; omega
      have z1 : (nc == -1) = false := by simp; omega
      go_enter Try.func22, Try.ntmps22
      go_wp2
      go_step3
      go_wp2_with fail
      refine (there17_any _ _ _ H).mono ?_
      rintro e w2 ⟨rfl, hb2⟩
      replace hb := hb.trans (hb2.mono hb.size)
      replace sc := sc.keep (Keeps.of_below hb2)
      clear hb2
      try clear sc_0 sc_1 sc_2 sc_3
      have scx := sc
      obtain ⟨sc_0, sc_1, sc_2, sc_3⟩ := scx
      try dsimp only at sc_0 sc_1 sc_2 sc_3
      rw [Hth.out]
      go_wp2
      go_step3
      go_wp2
      clear sc_0 sc_1 sc_2 sc_3
      go_loopg [9, 27] tasks.length (fun gg a i wr => ∃ (k : Nat) (x : Int), k + gg = tasks.length ∧ i = .int .i64 k ∧ a = .int .i64 x ∧ Hid (W k = x) ∧ Hid (∀ j, j < k → 0 ≤ bs.getD j 0) ∧ SetCells wr w.heap.size ⟨proto, some ⟨gc, oc, none⟩, cc, cores, ha, hc, homes, some ⟨g, off, none⟩, tc, tasks⟩ ∧ Below w.heap.size w wr)
      case atStart => exact ⟨0, 0, by omega, rfl, rfl, HW0, hidp (fun j hj => by omega), sc, hb⟩
      case round =>
        clear sc hb
        obtain ⟨k, x, hk, rfl, rfl, Hx, Hnn, sc, hw⟩ := hrel
        have hx := HWb.out k
        rw [Hx.out] at hx
        obtain ⟨x0, x1⟩ := hx
        by_cases hlt : k < tasks.length
        · obtain ⟨t, HT⟩ : ∃ t, Hid (tasks.getD k default = t) := ⟨_, rfl⟩
          have hkb : k < bs.length := by rw [HL.out]; exact hlt
          obtain ⟨b, Hb⟩ : ∃ b, Hid (bs.getD k 0 = b) := ⟨_, rfl⟩
          have hb64 := HBw.out b (by rw [← Hb.out]; exact getD_mem (α := Int) hkb)
          have hp64 := Hper.out t (HT.out ▸ getD_mem hlt)
          obtain ⟨d0, d1', d2, d3, d4, d5⟩ := (HT.out ▸ Hcl.out k hlt).keep (Keeps.of_below hw)
          have hw1 := hw.alloc hw.size (.cells #[.string t.name, .int .i64 t.per, .int .i64 t.dl, .int .i64 t.prio, .int .i64 t.cl, .slice t.pa t.parts.length t.pc] 42)
          have hbc := Keeps.of_below hw1 _ _ (Hb.out ▸ Hbl.out k hkb)
          have sc1 := sc.keep (Keeps.alloc wr (.cells #[.string t.name, .int .i64 t.per, .int .i64 t.dl, .int .i64 t.prio, .int .i64 t.cl, .slice t.pa t.parts.length t.pc] 42))
          have hkI : (k : Int) < (bs.length : Int) := by omega
          have Hb64 := hidp hb64
          have Hp64 := hidp hp64
          clear hb64 hp64
          by_cases e : b < 0
          · have Hz := hidp (HVn.out (nn_not hkb (by rw [Hb.out]; exact e)))
            go_wp2_with fail
            try rw [Exit.noGoto_ret]
            go_ret
            exact ⟨ret_int Hz.out.symm, hw1⟩
          · have hb0 : 0 ≤ b := by omega
            have Hnn' : Hid (∀ j, j < k + 1 → 0 ≤ bs.getD j 0) := hidp (fun j hj => by
              by_cases ej : j = k
              · subst ej; rw [Hb.out]; exact hb0
              · exact Hnn.out j (by omega))
            by_cases e3 : (k : Int) = n
            · have e4 : ((k : Int) == (n : Int)) = true := by simpa using e3
              have Hz : Hid (W (k + 1) = x) := hidp (by rw [HWs.out k hlt, if_pos e3, Hx.out]; omega)
              clear e3
              go_wp2_with fail
              go_roundg (gk - 1)
              case measure => omega
              case rel => exact ⟨k + 1, x, by omega, by go_num, rfl, Hz, Hnn', sc1, hw1⟩
            · have e4 : ((k : Int) == (n : Int)) = false := by simpa using e3
              obtain ⟨v, Hv⟩ : ∃ v, Hid (workV wd b t.per (E k) = v) := ⟨_, hidp rfl⟩
              have Hz : Hid (W (k + 1) = x + v) := hidp (by rw [HWs.out k hlt, if_neg e3, Hx.out, Hb.out, HT.out, Hv.out])
              have hv := workV_bd wd b t.per (E k)
              rw [Hv.out] at hv
              obtain ⟨v0, v1⟩ := hv
              have hEk := HEb.out k
              have HE64 : Hid (I64 (E k)) := hidp (by unfold I64; omega)
              have hwr : IntKind.i64.wrap (x + v) = x + v := IntWalk.i64_in _ (by omega)
              have hsv := Keeps.drew _ _ _ hbc
              have pb : (wr.alloc (.cells #[.string t.name, .int .i64 t.per, .int .i64 t.dl, .int .i64 t.prio, .int .i64 t.cl, .slice t.pa t.parts.length t.pc] 42)).drew.cell? ⟨wr.heap.size, 1, none⟩ = some (.int .i64 t.per) := by simp
              obtain ⟨s0, s1, s2, s3⟩ := sc1.keep (Keeps.drew _)
              have hb := hw1.drew
              clear e3 hEk
              go_wp2_with fail
              clear d0 d1' d2 d3 d4 d5 sc sc1 hw1 hbc
              go_region_held3 (fun w' => w'.cell? ⟨gb, ob + k, none⟩ = some (.int .i64 b) ∧ w'.cell? ⟨wr.heap.size, 1, none⟩ = some (.int .i64 t.per) ∧ w'.cell? ⟨w.heap.size, 0, none⟩ = some (.int .i64 proto) ∧ w'.cell? ⟨w.heap.size, 1, none⟩ = some (.slice (some ⟨gc, oc, none⟩) cores.length cc) ∧ w'.cell? ⟨w.heap.size, 2, none⟩ = some (.slice ha homes.length hc) ∧ w'.cell? ⟨w.heap.size, 3, none⟩ = some (.slice (some ⟨g, off, none⟩) tasks.length tc)) (exact ⟨hsv, pb, s0, s1, s2, s3⟩)
                (first
                  | (go_at_call 41; refine (each_any _ k n _ (HS1.out _ hb) Ho.out hlt hn).mono ?_; rintro e u ⟨rfl, hb3⟩; have hsv := Keeps.of_below hb3 _ _ hsv; have pb := Keeps.of_below hb3 _ _ pb; have s0 := Keeps.of_below hb3 _ _ s0; have s1 := Keeps.of_below hb3 _ _ s1; have s2 := Keeps.of_below hb3 _ _ s2; have s3 := Keeps.of_below hb3 _ _ s3; have hb := hb.trans (hb3.mono hb.size); rw [HE.out])
                  | (go_at_call 40; refine (workB_any wd b t.per (E k) _ Hwd.out Hb64.out Hp64.out HE64.out).mono ?_; rintro e u ⟨rfl, hb3⟩; have hsv := Keeps.of_below hb3 _ _ hsv; have pb := Keeps.of_below hb3 _ _ pb; have s0 := Keeps.of_below hb3 _ _ s0; have s1 := Keeps.of_below hb3 _ _ s1; have s2 := Keeps.of_below hb3 _ _ s2; have s3 := Keeps.of_below hb3 _ _ s3; have hb := hb.trans (hb3.mono hb.size); rw [Hv.out]))
              clear hwr
              go_wp2_with fail
              go_roundg (gk - 1)
              case measure => omega
              case rel => exact ⟨k + 1, x + v, by omega, by go_num, rfl, Hz, Hnn', ⟨s0, s1, s2, s3⟩, hb⟩
        · obtain rfl : k = tasks.length := by omega
          have hnn : nnB bs = true := nn_yes (fun j hj => Hnn.out j (by rw [← HL.out]; exact hj))
          have Hz := hidp (HVy.out hnn)
          obtain ⟨q, hq⟩ : ∃ q, x.tdiv nc = q := ⟨_, rfl⟩
          have Hq : Hid (q = x / nc) := hidp (by rw [← hq, Int.tdiv_eq_ediv_of_nonneg x0])
          have q0 : 0 ≤ q := by rw [Hq.out]; exact Int.ediv_nonneg x0 (by omega)
          have q1 : q ≤ 6000000 := by rw [Hq.out]; exact Int.le_trans (Int.ediv_le_self _ x0) x1
          obtain ⟨s0, s1, s2, s3⟩ := id sc
          dsimp only at s0 s1 s2 s3
          have k4 := Keeps.of_below hw _ _ Hcc.out
          have k5 := Keeps.of_below hw _ _ (Hcl.out n hn).2.2.2.2.1
          rw [Hat.out] at k5
          have cI : (cn : Int) < (cores.length : Int) := by omega
          have nI : (n : Int) < (tasks.length : Int) := by omega
          clear hnn
          go_wp2_with fail
          go_quiet (fail)
          go_wp2
          try rw [Exit.noGoto_ret]
          go_ret
          exact ⟨ret_int (by rw [Hz.out, Hq.out, Hx.out]), below_drewN hw _⟩
    · have Hv : Hid (othersV s bs of wd = 0) := hidp (by unfold othersV; rw [if_neg (fun h => e2 (othersB_true.1 h.1).2)])
      have d1 : ((bs.length : Int) != (s.tasks.length : Int)) = true := by simp; omega
      clear e e2
      go_enter Try.func22, Try.ntmps22
      go_wp2
      go_step3
      go_wp2_with fail
      refine (there17_any _ _ _ H).mono ?_
      rintro e w2 ⟨rfl, hb2⟩
      replace hb := hb.trans (hb2.mono hb.size)
      replace sc := sc.keep (Keeps.of_below hb2)
      clear hb2
      try clear sc_0 sc_1 sc_2 sc_3
      have scx := sc
      obtain ⟨sc_0, sc_1, sc_2, sc_3⟩ := scx
      try dsimp only at sc_0 sc_1 sc_2 sc_3
      rw [Hth.out]
      go_wp2
      try rw [Exit.noGoto_ret]
      go_ret
      exact ⟨ret_int Hv.out.symm, hb⟩
  · have Hv : Hid (othersV s bs of wd = 0) := hidp (by unfold othersV; rw [if_neg (fun h => e (othersB_true.1 h.1).1)])
    have Hth : Hid (thereB s of = false) := hidp (by simpa using e)
    clear e
    go_enter Try.func22, Try.ntmps22
    go_wp2
    go_step3
    go_wp2_with fail
    refine (there17_any _ _ _ H).mono ?_
    rintro e w2 ⟨rfl, hb2⟩
    replace hb := hb.trans (hb2.mono hb.size)
    replace sc := sc.keep (Keeps.of_below hb2)
    clear hb2
    try clear sc_0 sc_1 sc_2 sc_3
    have scx := sc
    obtain ⟨sc_0, sc_1, sc_2, sc_3⟩ := scx
    try dsimp only at sc_0 sc_1 sc_2 sc_3
    rw [Hth.out]
    go_wp2
    try rw [Exit.noGoto_ret]
    go_ret
    exact ⟨ret_int Hv.out.symm, hb⟩

set_option maxHeartbeats 2000000 in
set_option maxRecDepth 100000 in
theorem next_any (s : SetR) (bs : List Int) (ba : Option Addr) (bc : Nat) (of : Int) (w : World) (hs : SetOk w s) (hB : IntsOk w ba bc bs) : Calls Try.prog 13 #[.agg #[.int .i64 s.proto, .slice s.ca s.cores.length s.cc, .slice s.ha s.homes.length s.hc, .slice s.ta s.tasks.length s.tc], .slice ba bs.length bc, .int .i64 of] w fun e w' => e = .returned (.tuple #[.int .i64 (nextV s bs of), .bool (nextK s bs of)]) ∧ Below w.heap.size w w' := by
  have hb := (Below.refl w.heap.size w).alloc (Nat.le_refl _) (.cells #[.int .i64 s.proto, .slice s.ca s.cores.length s.cc, .slice s.ha s.homes.length s.hc, .slice s.ta s.tasks.length s.tc] 25)
  have sc := SetCells.new w s 25
  have H := hs.keep (Keeps.of_below hb)
  have HB := hB.keep (Keeps.of_below hb)
  have l3 : s.tasks.length ≤ maxLen := Nat.le_trans hs.tasks.sl.2.1 hs.tasks.sl.2.2
  have l4 : bs.length ≤ maxLen := Nat.le_trans hB.sl.2.1 hB.sl.2.2
  unfold maxLen at l3 l4
  obtain ⟨O, HO⟩ : ∃ V, Hid (ownV s bs of = V) := ⟨_, hidp rfl⟩
  have hO := ownV_bd s bs of
  rw [HO.out] at hO
  obtain ⟨O0, O1⟩ := hO
  by_cases k : waitsK s bs of = true
  · have Hk := hidp k
    by_cases e2 : bs.length = s.tasks.length
    · have d1 : ((bs.length : Int) != (s.tasks.length : Int)) = false := by simp [e2]
      obtain ⟨ho, r1, r2⟩ := thereB_true.1 (waitsK_there k)
      obtain ⟨n, rfl⟩ : ∃ n : Nat, of = n := ⟨of.toNat, by omega⟩
      have hnb : n < bs.length := by omega
      obtain ⟨b, Hb⟩ : ∃ b, Hid (bs.getD n 0 = b) := ⟨_, rfl⟩
      have hb64 := hB.wf b (by rw [← Hb.out]; exact getD_mem (α := Int) hnb)
      obtain ⟨P, HP⟩ : ∃ V, Hid (othersV s bs n b = V) := ⟨_, hidp rfl⟩
      have hP := othersV_bd s bs n b
      rw [HP.out] at hP
      obtain ⟨P0, P1⟩ := hP
      have HK : Hid (nextK s bs n = true) := hidp (nextK_true.2 ⟨k, e2⟩)
      have HV : Hid (nextV s bs n = O + P) := hidp (by unfold nextV; rw [if_pos HK.out, HO.out]; simp only [Int.toNat_natCast]; rw [Hb.out, HP.out])
      have hwr : IntKind.i64.wrap (O + P) = O + P := IntWalk.i64_in _ (by omega)
      obtain ⟨gb, ob, hBA, hbl⟩ := hB.at_.resolve_left (by intro e; rw [e] at hnb; simp at hnb)
      have Hbc := hidp (Hb.out ▸ hbl n hnb)
      have nI : (n : Int) < (bs.length : Int) := by omega
      clear hbl hs hB k e2 ho r1 r2
      subst hBA
      go_enter Try.func13, Try.ntmps13
      go_wp2_with fail
      refine (own_any s bs _ bc n _ H HB).mono ?_
      rintro e w2 ⟨rfl, hb2⟩
      replace hb := hb.trans (hb2.mono hb.size)
      replace sc := sc.keep (Keeps.of_below hb2)
      replace H := H.keep (Keeps.of_below hb2)
      replace HB := HB.keep (Keeps.of_below hb2)
      clear hb2
      try clear sc_0 sc_1 sc_2 sc_3
      have scx := sc
      obtain ⟨sc_0, sc_1, sc_2, sc_3⟩ := scx
      try dsimp only at sc_0 sc_1 sc_2 sc_3
      rw [HO.out, Hk.out]
      go_wp2_with fail
      have pb := Keeps.of_below hb _ _ Hbc.out
      have H' := H.keep (Keeps.drew _)
      have HB' := HB.keep (Keeps.drew _)
      have hsv := Keeps.drew _ _ _ pb
      obtain ⟨s0, s1, s2, s3⟩ := sc.keep (Keeps.drew _)
      replace hb := hb.drew
      clear sc_0 sc_1 sc_2 sc_3 sc H HB pb
      go_region_held3 (fun w' => w'.cell? ⟨gb, ob + n, none⟩ = some (.int .i64 b) ∧ w'.cell? ⟨w.heap.size, 0, none⟩ = some (.int .i64 s.proto) ∧ w'.cell? ⟨w.heap.size, 1, none⟩ = some (.slice s.ca s.cores.length s.cc) ∧ w'.cell? ⟨w.heap.size, 2, none⟩ = some (.slice s.ha s.homes.length s.hc) ∧ w'.cell? ⟨w.heap.size, 3, none⟩ = some (.slice s.ta s.tasks.length s.tc)) (exact ⟨hsv, s0, s1, s2, s3⟩)
        (first
          | (go_at_call 22; refine (others17_any s bs _ bc n b _ H' HB' hb64).mono ?_; rintro e u ⟨rfl, hb3⟩; have hsv := Keeps.of_below hb3 _ _ hsv; have s0 := Keeps.of_below hb3 _ _ s0; have s1 := Keeps.of_below hb3 _ _ s1; have s2 := Keeps.of_below hb3 _ _ s2; have s3 := Keeps.of_below hb3 _ _ s3; have H' := H'.keep (Keeps.of_below hb3); have HB' := HB'.keep (Keeps.of_below hb3); have hb := hb.trans (hb3.mono hb.size); rw [HP.out]))
      clear hwr
      go_wp2_with fail
      go_ret2
      exact ⟨ret_ib HV.out.symm HK.out.symm, hb⟩
    · have d1 : ((bs.length : Int) != (s.tasks.length : Int)) = true := by simp; omega
      have hk : nextK s bs of = false := by rw [Bool.eq_false_iff]; intro h; exact e2 (nextK_true.1 h).2
      have HK := hidp hk
      have HV : Hid (nextV s bs of = 0) := hidp (by unfold nextV; rw [hk]; rfl)
      clear k e2 hk
      go_enter Try.func13, Try.ntmps13
      go_wp2_with fail
      refine (own_any s bs ba bc of _ H HB).mono ?_
      rintro e w2 ⟨rfl, hb2⟩
      replace hb := hb.trans (hb2.mono hb.size)
      replace sc := sc.keep (Keeps.of_below hb2)
      clear hb2
      try clear sc_0 sc_1 sc_2 sc_3
      have scx := sc
      obtain ⟨sc_0, sc_1, sc_2, sc_3⟩ := scx
      try dsimp only at sc_0 sc_1 sc_2 sc_3
      rw [HO.out, Hk.out]
      go_wp2
      go_ret2
      exact ⟨ret_ib HV.out.symm HK.out.symm, hb⟩
  · have k : waitsK s bs of = false := by simpa using k
    have Hk := hidp k
    have hk : nextK s bs of = false := by unfold nextK; rw [k]; rfl
    have HK := hidp hk
    have HV : Hid (nextV s bs of = 0) := hidp (by unfold nextV; rw [hk]; rfl)
    clear k hk
    go_enter Try.func13, Try.ntmps13
    go_wp2_with fail
    refine (own_any s bs ba bc of _ H HB).mono ?_
    rintro e w2 ⟨rfl, hb2⟩
    replace hb := hb.trans (hb2.mono hb.size)
    replace sc := sc.keep (Keeps.of_below hb2)
    clear hb2
    try clear sc_0 sc_1 sc_2 sc_3
    have scx := sc
    obtain ⟨sc_0, sc_1, sc_2, sc_3⟩ := scx
    try dsimp only at sc_0 sc_1 sc_2 sc_3
    rw [HO.out, Hk.out]
    go_wp2
    go_ret2
    exact ⟨ret_ib HV.out.symm HK.out.symm, hb⟩
end Go.Proofs.Ytlbaohefappfoaa

namespace Go.Proofs.Ytlbaohefappfoaa
open Go.ChangeShapes Go.WideShapes Go.ChangeAt Go.RowKit
set_option linter.unusedVariables false
theorem jobV_boundM {w b b' p : Int} (h : b ≤ b') : jobV w b p ≤ jobV w b' p := by
  by_cases hp : 0 < p
  · exact jobV_mono (Int.le_refl _) h (Int.le_refl _) hp
  · rw [jobV_out (by omega)]; exact (jobV_bd _ _ _).1
theorem workV_boundM {w b b' p e : Int} (h : b ≤ b') : workV w b p e ≤ workV w b' p e := by
  have h1 := jobV_boundM (w := w) (p := p) h
  have h2 := (jobV_bd w b p).1
  have h3 : jobV w b p * max e 0 ≤ jobV w b' p * max e 0 := Int.mul_le_mul_of_nonneg_right h1 (by omega)
  unfold workV; omega
theorem riv_boundM (s : SetR) {bs cs : List Int} (pr cl wd : Int) (hle : ∀ k, bs.getD k 0 ≤ cs.getD k 0) (k : Nat) (ts : List TaskR) : workS wd (rivL s bs pr cl k ts) ≤ workS wd (rivL s cs pr cl k ts) := by
  induction ts generalizing k with
  | nil => simp [rivL, workS]
  | cons t ts ih =>
    have h1 := ih (k + 1)
    simp only [rivL, workS_append]
    split
    · have := workV_boundM (w := wd) (p := t.per) (e := atV s k cl) (hle k)
      simp only [workS]; omega
    · simp only [workS]; omega
section
variable {s : SetR} {bs cs : List Int}
theorem agent_risesM {of part : Int} (hle : ∀ k, bs.getD k 0 ≤ cs.getD k 0) (hl : cs.length = bs.length) (h : agentK s cs of part = true) : agentK s bs of part = true ∧ agentV s bs of part ≤ agentV s cs of part := by
  obtain ⟨k1, k2⟩ := agent_lock h
  have hb : agentB s cs of part = true := agentB_true.2 ⟨k1, k2⟩
  have hb2 : agentB s bs of part = true := agentB_true.2 ⟨k1, by rw [← hl]; exact k2⟩
  obtain ⟨ho, l1, l2, _⟩ := lock_part k1
  have hlo := lowerV_bd s of (homeV s of part)
  unfold agentK agentO at h
  unfold agentV agentK agentO
  rw [if_pos hb] at h ⊢
  rw [if_pos hb2]
  cases e : fixO (winF (leastV s of part) (rivL s cs (prioOf s of) (homeV s of part) 0 s.tasks)) (leastV s of part) with
  | none => rw [e] at h; cases h
  | some v =>
    obtain ⟨u, hu, huv⟩ := fix_le (F := winF (leastV s of part) (rivL s bs (prioOf s of) (homeV s of part) 0 s.tasks)) (fun x y hxy => winF_mono _ _ hxy) (fun x => by
      have := riv_boundM s (prioOf s of) (homeV s of part) x hle 0 s.tasks
      unfold winF capV; omega) (Int.le_refl _) (fun x => (winF_own _ _ x).1) (by unfold leastV; omega) e
    rw [hu]
    exact ⟨rfl, huv⟩
theorem wait_rises {of part : Int} (hle : ∀ k, bs.getD k 0 ≤ cs.getD k 0) (hl : cs.length = bs.length) (h : waitK s cs of part = true) : waitK s bs of part = true ∧ waitV s bs of part ≤ waitV s cs of part := by
  unfold waitK at h ⊢
  unfold waitV
  rw [hl] at h ⊢
  split at h
  · rename_i e
    rw [if_pos e, if_pos e, if_pos e]
    by_cases p2 : s.proto = 2
    · have p1 : ¬ s.proto = 1 := by omega
      rw [if_pos p2] at h ⊢
      rw [if_neg p1, if_neg p1, if_pos p2, if_pos p2]
      exact agent_risesM hle hl h
    · rw [if_neg p2] at h ⊢
      rw [if_neg p2, if_neg p2]
      exact ⟨h, Int.le_refl _⟩
  · cases h
theorem tot_map_le {n : Nat} {f g : Nat → Int} (h : ∀ k, k < n → f k ≤ g k) : tot ((List.range n).map f) ≤ tot ((List.range n).map g) := by
  induction n with
  | zero => simp [tot]
  | succ n ih =>
    have h1 := ih (fun k hk => h k (by omega))
    have h2 := h n (by omega)
    rw [range_snoc, range_snoc, tot_append, tot_append]
    simp only [tot]; omega
theorem waits_rises {of : Int} (hle : ∀ k, bs.getD k 0 ≤ cs.getD k 0) (hl : cs.length = bs.length) (h : waitsK s cs of = true) : waitsK s bs of = true ∧ tot (waitsL s bs of) ≤ tot (waitsL s cs of) := by
  have ht := waitsK_there h
  have hc : ∀ k, k < (partsOf s of).length → pK s cs of k = true := by
    unfold waitsK at h
    rw [ht, Bool.true_and] at h
    exact (upTo_iff _ _).1 h
  have hk : ∀ k, k < (partsOf s of).length → pK s bs of k = true ∧ pW s bs of k ≤ pW s cs of k := fun k hk => by
    have h1 := hc k hk
    unfold pK at h1 ⊢
    unfold pW
    split
    · rename_i e
      rw [if_pos e] at h1
      exact wait_rises hle hl h1
    · exact ⟨rfl, Int.le_refl _⟩
  obtain ⟨a1, a2⟩ := waits_yes (bs := bs) ht (fun k h => (hk k h).1)
  obtain ⟨b1, b2⟩ := waits_yes (bs := cs) ht hc
  refine ⟨a1, ?_⟩
  rw [a2, b2]
  exact tot_map_le (fun k h => (hk k h).2)
theorem othW_rises {of wd wd' : Int} (hle : ∀ k, bs.getD k 0 ≤ cs.getD k 0) (hw : wd ≤ wd') (k : Nat) {ts : List TaskR} (hp : ∀ t ∈ ts, 1 ≤ t.per) : othW s bs of wd k ts ≤ othW s cs of wd' k ts := by
  induction ts generalizing k with
  | nil => simp [othW]
  | cons t ts ih =>
    have h1 := ih (k + 1) (fun q hq => hp q (by simp [hq]))
    have h2 : workV wd (bs.getD k 0) t.per (eachV s k of) ≤ workV wd' (cs.getD k 0) t.per (eachV s k of) := workV_mono hw (hle k) (Int.le_refl _) (by have := hp t (by simp); omega) (Int.le_refl _)
    simp only [othW]
    split <;> omega
theorem per_pos (ho : okS s = true) : ∀ t ∈ s.tasks, 1 ≤ t.per := fun t ht => by
  have h := (Good.of ho).form t ht
  unfold formB at h
  simp [inB] at h
  omega
theorem others_rises {of wd wd' : Int} (hle : ∀ k, bs.getD k 0 ≤ cs.getD k 0) (hl : cs.length = bs.length) (hn : nnB bs = true) (hn' : nnB cs = true) (hw : wd ≤ wd') : othersV s bs of wd ≤ othersV s cs of wd' := by
  unfold othersV
  have e : othersB s cs of = othersB s bs of := by unfold othersB; rw [hl]
  rw [e]
  by_cases h : othersB s bs of = true
  · rw [if_pos ⟨h, hn⟩, if_pos ⟨h, hn'⟩]
    obtain ⟨ht, _⟩ := othersB_true.1 h
    exact Int.ediv_le_ediv (by have := cores_at ht; omega) (othW_rises hle hw 0 (per_pos (thereB_true.1 ht).1))
  · rw [if_neg (fun g => h g.1), if_neg (fun g => h g.1)]; exact Int.le_refl _
theorem next_rises {of : Int} (hle : ∀ k, bs.getD k 0 ≤ cs.getD k 0) (hl : cs.length = bs.length) (hn : nnB bs = true) (hn' : nnB cs = true) (h : nextK s cs of = true) : nextK s bs of = true ∧ nextV s bs of ≤ nextV s cs of := by
  obtain ⟨h1, h2⟩ := nextK_true.1 h
  obtain ⟨a1, a2⟩ := waits_rises hle hl h1
  have k1 : nextK s bs of = true := nextK_true.2 ⟨a1, by rw [← hl]; exact h2⟩
  refine ⟨k1, ?_⟩
  have h3 := others_rises (s := s) (of := of) hle hl hn hn' (hle of.toNat)
  unfold nextV ownV
  rw [if_pos h, if_pos k1, if_pos h1, if_pos a1]
  omega
theorem next_own {of : Int} (h : nextK s bs of = true) : ownV s bs of ≤ nextV s bs of := by
  have := (othersV_bd s bs of (bs.getD of.toNat 0)).1
  unfold nextV; rw [if_pos h]; omega
end
end Go.Proofs.Ytlbaohefappfoaa

namespace Go.Proofs.Ytlbaohefappfoaa
open Go.ChangeShapes Go.WideShapes Go.ChangeAt Go.RowKit
set_option linter.unusedVariables false

def soonL (s : SetR) : List Int := s.tasks.map fun t => allK t.parts
def nextRow (s : SetR) (bs : List Int) : List Int := (List.range s.tasks.length).map fun i : Nat => nextV s bs i
def stepB (s : SetR) (bs : List Int) (i : Nat) : Bool := nextK s bs i && decide (nextV s bs i ≤ (s.tasks.getD i default).dl)
def roundB (s : SetR) (bs : List Int) : Bool := upTo (stepB s bs) s.tasks.length
def roundL (s : SetR) (bs : List Int) : List Int := if roundB s bs = true then nextRow s bs else []
/-- where so many rounds lead from these bounds: the bounds, and what is told -/
def setL (s : SetR) : Nat → List Int → List Int × Int
  | 0, bs => (bs, 20)
  | k + 1, bs => if roundB s bs = true then (if nextRow s bs = bs then (bs, 0) else setL s k (nextRow s bs)) else ([], 19)
theorem setL_succ (s : SetR) (k : Nat) (bs : List Int) : setL s (k + 1) bs = if roundB s bs = true then (if nextRow s bs = bs then (bs, 0) else setL s k (nextRow s bs)) else ([], 19) := rfl
def settle (s : SetR) : List Int × Int := setL s 200 (soonL s)
def anE (s : SetR) : Int := if chkE s = 0 then (settle s).2 else chkE s
def anB (s : SetR) : List Int := if anE s = 0 then (settle s).1 else []
def anW (s : SetR) : List (List Int) := if anE s = 0 then (List.range s.tasks.length).map (fun i : Nat => waitsL s (settle s).1 i) else []
theorem soonL_len (s : SetR) : (soonL s).length = s.tasks.length := by simp [soonL]
theorem nextRow_len (s : SetR) (bs : List Int) : (nextRow s bs).length = s.tasks.length := by simp [nextRow]
theorem nextRow_ok (s : SetR) (bs : List Int) : ∀ n ∈ nextRow s bs, 0 ≤ n ∧ n ≤ 6100000 := fun n hn => by
  obtain ⟨i, _, rfl⟩ := List.mem_map.1 hn
  exact nextV_bd s bs i
theorem soonL_ok {s : SetR} (ho : okS s = true) : ∀ n ∈ soonL s, 0 ≤ n ∧ n ≤ 360 := fun n hn => by
  obtain ⟨t, ht, rfl⟩ := List.mem_map.1 hn
  have hg := (Good.of ho).parts t ht
  have := allK_bd hg.lens
  have := hg.len
  omega
theorem setL_zero {s : SetR} {k : Nat} {bs : List Int} (h : (setL s k bs).2 = 0) : ∃ cs, (setL s k bs).1 = cs ∧ roundB s cs = true ∧ nextRow s cs = cs := by
  induction k generalizing bs with
  | zero => simp [setL] at h
  | succ k ih =>
    unfold setL at h ⊢
    by_cases e : roundB s bs = true
    · rw [if_pos e] at h ⊢
      by_cases e2 : nextRow s bs = bs
      · rw [if_pos e2]; exact ⟨bs, rfl, e, e2⟩
      · rw [if_neg e2] at h ⊢; exact ih h
    · rw [if_neg e] at h; simp at h
theorem setL_err (s : SetR) (k : Nat) (bs : List Int) : (setL s k bs).2 = 0 ∨ (setL s k bs).2 = 19 ∨ (setL s k bs).2 = 20 := by
  induction k generalizing bs with
  | zero => exact .inr (.inr rfl)
  | succ k ih =>
    unfold setL
    by_cases e : roundB s bs = true
    · rw [if_pos e]
      by_cases e2 : nextRow s bs = bs
      · rw [if_pos e2]; exact .inl rfl
      · rw [if_neg e2]; exact ih _
    · rw [if_neg e]; exact .inr (.inl rfl)
theorem okS_chk (s : SetR) : okS s = true ↔ chkE s = 0 := by unfold okS; simp
theorem anE_zero {s : SetR} (h : anE s = 0) : okS s = true ∧ (settle s).2 = 0 := by
  unfold anE at h
  by_cases e : chkE s = 0
  · rw [if_pos e] at h; exact ⟨(okS_chk s).2 e, h⟩
  · rw [if_neg e] at h; exact absurd h e
/-- of who is admitted: the bounds are at rest -/
theorem anB_rest {s : SetR} (h : anE s = 0) : anB s = (settle s).1 ∧ roundB s (anB s) = true ∧ nextRow s (anB s) = anB s ∧ (anB s).length = s.tasks.length := by
  have e : anB s = (settle s).1 := by unfold anB; rw [if_pos h]
  obtain ⟨cs, h1, h2, h3⟩ := setL_zero (anE_zero h).2
  have h4 : anB s = cs := by rw [e]; exact h1
  rw [h4]
  exact ⟨by rw [← h4]; exact e, h2, h3, by rw [← h3, nextRow_len]⟩
def holdB (s : SetR) (bs : List Int) (i : Nat) : Bool := nextK s bs i && (decide (nextV s bs i ≤ bs.getD i 0) && (decide (1 ≤ bs.getD i 0) && decide (bs.getD i 0 ≤ (s.tasks.getD i default).dl)))
def holdsV (s : SetR) (bs : List Int) : Bool := okS s && (decide (bs.length = s.tasks.length) && upTo (holdB s bs) s.tasks.length)
end Go.Proofs.Ytlbaohefappfoaa

namespace Go.Proofs.Ytlbaohefappfoaa
open Go.ChangeShapes Go.WideShapes Go.ChangeAt Go.RowKit
set_option linter.unusedVariables false
set_option linter.unusedSimpArgs false

set_option maxHeartbeats 4000000 in
set_option maxRecDepth 100000 in
theorem soonest_any (s : SetR) (w : World) (hs : SetOk w s) (ho : okS s = true) : Calls Try.prog 31 #[.agg #[.int .i64 s.proto, .slice s.ca s.cores.length s.cc, .slice s.ha s.homes.length s.hc, .slice s.ta s.tasks.length s.tc]] w fun e w' => ∃ A c, e = .returned (.slice A (soonL s).length c) ∧ IntsOk w' A c (soonL s) ∧ Below w.heap.size w w' := by
  have hb := (Below.refl w.heap.size w).alloc (Nat.le_refl _) (.cells #[.int .i64 s.proto, .slice s.ca s.cores.length s.cc, .slice s.ha s.homes.length s.hc, .slice s.ta s.tasks.length s.tc] 25)
  have sc := SetCells.new w s 25
  have hg := Good.of ho
  have n6 := hg.ntasks.2
  have HR := hidp hs.tasks.at_
  have Hok := hidp hs.tasks.ok
  have HG := hidp hg.parts
  have HF := hidp (soonL_ok ho)
  obtain ⟨f, Hf⟩ : ∃ f : Nat → Int, Hid (∀ k, allK (s.tasks.getD k default).parts = f k) := ⟨fun k => allK (s.tasks.getD k default).parts, hidp (fun _ => rfl)⟩
  have Hso : Hid (soonL s = (List.range s.tasks.length).map f) := hidp (by
    unfold soonL
    apply List.ext_getElem
    · simp
    · intro i h1 h2
      have hi : i < s.tasks.length := by simpa using h1
      have := Hf.out i
      simp [List.getD, hi] at this
      simpa using this)
  obtain ⟨i0, hi0, hy0, hy1, hy2⟩ := info_parts infoZ
  rw [Hso.out] at HF
  rw [Hso.out]
  clear hs ho hg
  obtain ⟨proto, ca, cc, cores, ha, hc, homes, ta, tc, tasks⟩ := s
  dsimp only at HR Hok HG n6 hb sc HF Hf ⊢
  obtain ⟨sc_0, sc_1, sc_2, sc_3⟩ := id sc
  dsimp only at sc_0 sc_1 sc_2 sc_3
  have hz0 : w.heap.size + 1 ≤ (w.alloc (.cells #[.int .i64 proto, .slice ca cores.length cc, .slice ha homes.length hc, .slice ta tasks.length tc] 25)).heap.size := by simp
  go_enter Try.func31, Try.ntmps31
  go_wp2
  clear sc_0 sc_1 sc_2 sc_3 sc
  go_loopg [3, 12] tasks.length (fun gg a i wr => ∃ (k c : Nat) (A : Option Addr), k + gg = tasks.length ∧ i = .int .i64 k ∧ a = .slice A k c ∧ OwnN (w.heap.size + 1) wr A k c ((List.range k).map f) ∧ Below w.heap.size w wr ∧ w.heap.size + 1 ≤ wr.heap.size)
  case atStart => exact ⟨0, 0, none, by omega, rfl, rfl, OwnN.none _ _, hb, hz0⟩
  case round =>
    clear hb hz0
    obtain ⟨k, c, A, hk, rfl, rfl, ho, hw, hz⟩ := hrel
    by_cases hlt : k < tasks.length
    · obtain ⟨g, off, hA, hcl⟩ := HR.out.resolve_left (by intro e; rw [e] at hlt; simp at hlt)
      subst hA
      obtain ⟨t, HT⟩ : ∃ t, Hid (tasks.getD k default = t) := ⟨_, rfl⟩
      have hm : t ∈ tasks := HT.out ▸ getD_mem hlt
      obtain ⟨d0, d1, d2, d3, d4, d5⟩ := (HT.out ▸ hcl k hlt).keep (Keeps.of_below hw)
      have hw1 := hw.alloc hw.size (.cells #[.string t.name, .int .i64 t.per, .int .i64 t.dl, .int .i64 t.prio, .int .i64 t.cl, .slice t.pa t.parts.length t.pc] 42)
      have ho1 := ho.turned ((Turned.refl [] wr).alloc (.cells #[.string t.name, .int .i64 t.per, .int .i64 t.dl, .int .i64 t.prio, .int .i64 t.cl, .slice t.pa t.parts.length t.pc] 42)) (by simp)
      have hz1 : w.heap.size + 1 ≤ (wr.alloc (.cells #[.string t.name, .int .i64 t.per, .int .i64 t.dl, .int .i64 t.prio, .int .i64 t.cl, .slice t.pa t.parts.length t.pc] 42)).heap.size := Nat.le_trans hz (by simp)
      have HP := hidp (Hok.out t hm).at_
      have HL := hidp (HG.out t hm).lens
      have hl6 := (HG.out t hm).len
      have Hfk : Hid (allK t.parts = f k) := hidp (by rw [← Hf.out, HT.out])
      obtain ⟨hl0, hl1⟩ := hl6
      clear hcl hm ho hw hz
      go_wp2
      clear d0 d1 d2 d3 d4 d5
      go_loopg [6, 19] t.parts.length (fun g2 a i w5 => ∃ (j : Nat) (x : Int), j + g2 = t.parts.length ∧ i = .int .i64 j ∧ a = .int .i64 x ∧ Hid (allK (t.parts.take j) = x) ∧ OwnN (w.heap.size + 1) w5 A k c ((List.range k).map f) ∧ Below w.heap.size w w5 ∧ w.heap.size + 1 ≤ w5.heap.size)
      case atStart => exact ⟨0, 0, by omega, rfl, rfl, hidp (by simp [allK]), ho1, hw1, hz1⟩
      case round =>
        clear ho1 hw1 hz1
        obtain ⟨j, x, hj, rfl, rfl, Hx, ho2, hw2, hz2⟩ := hrel
        have hx := allK_bd (HL.out.take j)
        rw [Hx.out, List.length_take] at hx
        obtain ⟨x0, x1⟩ := hx
        have x2 : x ≤ 360 := by omega
        clear x1
        by_cases hlt2 : j < t.parts.length
        · obtain ⟨gp, op, hPA, hpc⟩ := HP.out.resolve_left (by intro e; rw [e] at hlt2; simp at hlt2)
          obtain ⟨p, Hp⟩ : ∃ p, Hid (t.parts.getD j default = p) := ⟨_, rfl⟩
          have pcl := (Hp.out ▸ hpc j hlt2).keep (Keeps.of_below hw2)
          obtain ⟨c0, c1, c2⟩ := pcl
          have hp := HL.out p (Hp.out ▸ getD_mem hlt2)
          obtain ⟨p0, p1⟩ := hp
          have Hs : Hid (allK (t.parts.take (j + 1)) = x + p.len) := hidp (by rw [allK_snoc _ _ hlt2, Hx.out, Hp.out])
          have hw3 := hw2.alloc hw2.size (.cells #[.int .i64 p.kind, .int .i64 p.len, .int .i64 p.res] 49)
          have ho3 := ho2.turned ((Turned.refl [] wr).alloc (.cells #[.int .i64 p.kind, .int .i64 p.len, .int .i64 p.res] 49)) (by simp)
          have hz3 : w.heap.size + 1 ≤ (wr.alloc (.cells #[.int .i64 p.kind, .int .i64 p.len, .int .i64 p.res] 49)).heap.size := Nat.le_trans hz2 (by simp)
          clear hpc ho2 hw2 hz2
          go_wp2
          go_roundg (gk - 1)
          case measure => omega
          case rel => exact ⟨j + 1, x + p.len, by omega, by go_num, rfl, Hs, ho3, hw3, hz3⟩
        · have hjn : j = t.parts.length := by omega
          have Hz : Hid (f k = x) := hidp (by rw [← Hfk.out, ← Hx.out, hjn, List.take_length])
          have N2 : Hid (k + 1 ≤ maxLen) := hidp (by unfold maxLen; omega)
          have T2 : Hid ((k + 1) * 8 ≤ 140737488355328) := hidp (by omega)
          have ho4 := ho2.turned ((Turned.refl [] wr).alloc (.cells #[.int .i64 x] 3)) (by simp)
          have S2 := hidp (Lies.newCells' wr [.int .i64 x] 3)
          have Z2 : Hid (w.heap.size + 1 ≤ (wr.alloc (.cells #[.int .i64 x] 3)).heap.size) := hidp (Nat.le_trans hz2 (by simp))
          have hw4 := hw2.alloc hw2.size (.cells #[.int .i64 x] 3)
          have O2 := hidp (ints_one x)
          have Hfp := hidp (own_fp ho4.own)
          clear ho2 hw2 hz2 hjn
          go_wp2_with (at_builtin; refine wpList_app2 _ rfl (.tmp 28) (.tmp 30) 22 rfl (w.heap.size + 1) 3 i0 _ 1 8 Try.underlying22 hi0 hy0 hy1 hy2 rfl (by decide) A k c _ rfl ho4.own _ _ 1 1 [.int .i64 x] rfl (by simp) rfl S2.out O2.out N2.out T2.out Z2.out ?_; intro A' c' w6 happ)
          go_roundg (tasks.length - k - 1)
          case measure => omega
          case rel => exact ⟨k + 1, c', A', by omega, by go_num, rfl, by rw [range_snoc, Hz.out]; exact ho4.app (ps := [x]) happ rfl, hw4.trans (happ.turned.below hw4.size (fun j hj => by have := (Hfp.out _ hj).1; omega)), Nat.le_trans Z2.out happ.turned.size⟩
    · obtain rfl : k = tasks.length := by omega
      have hrow := ho.ok (fun x hx => by have := HF.out x hx; unfold I64; omega)
      have Hr := hidp hrow
      clear hrow
      go_wp2
      go_ret
      exact ⟨A, c, by simp, Hr.out, hw⟩

set_option maxHeartbeats 4000000 in
set_option maxRecDepth 100000 in
theorem round_any (s : SetR) (bs : List Int) (ba : Option Addr) (bc : Nat) (w : World) (hs : SetOk w s) (hB : IntsOk w ba bc bs) (hn : s.tasks.length ≤ 6) : Calls Try.prog 32 #[.agg #[.int .i64 s.proto, .slice s.ca s.cores.length s.cc, .slice s.ha s.homes.length s.hc, .slice s.ta s.tasks.length s.tc], .slice ba bs.length bc] w (RowK w (roundL s bs) (roundB s bs)) := by
  have hb := (Below.refl w.heap.size w).alloc (Nat.le_refl _) (.cells #[.int .i64 s.proto, .slice s.ca s.cores.length s.cc, .slice s.ha s.homes.length s.hc, .slice s.ta s.tasks.length s.tc] 25)
  have sc := SetCells.new w s 25
  have HR := hidp hs.tasks.at_
  obtain ⟨N, HN⟩ : ∃ f : Nat → Int, Hid (∀ k : Nat, nextV s bs k = f k) := ⟨fun k => nextV s bs k, hidp (fun _ => rfl)⟩
  obtain ⟨K, HK⟩ : ∃ f : Nat → Bool, Hid (∀ k : Nat, nextK s bs k = f k) := ⟨fun k => nextK s bs k, hidp (fun _ => rfl)⟩
  have HNb : Hid (∀ k, 0 ≤ N k ∧ N k ≤ 6100000) := hidp (fun k => by rw [← HN.out]; exact nextV_bd s bs k)
  obtain ⟨L, HL⟩ : ∃ L, Hid (roundL s bs = L) := ⟨_, hidp rfl⟩
  obtain ⟨R, HRd⟩ : ∃ L, Hid (roundB s bs = L) := ⟨_, hidp rfl⟩
  have Hoff : Hid (∀ k, k < s.tasks.length → (K k && decide (N k ≤ (s.tasks.getD k default).dl)) = false → R = false ∧ L = []) := hidp (fun k hk h => by
    have e : roundB s bs = false := upTo_not hk (by unfold stepB; rw [HN.out, HK.out]; exact h)
    rw [← HRd.out, ← HL.out]
    exact ⟨e, by unfold roundL; rw [e]; rfl⟩)
  have Hyes : Hid ((∀ k, k < s.tasks.length → (K k && decide (N k ≤ (s.tasks.getD k default).dl)) = true) → R = true ∧ L = (List.range s.tasks.length).map N) := hidp (fun h => by
    have e : roundB s bs = true := (upTo_iff _ _).2 (fun k hk => by unfold stepB; rw [HN.out, HK.out]; exact h k hk)
    rw [← HRd.out, ← HL.out]
    refine ⟨e, ?_⟩
    unfold roundL nextRow
    rw [if_pos e]
    exact List.map_congr_left (fun i _ => HN.out i))
  have HS1 := hidp (fun u (h : Below w.heap.size w u) => hs.keep (Keeps.of_below h))
  have HB1 := hidp (fun u (h : Below w.heap.size w u) => hB.keep (Keeps.of_below h))
  obtain ⟨i0, hi0, hy0, hy1, hy2⟩ := info_parts infoZ
  rw [HL.out, HRd.out]
  clear hs hB HL HRd
  obtain ⟨proto, ca, cc, cores, ha, hc, homes, ta, tc, tasks⟩ := s
  dsimp only at HR hn hb sc HS1 Hoff Hyes ⊢
  obtain ⟨sc_0, sc_1, sc_2, sc_3⟩ := id sc
  dsimp only at sc_0 sc_1 sc_2 sc_3
  have hz0 : w.heap.size + 1 ≤ (w.alloc (.cells #[.int .i64 proto, .slice ca cores.length cc, .slice ha homes.length hc, .slice ta tasks.length tc] 25)).heap.size := by simp
  go_enter Try.func32, Try.ntmps32
  go_wp2
  clear sc_0 sc_1 sc_2 sc_3
  go_loopg [6, 14] tasks.length (fun gg a i wr => ∃ (k c : Nat) (A : Option Addr), k + gg = tasks.length ∧ i = .int .i64 k ∧ a = .slice A k c ∧ Hid (∀ j, j < k → (K j && decide (N j ≤ (tasks.getD j default).dl)) = true) ∧ OwnN (w.heap.size + 1) wr A k c ((List.range k).map N) ∧ SetCells wr w.heap.size ⟨proto, ca, cc, cores, ha, hc, homes, ta, tc, tasks⟩ ∧ Below w.heap.size w wr ∧ w.heap.size + 1 ≤ wr.heap.size)
  case atStart => exact ⟨0, 0, none, by omega, rfl, rfl, hidp (fun j hj => by omega), OwnN.none _ _, sc, hb, hz0⟩
  case round =>
    clear hb hz0 sc
    obtain ⟨k, c, A, hk, rfl, rfl, Hk, ho, sc, hw, hz⟩ := hrel
    by_cases hlt : k < tasks.length
    · obtain ⟨g, off, hA, hcl⟩ := HR.out.resolve_left (by intro e; rw [e] at hlt; simp at hlt)
      subst hA
      obtain ⟨t, HT⟩ : ∃ t, Hid (tasks.getD k default = t) := ⟨_, rfl⟩
      obtain ⟨d0, d1, d2, d3, d4, d5⟩ := (HT.out ▸ hcl k hlt).keep (Keeps.of_below hw)
      have hw1 := hw.alloc hw.size (.cells #[.string t.name, .int .i64 t.per, .int .i64 t.dl, .int .i64 t.prio, .int .i64 t.cl, .slice t.pa t.parts.length t.pc] 42)
      have ho1 := ho.turned ((Turned.refl [] wr).alloc (.cells #[.string t.name, .int .i64 t.per, .int .i64 t.dl, .int .i64 t.prio, .int .i64 t.cl, .slice t.pa t.parts.length t.pc] 42)) (by simp)
      have hz1 : w.heap.size + 1 ≤ (wr.alloc (.cells #[.string t.name, .int .i64 t.per, .int .i64 t.dl, .int .i64 t.prio, .int .i64 t.cl, .slice t.pa t.parts.length t.pc] 42)).heap.size := Nat.le_trans hz (by simp)
      have sc1 := sc.keep (Keeps.alloc wr (.cells #[.string t.name, .int .i64 t.per, .int .i64 t.dl, .int .i64 t.prio, .int .i64 t.cl, .slice t.pa t.parts.length t.pc] 42))
      have tb := TaskBox.new wr t 42
      obtain ⟨sc_0, sc_1, sc_2, sc_3⟩ := id sc1
      dsimp only at sc_0 sc_1 sc_2 sc_3
      obtain ⟨v, Hv⟩ : ∃ v, Hid (N k = v) := ⟨_, hidp rfl⟩
      obtain ⟨b, Hb⟩ : ∃ v, Hid (K k = v) := ⟨_, hidp rfl⟩
      have hvb := HNb.out k
      rw [Hv.out] at hvb
      obtain ⟨v0, v1⟩ := hvb
      clear hcl ho hw hz sc
      go_wp2_with fail
      refine (next_any _ bs ba bc k _ (HS1.out _ hw1) (HB1.out _ hw1)).mono ?_
      rintro e w3 ⟨rfl, hb3⟩
      rw [HN.out, HK.out, Hv.out, Hb.out]
      replace hw1 := hw1.trans (hb3.mono hw1.size)
      replace ho1 := ho1.turned (Turned.of_below hb3 []) (by simp)
      replace hz1 := Nat.le_trans hz1 hb3.size
      replace sc1 := sc1.keep (Keeps.of_below hb3)
      replace tb := tb.keep (Keeps.of_below hb3)
      clear hb3 d0 d1 d2 d3 d4 d5 sc_0 sc_1 sc_2 sc_3
      obtain ⟨d0, d1, d2, d3, d4, d5⟩ := id tb
      cases b with
      | false =>
        obtain ⟨f1, f2⟩ := Hoff.out k hlt (by rw [Hb.out]; rfl)
        have F1 := hidp f1
        have F2 := hidp f2
        clear f1 f2
        go_wp2_with fail
        go_ret2
        exact RowK.eq ⟨none, 0, rfl, nil_ints _, hw1⟩ F2.out.symm F1.out.symm
      | true =>
        by_cases hd : t.dl < v
        · obtain ⟨f1, f2⟩ := Hoff.out k hlt (by rw [Hb.out, Hv.out, HT.out]; simp; omega)
          have F1 := hidp f1
          have F2 := hidp f2
          clear f1 f2
          go_wp2_with fail
          go_ret2
          exact RowK.eq ⟨none, 0, rfl, nil_ints _, hw1⟩ F2.out.symm F1.out.symm
        · have hd' : decide (t.dl < v) = false := by simpa using hd
          have Hk2 : Hid (∀ j, j < k + 1 → (K j && decide (N j ≤ (tasks.getD j default).dl)) = true) := hidp (fun j hj => by
            by_cases ej : j = k
            · subst ej; rw [Hb.out, Hv.out, HT.out]; simp; omega
            · exact Hk.out j (by omega))
          have N2 : Hid (k + 1 ≤ maxLen) := hidp (by unfold maxLen; omega)
          have T2 : Hid ((k + 1) * 8 ≤ 140737488355328) := hidp (by omega)
          have ho4 := ho1.turned ((Turned.refl [] w3).alloc (.cells #[.int .i64 v] 3)) (by simp)
          have S2 := hidp (Lies.newCells' w3 [.int .i64 v] 3)
          have Z2 : Hid (w.heap.size + 1 ≤ (w3.alloc (.cells #[.int .i64 v] 3)).heap.size) := hidp (Nat.le_trans hz1 (by simp))
          have hw4 := hw1.alloc hw1.size (.cells #[.int .i64 v] 3)
          have sc4 := sc1.keep (Keeps.alloc w3 (.cells #[.int .i64 v] 3))
          have O2 := hidp (ints_one v)
          have Hfp := hidp (own_fp ho4.own)
          clear ho1 hw1 hz1 sc1 hd
          go_wp2_with (at_builtin; refine wpList_app2 _ rfl (.tmp 34) (.tmp 36) 22 rfl (w.heap.size + 1) 3 i0 _ 1 8 Try.underlying22 hi0 hy0 hy1 hy2 rfl (by decide) A k c _ rfl ho4.own _ _ 1 1 [.int .i64 v] rfl (by simp) rfl S2.out O2.out N2.out T2.out Z2.out ?_; intro A' c' w6 happ)
          go_roundg (gk - 1)
          case measure => omega
          case rel => exact ⟨k + 1, c', A', by omega, by go_num, rfl, Hk2, by rw [range_snoc, Hv.out]; exact ho4.app (ps := [v]) happ rfl, sc4.turned happ.turned (fun hf => by have := (Hfp.out _ hf).1; omega), hw4.trans (happ.turned.below hw4.size (fun j hj => by have := (Hfp.out _ hj).1; omega)), Nat.le_trans Z2.out happ.turned.size⟩
    · obtain rfl : k = tasks.length := by omega
      obtain ⟨f1, f2⟩ := Hyes.out Hk.out
      have F1 := hidp f1
      have F2 := hidp f2
      have hrow := ho.ok (fun x hx => by obtain ⟨j, _, rfl⟩ := List.mem_map.1 hx; have := HNb.out j; unfold I64; omega)
      have Hr := hidp hrow
      clear f1 f2 hrow
      go_wp2
      go_ret2
      exact RowK.eq ⟨A, c, by simp, Hr.out, hw⟩ F2.out.symm F1.out.symm

/-- a row of numbers, and an error -/
def RowE (w : World) (zs : List Int) (k : Int) (e : Ending) (w' : World) : Prop := ∃ A c, e = .returned (.tuple #[.slice A zs.length c, .int .i64 k]) ∧ IntsOk w' A c zs ∧ Below w.heap.size w w'
theorem RowE.eq {w w' : World} {zs ys : List Int} {k j : Int} {e : Ending} (h : RowE w zs k e w') (h1 : zs = ys) (h2 : k = j) : RowE w ys j e w' := h1 ▸ h2 ▸ h

set_option maxHeartbeats 4000000 in
set_option maxRecDepth 100000 in
theorem settled18_any (s : SetR) (w : World) (hs : SetOk w s) (ho : okS s = true) : Calls Try.prog 19 #[.agg #[.int .i64 s.proto, .slice s.ca s.cores.length s.cc, .slice s.ha s.homes.length s.hc, .slice s.ta s.tasks.length s.tc]] w (RowE w (settle s).1 (settle s).2) := by
  have hb := (Below.refl w.heap.size w).alloc (Nat.le_refl _) (.cells #[.int .i64 s.proto, .slice s.ca s.cores.length s.cc, .slice s.ha s.homes.length s.hc, .slice s.ta s.tasks.length s.tc] 25)
  have sc := SetCells.new w s 25
  have H := hs.keep (Keeps.of_below hb)
  have n6 := (Good.of ho).ntasks.2
  have Ho := hidp ho
  have HS1 := hidp (fun u (h : Below w.heap.size w u) => hs.keep (Keeps.of_below h))
  obtain ⟨P, HP⟩ : ∃ P, Hid (settle s = P) := ⟨_, hidp rfl⟩
  rw [HP.out]
  clear hs ho
  go_enter Try.func19, Try.ntmps19
  go_wp2
  go_step3
  go_wp2_with fail
  refine (soonest_any s _ H Ho.out).mono ?_
  rintro e w2 ⟨A0, c0, rfl, hr, hb2⟩
  replace hb := hb.trans (hb2.mono hb.size)
  replace sc := sc.keep (Keeps.of_below hb2)
  clear hb2 H
  obtain ⟨cur0, Hc0⟩ : ∃ l, Hid (soonL s = l) := ⟨_, hidp rfl⟩
  have Hst : Hid (setL s 200 cur0 = P) := hidp (by rw [← Hc0.out, ← HP.out]; rfl)
  rw [Hc0.out] at hr ⊢
  go_wp2
  go_step3
  go_wp2
  go_loopg [4, 5, 10] 200 (fun gg a e i wr => ∃ (k c : Nat) (A : Option Addr) (cur : List Int), k + gg = 200 ∧ i = .int .i64 k ∧ e = .int .i64 20 ∧ a = .slice A cur.length c ∧ Hid (setL s gg cur = P) ∧ IntsOk wr A c cur ∧ SetCells wr w.heap.size s ∧ Below w.heap.size w wr)
  case atStart => exact ⟨0, c0, A0, cur0, by omega, rfl, rfl, rfl, Hst, hr, sc, hb⟩
  case round =>
    clear hb sc hr
    obtain ⟨k, c, A, cur, hk, rfl, rfl, rfl, Hs, hr, sc, hw⟩ := hrel
    obtain ⟨sc_0, sc_1, sc_2, sc_3⟩ := id sc
    by_cases hlt : k < 200
    · obtain ⟨g, hg⟩ : ∃ g, gk = g + 1 := ⟨gk - 1, by omega⟩
      subst hg
      have HR := round_any s cur A c _ (HS1.out _ hw) hr n6
      by_cases e : roundB s cur = true
      · have el : roundL s cur = nextRow s cur := by unfold roundL; rw [if_pos e]
        rw [el, e] at HR
        have Hs2 : Hid ((if nextRow s cur = cur then (cur, 0) else setL s g (nextRow s cur)) = P) := hidp (by rw [← Hs.out, setL_succ, if_pos e])
        obtain ⟨nx, Hnx⟩ : ∃ l, Hid (nextRow s cur = l) := ⟨_, hidp rfl⟩
        rw [Hnx.out] at HR Hs2
        clear e el
        go_wp2_with fail
        refine HR.mono ?_
        rintro e w4 ⟨C, d, rfl, hC, hb2⟩
        replace hw := hw.trans (hb2.mono hw.size)
        replace sc := sc.keep (Keeps.of_below hb2)
        replace hr := hr.keep (Keeps.of_below hb2)
        clear hb2 sc_0 sc_1 sc_2 sc_3 HR
        by_cases e2 : nx = cur
        · have HE := eqI_any nx cur C A d c w4 hC hr
          rw [decide_eq_true e2] at HE
          have Hz : Hid ((cur, (0 : Int)) = P) := hidp (by have := Hs2.out; rw [if_pos e2] at this; exact this)
          clear e2
          go_wp2_with fail
          refine HE.mono ?_
          rintro e w5 ⟨rfl, hq⟩
          replace hw := hq.below hw
          replace hr := hr.keep (Keeps.of_qt hq)
          go_wp2_with fail
          try rw [Exit.noGoto_ret]
          go_ret2
          exact RowE.eq ⟨A, c, rfl, hr, hw⟩ (by rw [← Hz.out]) (by rw [← Hz.out])
        · have HE := eqI_any nx cur C A d c w4 hC hr
          rw [decide_eq_false e2] at HE
          have Hz : Hid (setL s g nx = P) := hidp (by have := Hs2.out; rw [if_neg e2] at this; exact this)
          clear e2
          go_wp2_with fail
          refine HE.mono ?_
          rintro e w5 ⟨rfl, hq⟩
          replace hw := hq.below hw
          replace hC := hC.keep (Keeps.of_qt hq)
          replace sc := sc.keep (Keeps.of_qt hq)
          go_wp2_with fail
          go_roundg g
          case measure => omega
          case rel => exact ⟨k + 1, d, C, nx, by omega, by go_num, rfl, rfl, Hz, hC, sc, hw⟩
      · have e' : roundB s cur = false := by simpa using e
        have el : roundL s cur = [] := by unfold roundL; rw [e']; rfl
        rw [el, e'] at HR
        have Hz : Hid ((([] : List Int), (19 : Int)) = P) := hidp (by rw [← Hs.out, setL_succ, if_neg e])
        clear e e' el
        go_wp2_with fail
        refine HR.mono ?_
        rintro e w4 ⟨C, d, rfl, hC, hb2⟩
        replace hw := hw.trans (hb2.mono hw.size)
        go_wp2_with fail
        try rw [Exit.noGoto_ret]
        go_ret2
        exact RowE.eq ⟨none, 0, rfl, nil_ints _, hw⟩ (by rw [← Hz.out]) (by rw [← Hz.out])
    · have hg0 : gk = 0 := by omega
      subst hg0
      have Hz : Hid ((cur, (20 : Int)) = P) := hidp (by rw [← Hs.out]; rfl)
      go_wp2
      try rw [Exit.noGoto_ret]
      go_ret2
      exact RowE.eq ⟨A, c, rfl, hr, hw⟩ (by rw [← Hz.out]) (by rw [← Hz.out])
end Go.Proofs.Ytlbaohefappfoaa

namespace Go.Proofs.Ytlbaohefappfoaa
open Go.ChangeShapes Go.WideShapes Go.ChangeAt Go.RowKit
set_option linter.unusedVariables false
set_option linter.unusedSimpArgs false

set_option maxHeartbeats 4000000 in
set_option maxRecDepth 100000 in
theorem holds_any (s : SetR) (bs : List Int) (ba : Option Addr) (bc : Nat) (w : World) (hs : SetOk w s) (hB : IntsOk w ba bc bs) : Calls Try.prog 12 #[.agg #[.int .i64 s.proto, .slice s.ca s.cores.length s.cc, .slice s.ha s.homes.length s.hc, .slice s.ta s.tasks.length s.tc], .slice ba bs.length bc] w fun e w' => e = .returned (.bool (holdsV s bs)) ∧ Below w.heap.size w w' := by
  have hb := (Below.refl w.heap.size w).alloc (Nat.le_refl _) (.cells #[.int .i64 s.proto, .slice s.ca s.cores.length s.cc, .slice s.ha s.homes.length s.hc, .slice s.ta s.tasks.length s.tc] 25)
  have sc := SetCells.new w s 25
  have H := hs.keep (Keeps.of_below hb)
  have l3 : s.tasks.length ≤ maxLen := Nat.le_trans hs.tasks.sl.2.1 hs.tasks.sl.2.2
  have l4 : bs.length ≤ maxLen := Nat.le_trans hB.sl.2.1 hB.sl.2.2
  unfold maxLen at l3 l4
  obtain ⟨at0, Hat⟩ : ∃ x, Hid (chkAt s = x) := ⟨_, hidp rfl⟩
  by_cases e : chkE s = 0
  · have ho := (okS_chk s).2 e
    have e1 : (chkE s != 0) = false := by simpa using e
    by_cases e2 : bs.length = s.tasks.length
    · have d1 : ((bs.length : Int) != (s.tasks.length : Int)) = false := by simp [e2]
      have n6 := (Good.of ho).ntasks.2
      have HL := hidp e2
      obtain ⟨N, HN⟩ : ∃ f : Nat → Int, Hid (∀ k : Nat, nextV s bs k = f k) := ⟨fun k => nextV s bs k, hidp (fun _ => rfl)⟩
      obtain ⟨K, HK⟩ : ∃ f : Nat → Bool, Hid (∀ k : Nat, nextK s bs k = f k) := ⟨fun k => nextK s bs k, hidp (fun _ => rfl)⟩
      obtain ⟨R, HRd⟩ : ∃ L, Hid (holdsV s bs = L) := ⟨_, hidp rfl⟩
      obtain ⟨q, Hq⟩ : ∃ q : Nat → Bool, Hid (∀ k, holdB s bs k = q k) := ⟨fun k => holdB s bs k, hidp (fun _ => rfl)⟩
      have Hqd : Hid (∀ k, q k = (K k && (decide (N k ≤ bs.getD k 0) && (decide (1 ≤ bs.getD k 0) && decide (bs.getD k 0 ≤ (s.tasks.getD k default).dl))))) := hidp (fun k => by rw [← Hq.out, ← HN.out, ← HK.out]; rfl)
      have Hoff : Hid (∀ k, k < s.tasks.length → q k = false → R = false) := hidp (fun k hk h => by
        rw [← HRd.out]; unfold holdsV
        rw [upTo_not hk (by rw [Hq.out]; exact h), Bool.and_false, Bool.and_false])
      have Hyes : Hid ((∀ k, k < s.tasks.length → q k = true) → R = true) := hidp (fun h => by
        rw [← HRd.out]; unfold holdsV
        rw [(upTo_iff _ _).2 (fun k hk => by rw [Hq.out]; exact h k hk), ho, decide_eq_true e2]; rfl)
      have HR := hidp hs.tasks.at_
      have HBR := hidp hB.at_
      have HS1 := hidp (fun u (h : Below w.heap.size w u) => hs.keep (Keeps.of_below h))
      have HB1 := hidp (fun u (h : Below w.heap.size w u) => hB.keep (Keeps.of_below h))
      rw [HRd.out]
      obtain ⟨ce, Hce⟩ : ∃ x, Hid (chkE s = x) := ⟨_, hidp rfl⟩
      have e1' : (ce != 0) = false := by rw [← Hce.out]; exact e1
      have HC := check_any s _ H
      rw [Hat.out, Hce.out] at HC
      clear hs hB ho e e1 e2 HRd
      obtain ⟨proto, ca, cc, cores, ha, hc, homes, ta, tc, tasks⟩ := s
      dsimp only at HR hb sc H d1 n6 l3 HL Hoff Hyes HS1 Hqd HC ⊢
      go_enter Try.func12, Try.ntmps12
      go_wp2_with fail
      refine HC.mono ?_
      rintro e w2 ⟨rfl, hb2⟩
      replace hb := hb.trans (hb2.mono hb.size)
      replace sc := sc.keep (Keeps.of_below hb2)
      clear hb2 HC H
      obtain ⟨sc_0, sc_1, sc_2, sc_3⟩ := id sc
      dsimp only at sc_0 sc_1 sc_2 sc_3
      go_wp2_with fail
      clear sc_0 sc_1 sc_2 sc_3
      go_loopg [29] tasks.length (fun gg i wr => ∃ k : Nat, k + gg = tasks.length ∧ i = .int .i64 k ∧ Hid (∀ j, j < k → q j = true) ∧ SetCells wr w.heap.size ⟨proto, ca, cc, cores, ha, hc, homes, ta, tc, tasks⟩ ∧ Below w.heap.size w wr)
      case atStart => exact ⟨0, by omega, rfl, hidp (fun j hj => by omega), sc, hb⟩
      case round =>
        clear hb sc
        obtain ⟨k, hk, rfl, Hk, sc, hw⟩ := hrel
        by_cases hlt : k < tasks.length
        · obtain ⟨g, off, hA, hcl⟩ := HR.out.resolve_left (by intro e; rw [e] at hlt; simp at hlt)
          subst hA
          have hkb : k < bs.length := by rw [HL.out]; exact hlt
          obtain ⟨gb, ob, hBA, hbl⟩ := HBR.out.resolve_left (by intro e; rw [e] at hkb; simp at hkb)
          subst hBA
          obtain ⟨t, HT⟩ : ∃ t, Hid (tasks.getD k default = t) := ⟨_, rfl⟩
          obtain ⟨x, Hx⟩ : ∃ x, Hid (bs.getD k 0 = x) := ⟨_, rfl⟩
          obtain ⟨d0, d1', d2, d3, d4, d5⟩ := (HT.out ▸ hcl k hlt).keep (Keeps.of_below hw)
          have Hbc := hidp (Hx.out ▸ hbl k hkb)
          have hw1 := hw.alloc hw.size (.cells #[.string t.name, .int .i64 t.per, .int .i64 t.dl, .int .i64 t.prio, .int .i64 t.cl, .slice t.pa t.parts.length t.pc] 42)
          have sc1 := sc.keep (Keeps.alloc wr (.cells #[.string t.name, .int .i64 t.per, .int .i64 t.dl, .int .i64 t.prio, .int .i64 t.cl, .slice t.pa t.parts.length t.pc] 42))
          have tb := TaskBox.new wr t 42
          obtain ⟨sc_0, sc_1, sc_2, sc_3⟩ := id sc1
          dsimp only at sc_0 sc_1 sc_2 sc_3
          obtain ⟨v, Hv⟩ : ∃ v, Hid (N k = v) := ⟨_, hidp rfl⟩
          obtain ⟨b, Hb⟩ : ∃ v, Hid (K k = v) := ⟨_, hidp rfl⟩
          have Hqk : Hid (q k = (b && (decide (v ≤ x) && (decide (1 ≤ x) && decide (x ≤ t.dl))))) := hidp (by rw [Hqd.out, Hv.out, Hb.out, Hx.out, HT.out])
          have HX := next_any ⟨proto, ca, cc, cores, ha, hc, homes, some ⟨g, off, none⟩, tc, tasks⟩ bs _ bc k _ (HS1.out _ hw1) (HB1.out _ hw1)
          rw [HN.out, HK.out, Hv.out, Hb.out] at HX
          have kI : (k : Int) < (bs.length : Int) := by omega
          clear hcl hbl hw sc
          go_wp2_with fail
          refine HX.mono ?_
          rintro e w3 ⟨rfl, hb3⟩
          replace hw1 := hw1.trans (hb3.mono hw1.size)
          replace sc1 := sc1.keep (Keeps.of_below hb3)
          replace tb := tb.keep (Keeps.of_below hb3)
          clear hb3 d0 d1' d2 d3 d4 d5 sc_0 sc_1 sc_2 sc_3 HX
          obtain ⟨d0, d1', d2, d3, d4, d5⟩ := id tb
          have cb := Keeps.of_below hw1 _ _ Hbc.out
          cases b with
          | false =>
            have Hz := hidp (Hoff.out k hlt (by rw [Hqk.out]; rfl))
            go_wp2_with fail
            go_quiet (fail)
            go_wp2_with fail
            go_ret
            exact ⟨ret_bool Hz.out.symm, below_drewN hw1 _⟩
          | true =>
            by_cases c1 : x < v
            · have Hz := hidp (Hoff.out k hlt (by rw [Hqk.out]; simp; omega))
              go_wp2_with fail
              go_quiet (fail)
              go_wp2_with fail
              go_ret
              exact ⟨ret_bool Hz.out.symm, below_drewN hw1 _⟩
            · have c1' : decide (x < v) = false := by simpa using c1
              by_cases c2 : x < 1
              · have Hz := hidp (Hoff.out k hlt (by rw [Hqk.out]; simp; omega))
                go_wp2_with fail
                go_quiet (fail)
                go_wp2_with fail
                go_ret
                exact ⟨ret_bool Hz.out.symm, below_drewN hw1 _⟩
              · have c2' : decide (x < 1) = false := by simpa using c2
                by_cases c3 : t.dl < x
                · have Hz := hidp (Hoff.out k hlt (by rw [Hqk.out]; simp; omega))
                  go_wp2_with fail
                  go_quiet (fail)
                  go_wp2_with fail
                  go_ret
                  exact ⟨ret_bool Hz.out.symm, below_drewN hw1 _⟩
                · have c3' : decide (t.dl < x) = false := by simpa using c3
                  have Hk2 : Hid (∀ j, j < k + 1 → q j = true) := hidp (fun j hj => by
                    by_cases ej : j = k
                    · subst ej; rw [Hqk.out]; simp; omega
                    · exact Hk.out j (by omega))
                  clear c1 c2 c3
                  go_wp2_with fail
                  go_quiet (fail)
                  go_wp2_with fail
                  go_roundg (gk - 1)
                  case measure => omega
                  case rel => exact ⟨k + 1, by omega, by go_num, Hk2, sc1.keep (Keeps.drewN _ _), below_drewN hw1 _⟩
        · obtain rfl : k = tasks.length := by omega
          have Hz := hidp (Hyes.out Hk.out)
          go_wp2
          go_ret
          exact ⟨ret_bool Hz.out.symm, hw⟩
    · have d1 : ((bs.length : Int) != (s.tasks.length : Int)) = true := by simp; omega
      have Hz : Hid (holdsV s bs = false) := hidp (by unfold holdsV; rw [decide_eq_false e2, Bool.false_and, Bool.and_false])
      clear e2
      go_enter Try.func12, Try.ntmps12
      go_wp2_with fail
      refine (check_any s _ H).mono ?_
      rintro e w2 ⟨rfl, hb2⟩
      replace hb := hb.trans (hb2.mono hb.size)
      replace sc := sc.keep (Keeps.of_below hb2)
      clear hb2
      try clear sc_0 sc_1 sc_2 sc_3
      have scx := sc
      obtain ⟨sc_0, sc_1, sc_2, sc_3⟩ := scx
      try dsimp only at sc_0 sc_1 sc_2 sc_3
      go_wp2_with fail
      go_ret
      exact ⟨ret_bool Hz.out.symm, hb⟩
  · have Hz : Hid (holdsV s bs = false) := hidp (by
      have : okS s = false := by rw [Bool.eq_false_iff]; intro h; exact e ((okS_chk s).1 h)
      unfold holdsV; rw [this]; rfl)
    have e1 : (chkE s != 0) = true := by simpa using e
    clear e
    go_enter Try.func12, Try.ntmps12
    go_wp2_with fail
    refine (check_any s _ H).mono ?_
    rintro e w2 ⟨rfl, hb2⟩
    replace hb := hb.trans (hb2.mono hb.size)
    replace sc := sc.keep (Keeps.of_below hb2)
    clear hb2
    try clear sc_0 sc_1 sc_2 sc_3
    have scx := sc
    obtain ⟨sc_0, sc_1, sc_2, sc_3⟩ := scx
    try dsimp only at sc_0 sc_1 sc_2 sc_3
    go_wp2_with fail
    go_ret
    exact ⟨ret_bool Hz.out.symm, hb⟩
end Go.Proofs.Ytlbaohefappfoaa

namespace Go.Proofs.Ytlbaohefappfoaa
open Go.ChangeShapes Go.WideShapes Go.ChangeAt Go.RowKit
set_option linter.unusedVariables false
set_option linter.unusedSimpArgs false

structure RowR where
  a : Option Addr
  c : Nat
  zs : List Int
instance : Inhabited RowR := ⟨⟨none, 0, []⟩⟩
def RowR.val (r : RowR) : Value := .slice r.a r.zs.length r.c
def rowsC (rs : List RowR) : List Value := rs.map RowR.val
def RowsAt (w : World) (a : Option Addr) (rs : List RowR) : Prop :=
  rs = [] ∨ ∃ b off, a = some ⟨b, off, none⟩ ∧ ∀ i, i < rs.length → w.cell? ⟨b, off + i, none⟩ = some (rs.getD i default).val
theorem RowsAt.keep {w w' : World} {a : Option Addr} {rs : List RowR} (h : RowsAt w a rs) (k : Keeps w w') : RowsAt w' a rs := by
  rcases h with h | ⟨b, off, e, h⟩
  · exact .inl h
  · exact .inr ⟨b, off, e, fun i hi => k _ _ (h i hi)⟩
theorem rows_lie {B : Nat} {w : World} {a : Option Addr} {rs : List RowR} (h : Lies B w a (rowsC rs)) : RowsAt w a rs := by
  rcases h with h | ⟨b, off, e, _, hc⟩
  · exact .inl (by simpa [rowsC] using h)
  · exact .inr ⟨b, off, e, fun i hi => hc i _ (by simp [rowsC, List.getD, hi])⟩
theorem infoI : (Try.prog.info? 22).map (fun i => (i.zero, i.size, i.bytes)) = some (some (.slice none 0 0), 1, 24) := by kernel_rfl
structure OwnS (B : Nat) (w : World) (A : Option Addr) (n c : Nat) (rs : List RowR) : Prop where
  own : w.ownsRow B 22 1 (.slice A n c) n (rowsC rs)
  len : n = rs.length
  cap : n ≤ c ∧ c ≤ maxLen
  nil : A = none → n = 0 ∧ c = 0
theorem OwnS.none (B : Nat) (w : World) : OwnS B w none 0 0 [] := ⟨World.ownsRow_nil _ _ _ _, rfl, by decide, fun _ => ⟨rfl, rfl⟩⟩
theorem OwnS.app {B : Nat} {w w1 w2 : World} {A A' : Option Addr} {n c c' : Nat} {rs ps : List RowR} {m : Nat} (h : OwnS B w A n c rs) (ha : App B 22 1 w1 A A' (n + m) c' (rowsC rs ++ rowsC ps) w2) (hm : m = ps.length) : OwnS B w2 A' (n + m) c' (rs ++ ps) :=
  ⟨by unfold rowsC; rw [List.map_append]; exact ha.own, by rw [List.length_append, h.len, hm], ha.cap, ha.nil⟩
theorem OwnS.turned {B : Nat} {F : List Nat} {w w' : World} {A : Option Addr} {n c : Nat} {rs : List RowR} (h : OwnS B w A n c rs) (ht : Turned F w w') (hF : ∀ k ∈ fp A, k ∉ F) : OwnS B w' A n c rs := ⟨own_turned h.own ht hF, h.len, h.cap, h.nil⟩
theorem OwnS.at_ {B : Nat} {w : World} {A : Option Addr} {n c : Nat} {rs : List RowR} (h : OwnS B w A n c rs) : RowsAt w A rs := rows_lie (Lies.of_own h.own)
theorem rows_one (r : RowR) : ∀ u ∈ rowsC [r], u.oneCell' = true := fun u hu => by simp [rowsC] at hu; subst hu; rfl
/-- a verdict -/
structure VerdR where
  ok : Bool
  ba : Option Addr
  bc : Nat
  bounds : List Int
  wa : Option Addr
  wc : Nat
  rows : List RowR
structure VerdOk (w : World) (v : VerdR) : Prop where
  bounds : IntsOk w v.ba v.bc v.bounds
  sl : SlOk v.wa v.rows.length v.wc
  at_ : RowsAt w v.wa v.rows
  rows : ∀ r ∈ v.rows, IntsOk w r.a r.c r.zs
theorem VerdOk.keep {w w' : World} {v : VerdR} (h : VerdOk w v) (k : Keeps w w') : VerdOk w' v := ⟨h.bounds.keep k, h.sl, h.at_.keep k, fun r hr => (h.rows r hr).keep k⟩
theorem VerdOk.none (w : World) : VerdOk w ⟨false, none, 0, [], none, 0, []⟩ := ⟨nil_ints w, ⟨fun _ => ⟨rfl, rfl⟩, by decide, by decide⟩, .inl rfl, by simp⟩
def AnPost (w : World) (s : SetR) (e : Ending) (w' : World) : Prop :=
  (∃ v : VerdR, e = .returned (.tuple #[.agg #[.bool v.ok, .slice v.ba v.bounds.length v.bc, .slice v.wa v.rows.length v.wc], .int .i64 (anE s)]) ∧ VerdOk w' v ∧ v.ok = decide (anE s = 0) ∧ v.bounds = anB s ∧ v.rows.map RowR.zs = anW s) ∧ Below w.heap.size w w'
theorem v3_turned (w : World) (g : Nat) (v0 v1 v2 : Value) : Turned [g] w (((w.setCell ⟨g, 0, none⟩ v0).setCell ⟨g, 1, none⟩ v1).setCell ⟨g, 2, none⟩ v2) :=
  (((Turned.refl [g] w).setCell (.inl (by simp)) _).setCell (.inl (by simp)) _).setCell (.inl (by simp)) _
theorem v3_bk {w : World} {g : Nat} {t : TypeId} {c0 c1 c2 v0 v1 v2 : Value} (h : Bk w g t #[c0, c1, c2]) : Bk (((w.setCell ⟨g, 0, none⟩ v0).setCell ⟨g, 1, none⟩ v1).setCell ⟨g, 2, none⟩ v2) g t #[v0, v1, v2] := by
  have := ((h.put 0 v0).put 1 v1).put 2 v2
  simpa using this
theorem Y3 {w : World} {g : Nat} {t : TypeId} {c0 c1 c2 : Value} (h : Bk w g t #[c0, c1, c2]) : w.cell? ⟨g, 0, none⟩ = some c0 ∧ w.cell? ⟨g, 1, none⟩ = some c1 ∧ w.cell? ⟨g, 2, none⟩ = some c2 := ⟨h.cell 0, h.cell 1, h.cell 2⟩
theorem YF3 {w : World} {g : Nat} {t : TypeId} {cs : Array Value} (h : Bk w g t cs) : w.frozen? ⟨g, 0, none⟩ = false ∧ w.frozen? ⟨g, 1, none⟩ = false ∧ w.frozen? ⟨g, 2, none⟩ = false := ⟨h.frozen 0, h.frozen 1, h.frozen 2⟩
/-- a row of numbers doesn't lie in a block without numbers -/
theorem IntsOk.other {w w' : World} {a : Option Addr} {c g : Nat} {t : TypeId} {zs : List Int} {c0 c1 c2 : Value} (h : IntsOk w a c zs) (hb : Bk w g t #[c0, c1, c2]) (h0 : ∀ z, c0 ≠ .int .i64 z) (h1 : ∀ z, c1 ≠ .int .i64 z) (h2 : ∀ z, c2 ≠ .int .i64 z) (ht : Turned [g] w w') : IntsOk w' a c zs := by
  refine ⟨h.sl, ?_, h.wf⟩
  rcases h.at_ with e | ⟨b, off, e, hc⟩
  · exact .inl e
  · by_cases hz : zs = []
    · exact .inl hz
    · have hp : 0 < zs.length := List.length_pos_iff.2 hz
      have hbg : b ≠ g := fun e2 => by
        subst e2
        have := hc 0 hp
        rw [Nat.add_zero, hb.cell off] at this
        match off, this with
        | 0, this => simp at this; exact h0 _ this
        | 1, this => simp at this; exact h1 _ this
        | 2, this => simp at this; exact h2 _ this
        | off + 3, this => simp at this
      exact .inr ⟨b, off, e, fun j hj => ht.cell (hc j hj) (by simpa using hbg)⟩
theorem IntsOk.turned2 {F : List Nat} {w w' : World} {a : Option Addr} {c : Nat} {zs : List Int} (h : IntsOk w a c zs) (ht : Turned F w w') (hF : zs = [] ∨ ∀ k ∈ fp a, k ∉ F) : IntsOk w' a c zs := by
  rcases hF with e | hF
  · exact ⟨h.sl, .inl e, h.wf⟩
  · exact h.turned ht hF

set_option maxHeartbeats 4000000 in
set_option maxRecDepth 100000 in
theorem analyze_any (s : SetR) (w : World) (hs : SetOk w s) : Calls Try.prog 10 #[.agg #[.int .i64 s.proto, .slice s.ca s.cores.length s.cc, .slice s.ha s.homes.length s.hc, .slice s.ta s.tasks.length s.tc]] w (AnPost w s) := by
  have hb := ((Below.refl w.heap.size w).alloc (Nat.le_refl _) (.cells #[.int .i64 s.proto, .slice s.ca s.cores.length s.cc, .slice s.ha s.homes.length s.hc, .slice s.ta s.tasks.length s.tc] 25)).alloc (by simp) (.cells #[.bool false, .slice none 0 0, .slice none 0 0] 31)
  have sc := (SetCells.new w s 25).keep (Keeps.alloc _ (.cells #[.bool false, .slice none 0 0, .slice none 0 0] 31))
  have bk := Bk.at_ (w := w.alloc (.cells #[.int .i64 s.proto, .slice s.ca s.cores.length s.cc, .slice s.ha s.homes.length s.hc, .slice s.ta s.tasks.length s.tc] 25)) (g := w.heap.size + 1) (t := 31) (cs := #[.bool false, .slice none 0 0, .slice none 0 0]) (by simp) rfl
  have hz0 : w.heap.size + 1 < ((w.alloc (.cells #[.int .i64 s.proto, .slice s.ca s.cores.length s.cc, .slice s.ha s.homes.length s.hc, .slice s.ta s.tasks.length s.tc] 25)).alloc (.cells #[.bool false, .slice none 0 0, .slice none 0 0] 31)).heap.size := by simp
  have H := hs.keep (Keeps.of_below hb)
  have l3 : s.tasks.length ≤ maxLen := Nat.le_trans hs.tasks.sl.2.1 hs.tasks.sl.2.2
  unfold maxLen at l3
  obtain ⟨at0, Hat⟩ : ∃ x, Hid (chkAt s = x) := ⟨_, hidp rfl⟩
  obtain ⟨ce, Hce⟩ : ∃ x, Hid (chkE s = x) := ⟨_, hidp rfl⟩
  have HC := check_any s _ H
  rw [Hat.out, Hce.out] at HC
  by_cases e : chkE s = 0
  · have ho := (okS_chk s).2 e
    have Ho := hidp ho
    have e1 : (ce != 0) = false := by rw [← Hce.out]; simpa using e
    have n6 := (Good.of ho).ntasks.2
    obtain ⟨L, HL⟩ : ∃ l, Hid ((settle s).1 = l) := ⟨_, hidp rfl⟩
    obtain ⟨se, Hse⟩ : ∃ l, Hid ((settle s).2 = l) := ⟨_, hidp rfl⟩
    have HanE : Hid (anE s = se) := hidp (by unfold anE; rw [if_pos e, Hse.out])
    have HS := fun u h => settled18_any s u h ho
    rw [HL.out, Hse.out] at HS
    have HS1 := hidp (fun u (h : Below w.heap.size w u) => hs.keep (Keeps.of_below h))
    clear hs ho e
    by_cases es : se = 0
    · have HB : Hid (anB s = L) := hidp (by unfold anB; rw [HanE.out, if_pos es, HL.out])
      have HW : Hid (anW s = (List.range s.tasks.length).map (fun i : Nat => waitsL s L i)) := hidp (by unfold anW; rw [HanE.out, if_pos es, HL.out])
      have es1 : (se != 0) = false := by simpa using es
      have Hes := hidp es
      obtain ⟨wl, Hwl⟩ : ∃ f : Nat → List Int, Hid (∀ k : Nat, waitsL s L k = f k) := ⟨fun k => waitsL s L k, hidp (fun _ => rfl)⟩
      obtain ⟨wk, Hwk⟩ : ∃ f : Nat → Bool, Hid (∀ k : Nat, waitsK s L k = f k) := ⟨fun k => waitsK s L k, hidp (fun _ => rfl)⟩
      obtain ⟨i1, hi0, hy0, hy1, hy2⟩ := info_parts infoI
      obtain ⟨S, HSS⟩ : ∃ S : SetR, Hid (S = s) := ⟨s, hidp rfl⟩
      clear es
      go_enter Try.func10, Try.ntmps10
      go_wp2_with fail
      refine HC.mono ?_
      rintro e w2 ⟨rfl, hb2⟩
      replace hb := hb.trans (hb2.mono hb.size)
      replace sc := sc.keep (Keeps.of_below hb2)
      replace bk := bk.below hb2
      replace hz0 := Nat.lt_of_lt_of_le hz0 hb2.size
      replace H := H.keep (Keeps.of_below hb2)
      clear hb2 HC
      obtain ⟨sc_0, sc_1, sc_2, sc_3⟩ := id sc
      go_wp2_with fail
      refine (HS _ H).mono ?_
      rintro e w4 ⟨A, c, rfl, hA, hb2⟩
      replace hb := hb.trans (hb2.mono hb.size)
      replace sc := sc.keep (Keeps.of_below hb2)
      replace bk := bk.below hb2
      replace hz0 := Nat.lt_of_lt_of_le hz0 hb2.size
      clear hb2 H HS sc_0 sc_1 sc_2 sc_3
      have hB0 := (Below.refl w4.heap.size w4).alloc (Nat.le_refl _) (.cells #[.bool true, .slice A L.length c, .slice none 0 0] 31)
      have bv := Bk.new w4 31 #[.bool true, .slice A L.length c, .slice none 0 0]
      have hz1 : w4.heap.size + 1 ≤ (w4.alloc (.cells #[.bool true, .slice A L.length c, .slice none 0 0] 31)).heap.size := by simp
      have HA := hidp hA
      have HSC := hidp sc
      have HBK := hidp bk
      have HB4 := hidp hb
      have sc1 := sc.keep (Keeps.alloc w4 (.cells #[.bool true, .slice A L.length c, .slice none 0 0] 31))
      obtain ⟨sc_0, sc_1, sc_2, sc_3⟩ := id sc1
      have hz2 := hz0
      clear hA sc bk hb sc1 hz0
      go_wp2_with fail
      clear sc_0 sc_1 sc_2 sc_3
      go_loopg [35] s.tasks.length (fun gg i wr => ∃ (k d : Nat) (W : Option Addr) (rs : List RowR), k + gg = s.tasks.length ∧ i = .int .i64 k ∧ Hid (rs.map RowR.zs = (List.range k).map wl) ∧ OwnS (w4.heap.size + 1) wr W k d rs ∧ (∀ r ∈ rs, IntsOk wr r.a r.c r.zs) ∧ (∀ r ∈ rs, r.zs = [] ∨ ∀ x ∈ fp r.a, w4.heap.size + 1 ≤ x ∧ x < wr.heap.size ∧ x ∉ fp W) ∧ Bk wr w4.heap.size 31 #[.bool true, .slice A L.length c, .slice W k d] ∧ Below w4.heap.size w4 wr ∧ w4.heap.size + 1 ≤ wr.heap.size)
      case atStart => exact ⟨0, 0, none, [], by omega, rfl, hidp rfl, OwnS.none _ _, by simp, by simp, bv, hB0, hz1⟩
      case round =>
        clear bv hB0 hz1
        obtain ⟨k, d, W, rs, hk, rfl, Hm, oW, hro, hap, bv, hB, hz⟩ := hrel
        have hw : Below w.heap.size w wr := HB4.out.trans (hB.mono HB4.out.size)
        by_cases hlt : k < s.tasks.length
        · have sc := HSC.out.keep (Keeps.of_below hB)
          obtain ⟨sc_0, sc_1, sc_2, sc_3⟩ := id sc
          obtain ⟨y0, y1, y2⟩ := Y3 bv
          have HX := wallN_any s L A c k _ (HS1.out _ hw) (HA.out.keep (Keeps.of_below hB))
          rw [Hwl.out, Hwk.out] at HX
          obtain ⟨zs, Hzs⟩ : ∃ l, Hid (wl k = l) := ⟨_, hidp rfl⟩
          obtain ⟨zk, Hzk⟩ : ∃ l, Hid (wk k = l) := ⟨_, hidp rfl⟩
          rw [Hzs.out, Hzk.out] at HX
          have Hrs : Hid (rs.length = k) := hidp oW.len.symm
          go_wp2_with fail
          refine HX.mono ?_
          rintro e w5 ⟨a', c', rfl, hR, hb3, hfr⟩
          have hF : ∀ x ∈ fp a', x ∉ fp W := fun x hx hx2 => by have := hfr x hx; have := (own_fp oW.own x hx2).2; omega
          have hlt5 : ∀ x ∈ fp a', zs ≠ [] → x < w5.heap.size := fun x hx hz => by
            rcases hR.at_ with e | ⟨b, off, e, hc⟩
            · exact absurd e hz
            · subst e; simp [fp] at hx; subst hx; exact cell_lt (hc 0 (List.length_pos_iff.2 hz))
          have HR5 := hidp hR
          have HF5 := hidp hF
          have HL5 := hidp hlt5
          have Hfr := hidp hfr
          have hs5 := hb3.size
          have oW6 := (oW.turned (Turned.of_below hb3 []) (by simp)).turned ((Turned.refl [] w5).alloc (.cells #[.slice a' zs.length c'] 22)) (by simp)
          have S2 := hidp (Lies.newCells' w5 [.slice a' zs.length c'] 22)
          have Z2 : Hid (w4.heap.size + 1 ≤ (w5.alloc (.cells #[.slice a' zs.length c'] 22)).heap.size) := hidp (Nat.le_trans hz (Nat.le_trans hs5 (by simp)))
          have O2 := hidp (rows_one ⟨a', c', zs⟩)
          have N2 : Hid (k + 1 ≤ maxLen) := hidp (by unfold maxLen; omega)
          have T2 : Hid ((k + 1) * 24 ≤ 140737488355328) := hidp (by omega)
          have Hfp := hidp (own_fp oW.own)
          have bv5 := bv.below hb3
          have bv6 := bv5.alloc (.cells #[.slice a' zs.length c'] 22)
          have hB6 := (hB.trans (hb3.mono hB.size)).alloc (hB.trans (hb3.mono hB.size)).size (.cells #[.slice a' zs.length c'] 22)
          have Hb3 := hidp hb3
          clear y0 y1 y2 sc_0 sc_1 sc_2 sc_3 sc HX hR hF hlt5 hfr hb3 oW bv hB
          obtain ⟨y0, y1, y2⟩ := Y3 bv5
          go_wp2_with (at_builtin; refine wpList_app2 _ rfl (.tmp 46) (.tmp 48) 29 rfl (w4.heap.size + 1) 22 i1 _ 1 24 Try.underlying29 hi0 hy0 hy1 hy2 rfl (by decide) W k d _ rfl oW6.own _ _ 1 1 [.slice a' zs.length c'] rfl (by simp) rfl S2.out O2.out N2.out T2.out Z2.out ?_; intro W' d' w7 happ; have D7 := bv6.turned happ.turned (fun hf => by have := (Hfp.out _ hf).1; omega); obtain ⟨x0, x1, x2⟩ := Y3 D7; obtain ⟨f0, f1, f2⟩ := YF3 D7)
          go_roundg (gk - 1)
          case measure => omega
          case rel =>
            have TS := (Turned.refl [w4.heap.size] w7).setCell (p := ⟨w4.heap.size, 2, none⟩) (.inl (by simp)) (.slice W' (k + 1) d')
            have hs7 := happ.turned.size
            have hs6 : w5.heap.size + 1 = (w5.alloc (.cells #[.slice a' zs.length c'] 22)).heap.size := by simp
            refine ⟨k + 1, d', W', rs ++ [⟨a', c', zs⟩], by omega, by go_num, hidp (by rw [List.map_append, Hm.out, List.range_succ, List.map_append]; simp [Hzs.out]), (oW6.app (ps := [⟨a', c', zs⟩]) happ rfl).turned TS (fun j hj => by
              rcases happ.fps j hj with h | h
              · have := (Hfp.out j h).1; simp; omega
              · simp; omega), fun r hr => ?_, fun r hr => ?_, D7.put 2 (.slice W' (k + 1) d'), (hB6.trans (happ.turned.below hB6.size (fun j hj => by have := (Hfp.out j hj).1; omega))).trans (TS.below (Nat.le_trans hB6.size hs7) (by simp)), Nat.le_trans (Nat.le_trans Z2.out hs7) TS.size⟩
            · rcases List.mem_append.1 hr with hm | hm
              · refine (IntsOk.turned2 (((hro r hm).keep (Keeps.of_below Hb3.out)).keep (Keeps.alloc _ _)) happ.turned ?_).turned2 TS ?_
                · rcases hap r hm with e | e
                  · exact .inl e
                  · exact .inr (fun j hj => (e j hj).2.2)
                · rcases hap r hm with e | e
                  · exact .inl e
                  · exact .inr (fun j hj => by have := (e j hj).1; simp; omega)
              · simp only [List.mem_cons, List.not_mem_nil, or_false] at hm
                subst hm
                refine (IntsOk.turned2 (HR5.out.keep (Keeps.alloc _ _)) happ.turned (.inr HF5.out)).turned2 TS (.inr (fun j hj => by have := Hfr.out j hj; simp; omega))
            · rcases List.mem_append.1 hr with hm | hm
              · rcases hap r hm with e | e
                · exact .inl e
                · refine .inr (fun x hx => ⟨(e x hx).1, ?_, fun hf => ?_⟩)
                  · have := (e x hx).2.1; have := TS.size; omega
                  · rcases happ.fps x hf with h | h
                    · exact (e x hx).2.2 h
                    · have := (e x hx).2.1; omega
              · simp only [List.mem_cons, List.not_mem_nil, or_false] at hm
                subst hm
                by_cases ez : zs = []
                · exact .inl ez
                · refine .inr (fun x hx => ⟨by have := Hfr.out x hx; omega, ?_, fun hf => ?_⟩)
                  · have := HL5.out x hx ez; have := TS.size; omega
                  · rcases happ.fps x hf with h | h
                    · exact HF5.out x hx h
                    · have := HL5.out x hx ez; omega
        · have hkn : k = s.tasks.length := by omega
          have bkr := HBK.out.below hB
          obtain ⟨y0, y1, y2⟩ := Y3 bv
          obtain ⟨z0, z1, z2⟩ := Y3 bkr
          obtain ⟨f0, f1, f2⟩ := YF3 bkr
          have hkI : (k : Int) = (s.tasks.length : Int) := by omega
          have hAr := HA.out.keep (Keeps.of_below hB)
          have Hrl := hidp (oW.len)
          have Hkn := hidp hkn
          clear hkn hkI
          go_wp2_with fail
          have PB := v3_bk bkr (v0 := .bool true) (v1 := .slice A L.length c) (v2 := .slice W k d)
          have PT := v3_turned wr (w.heap.size + 1) (.bool true) (.slice A L.length c) (.slice W k d)
          obtain ⟨x0, x1, x2⟩ := Y3 PB
          have hbe := hw.trans (PT.below hw.size (by simp))
          refine bodyPost_ret (v := .tuple #[.agg #[.bool true, .slice A L.length c, .slice W k d], .int .i64 0]) (by simp [results, Try.results10, go_sem, x0, x1, x2]) rfl ⟨⟨⟨true, A, c, L, W, d, rs⟩, ?_, ⟨hAr.other bkr (fun z h => by cases h) (fun z h => by cases h) (fun z h => by cases h) PT, ?_, ?_, fun r hr => (hro r hr).other bkr (fun z h => by cases h) (fun z h => by cases h) (fun z h => by cases h) PT⟩, ?_, HB.out.symm, ?_⟩, hbe⟩
          · rw [HanE.out, Hes.out, ← Hrl.out]
          · show SlOk W rs.length d
            rw [← Hrl.out]; exact ⟨oW.nil, oW.cap⟩
          · exact (oW.turned PT (fun j hj => by have := (own_fp oW.own j hj).1; simp; omega)).at_
          · rw [HanE.out, Hes.out]; rfl
          · rw [HW.out, Hm.out, Hkn.out]
            exact (List.map_congr_left (fun i _ => Hwl.out i)).symm
    · have es1 : (se != 0) = true := by simpa using es
      have HB : Hid (anB s = []) := hidp (by unfold anB; rw [HanE.out, if_neg es])
      have HW : Hid (anW s = []) := hidp (by unfold anW; rw [HanE.out, if_neg es])
      have Hok : Hid (decide (anE s = 0) = false) := hidp (by rw [HanE.out]; simpa using es)
      clear es
      go_enter Try.func10, Try.ntmps10
      go_wp2_with fail
      refine HC.mono ?_
      rintro e w2 ⟨rfl, hb2⟩
      replace hb := hb.trans (hb2.mono hb.size)
      replace sc := sc.keep (Keeps.of_below hb2)
      replace bk := bk.below hb2
      replace H := H.keep (Keeps.of_below hb2)
      clear hb2 HC
      obtain ⟨sc_0, sc_1, sc_2, sc_3⟩ := id sc
      go_wp2_with fail
      refine (HS _ H).mono ?_
      rintro e w4 ⟨A, c, rfl, hA, hb2⟩
      replace hb := hb.trans (hb2.mono hb.size)
      replace bk := bk.below hb2
      obtain ⟨z0, z1, z2⟩ := Y3 bk
      obtain ⟨f0, f1, f2⟩ := YF3 bk
      clear hb2 hA sc_0 sc_1 sc_2 sc_3
      go_wp2_with fail
      have PB := v3_bk bk (v0 := .bool false) (v1 := .slice none 0 0) (v2 := .slice none 0 0)
      have PT := v3_turned w4 (w.heap.size + 1) (.bool false) (.slice none 0 0) (.slice none 0 0)
      obtain ⟨x0, x1, x2⟩ := Y3 PB
      have hbe := hb.trans (PT.below hb.size (by simp))
      exact bodyPost_ret (v := .tuple #[.agg #[.bool false, .slice none 0 0, .slice none 0 0], .int .i64 se]) (by simp [results, Try.results10, go_sem, x0, x1, x2]) rfl ⟨⟨⟨false, none, 0, [], none, 0, []⟩, by rw [HanE.out]; rfl, VerdOk.none _, Hok.out.symm, HB.out.symm, HW.out.symm⟩, hbe⟩
  · have e1 : (ce != 0) = true := by rw [← Hce.out]; simpa using e
    have HanE : Hid (anE s = ce) := hidp (by unfold anE; rw [if_neg e, Hce.out])
    have hne : ¬ anE s = 0 := by rw [HanE.out, ← Hce.out]; exact e
    have HB : Hid (anB s = []) := hidp (by unfold anB; rw [if_neg hne])
    have HW : Hid (anW s = []) := hidp (by unfold anW; rw [if_neg hne])
    have Hok : Hid (decide (anE s = 0) = false) := hidp (by simpa using hne)
    clear e hne
    go_enter Try.func10, Try.ntmps10
    go_wp2_with fail
    refine HC.mono ?_
    rintro e w2 ⟨rfl, hb2⟩
    replace hb := hb.trans (hb2.mono hb.size)
    replace bk := bk.below hb2
    obtain ⟨z0, z1, z2⟩ := Y3 bk
    obtain ⟨f0, f1, f2⟩ := YF3 bk
    clear hb2 HC
    go_wp2_with fail
    have PB := v3_bk bk (v0 := .bool false) (v1 := .slice none 0 0) (v2 := .slice none 0 0)
    have PT := v3_turned w2 (w.heap.size + 1) (.bool false) (.slice none 0 0) (.slice none 0 0)
    obtain ⟨x0, x1, x2⟩ := Y3 PB
    have hbe := hb.trans (PT.below hb.size (by simp))
    exact bodyPost_ret (v := .tuple #[.agg #[.bool false, .slice none 0 0, .slice none 0 0], .int .i64 ce]) (by simp [results, Try.results10, go_sem, x0, x1, x2]) rfl ⟨⟨⟨false, none, 0, [], none, 0, []⟩, by rw [HanE.out]; rfl, VerdOk.none _, Hok.out.symm, HB.out.symm, HW.out.symm⟩, hbe⟩
end Go.Proofs.Ytlbaohefappfoaa

namespace Go.Proofs.Ytlbaohefappfoaa
open Go.ChangeShapes Go.WideShapes Go.ChangeAt Go.RowKit
set_option linter.unusedVariables false

theorem two18_vals {S : SetR} (hS : twoS18 S 1 1 3 5 4) : anE S = 0 ∧ anB S = [12, 16] ∧ anW S = [[0, 7], [0, 7]] ∧ holdsV S [12, 16] = true ∧ holdsV S [] = false := by
  obtain ⟨p1, p2, p3, a1, a2, c1, c2, p4⟩ := hS
  have hok := okTwo p1 p2 p3 p4 (by decide) (by decide) (by decide) (by decide) (by decide)
  have hn : S.tasks.length = 2 := by rw [p4]; rfl
  have PF := fun b0 b1 => pair_fair hok p1 p4 (by decide) (by decide) b0 b1
  have hso : soonL S = [4, 9] := by unfold soonL; rw [p4]; rfl
  have nk : ∀ b0 b1, nextK S [b0, b1] 0 = true ∧ nextK S [b0, b1] 1 = true := fun b0 b1 => ⟨nextK_true.2 ⟨(PF b0 b1).1.1, by rw [hn]; rfl⟩, nextK_true.2 ⟨(PF b0 b1).2.1, by rw [hn]; rfl⟩⟩
  have nv : ∀ b0 b1, 0 ≤ b0 → 0 ≤ b1 → nextV S [b0, b1] 0 = 8 + workV b0 b1 200 4 / 1 ∧ nextV S [b0, b1] 1 = 12 + workV b1 b0 100 4 / 1 := fun b0 b1 h0 h1 => by
    have o0 := (pair_others hok p1 p2 p3 p4 h0 h1 b0).1
    have o1 := (pair_others hok p1 p2 p3 p4 h0 h1 b1).2
    refine ⟨?_, ?_⟩
    · unfold nextV
      rw [if_pos (nk b0 b1).1, (PF b0 b1).1.2.2]
      show 1 + (3 + 4) + othersV S [b0, b1] 0 b0 = _
      rw [o0]; simp
    · unfold nextV
      rw [if_pos (nk b0 b1).2, (PF b0 b1).2.2.2]
      show 5 + (4 + 3) + othersV S [b0, b1] 1 b1 = _
      rw [o1]; simp
  have nr : ∀ b0 b1, nextRow S [b0, b1] = [nextV S [b0, b1] 0, nextV S [b0, b1] 1] := fun b0 b1 => by unfold nextRow; rw [hn]; rfl
  have dl : (S.tasks.getD 0 default).dl = 100 ∧ (S.tasks.getD 1 default).dl = 200 := by rw [p4]; exact ⟨rfl, rfl⟩
  have rb : ∀ b0 b1, nextV S [b0, b1] 0 ≤ 100 → nextV S [b0, b1] 1 ≤ 200 → roundB S [b0, b1] = true := fun b0 b1 h0 h1 => by
    unfold roundB
    rw [hn, upTo_iff]
    intro k hk
    have e0 : stepB S [b0, b1] 0 = true := by unfold stepB; rw [dl.1]; show (nextK S [b0, b1] 0 && decide (nextV S [b0, b1] 0 ≤ 100)) = true; rw [(nk b0 b1).1, decide_eq_true h0]; rfl
    have e1 : stepB S [b0, b1] 1 = true := by unfold stepB; rw [dl.2]; show (nextK S [b0, b1] 1 && decide (nextV S [b0, b1] 1 ≤ 200)) = true; rw [(nk b0 b1).2, decide_eq_true h1]; rfl
    match k, hk with
    | 0, _ => exact e0
    | 1, _ => exact e1
  obtain ⟨u0, u1⟩ := nv 4 9 (by decide) (by decide)
  obtain ⟨w0, w1⟩ := nv 12 16 (by decide) (by decide)
  rw [show 8 + workV 4 9 200 4 / 1 = 12 by decide +kernel] at u0
  rw [show 12 + workV 9 4 100 4 / 1 = 16 by decide +kernel] at u1
  rw [show 8 + workV 12 16 200 4 / 1 = 12 by decide +kernel] at w0
  rw [show 12 + workV 16 12 100 4 / 1 = 16 by decide +kernel] at w1
  have r1 : nextRow S [4, 9] = [12, 16] := by rw [nr, u0, u1]
  have r2 : nextRow S [12, 16] = [12, 16] := by rw [nr, w0, w1]
  have hset : settle S = ([12, 16], 0) := by
    unfold settle
    rw [hso, show (200 : Nat) = 198 + 1 + 1 from rfl, setL_succ, if_pos (rb 4 9 (by omega) (by omega)), r1, if_neg (by decide), setL_succ, if_pos (rb 12 16 (by omega) (by omega)), r2, if_pos rfl]
  have hE : anE S = 0 := by unfold anE; rw [if_pos ((okS_chk S).1 hok), hset]
  have hB : anB S = [12, 16] := by unfold anB; rw [if_pos hE, hset]
  refine ⟨hE, hB, ?_, ?_, ?_⟩
  · unfold anW
    rw [if_pos hE, hset, hn]
    show [waitsL S [12, 16] 0, waitsL S [12, 16] 1] = _
    rw [(PF 12 16).1.2.1, (PF 12 16).2.2.1]; rfl
  · unfold holdsV
    have e0 : holdB S [12, 16] 0 = true := by unfold holdB; rw [dl.1]; show (nextK S [12, 16] 0 && (decide (nextV S [12, 16] 0 ≤ 12) && (decide ((1 : Int) ≤ 12) && decide ((12 : Int) ≤ 100)))) = true; rw [(nk 12 16).1, w0]; rfl
    have e1 : holdB S [12, 16] 1 = true := by unfold holdB; rw [dl.2]; show (nextK S [12, 16] 1 && (decide (nextV S [12, 16] 1 ≤ 16) && (decide ((1 : Int) ≤ 16) && decide ((16 : Int) ≤ 200)))) = true; rw [(nk 12 16).2, w1]; rfl
    rw [hok, hn, (upTo_iff _ _).2 (fun k hk => by
      match k, hk with
      | 0, _ => exact e0
      | 1, _ => exact e1)]
    rfl
  · unfold holdsV; rw [hn, hok]; rfl
/-- a task alone that can't be done in time -/
theorem late18 {S : SetR} {a1 : Option Addr} {c1 : Nat} (p1 : S.proto = 1) (p2 : S.cores = [1]) (p3 : S.homes = [0]) (p4 : S.tasks = [⟨⟨#[97]⟩, 100, 50, 1, 0, a1, c1, [⟨1, 60, 0⟩]⟩]) : anE S = 19 := by
  have hok : okS S = true := by
    refine okS_all (by rw [p1]; decide) (by rw [p2]; simp) (by rw [p2]; intro z hz; simp at hz; omega) (by rw [p3]; decide) (by rw [p3, p2]; intro z hz; simp at hz; subst hz; simp) (by rw [p4]; simp) (fun k hk => ?_) (fun i k hi hk => ?_)
    · rw [p4] at hk ⊢
      rw [p2, p3]
      match k, hk with
      | 0, _ => exact ⟨formB_mk nameA (by simp) (by simp) (by simp), by simp, partsB_mk (by simp) (fun p hp => by
        simp at hp; subst hp; exact partB_run (.inl rfl) (by decide))⟩
    · rw [p4] at hk; simp at hk; omega
  have hn : S.tasks.length = 1 := by rw [p4]; rfl
  have hso : soonL S = [60] := by unfold soonL; rw [p4]; rfl
  have ht : thereB S 0 = true := thereB_true.2 ⟨hok, by decide, by rw [hn]; decide⟩
  have hp : partsOf S 0 = [⟨1, 60, 0⟩] := by unfold partsOf; rw [p4]; rfl
  obtain ⟨y1, y2⟩ := waits_yes (s := S) (bs := [60]) (of := 0) ht (by
    rw [hp]; intro k hk
    match k, hk with
    | 0, _ => unfold pK partAt; rw [p4]; rfl)
  have hk : nextK S [60] 0 = true := nextK_true.2 ⟨y1, by rw [hn]; rfl⟩
  have hpp : (taskAt S 0).parts = [⟨1, 60, 0⟩] := hp
  have hv : 60 ≤ nextV S [60] 0 := by
    have h1 := (othersV_bd S [60] 0 (([60] : List Int).getD (0 : Int).toNat 0)).1
    have h2 := (waitsT_bd S [60] 0).1
    unfold nextV ownV
    rw [if_pos hk, if_pos y1, hpp]
    show 60 ≤ sumK 1 [⟨1, 60, 0⟩] + sumK 2 [⟨1, 60, 0⟩] + tot (waitsL S [60] 0) + _
    rw [show sumK 1 [⟨1, 60, 0⟩] = 60 by decide, show sumK 2 [⟨1, 60, 0⟩] = 0 by decide]
    omega
  have hr : roundB S [60] = false := by
    unfold roundB
    refine upTo_not (k := 0) (by rw [hn]; decide) ?_
    unfold stepB
    rw [p4]
    show (nextK S [60] 0 && decide (nextV S [60] 0 ≤ 50)) = false
    rw [hk, decide_eq_false (by omega)]; rfl
  unfold anE settle
  rw [if_pos ((okS_chk S).1 hok), hso, show (200 : Nat) = 199 + 1 from rfl, setL_succ, if_neg (by rw [hr]; decide)]
theorem rows_two {rs : List RowR} {x y : List Int} (h : rs.map RowR.zs = [x, y]) : ∃ r0 r1, rs = [r0, r1] ∧ r0.zs = x ∧ r1.zs = y := by
  match rs, h with
  | [r0, r1], h => simp at h; exact ⟨r0, r1, rfl, h.1, h.2⟩
theorem empty18 (w : World) : SetOk w ⟨0, none, 0, [], none, 0, [], none, 0, []⟩ := ⟨by decide, nil_ints w, nil_ints w, ⟨⟨fun _ => ⟨rfl, rfl⟩, by decide, by decide⟩, .inl rfl, by simp⟩⟩
theorem emptyE : anE ⟨0, none, 0, [], none, 0, [], none, 0, []⟩ = 10 := by decide +kernel
end Go.Proofs.Ytlbaohefappfoaa

namespace Go.Proofs.Ytlbaohefappfoaa
open Go.ChangeShapes Go.WideShapes Go.ChangeAt Go.RowKit
set_option linter.unusedVariables false
set_option linter.unusedSimpArgs false
set_option maxHeartbeats 4000000 in
set_option maxRecDepth 100000 in
theorem known18_any (w : World) : Calls Try.prog 8 #[] w fun e w' => e = .returned (.bool true) ∧ Below w.heap.size w w' := by
  go_enter Try.func8, Try.ntmps8
  go_wp2_with fail
  refine (two18_any 1 1 3 5 4 _ (by decide) (by decide) (by decide) (by decide) (by decide)).mono ?_
  rintro e w1 ⟨⟨S, rfl, hs, hS⟩, hb⟩
  obtain ⟨q1, q2, q3, q4, q5⟩ := two18_vals hS
  have Q1 := hidp q1
  have Q2 := hidp q2
  have Q3 := hidp q3
  have Q4 := hidp q4
  have Q5 := hidp q5
  clear hS q1 q2 q3 q4 q5
  have sc := SetCells.new w1 S 25
  replace hb := hb.alloc hb.size (.cells #[.int .i64 S.proto, .slice S.ca S.cores.length S.cc, .slice S.ha S.homes.length S.hc, .slice S.ta S.tasks.length S.tc] 25)
  replace hs := hs.keep (Keeps.alloc w1 (.cells #[.int .i64 S.proto, .slice S.ca S.cores.length S.cc, .slice S.ha S.homes.length S.hc, .slice S.ta S.tasks.length S.tc] 25))
  go_wp2_with fail
  refine (analyze_any S _ hs).mono ?_
  rintro e u1 ⟨⟨v, rfl, hv, h1, h2, h3⟩, hb2⟩
  replace hb := hb.trans (hb2.mono hb.size)
  replace sc := sc.keep (Keeps.of_below hb2)
  replace hs := hs.keep (Keeps.of_below hb2)
  clear hb2
  try clear sc_0 sc_1 sc_2 sc_3
  have scx := sc
  obtain ⟨sc_0, sc_1, sc_2, sc_3⟩ := scx
  try dsimp only at sc_0 sc_1 sc_2 sc_3
  rw [Q1.out] at *
  rw [Q2.out] at h2
  rw [Q3.out] at h3
  obtain ⟨ok, ba, bc, bounds, wa, wc, rows⟩ := v
  dsimp only at h1 h2 h3 hv ⊢
  subst h1
  subst h2
  obtain ⟨r0, r1, rfl, e0, e1⟩ := rows_two h3
  obtain ⟨a0, c0, z0⟩ := r0
  obtain ⟨a1, c1, z1⟩ := r1
  dsimp only at e0 e1
  subst e0
  subst e1
  clear h3
  have bv := Y3 (Bk.new u1 31 #[.bool true, .slice ba 2 bc, .slice wa 2 wc])
  have kv := Keeps.alloc u1 (.cells #[.bool true, .slice ba 2 bc, .slice wa 2 wc] 31)
  replace hv := hv.keep kv
  replace hs := hs.keep kv
  replace sc := sc.keep kv
  replace hb := hb.alloc hb.size (.cells #[.bool true, .slice ba 2 bc, .slice wa 2 wc] 31)
  clear kv sc_0 sc_1 sc_2 sc_3
  go_wp2_with fail
  refine (analyze_any ⟨0, none, 0, [], none, 0, [], none, 0, []⟩ _ (empty18 _)).mono ?_
  rintro e u2 ⟨⟨v2, rfl, g1, g2, g3, g4⟩, hb2⟩
  replace hb := hb.trans (hb2.mono hb.size)
  replace sc := sc.keep (Keeps.of_below hb2)
  replace hs := hs.keep (Keeps.of_below hb2)
  replace hv := hv.keep (Keeps.of_below hb2)
  replace bv := And.intro (Keeps.of_below hb2 _ _ bv.1) (And.intro (Keeps.of_below hb2 _ _ bv.2.1) (Keeps.of_below hb2 _ _ bv.2.2))
  clear hb2
  clear g1 g2 g3 g4
  obtain ⟨ok2, ba2, bc2, bs2, wa2, wc2, rs2⟩ := v2
  dsimp only
  rw [emptyE]
  have kz := (Keeps.alloc u2 (.cells #[.bool ok2, .slice ba2 bs2.length bc2, .slice wa2 rs2.length wc2] 31)).trans (Keeps.alloc _ (.cells (ptc [⟨1, 60, 0⟩]).toArray 49))
  have P0 := Bk.at_ (w := u2.alloc (.cells #[.bool ok2, .slice ba2 bs2.length bc2, .slice wa2 rs2.length wc2] 31)) (g := u2.heap.size + 1) (t := 49) (cs := (ptc [⟨1, 60, 0⟩]).toArray) (by simp) rfl
  have hzp : u2.heap.size + 1 < ((u2.alloc (.cells #[.bool ok2, .slice ba2 bs2.length bc2, .slice wa2 rs2.length wc2] 31)).alloc (.cells (ptc [⟨1, 60, 0⟩]).toArray 49)).heap.size := by simp
  replace hb := (hb.alloc hb.size (.cells #[.bool ok2, .slice ba2 bs2.length bc2, .slice wa2 rs2.length wc2] 31)).alloc (hb.alloc hb.size _).size (.cells (ptc [⟨1, 60, 0⟩]).toArray 49)
  replace hs := hs.keep kz
  replace sc := sc.keep kz
  replace hv := hv.keep kz
  replace bv := And.intro (kz _ _ bv.1) (And.intro (kz _ _ bv.2.1) (kz _ _ bv.2.2))
  clear kz
  go_wp2_with fail
  refine (one18_any 1 (some ⟨u2.heap.size + 1, 0, none⟩) 1 [⟨1, 60, 0⟩] _).mono ?_
  rintro e w3 ⟨⟨ca, ha, ta, cc, hc, tc, rfl, kc, kh, kt, n1, n2⟩, hb3⟩
  obtain ⟨g, hA, hg1, hg2⟩ := own_at kt.own (by simp)
  subst hA
  have X := (SetCells.new w3 ⟨1, ca, cc, [1], ha, hc, [0], some ⟨g, 0, none⟩, tc, [⟨⟨#[97]⟩, 100, 100, 1, 0, some ⟨u2.heap.size + 1, 0, none⟩, 1, [⟨1, 60, 0⟩]⟩]⟩ 25)
  have T1 := (Turned.refl [] w3).alloc (.cells #[.int .i64 1, .slice ca 1 cc, .slice ha 1 hc, .slice (some ⟨g, 0, none⟩) 1 tc] 25)
  have kt1 := kt.turned T1 (by simp)
  have TS := (Turned.refl [g] (w3.alloc (.cells #[.int .i64 1, .slice ca 1 cc, .slice ha 1 hc, .slice (some ⟨g, 0, none⟩) 1 tc] 25))).setCell (p := ⟨g, 2, none⟩) (.inl (by simp)) (.int .i64 50)
  have kt2 := ownT_put kt1 (i := 0) (by simp) (j := 2) (by decide) ⟨⟨#[97]⟩, 100, 50, 1, 0, some ⟨u2.heap.size + 1, 0, none⟩, 1, [⟨1, 60, 0⟩]⟩ (.int .i64 50) rfl
  have hbx := (hb3.alloc hb3.size (.cells #[.int .i64 1, .slice ca 1 cc, .slice ha 1 hc, .slice (some ⟨g, 0, none⟩) 1 tc] 25)).trans (TS.below (hb3.alloc hb3.size _).size (by simpa using hg1))
  have k3 := Keeps.of_below hbx
  have kc2 := (kc.turned T1 (by simp)).turned TS (fun k hk hm => by simp at hm; subst hm; exact (n1 _ hk).1 (by simp [fp]))
  have kh2 := (kh.turned T1 (by simp)).turned TS (fun k hk hm => by simp at hm; subst hm; exact (n2 _ hk).1 (by simp [fp]))
  have X2 := X.turned TS (by simp; omega)
  have fz := own_frozen kt1.own 2
  have cz : (w3.alloc (.cells #[.int .i64 1, .slice ca 1 cc, .slice ha 1 hc, .slice (some ⟨g, 0, none⟩) 1 tc] 25)).cell? ⟨g, 2, none⟩ = some (.int .i64 100) := by
    obtain ⟨b, off, e, h⟩ := (lies_tasks kt1.tasks).resolve_left (by simp [ttc])
    cases e
    have := h.2 2 (.int .i64 100) rfl
    rw [Nat.zero_add] at this
    exact this
  replace hb := hb.trans (hbx.mono hb.size)
  replace hs := hs.keep k3
  replace sc := sc.keep k3
  replace hv := hv.keep k3
  replace bv := And.intro (k3 _ _ bv.1) (And.intro (k3 _ _ bv.2.1) (k3 _ _ bv.2.2))
  have P2 := P0.below hbx
  have hx : SetOk _ ⟨1, ca, cc, [1], ha, hc, [0], some ⟨g, 0, none⟩, tc, [⟨⟨#[97]⟩, 100, 50, 1, 0, some ⟨u2.heap.size + 1, 0, none⟩, 1, [⟨1, 60, 0⟩]⟩]⟩ := ⟨by show I64 1; decide, kc2, kh2, ⟨kt2.sl, kt2.tasks, fun t ht => by
    simp at ht; subst ht
    exact task_bk (nm := ⟨#[97]⟩) P2 (by decide) (by decide) (by decide) (by decide) (by decide) (by decide) (fun p hp => by simp at hp; subst hp; exact ⟨by decide, by decide, by decide⟩)⟩⟩
  have hE := hidp (late18 (S := ⟨1, ca, cc, [1], ha, hc, [0], some ⟨g, 0, none⟩, tc, [⟨⟨#[97]⟩, 100, 50, 1, 0, some ⟨u2.heap.size + 1, 0, none⟩, 1, [⟨1, 60, 0⟩]⟩]⟩) rfl rfl rfl rfl)
  rw [World.setCell_alloc_past _ g 2 _ hg2] at hb hs sc hv bv hx X2
  obtain ⟨sx_0, sx_1, sx_2, sx_3⟩ := X
  obtain ⟨sy_0, sy_1, sy_2, sy_3⟩ := X2
  dsimp only at sx_0 sx_1 sx_2 sx_3 sy_0 sy_1 sy_2 sy_3
  clear kc kh kt n1 n2 kc2 kh2 kt1 kt2 T1 TS k3 P0 P2 hzp
  go_wp2_with fail
  refine (analyze_any _ _ hx).mono ?_
  rintro e w4 ⟨⟨v3, rfl, g1, g2, g3, g4⟩, hb4⟩
  rw [hE.out]
  clear g1 g2 g3 g4 sx_0 sx_1 sx_2 sx_3 sy_0 sy_1 sy_2 sy_3 fz cz hx hE hbx hb3
  obtain ⟨ok3, ba3, bc3, bs3, wa3, wc3, rs3⟩ := v3
  dsimp only
  have kz := (Keeps.of_below hb4).trans (Keeps.alloc w4 (.cells #[.bool ok3, .slice ba3 bs3.length bc3, .slice wa3 rs3.length wc3] 31))
  replace hb := hb.trans (hb4.mono hb.size)
  replace hb := hb.alloc hb.size (.cells #[.bool ok3, .slice ba3 bs3.length bc3, .slice wa3 rs3.length wc3] 31)
  replace hs := hs.keep kz
  replace sc := sc.keep kz
  replace hv := hv.keep kz
  obtain ⟨bv_0, bv_1, bv_2⟩ := And.intro (kz _ _ bv.1) (And.intro (kz _ _ bv.2.1) (kz _ _ bv.2.2))
  clear kz bv hb4
  obtain ⟨x1, x2, x3, x4⟩ := hv
  have HBS := hidp x1
  obtain ⟨b, off, e, hc⟩ := x1.at_.resolve_left (by simp)
  dsimp only at e
  subst e
  have c0 := hc 0 (by simp)
  have c1 := hc 1 (by simp)
  obtain ⟨b', off', e, hr⟩ := x3.resolve_left (by simp)
  dsimp only at e
  subst e
  have r0 := hr 0 (by simp)
  obtain ⟨b2, off2, e, hw⟩ := (x4 _ (List.mem_cons_self ..)).at_.resolve_left (by simp)
  dsimp only at e
  subst e
  have y1 := hw 1 (by simp)
  clear x1 x2 x3 x4 hc hr hw
  simp [RowR.val] at c0 c1 r0 y1
  obtain ⟨sc_0, sc_1, sc_2, sc_3⟩ := id sc
  go_wp2_with fail
  refine (holds_any S [12, 16] _ _ _ hs HBS.out).mono ?_
  rintro e w5 ⟨rfl, hb5⟩
  rw [Q4.out]
  replace hb := hb.trans (hb5.mono hb.size)
  replace hs := hs.keep (Keeps.of_below hb5)
  replace sc := sc.keep (Keeps.of_below hb5)
  clear hb5 sc_0 sc_1 sc_2 sc_3 bv_0 bv_1 bv_2 c0 c1 r0 y1
  obtain ⟨sc_0, sc_1, sc_2, sc_3⟩ := id sc
  go_wp2_with fail
  refine (holds_any S [] none 0 _ hs (nil_ints _)).mono ?_
  rintro e w6 ⟨rfl, hb5⟩
  rw [Q5.out]
  replace hb := hb.trans (hb5.mono hb.size)
  clear hb5
  go_wp2_with fail
  go_ret
  exact ⟨rfl, hb⟩
end Go.Proofs.Ytlbaohefappfoaa

namespace Go.Proofs.Ytlbaohefappfoaa
open Go.ChangeShapes Go.WideShapes Go.ChangeAt Go.RowKit
set_option linter.unusedVariables false

/-! ### The greatest so many of a row -/
def exc (c : Int) : List Int → Int
  | [] => 0
  | z :: l => max (z - c) 0 + exc c l
theorem exc_nn (c : Int) (l : List Int) : 0 ≤ exc c l := by
  induction l with
  | nil => simp [exc]
  | cons z l ih => simp only [exc]; omega
theorem exc_append (c : Int) (a b : List Int) : exc c (a ++ b) = exc c a + exc c b := by
  induction a with
  | nil => simp [exc]
  | cons z a ih => simp only [List.cons_append, exc, ih]; omega
theorem exc_perm {c : Int} {a b : List Int} (h : a.Perm b) : exc c a = exc c b := by
  induction h with
  | nil => rfl
  | cons x _ ih => simp [exc, ih]
  | swap x y l => simp [exc]; omega
  | trans _ _ i1 i2 => exact i1.trans i2
theorem exc_over {c : Int} (l : List Int) : tot l ≤ c * (l.length : Int) + exc c l := by
  induction l with
  | nil => simp [tot, exc]
  | cons z l ih =>
    simp only [tot, exc, List.length_cons]
    rw [Int.natCast_succ, Int.mul_add, Int.mul_one]
    omega
theorem exc_up {c : Int} {l : List Int} (h : ∀ z ∈ l, c ≤ z) : tot l = c * (l.length : Int) + exc c l := by
  induction l with
  | nil => simp [tot, exc]
  | cons z l ih =>
    have h1 := ih (fun y hy => h y (by simp [hy]))
    have h2 := h z (by simp)
    simp only [tot, exc, List.length_cons]
    rw [Int.natCast_succ, Int.mul_add, Int.mul_one]
    omega
theorem exc_down {c : Int} {l : List Int} (h : ∀ z ∈ l, z ≤ c) : exc c l = 0 := by
  induction l with
  | nil => rfl
  | cons z l ih =>
    have h1 := ih (fun y hy => h y (by simp [hy]))
    have h2 := h z (by simp)
    simp only [exc]; omega
theorem top_over {d : List Int} {n : Nat} (hn : n ≤ d.length) {c : Int} : tot (d.take n) ≤ c * (n : Int) + exc c d := by
  have h1 := exc_over (c := c) (d.take n)
  have h2 : exc c d = exc c (d.take n) + exc c (d.drop n) := by rw [← exc_append, List.take_append_drop]
  have h3 := exc_nn c (d.drop n)
  rw [List.length_take, Nat.min_eq_left hn] at h1
  omega
theorem top_at {d : List Int} {n : Nat} (hn : n ≤ d.length) (hs : d.Pairwise (fun a b => b ≤ a)) (h0 : ∀ z ∈ d, 0 ≤ z) : ∃ c : Int, tot (d.take n) = c * (n : Int) + exc c d := by
  have hsplit : ∀ c, exc c d = exc c (d.take n) + exc c (d.drop n) := fun c => by rw [← exc_append, List.take_append_drop]
  by_cases e : n < d.length
  · refine ⟨d[n], ?_⟩
    have h1 : ∀ z ∈ d.take n, d[n] ≤ z := fun z hz => by
      obtain ⟨i, hi, rfl⟩ := List.getElem_of_mem hz
      rw [List.length_take] at hi
      rw [List.getElem_take]
      exact List.pairwise_iff_getElem.1 hs i n (by omega) e (by omega)
    have h2 : ∀ z ∈ d.drop n, z ≤ d[n] := fun z hz => by
      obtain ⟨i, hi, rfl⟩ := List.getElem_of_mem hz
      rw [List.length_drop] at hi
      rw [List.getElem_drop]
      by_cases e0 : i = 0
      · subst e0; simp
      · exact List.pairwise_iff_getElem.1 hs n (n + i) e (by omega) (by omega)
    have h3 := exc_up h1
    rw [List.length_take, Nat.min_eq_left hn] at h3
    rw [hsplit, exc_down h2, h3]; omega
  · have hl : n = d.length := by omega
    refine ⟨0, ?_⟩
    rw [hl, List.take_length, exc_up h0]
/-- number by number not less -/
def LeL : List Int → List Int → Prop
  | [], [] => True
  | x :: a, y :: b => x ≤ y ∧ LeL a b
  | _, _ => False
theorem LeL.len {a b : List Int} (h : LeL a b) : a.length = b.length := by
  induction a generalizing b with
  | nil => cases b with
    | nil => rfl
    | cons y b => exact h.elim
  | cons x a ih => cases b with
    | nil => exact h.elim
    | cons y b => simp [ih h.2]
theorem LeL.exc {c : Int} {a b : List Int} (h : LeL a b) : exc c a ≤ exc c b := by
  induction a generalizing b with
  | nil => cases b with
    | nil => exact Int.le_refl _
    | cons y b => exact h.elim
  | cons x a ih => cases b with
    | nil => exact h.elim
    | cons y b =>
      have := ih h.2
      have := h.1
      simp only [Go.Proofs.Ytlbaohefappfoaa.exc]; omega
theorem LeL.tot {a b : List Int} (h : LeL a b) : tot a ≤ tot b := by
  induction a generalizing b with
  | nil => cases b with
    | nil => exact Int.le_refl _
    | cons y b => exact h.elim
  | cons x a ih => cases b with
    | nil => exact h.elim
    | cons y b =>
      have := ih h.2
      have := h.1
      simp only [Go.Proofs.Ytlbaohefappfoaa.tot]; omega
theorem tops_le {a b : List Int} (h : LeL a b) (hb : ∀ n ∈ b, 0 ≤ n) (k : Int) : tot (tops a k) ≤ tot (tops b k) := by
  have hl := h.len
  unfold tops
  rw [hl]
  have hn := clampN_le k b.length
  obtain ⟨c, hc⟩ := top_at (d := desc b) (n := clampN k b.length) (by rw [desc_len]; exact hn) (desc_srt b) (fun z hz => hb z ((desc_perm b).mem_iff.1 hz))
  rw [hc]
  have h1 := top_over (d := desc a) (n := clampN k b.length) (by rw [desc_len, hl]; exact hn) (c := c)
  rw [exc_perm (desc_perm a)] at h1
  rw [exc_perm (desc_perm b)]
  have := h.exc (c := c)
  omega
theorem sum_tops6 {zs : List Int} {k : Int} (h : ∀ n ∈ zs, 0 ≤ n ∧ n ≤ 60) (hl : zs.length ≤ 6) : sumW (tops zs k) = tot (tops zs k) := by
  have h1 : ∀ n ∈ tops zs k, 0 ≤ n ∧ n ≤ 60 := fun n hn => h n (tops_sub n hn)
  have h2 : (tops zs k).length ≤ 6 := by rw [tops_len]; exact Nat.le_trans (clampN_le _ _) hl
  unfold sumW
  rw [fold_small _ 0 h1 (by omega) (by omega)]
  omega

/-! ### Parts that are not shorter -/
def LeP : List PartM → List PartM → Prop
  | [], [] => True
  | p :: a, q :: b => (p.kind = q.kind ∧ p.res = q.res ∧ p.len ≤ q.len) ∧ LeP a b
  | _, _ => False
theorem LeP.refl (a : List PartM) : LeP a a := by
  induction a with
  | nil => trivial
  | cons p a ih => exact ⟨⟨rfl, rfl, Int.le_refl _⟩, ih⟩
theorem LeP.ind {P : List PartM → List PartM → Prop} (h0 : P [] []) (h1 : ∀ p q a b, p.kind = q.kind → p.res = q.res → p.len ≤ q.len → LeP a b → P a b → P (p :: a) (q :: b)) {a b : List PartM} (h : LeP a b) : P a b := by
  induction a generalizing b with
  | nil => cases b with
    | nil => exact h0
    | cons y b => exact h.elim
  | cons x a ih => cases b with
    | nil => exact h.elim
    | cons y b => exact h1 _ _ _ _ h.1.1 h.1.2.1 h.1.2.2 h.2 (ih h.2)
theorem LeP.len {a b : List PartM} (h : LeP a b) : a.length = b.length := LeP.ind (P := fun a b => a.length = b.length) rfl (fun p q a b _ _ _ _ h => by simp [h]) h
theorem LeP.get {a b : List PartM} (h : LeP a b) (k : Nat) : (a.getD k default).kind = (b.getD k default).kind ∧ (a.getD k default).res = (b.getD k default).res ∧ (a.getD k default).len ≤ (b.getD k default).len := by
  induction a generalizing b k with
  | nil => cases b with
    | nil => exact ⟨rfl, rfl, Int.le_refl _⟩
    | cons y b => exact h.elim
  | cons x a ih => cases b with
    | nil => exact h.elim
    | cons y b =>
      cases k with
      | zero => exact h.1
      | succ k => simpa using ih h.2 k
theorem LeP.max {a b : List PartM} (h : LeP a b) (hl : LenOk a) : maxL a ≤ maxL b ∧ (maxL a = 0 ↔ maxL b = 0) := by
  revert hl
  refine LeP.ind (P := fun a b => LenOk a → maxL a ≤ maxL b ∧ (maxL a = 0 ↔ maxL b = 0)) (fun _ => ⟨Int.le_refl _, Iff.rfl⟩) (fun p q a b h1 h2 h3 _ ih hl => ?_) h
  have h4 := ih (fun r hr => hl r (by simp [hr]))
  have h5 := hl p (by simp)
  have h6 := maxL_nn a
  have h7 := maxL_nn b
  obtain ⟨i1, i2⟩ := h4
  simp only [maxL]
  rw [← h1]
  split
  · refine ⟨by omega, ?_⟩
    constructor <;> intro h <;> omega
  · refine ⟨by omega, ?_⟩
    constructor
    · intro h; have := i2.1 (by omega); omega
    · intro h; have := i2.2 (by omega); omega
theorem LeP.sum {a b : List PartM} (h : LeP a b) (k : Int) : sumK k a ≤ sumK k b := by
  refine LeP.ind (P := fun a b => sumK k a ≤ sumK k b) (Int.le_refl _) (fun p q a b h1 h2 h3 _ ih => ?_) h
  simp only [sumK]
  rw [← h1]
  split <;> omega
theorem LeP.filter {a b : List PartM} (h : LeP a b) (homes : List Int) (cl : Int) : LeP (a.filter (srvB homes cl)) (b.filter (srvB homes cl)) := by
  refine LeP.ind (P := fun a b => LeP (a.filter (srvB homes cl)) (b.filter (srvB homes cl))) trivial (fun p q a b h1 h2 h3 _ ih => ?_) h
  have e : srvB homes cl q = srvB homes cl p := by unfold srvB; rw [h1, h2]
  simp only [List.filter_cons]
  rw [e]
  split
  · exact ⟨⟨h1, h2, h3⟩, ih⟩
  · exact ih
def LeT (t u : TaskR) : Prop := t.per = u.per ∧ t.prio = u.prio ∧ t.cl = u.cl ∧ LeP t.parts u.parts
theorem LeT.refl (t : TaskR) : LeT t t := ⟨rfl, rfl, rfl, LeP.refl _⟩
def LeTs : List TaskR → List TaskR → Prop
  | [], [] => True
  | p :: a, q :: b => LeT p q ∧ LeTs a b
  | _, _ => False
theorem LeTs.refl (a : List TaskR) : LeTs a a := by
  induction a with
  | nil => trivial
  | cons p a ih => exact ⟨LeT.refl _, ih⟩
theorem LeTs.set {a : List TaskR} {k : Nat} {u : TaskR} (h : LeT (a.getD k default) u) : LeTs a (a.set k u) := by
  induction a generalizing k with
  | nil => trivial
  | cons p a ih =>
    cases k with
    | zero => exact ⟨h, LeTs.refl _⟩
    | succ k => exact ⟨LeT.refl _, ih (by simpa using h)⟩
theorem LeP.set {a : List PartM} {k : Nat} {q : PartM} (h : (a.getD k default).kind = q.kind ∧ (a.getD k default).res = q.res ∧ (a.getD k default).len ≤ q.len) : LeP a (a.set k q) := by
  induction a generalizing k with
  | nil => trivial
  | cons p a ih =>
    cases k with
    | zero => exact ⟨h, LeP.refl _⟩
    | succ k => exact ⟨⟨rfl, rfl, Int.le_refl _⟩, ih (by simpa using h)⟩
theorem LeTs.get {a b : List TaskR} (h : LeTs a b) (k : Nat) : LeT (a.getD k default) (b.getD k default) := by
  induction a generalizing b k with
  | nil => cases b with
    | nil => exact LeT.refl _
    | cons y b => exact h.elim
  | cons x a ih => cases b with
    | nil => exact h.elim
    | cons y b =>
      cases k with
      | zero => exact h.1
      | succ k => simpa using ih h.2 k
theorem LeTs.len {a b : List TaskR} (h : LeTs a b) : a.length = b.length := by
  induction a generalizing b with
  | nil => cases b with
    | nil => rfl
    | cons y b => exact h.elim
  | cons x a ih => cases b with
    | nil => exact h.elim
    | cons y b => simp [ih h.2]
structure LeS (s t : SetR) : Prop where
  proto : s.proto = t.proto
  cores : s.cores = t.cores
  homes : s.homes = t.homes
  tasks : LeTs s.tasks t.tasks
  oks : okS s = true
  okt : okS t = true
section
variable {s t : SetR}
theorem LeS.lens (h : LeS s t) (k : Nat) : LenOk (s.tasks.getD k default).parts := by
  by_cases hk : k < s.tasks.length
  · exact ((Good.of h.oks).parts _ (getD_mem hk)).lens
  · have e : s.tasks.getD k default = default := by simp [List.getD, hk]
    rw [e]; intro p hp; exact absurd hp (by show p ∉ ([] : List PartM); simp)
theorem LeS.there (h : LeS s t) (of : Int) : thereB t of = thereB s of := by unfold thereB; rw [h.oks, h.okt, h.tasks.len]
theorem LeS.part (h : LeS s t) (of part : Int) : (partAt s of part).kind = (partAt t of part).kind ∧ (partAt s of part).res = (partAt t of part).res ∧ (partAt s of part).len ≤ (partAt t of part).len := by
  unfold partAt; exact (h.tasks.get _).2.2.2.get _
theorem LeS.fairK (h : LeS s t) (of part : Int) : fairK t of part = fairK s of part := by
  unfold Go.Proofs.Ytlbaohefappfoaa.fairK
  rw [h.there, (h.tasks.get of.toNat).2.2.2.len, (h.part of part).1]
theorem roth_le {of : Int} {k : Nat} {a b : List TaskR} (h : LeTs a b) (hl : ∀ t ∈ a, LenOk t.parts) : LeL (rothL of k a) (rothL of k b) := by
  induction a generalizing b k with
  | nil => cases b with
    | nil => trivial
    | cons y b => exact h.elim
  | cons x a ih => cases b with
    | nil => exact h.elim
    | cons y b =>
      have h1 := ih (k := k + 1) h.2 (fun t ht => hl t (by simp [ht]))
      have h2 := (h.1.2.2.2.max (hl x (by simp))).1
      simp only [rothL]
      split
      · simpa using h1
      · exact ⟨h2, h1⟩
theorem LeS.roth (h : LeS s t) (of : Int) : LeL (rothL of 0 s.tasks) (rothL of 0 t.tasks) := roth_le h.tasks (fun q hq => ((Good.of h.oks).parts q hq).lens)
theorem LeS.fairV (h : LeS s t) (of part : Int) : fairV s of part ≤ fairV t of part := by
  unfold Go.Proofs.Ytlbaohefappfoaa.fairV
  rw [h.fairK]
  have h1 := (h.part of part).2.2
  have h2 := (h.roth of).tot
  rw [(roth_is of 0 s.tasks).1, (roth_is of 0 t.tasks).1] at h2
  split <;> omega
theorem LeS.besV (h : LeS s t) (of : Int) : besV s of ≤ besV t of := by
  have hs := Good.of h.oks
  have ht := Good.of h.okt
  have b1 : ∀ n ∈ rothL of 0 s.tasks, 0 ≤ n ∧ n ≤ 60 := fun n hn => rothL_bd (fun q hq => (hs.parts q hq).lens) n hn
  have b2 : ∀ n ∈ rothL of 0 t.tasks, 0 ≤ n ∧ n ≤ 60 := fun n hn => rothL_bd (fun q hq => (ht.parts q hq).lens) n hn
  have l1 := Nat.le_trans (rothL_len of 0 s.tasks) hs.ntasks.2
  have l2 := Nat.le_trans (rothL_len of 0 t.tasks) ht.ntasks.2
  have e : coresV t = coresV s := by unfold coresV; rw [h.oks, h.okt, h.cores]
  unfold Go.Proofs.Ytlbaohefappfoaa.besV
  rw [sum_tops6 b1 l1, sum_tops6 b2 l2, e]
  exact tops_le (h.roth of) (fun n hn => (b2 n hn).1) _
theorem LeS.insV (h : LeS s t) (of part : Int) : insV s of part ≤ insV t of part := by
  have h1 := (h.part of part).2.2
  have h2 := h.besV of
  unfold Go.Proofs.Ytlbaohefappfoaa.insV
  rw [h.fairK]
  split <;> omega
theorem ask_le {cl : Int} {a b : List TaskR} (h : LeTs a b) (hl : ∀ t ∈ a, LenOk t.parts) (hl2 : ∀ t ∈ b, LenOk t.parts) : askN cl b = askN cl a := by
  induction a generalizing b with
  | nil => cases b with
    | nil => rfl
    | cons y b => exact h.elim
  | cons x a ih => cases b with
    | nil => exact h.elim
    | cons y b =>
      have h1 := ih h.2 (fun t ht => hl t (by simp [ht])) (fun t ht => hl2 t (by simp [ht]))
      have h2 := h.1.2.2.2.max (hl x (by simp))
      have h3 : sumK 3 x.parts ≠ 0 ↔ sumK 3 y.parts ≠ 0 := by
        have a1 := maxL_le_sum (hl x (by simp))
        have a2 := maxL_le_sum (hl2 y (by simp))
        have a3 := maxL_nn x.parts
        have a4 := maxL_nn y.parts
        constructor
        · intro e h0; exact e (sum_le_maxL (hl x (by simp)) (h2.2.2 (by omega)))
        · intro e h0; exact e (sum_le_maxL (hl2 y (by simp)) (h2.2.1 (by omega)))
      have h4 := h.1.2.2.1
      simp only [askN, h1, h4]
      by_cases e : y.cl = cl ∧ sumK 3 y.parts ≠ 0
      · rw [if_pos e, if_pos ⟨e.1, h3.2 e.2⟩]
      · rw [if_neg e, if_neg (fun g => e ⟨g.1, h3.1 g.2⟩)]
theorem LeS.rnd (h : LeS s t) (cl : Int) : rndV t cl = rndV s cl := by
  have e : askersV t cl = askersV s cl := by
    unfold askersV; rw [h.oks, h.okt]
    exact ask_le h.tasks (fun q hq => ((Good.of h.oks).parts q hq).lens) (fun q hq => ((Good.of h.okt).parts q hq).lens)
  unfold rndV coreAt
  rw [e, h.cores]
theorem LeS.slow (h : LeS s t) (cl : Int) {k : Nat} {a b : List TaskR} (hab : LeTs a b) (hl : ∀ t ∈ a, LenOk t.parts) : slowL s cl k a ≤ slowL t cl k b := by
  induction a generalizing b k with
  | nil => cases b with
    | nil => exact Int.le_refl _
    | cons y b => exact hab.elim
  | cons x a ih => cases b with
    | nil => exact hab.elim
    | cons y b =>
      have h1 := ih (k := k + 1) hab.2 (fun t ht => hl t (by simp [ht]))
      have h2 := hab.1.2.2.2.max (hl x (by simp))
      have h3 := h.besV k
      have h4 := hab.1.2.2.1
      simp only [slowL]
      rw [h4]
      by_cases e : y.cl = cl ∧ maxL y.parts ≠ 0
      · have e2 : y.cl = cl ∧ maxL x.parts ≠ 0 := ⟨e.1, fun g => e.2 (h2.2.1 g)⟩
        simp only [if_pos e, if_pos e2]; omega
      · have e2 : ¬ (y.cl = cl ∧ maxL x.parts ≠ 0) := fun g => e ⟨g.1, fun g2 => g.2 (h2.2.2 g2)⟩
        simp only [if_neg e, if_neg e2]; omega
theorem LeS.outV (h : LeS s t) (of : Int) : outV s of ≤ outV t of := by
  have h1 := h.tasks.get of.toNat
  have h2 := h1.2.2.2.max (h.lens _)
  have h3 := h.slow (s.tasks.getD of.toNat default).cl (k := 0) h.tasks (fun q hq => ((Good.of h.oks).parts q hq).lens)
  have h5 : ∀ q ∈ s.tasks, LenOk q.parts := fun q hq => ((Good.of h.oks).parts q hq).lens
  unfold Go.Proofs.Ytlbaohefappfoaa.outV
  rw [h.there, ← h1.2.2.1, h.rnd]
  by_cases e : thereB s of = true ∧ maxL (s.tasks.getD of.toNat default).parts ≠ 0
  · rw [if_pos e, if_pos ⟨e.1, fun g => e.2 (h2.2.2 g)⟩]
    obtain ⟨ho, r1, r2⟩ := thereB_true.1 e.1
    have hg := Good.of ho
    have hm : s.tasks.getD of.toNat default ∈ s.tasks := getD_mem (by omega)
    have hp := hg.place _ hm
    exact Int.mul_le_mul_of_nonneg_left h3 (rndV_bd ho (by omega)).1
  · rw [if_neg e, if_neg (fun g => e ⟨g.1, fun g2 => g.2 (h2.2.1 g2)⟩)]
    exact Int.le_refl _
theorem LeS.tokV (h : LeS s t) (of part : Int) : tokV s of part ≤ tokV t of part := by
  have h1 := h.insV of part
  have h2 := h.outV of
  unfold Go.Proofs.Ytlbaohefappfoaa.tokV
  rw [h.fairK]
  split <;> omega
theorem LeS.srv (h : LeS s t) (of cl : Int) : LeP (srv s of cl) (srv t of cl) := by
  unfold Go.Proofs.Ytlbaohefappfoaa.srv
  rw [h.oks, h.okt, h.tasks.len, h.homes]
  split
  · exact (h.tasks.get of.toNat).2.2.2.filter _ _
  · trivial
theorem LeS.low (h : LeS s t) (pr cl : Int) {k : Nat} {a b : List TaskR} (hab : LeTs a b) : lowL s pr cl k a ≤ lowL t pr cl k b := by
  induction a generalizing b k with
  | nil => cases b with
    | nil => exact Int.le_refl _
    | cons y b => exact hab.elim
  | cons x a ih => cases b with
    | nil => exact hab.elim
    | cons y b =>
      have h1 := ih (k := k + 1) hab.2
      have h2 : mostV s k cl ≤ mostV t k cl := ((h.srv k cl).max (srv_len s k cl).1).1
      simp only [lowL]
      rw [hab.1.2.1]
      split <;> omega
theorem workV_each {w b p e e' : Int} (h : e ≤ e') : workV w b p e ≤ workV w b p e' := by
  have h2 := (jobV_bd w b p).1
  have h3 : jobV w b p * max e 0 ≤ jobV w b p * max e' 0 := Int.mul_le_mul_of_nonneg_left (by omega) h2
  unfold workV; omega
theorem LeS.riv (h : LeS s t) (bs : List Int) (pr cl wd : Int) {k : Nat} {a b : List TaskR} (hab : LeTs a b) : workS wd (rivL s bs pr cl k a) ≤ workS wd (rivL t bs pr cl k b) := by
  induction a generalizing b k with
  | nil => cases b with
    | nil => exact Int.le_refl _
    | cons y b => exact hab.elim
  | cons x a ih => cases b with
    | nil => exact hab.elim
    | cons y b =>
      have h1 := ih (k := k + 1) hab.2
      have h2 : atV s k cl ≤ atV t k cl := (h.srv k cl).sum 3
      simp only [rivL, workS_append]
      rw [hab.1.2.1, hab.1.1]
      split
      · have := workV_each (w := wd) (b := bs.getD k 0) (p := y.per) h2
        simp only [workS]; omega
      · simp only [workS]; omega
theorem LeS.agent (h : LeS s t) (bs : List Int) (of part : Int) (hk : agentK t bs of part = true) : agentK s bs of part = true ∧ agentV s bs of part ≤ agentV t bs of part := by
  obtain ⟨k1, k2⟩ := agent_lock hk
  have f1 : Go.Proofs.Ytlbaohefappfoaa.fairK s of part = true := by rw [← h.fairK]; exact k1
  have hb : agentB t bs of part = true := agentB_true.2 ⟨k1, k2⟩
  have hb2 : agentB s bs of part = true := agentB_true.2 ⟨f1, by rw [h.tasks.len]; exact k2⟩
  have eh : homeV t of part = homeV s of part := by unfold homeV; rw [h.homes, (h.part of part).2.1]
  have ep : prioOf t of = prioOf s of := by unfold prioOf; exact (h.tasks.get of.toNat).2.1.symm
  have hl : leastV s of part ≤ leastV t of part := by
    have a1 := (h.part of part).2.2
    have a2 : lowerV s of (homeV s of part) ≤ lowerV t of (homeV s of part) := by
      unfold lowerV
      rw [h.there, ep]
      split
      · exact h.low _ _ h.tasks
      · exact Int.le_refl _
    unfold leastV; rw [eh]; omega
  obtain ⟨_, l1, l2, _⟩ := lock_part k1
  have hlo := lowerV_bd t of (homeV t of part)
  unfold agentK agentO at hk
  unfold agentV agentK agentO
  rw [if_pos hb] at hk ⊢
  rw [if_pos hb2]
  cases e : fixO (winF (leastV t of part) (rivL t bs (prioOf t of) (homeV t of part) 0 t.tasks)) (leastV t of part) with
  | none => rw [e] at hk; cases hk
  | some v =>
    obtain ⟨u, hu, huv⟩ := fix_le (F := winF (leastV s of part) (rivL s bs (prioOf s of) (homeV s of part) 0 s.tasks)) (fun x y hxy => winF_mono _ _ hxy) (fun x => by
      have := h.riv bs (prioOf s of) (homeV s of part) x (k := 0) h.tasks
      rw [ep, eh]
      unfold winF capV; omega) hl (fun x => (winF_own _ _ x).1) (by unfold leastV; omega) e
    rw [hu]
    exact ⟨rfl, huv⟩
theorem LeS.wait (h : LeS s t) (bs : List Int) (of part : Int) (hk : waitK t bs of part = true) : waitK s bs of part = true ∧ waitV s bs of part ≤ waitV t bs of part := by
  unfold waitK at hk ⊢
  unfold waitV
  rw [h.tasks.len, h.proto] at *
  split at hk
  · rename_i e
    rw [if_pos e, if_pos e, if_pos e]
    by_cases p2 : t.proto = 2
    · rw [if_pos p2] at hk ⊢
      have p1 : ¬ t.proto = 1 := by omega
      rw [if_neg p1, if_neg p1, if_pos p2, if_pos p2]
      exact h.agent bs of part hk
    · rw [if_neg p2] at hk ⊢
      refine ⟨by rw [← h.fairK]; exact hk, ?_⟩
      rw [if_neg p2, if_neg p2]
      split
      · exact h.fairV of part
      · exact h.tokV of part
  · cases hk
end
theorem wait_own {s : SetR} {bs : List Int} {of part : Int} (h : waitK s bs of part = true) : (partAt s of part).len ≤ waitV s bs of part := by
  obtain ⟨f, hl⟩ := waitK_lock h
  obtain ⟨ho, l1, l2, _⟩ := lock_part f
  have hg := Good.of ho
  unfold waitK at h
  unfold waitV
  rw [if_pos hl] at h ⊢
  by_cases p1 : s.proto = 1
  · rw [if_pos p1]
    have hb := tot_small (fun x (hx : x ∈ othL of 0 s.tasks) => by have := othL_bd (fun q hq => (hg.parts q hq).lens) x hx; omega)
    unfold fairV; rw [if_pos f]; omega
  · rw [if_neg p1]
    by_cases p2 : s.proto = 2
    · rw [if_pos p2] at h ⊢
      have h1 := (agentV_in h).1
      have hlo := lowerV_bd s of (homeV s of part)
      unfold leastV at h1; omega
    · rw [if_neg p2]
      have h1 := (besV_bd ho of).1
      have h2 := (outV_bd s of).1
      unfold tokV insV; rw [if_pos f, if_pos f]; omega
end Go.Proofs.Ytlbaohefappfoaa

namespace Go.Proofs.Ytlbaohefappfoaa
open Go.ChangeShapes Go.WideShapes Go.ChangeAt Go.RowKit
set_option linter.unusedVariables false
section
variable {s : SetR} {bs cs : List Int}
theorem holds_split (h : holdsV s bs = true) : okS s = true ∧ bs.length = s.tasks.length ∧ ∀ i, i < s.tasks.length → nextK s bs i = true ∧ nextV s bs i ≤ bs.getD i 0 ∧ 1 ≤ bs.getD i 0 := by
  unfold holdsV at h
  simp only [Bool.and_eq_true, decide_eq_true_eq] at h
  refine ⟨h.1, h.2.1, fun i hi => ?_⟩
  have e := (upTo_iff _ _).1 h.2.2 i hi
  unfold holdB at e
  simp only [Bool.and_eq_true, decide_eq_true_eq] at e
  exact ⟨e.1, e.2.1, e.2.2.1⟩
theorem nextRow_at {i : Nat} (hi : i < s.tasks.length) : (nextRow s bs).getD i 0 = nextV s bs i := by
  unfold nextRow
  simp [List.getD, hi]
theorem nn_of (h : ∀ n ∈ bs, 0 ≤ n) : nnB bs = true := nnB_true.2 h
/-- a round does not lead over bounds that hold -/
theorem round_under (h : holdsV s bs = true) (hl : cs.length = s.tasks.length) (hc : nnB cs = true) (hle : ∀ k, cs.getD k 0 ≤ bs.getD k 0) : ∀ k, (nextRow s cs).getD k 0 ≤ bs.getD k 0 := by
  obtain ⟨ho, hb, hh⟩ := holds_split h
  intro k
  by_cases hk : k < s.tasks.length
  · have hn : nnB bs = true := nn_yes (fun k hk => by have := (hh k (by omega)).2.2; omega)
    obtain ⟨h1, h2, _⟩ := hh k hk
    have := (next_rises hle (by omega) hc hn h1).2
    rw [nextRow_at hk]; omega
  · have e1 : (nextRow s cs).getD k 0 = 0 := by
      have := nextRow_len s cs
      simp [List.getD, show (nextRow s cs)[k]? = none by simp; omega]
    have e2 : bs.getD k 0 = 0 := by simp [List.getD, show bs[k]? = none by simp; omega]
    rw [e1, e2]; exact Int.le_refl _
theorem set_under (h : holdsV s bs = true) (n : Nat) : ∀ cs : List Int, cs.length = s.tasks.length → nnB cs = true → (∀ k, cs.getD k 0 ≤ bs.getD k 0) → (setL s n cs).2 = 0 → ∀ k, (setL s n cs).1.getD k 0 ≤ bs.getD k 0 := by
  induction n with
  | zero => intro cs _ _ _ h0; simp [setL] at h0
  | succ n ih =>
    intro cs hl hc hle h0
    rw [setL_succ] at h0 ⊢
    by_cases e : roundB s cs = true
    · rw [if_pos e] at h0 ⊢
      by_cases e2 : nextRow s cs = cs
      · rw [if_pos e2] at h0 ⊢; exact hle
      · rw [if_neg e2] at h0 ⊢
        exact ih _ (nextRow_len s cs) (nn_of fun n hn => (nextRow_ok s cs n hn).1) (round_under h hl hc hle) h0
    · rw [if_neg e] at h0; simp at h0
theorem waits_over {of : Int} (h : waitsK s bs of = true) : sumK 3 (taskAt s of).parts ≤ tot (waitsL s bs of) := by
  have hw := h
  unfold waitsK at hw
  simp only [Bool.and_eq_true] at hw
  have hk := (upTo_iff _ _).1 hw.2
  have e : waitsL s bs of = (List.range (partsOf s of).length).map (pW s bs of) := by unfold waitsL; rw [if_pos h]
  have all : ∀ n, n ≤ (partsOf s of).length → sumK 3 ((taskAt s of).parts.take n) ≤ tot ((List.range n).map (pW s bs of)) := fun n => by
    induction n with
    | zero => intro _; simp [sumK, tot]
    | succ n ih =>
      intro hn
      have h1 := ih (by omega)
      have hp : n < (taskAt s of).parts.length := hn
      rw [range_snoc, tot_append, sumK_snoc 3 _ n hp]
      have hq : (taskAt s of).parts.getD n default = partAt s of n := by unfold partAt taskAt; simp
      rw [hq]
      have h2 : (if (partAt s of n).kind = 3 then (partAt s of n).len else 0) ≤ pW s bs of n := by
        unfold pW
        have := hk n (by omega)
        unfold pK at this
        split
        · rename_i e3; rw [if_pos e3] at this; exact wait_own this
        · exact Int.le_refl _
      simp only [tot]
      omega
  have := all _ (Nat.le_refl _)
  rw [e]
  rw [show (taskAt s of).parts.take (partsOf s of).length = (taskAt s of).parts from List.take_length] at this
  exact this
/-- nor are the soonest bounds over them -/
theorem soon_under (h : holdsV s bs = true) : ∀ k, (soonL s).getD k 0 ≤ bs.getD k 0 := by
  obtain ⟨ho, hb, hh⟩ := holds_split h
  intro k
  by_cases hk : k < s.tasks.length
  · obtain ⟨h1, h2, _⟩ := hh k hk
    have h3 := next_own h1
    have h4 := (nextK_true.1 h1).1
    have h5 := waits_over h4
    have hg := (Good.of ho).parts (s.tasks.getD k default) (getD_mem hk)
    have e : (soonL s).getD k 0 = allK (s.tasks.getD k default).parts := by unfold soonL; simp [List.getD, hk]
    have et : (taskAt s (k : Nat)).parts = (s.tasks.getD k default).parts := by unfold taskAt; simp
    have ek := allK_is hg.good
    rw [e, ek, ← et]
    unfold ownV at h3
    rw [if_pos h4] at h3
    omega
  · have e1 : (soonL s).getD k 0 = 0 := by simp [List.getD, soonL, show s.tasks[k]? = none by simp; omega]
    have e2 : bs.getD k 0 = 0 := by simp [List.getD, show bs[k]? = none by simp; omega]
    rw [e1, e2]; exact Int.le_refl _
/-- the told bounds are the least that hold -/
theorem least_of (hE : anE s = 0) (h : holdsV s bs = true) : ∀ k, (anB s).getD k 0 ≤ bs.getD k 0 := by
  obtain ⟨ho, h0⟩ := anE_zero hE
  rw [(anB_rest hE).1]
  exact set_under h 200 _ (soonL_len s) (nn_of fun n hn => (soonL_ok ho n hn).1) (soon_under h) h0
end
end Go.Proofs.Ytlbaohefappfoaa

namespace Go.Proofs.Ytlbaohefappfoaa
open Go.ChangeShapes Go.WideShapes Go.ChangeAt Go.RowKit
set_option linter.unusedVariables false
theorem allK_pos {ps : List PartM} (h : LenOk ps) (hl : 1 ≤ ps.length) : 1 ≤ allK ps := by
  cases ps with
  | nil => simp at hl
  | cons p ps =>
    have h1 := h p (by simp)
    have h2 := (allK_bd (ps := ps) (fun q hq => h q (by simp [hq]))).1
    simp only [allK]; omega
theorem next_pos {s : SetR} {bs : List Int} {i : Nat} (ho : okS s = true) (hi : i < s.tasks.length) (h : nextK s bs i = true) : 1 ≤ nextV s bs i := by
  have h3 := next_own h
  have h4 := (nextK_true.1 h).1
  have h5 := waits_over h4
  have hg := (Good.of ho).parts (s.tasks.getD i default) (getD_mem hi)
  have et : (taskAt s (i : Nat)).parts = (s.tasks.getD i default).parts := by unfold taskAt; simp
  have ek := allK_is hg.good
  have e1 := allK_pos hg.lens hg.len.1
  rw [← et] at ek e1
  unfold ownV at h3
  rw [if_pos h4] at h3
  omega
/-- the told bounds hold -/
theorem told_holds {s : SetR} (h : anE s = 0) : holdsV s (anB s) = true := by
  obtain ⟨h1, h2, h3, h4⟩ := anB_rest h
  have ho := (anE_zero h).1
  unfold holdsV
  rw [ho, decide_eq_true h4, Bool.true_and, Bool.true_and, upTo_iff]
  intro i hi
  have e := (upTo_iff _ _).1 h2 i hi
  unfold stepB at e
  simp only [Bool.and_eq_true, decide_eq_true_eq] at e
  have ev : nextV s (anB s) i = (anB s).getD i 0 := by rw [← nextRow_at hi, h3]
  have hp := next_pos ho hi e.1
  unfold holdB
  rw [e.1, ev]
  rw [ev] at hp e
  simp only [Bool.true_and, Bool.and_eq_true, decide_eq_true_eq]
  exact ⟨Int.le_refl _, hp, e.2⟩
/-- each told bound is just what comes of all of them, within its deadline; its waits are told -/
theorem told_at {s : SetR} (h : anE s = 0) {i : Nat} (hi : i < s.tasks.length) : nextK s (anB s) i = true ∧ nextV s (anB s) i = (anB s).getD i 0 ∧ (anB s).getD i 0 ≤ (s.tasks.getD i default).dl ∧ waitsK s (anB s) i = true ∧ (anW s).getD i [] = waitsL s (anB s) i ∧ 1 ≤ (anB s).getD i 0 := by
  obtain ⟨h1, h2, h3, h4⟩ := anB_rest h
  have e := (upTo_iff _ _).1 h2 i hi
  unfold stepB at e
  simp only [Bool.and_eq_true, decide_eq_true_eq] at e
  have ev : nextV s (anB s) i = (anB s).getD i 0 := by rw [← nextRow_at hi, h3]
  have hp := next_pos (anE_zero h).1 hi e.1
  refine ⟨e.1, ev, by rw [← ev]; exact e.2, (nextK_true.1 e.1).1, ?_, by rw [← ev]; exact hp⟩
  unfold anW
  rw [if_pos h, h1]
  simp [List.getD, hi]
theorem anW_len {s : SetR} (h : anE s = 0) : (anW s).length = s.tasks.length := by unfold anW; rw [if_pos h]; simp
/-- bounds that are nowhere above the told ones, and somewhere below, don't hold -/
theorem lower_not {s : SetR} {cs : List Int} (h : anE s = 0) {i : Nat} (hi : cs.getD i 0 < (anB s).getD i 0) : holdsV s cs = false := by
  rw [Bool.eq_false_iff]
  intro hh
  have := least_of h hh i
  omega
end Go.Proofs.Ytlbaohefappfoaa

namespace Go.Proofs.Ytlbaohefappfoaa
open Go.ChangeShapes Go.WideShapes Go.ChangeAt Go.RowKit
set_option linter.unusedVariables false
def FewP18 (w : World) (e : Ending) (w' : World) : Prop := (∃ b : Bool, e = .returned (.bool b)) ∧ Below w.heap.size w w'
set_option maxRecDepth 100000 in
theorem few18_any (s : SetR) (w : World) (hs : SetOk w s) : Calls Try.prog 9 #[.agg #[.int .i64 s.proto, .slice s.ca s.cores.length s.cc, .slice s.ha s.homes.length s.hc, .slice s.ta s.tasks.length s.tc]] w (FewP18 w) := by
  have hb := (Below.refl w.heap.size w).alloc (Nat.le_refl _) (.cells #[.int .i64 s.proto, .slice s.ca s.cores.length s.cc, .slice s.ha s.homes.length s.hc, .slice s.ta s.tasks.length s.tc] 25)
  have CB := hidp (SetCells.new w s 25)
  have l1 : s.tasks.length ≤ maxLen := Nat.le_trans hs.tasks.sl.2.1 hs.tasks.sl.2.2
  have l2 : s.cores.length ≤ maxLen := Nat.le_trans hs.cores.sl.2.1 hs.cores.sl.2.2
  have l3 : s.homes.length ≤ maxLen := Nat.le_trans hs.homes.sl.2.1 hs.homes.sl.2.2
  unfold maxLen at l1 l2 l3
  have HR := hidp hs.tasks.at_
  have Hok := hidp hs.tasks.ok
  clear hs
  obtain ⟨proto, ca, cc, cores, ha, hc, homes, ta, tc, tasks⟩ := s
  dsimp only at HR Hok l1 l2 l3 hb ⊢
  have F : ∀ b : Bool, ∀ w', Below w.heap.size w w' → FewP18 w (.returned (.bool b)) w' := fun b w' h => ⟨⟨b, rfl⟩, h⟩
  have HF := hidp F
  clear F
  have hc0 : (8 : Int) < (cores.length : Int) ∨ ¬ (8 : Int) < (cores.length : Int) ∧ (10 : Int) < (homes.length : Int) ∨ ¬ (8 : Int) < (cores.length : Int) ∧ ¬ (10 : Int) < (homes.length : Int) ∧ (9 : Int) < (tasks.length : Int) ∨ ¬ (8 : Int) < (cores.length : Int) ∧ ¬ (10 : Int) < (homes.length : Int) ∧ ¬ (9 : Int) < (tasks.length : Int) := by omega
  rcases hc0 with h | ⟨h, g⟩ | ⟨h, g, f⟩ | ⟨h, g, f⟩
  · go_enter Try.func9, Try.ntmps9
    go_wp2
    go_ret
    exact HF.out _ _ hb
  · go_enter Try.func9, Try.ntmps9
    go_wp2
    go_ret
    exact HF.out _ _ hb
  · go_enter Try.func9, Try.ntmps9
    go_wp2
    go_ret
    exact HF.out _ _ hb
  · go_enter Try.func9, Try.ntmps9
    go_wp2
    go_loopg [3] tasks.length (fun gg i wr => ∃ k : Nat, k + gg = tasks.length ∧ i = .int .i64 k ∧ SetCells wr w.heap.size ⟨proto, ca, cc, cores, ha, hc, homes, ta, tc, tasks⟩ ∧ Below w.heap.size w wr)
    case atStart => exact ⟨0, by omega, rfl, CB.out, hb⟩
    case round =>
      obtain ⟨k, hk, rfl, sc, hw⟩ := hrel
      have sc2 := sc
      obtain ⟨c0, c1, c2, c3⟩ := sc2
      dsimp only at c0 c1 c2 c3
      by_cases hlt : k < tasks.length
      · obtain ⟨g0, off, hA, hcl⟩ := HR.out.resolve_left (by intro e; rw [e] at hlt; simp at hlt)
        subst hA
        obtain ⟨t, HT⟩ : ∃ t, Hid (tasks.getD k default = t) := ⟨_, rfl⟩
        have tcl := (HT.out ▸ hcl k hlt).keep (Keeps.of_below hw)
        obtain ⟨d0, _, _, _, _, d5⟩ := tcl
        have hok := Hok.out t (HT.out ▸ getD_mem hlt)
        have n1 := hok.name
        have n2 : t.parts.length ≤ maxLen := Nat.le_trans hok.sl.2.1 hok.sl.2.2
        unfold maxLen at n1 n2
        clear hcl hok
        by_cases z1 : (20 : Int) < (t.name.size : Int)
        · go_wp2
          go_ret
          exact HF.out _ _ hw
        · by_cases z2 : (10 : Int) < (t.parts.length : Int)
          · go_wp2
            go_ret
            exact HF.out _ _ hw
          · go_wp2
            go_roundg (gk - 1)
            case measure => omega
            case rel => exact ⟨k + 1, by omega, by go_num, sc, hw⟩
      · go_wp2
        go_ret
        exact HF.out _ _ hw

end Go.Proofs.Ytlbaohefappfoaa

set_option linter.unusedSimpArgs false
namespace Go.Proofs.Ytlbaohefappfoaa
/-- bounds that are turned below number k alone -/
structure LowB (bs : List Int) (k : Nat) (tb : Bool) (lo : List Int) : Prop where
  len : lo.length = bs.length
  rest : ∀ j, k ≤ j → lo.getD j 0 = bs.getD j 0
  i64 : ∀ n ∈ lo, I64 n
  some : tb = true → ∃ j, lo.getD j 0 < bs.getD j 0
theorem LowB.skip {bs lo : List Int} {k : Nat} {tb : Bool} (h : LowB bs k tb lo) : LowB bs (k + 1) tb lo := ⟨h.len, fun j hj => h.rest j (by omega), h.i64, h.some⟩
theorem LowB.step {bs lo : List Int} {k : Nat} {tb : Bool} {x m : Int} (h : LowB bs k tb lo) (hk : k < bs.length) (hx : bs.getD k 0 = x) (hm : I64 m) : LowB bs (k + 1) (tb || decide (m < x)) (lo.set k m) := by
  have hl : k < lo.length := by rw [h.len]; exact hk
  have e1 : (lo.set k m).getD k 0 = m := by simp [List.getD, hl]
  have e2 : ∀ j, j ≠ k → (lo.set k m).getD j 0 = lo.getD j 0 := fun j hj => by simp [List.getD, List.getElem?_set, Ne.symm hj]
  refine ⟨by rw [List.length_set]; exact h.len, fun j hj => by rw [e2 j (by omega)]; exact h.rest j (by omega), fun n hn => ?_, fun ht => ?_⟩
  · rcases List.mem_or_eq_of_mem_set hn with h1 | h1
    · exact h.i64 n h1
    · rw [h1]; exact hm
  · cases tb with
    | true =>
      obtain ⟨j, hj⟩ := h.some rfl
      have hjk : j ≠ k := fun e => by subst e; rw [h.rest j (Nat.le_refl _)] at hj; omega
      exact ⟨j, by rw [e2 j hjk]; exact hj⟩
    | false =>
      have hd : m < x := by simpa using ht
      exact ⟨k, by rw [e1, hx]; exact hd⟩
theorem rows_get {rs : List RowR} {k : Nat} (hk : k < rs.length) : (rs.map RowR.zs).getD k [] = (rs.getD k default).zs := by simp [List.getD, hk]
end Go.Proofs.Ytlbaohefappfoaa
set_option maxHeartbeats 8000000
set_option maxRecDepth 100000
namespace Go.Proofs.Ytlbaohefappfoaa.admitHolds
open Go.ChangeShapes Go.WideShapes Go.ChangeAt Go.RowKit
open Go.ChangeMaps (open_string shut_string)
set_option linter.unusedVariables false

/-- THE WALK: the Go text returns true, and writes nothing that was there. -/
theorem walk (s0 : SetR) (a1 : Option Addr) (len1 cap1 : Nat) (z1 : List Int) (w : World) (w0 : SetOk w s0) (w1 : IsRow .u8 w a1 len1 cap1 z1) :
    Calls Try.prog 3 #[.agg #[.int .i64 s0.proto, .slice s0.ca s0.cores.length s0.cc, .slice s0.ha s0.homes.length s0.hc, .slice s0.ta s0.tasks.length s0.tc], .slice a1 len1 cap1] w fun e w' => e = .returned (.bool true) ∧ Below w.heap.size w w' := by
  have hb := (Below.refl w.heap.size w).alloc (Nat.le_refl _) (.cells #[.int .i64 s0.proto, .slice s0.ca s0.cores.length s0.cc, .slice s0.ha s0.homes.length s0.hc, .slice s0.ta s0.tasks.length s0.tc] 25)
  have sc := SetCells.new w s0 25
  have hs := w0.keep (Keeps.of_below hb)
  obtain ⟨hls0, hll, hlm, hlw⟩ := w1.row
  obtain ⟨ls, hls⟩ : ∃ ls, z1.take len1 = ls := ⟨_, rfl⟩
  rw [hls] at hls0 hll hlw
  subst hll
  unfold maxLen at hlm
  have hl := hls0.mono (Keeps.of_below hb)
  have HLW := hidp hlw
  have hlmI : (ls.length : Int) ≤ 9223372036854775807 := by omega
  clear w0 w1 hls0 hls hlw
  obtain ⟨E, HE⟩ : ∃ E, Hid (anE s0 = E) := ⟨_, hidp rfl⟩
  obtain ⟨i0, hi0, hy0, hy1, hy2⟩ := info_parts infoZ
  obtain ⟨proto, ca, cc, cores, ha, hc, homes, ta, tc, tasks⟩ := s0
  try dsimp only at hb sc hs ⊢
  go_enter Try.func3, Try.ntmps3
  go_wp2_with fail
  refine (known18_any _).mono ?_
  rintro e u1 ⟨rfl, hb2⟩
  replace hb := hb.trans (hb2.mono hb.size)
  replace sc := sc.keep (Keeps.of_below hb2)
  replace hs := hs.keep (Keeps.of_below hb2)
  replace hl := hl.keep (Keeps.of_below hb2)
  clear hb2
  try clear sc_0 sc_1 sc_2 sc_3
  have scx := sc
  obtain ⟨sc_0, sc_1, sc_2, sc_3⟩ := scx
  try dsimp only at sc_0 sc_1 sc_2 sc_3
  go_wp2_with fail
  refine (few18_any _ _ hs).mono ?_
  rintro e u2 ⟨⟨b, rfl⟩, hb2⟩
  replace hb := hb.trans (hb2.mono hb.size)
  replace sc := sc.keep (Keeps.of_below hb2)
  replace hs := hs.keep (Keeps.of_below hb2)
  replace hl := hl.keep (Keeps.of_below hb2)
  clear hb2
  try clear sc_0 sc_1 sc_2 sc_3
  have scx := sc
  obtain ⟨sc_0, sc_1, sc_2, sc_3⟩ := scx
  try dsimp only at sc_0 sc_1 sc_2 sc_3
  cases b
  · go_wp2_with fail
    go_ret
    exact ⟨rfl, hb⟩
  go_wp2_with fail
  refine (analyze_any _ _ hs).mono ?_
  rintro e u3 ⟨⟨v, rfl, hv, h1, h2, h3⟩, hb2⟩
  replace hb := hb.trans (hb2.mono hb.size)
  replace sc := sc.keep (Keeps.of_below hb2)
  replace hs := hs.keep (Keeps.of_below hb2)
  replace hl := hl.keep (Keeps.of_below hb2)
  clear hb2
  rw [HE.out] at h1 ⊢
  obtain ⟨ok, ba, bc, bs, wa, wc, rs⟩ := v
  try dsimp only at h1 h2 h3 hv ⊢
  have kv := Keeps.alloc u3 (.cells #[.bool ok, .slice ba bs.length bc, .slice wa rs.length wc] 31)
  have bv := Y3 (Bk.new u3 31 #[.bool ok, .slice ba bs.length bc, .slice wa rs.length wc])
  replace hb := hb.alloc hb.size (.cells #[.bool ok, .slice ba bs.length bc, .slice wa rs.length wc] 31)
  replace hv := hv.keep kv
  replace hs := hs.keep kv
  replace sc := sc.keep kv
  replace hl := hl.keep kv
  clear kv sc_0 sc_1 sc_2 sc_3
  by_cases e0 : E = 0
  · have hE := HE.out
    rw [e0] at hE
    have ho := (anE_zero hE).1
    have n6 := (Good.of ho).ntasks
    have lw := anW_len hE
    obtain ⟨_, _, _, lb⟩ := anB_rest hE
    rw [← h2] at lb
    rw [← h3, List.length_map] at lw
    try dsimp only at n6 lw lb
    have e1 : (E != 0) = false := by rw [e0]; rfl
    obtain rfl : ok = true := by rw [h1, e0]; rfl
    have d1 : ((bs.length : Int) != (tasks.length : Int)) = false := by rw [lb]; simp
    have d2 : ((rs.length : Int) != (tasks.length : Int)) = false := by rw [lw]; simp
    have Hho := hidp ho
    have Htold : Hid (holdsV ⟨proto, ca, cc, cores, ha, hc, homes, ta, tc, tasks⟩ bs = true) := hidp (by rw [h2]; exact told_holds hE)
    have Hat := hidp (fun i (hi : i < tasks.length) => told_at (s := ⟨proto, ca, cc, cores, ha, hc, homes, ta, tc, tasks⟩) (i := i) hE hi)
    rw [← h2, ← h3] at Hat
    have Hlow : Hid (∀ cs j, cs.getD j 0 < bs.getD j 0 → holdsV ⟨proto, ca, cc, cores, ha, hc, homes, ta, tc, tasks⟩ cs = false) := hidp (fun cs j hj => lower_not hE (by rw [← h2]; exact hj))
    have LB := hidp lb
    have LW := hidp lw
    obtain ⟨gb, ob, hBA, _⟩ := hv.bounds.at_.resolve_left (by intro e; have := congrArg List.length e; simp at this; subst this; simp at lb; omega)
    try dsimp only at hBA
    subst hBA
    obtain ⟨gw, ow, hWA, _⟩ := hv.at_.resolve_left (by intro e; have := congrArg List.length e; simp at this; subst this; simp at lw; omega)
    try dsimp only at hWA
    subst hWA
    obtain ⟨gt, ot, hTA, _⟩ := hs.tasks.at_.resolve_left (by intro e; have := congrArg List.length e; simp at this; subst this; simp at n6)
    try dsimp only at hTA
    subst hTA
    clear hE h1 h2 h3 ho lb lw e0
    obtain ⟨bv_0, bv_1, bv_2⟩ := id bv
    obtain ⟨sc_0, sc_1, sc_2, sc_3⟩ := id sc
    try dsimp only at bv_0 bv_1 bv_2 sc_0 sc_1 sc_2 sc_3
    go_wp2_with fail
    refine (rok_any _ _ hs).mono ?_
    rintro e u4 ⟨rfl, hb2⟩
    replace hb := hb.trans (hb2.mono hb.size)
    replace sc := sc.keep (Keeps.of_below hb2)
    replace hs := hs.keep (Keeps.of_below hb2)
    replace hl := hl.keep (Keeps.of_below hb2)
    replace hv := hv.keep (Keeps.of_below hb2)
    replace bv := And.intro (Keeps.of_below hb2 _ _ bv.1) (And.intro (Keeps.of_below hb2 _ _ bv.2.1) (Keeps.of_below hb2 _ _ bv.2.2))
    clear hb2
    try clear sc_0 sc_1 sc_2 sc_3
    have scx := sc
    obtain ⟨sc_0, sc_1, sc_2, sc_3⟩ := scx
    try dsimp only at sc_0 sc_1 sc_2 sc_3
    rw [Hho.out]
    clear bv_0 bv_1 bv_2
    obtain ⟨bv_0, bv_1, bv_2⟩ := id bv
    go_wp2_with fail
    refine (holds_any _ bs _ bc _ hs hv.bounds).mono ?_
    rintro e u5 ⟨rfl, hb2⟩
    replace hb := hb.trans (hb2.mono hb.size)
    replace sc := sc.keep (Keeps.of_below hb2)
    replace hs := hs.keep (Keeps.of_below hb2)
    replace hl := hl.keep (Keeps.of_below hb2)
    replace hv := hv.keep (Keeps.of_below hb2)
    replace bv := And.intro (Keeps.of_below hb2 _ _ bv.1) (And.intro (Keeps.of_below hb2 _ _ bv.2.1) (Keeps.of_below hb2 _ _ bv.2.2))
    clear hb2
    try clear sc_0 sc_1 sc_2 sc_3
    have scx := sc
    obtain ⟨sc_0, sc_1, sc_2, sc_3⟩ := scx
    try dsimp only at sc_0 sc_1 sc_2 sc_3
    rw [Htold.out]
    clear bv_0 bv_1 bv_2
    obtain ⟨bv_0, bv_1, bv_2⟩ := id bv
    have N2 : Hid (0 + bs.length ≤ maxLen) := hidp (by rw [LB.out]; unfold maxLen; omega)
    have T2 : Hid ((0 + bs.length) * 8 ≤ 140737488355328) := hidp (by rw [LB.out]; omega)
    have Q2 : Hid ((some ⟨gb, ob, none⟩ : Option Addr) = none → bs.length = 0 ∧ bc = 0) := hidp hv.bounds.sl.1
    have L2 : Hid ((bs.map (Value.int .i64)).length = bs.length * 1) := hidp (by simp)
    have S2 := hidp (Row.lies hv.bounds.at_)
    have O2 : Hid (∀ u ∈ bs.map (Value.int .i64), u.oneCell' = true) := hidp (fun u hu => by obtain ⟨n, _, rfl⟩ := List.mem_map.1 hu; rfl)
    go_wp2_with (at_builtin; (refine wpList_app2 _ rfl (.const (.slice none 0 0)) (.tmp 76) 22 rfl u5.heap.size 3 i0 _ 1 8 Try.underlying22 hi0 hy0 hy1 hy2 rfl (by decide) none 0 0 [] rfl (World.ownsRow_nil _ _ _ _) _ _ bs.length bc (bs.map (Value.int .i64)) rfl Q2.out L2.out S2.out O2.out N2.out T2.out (Nat.le_refl _) ?_; intro A d u6 happ; simp only [Nat.zero_add, List.nil_append] at happ; simp only [Nat.zero_add]))
    have oN : OwnN u5.heap.size u6 A bs.length d bs := ⟨happ.own, rfl, happ.cap, happ.nil⟩
    obtain ⟨g, hA, hg1, hg2⟩ := own_at happ.own (by rw [LB.out]; omega)
    subst hA
    have hbu := happ.turned.below (Nat.le_refl u5.heap.size) (by simp [fp])
    have HS5 := hidp hs
    have HV5 := hidp hv
    have HC5 := hidp sc
    have HBV5 := hidp bv
    have HL5 := hidp hl
    have HB5 := hidp hb
    have HL0 : Hid (LowB bs 0 false bs) := hidp ⟨rfl, fun _ _ => rfl, hv.bounds.wf, fun h => by cases h⟩
    clear happ S2 hs hl hv bv sc hb bv_0 bv_1 bv_2 sc_0 sc_1 sc_2 sc_3 N2 T2 Q2 L2 O2 hi0 hy0 hy1 hy2 hg2
    go_loopg [8, 9] bs.length (fun gg tb i wr => ∃ (k : Nat) (q : Bool) (lo : List Int), k + gg = bs.length ∧ i = .int .i64 k ∧ tb = .bool q ∧ Hid (LowB bs k q lo) ∧ OwnN u5.heap.size wr (some ⟨g, 0, none⟩) bs.length d lo ∧ Below u5.heap.size u5 wr)
    case atStart => exact ⟨0, false, bs, by omega, rfl, rfl, HL0, oN, hbu⟩
    case round =>
      clear oN hbu HL0
      obtain ⟨k, q, lo, hk, rfl, rfl, Hlo, oN, hbu⟩ := hrel
      have sc := HC5.out.keep (Keeps.of_below hbu)
      have bv := HBV5.out
      replace bv := And.intro (Keeps.of_below hbu _ _ bv.1) (And.intro (Keeps.of_below hbu _ _ bv.2.1) (Keeps.of_below hbu _ _ bv.2.2))
      have hs := HS5.out.keep (Keeps.of_below hbu)
      have hv := HV5.out.keep (Keeps.of_below hbu)
      obtain ⟨sc_0, sc_1, sc_2, sc_3⟩ := id sc
      obtain ⟨bv_0, bv_1, bv_2⟩ := id bv
      try dsimp only at sc_0 sc_1 sc_2 sc_3 bv_0 bv_1 bv_2
      by_cases hlt : k < bs.length
      · have hkt : k < tasks.length := by rw [← LB.out]; exact hlt
        have hkr : k < rs.length := by rw [LW.out]; exact hkt
        obtain ⟨m1, m2, m3, m4, m5, m6⟩ := Hat.out k hkt
        rw [rows_get hkr] at m5
        try dsimp only at m3
        obtain ⟨t, HT⟩ : ∃ t, Hid (tasks.getD k default = t) := ⟨_, rfl⟩
        obtain ⟨x, Hx⟩ : ∃ x, Hid (bs.getD k 0 = x) := ⟨_, rfl⟩
        obtain ⟨r, Hr⟩ : ∃ r, Hid (rs.getD k default = r) := ⟨_, rfl⟩
        have hx2 := nextV_bd ⟨proto, ca, cc, cores, ha, hc, homes, some ⟨gt, ot, none⟩, tc, tasks⟩ bs k
        rw [m2, Hx.out] at hx2
        rw [Hx.out] at m2 m3 m6
        rw [HT.out] at m3
        rw [Hr.out] at m5
        obtain ⟨x0, x1⟩ := hx2
        have hd : decide (t.dl < x) = false := decide_eq_false (by omega)
        have hrok := hv.rows r (Hr.out ▸ getD_mem hkr)
        have Hbc : Hid (wr.cell? ⟨gb, ob + k, none⟩ = some (.int .i64 x)) := hidp (by
          obtain ⟨b, off, e, hc⟩ := hv.bounds.at_.resolve_left (by intro e; dsimp only at e; rw [e] at hlt; simp at hlt)
          cases e
          exact Hx.out ▸ hc k hlt)
        have Hrc : Hid (wr.cell? ⟨gw, ow + k, none⟩ = some r.val) := hidp (by
          obtain ⟨b, off, e, hc⟩ := hv.at_.resolve_left (by intro e; dsimp only at e; rw [e] at hkr; simp at hkr)
          cases e
          exact Hr.out ▸ hc k hkr)
        have Htc : Hid (wr.cell? ⟨gt, ot + k * 6 + 2, none⟩ = some (.int .i64 t.dl)) := hidp (by
          obtain ⟨b, off, e, hc⟩ := hs.tasks.at_.resolve_left (by intro e; dsimp only at e; rw [e] at hkt; simp at hkt)
          cases e
          exact (HT.out ▸ hc k hkt).2.2.1)
        obtain ⟨ra, rc, zs⟩ := r
        try dsimp only at m5 hrok
        simp only [RowR.val] at Hrc
        have HN := next_any ⟨proto, ca, cc, cores, ha, hc, homes, some ⟨gt, ot, none⟩, tc, tasks⟩ bs _ bc k _ hs hv.bounds
        rw [m1, m2] at HN
        have HB5b := hidp hv.bounds
        have kI : (k : Int) < (bs.length : Int) := by omega
        have kR : (k : Int) < (rs.length : Int) := by omega
        have kT : (k : Int) < (tasks.length : Int) := by omega
        have Hm3 := hidp m3
        have Hm6 := hidp m6
        have M4 := hidp m4
        have M5 := hidp m5
        have hrow := hrok.at_
        have hzl : zs.length ≤ 9223372036854775807 := Nat.le_trans hrok.sl.2.1 hrok.sl.2.2
        clear m1 m2 m3 m4 m5 m6 hrok
        go_wp2_with fail
        refine HN.mono ?_
        rintro e u7 ⟨rfl, hb2⟩
        have kk := Keeps.of_below hb2
        replace hbu := hbu.trans (hb2.mono hbu.size)
        replace oN := oN.turned (Turned.of_below hb2 []) (by simp)
        replace sc := sc.keep kk
        replace hs := hs.keep kk
        replace hv := hv.keep kk
        replace hrow := hrow.mono kk
        replace bv := And.intro (kk _ _ bv.1) (And.intro (kk _ _ bv.2.1) (kk _ _ bv.2.2))
        have Hbc2 := hidp (kk _ _ Hbc.out)
        have Hrc2 := hidp (kk _ _ Hrc.out)
        have Htc2 := hidp (kk _ _ Htc.out)
        clear hb2 kk HN Hbc Hrc Htc bv_0 bv_1 bv_2 sc_0 sc_1 sc_2 sc_3 HB5b
        obtain ⟨bv_0, bv_1, bv_2⟩ := id bv
        obtain ⟨sc_0, sc_1, sc_2, sc_3⟩ := id sc
        try dsimp only at sc_0 sc_1 sc_2 sc_3 bv_0 bv_1 bv_2
        have HW := wall_any ⟨proto, ca, cc, cores, ha, hc, homes, some ⟨gt, ot, none⟩, tc, tasks⟩ bs _ bc k _ hs hv.bounds
        rw [M4.out, ← M5.out] at HW
        go_wp2_with fail
        refine HW.mono ?_
        rintro e u8 ⟨C, dC, rfl, hC, hb2⟩
        have kk := Keeps.of_below hb2
        replace hbu := hbu.trans (hb2.mono hbu.size)
        replace oN := oN.turned (Turned.of_below hb2 []) (by simp)
        replace sc := sc.keep kk
        replace hs := hs.keep kk
        replace hv := hv.keep kk
        replace hrow := hrow.mono kk
        replace bv := And.intro (kk _ _ bv.1) (And.intro (kk _ _ bv.2.1) (kk _ _ bv.2.2))
        have hbc := kk _ _ Hbc2.out
        have hrc := kk _ _ Hrc2.out
        have htc := kk _ _ Htc2.out
        have hCrow := hC.at_
        clear hb2 kk HW Hbc2 Hrc2 Htc2 bv_0 bv_1 bv_2 sc_0 sc_1 sc_2 sc_3 hC
        obtain ⟨bv_0, bv_1, bv_2⟩ := id bv
        obtain ⟨sc_0, sc_1, sc_2, sc_3⟩ := id sc
        try dsimp only at sc_0 sc_1 sc_2 sc_3 bv_0 bv_1 bv_2
        go_wp2_with fail
        clear bv_0 bv_1 bv_2 sc_0 sc_1 sc_2 sc_3 sc hs hv bv htc hd
        go_loopg [14] zs.length (fun g2 i w5 => ∃ j : Nat, j + g2 = zs.length ∧ i = .int .i64 j ∧ Row w5 .i64 C zs ∧ Row w5 .i64 ra zs ∧ w5.cell? ⟨gw, ow + k, none⟩ = some (.slice ra zs.length rc) ∧ w5.cell? ⟨gb, ob + k, none⟩ = some (.int .i64 x) ∧ OwnN u5.heap.size w5 (some ⟨g, 0, none⟩) bs.length d lo ∧ Below u5.heap.size u5 w5)
        case atStart => exact ⟨0, by omega, rfl, hCrow, hrow, hrc, hbc, oN, hbu⟩
        case round =>
          as_aux_lemma =>
          clear hCrow hrow hrc hbc oN hbu
          obtain ⟨j, hj, rfl, hC, hR, hrc, hbc, oN, hbu⟩ := hrel
          have bv := HBV5.out
          replace bv := And.intro (Keeps.of_below hbu _ _ bv.1) (And.intro (Keeps.of_below hbu _ _ bv.2.1) (Keeps.of_below hbu _ _ bv.2.2))
          obtain ⟨bv_0, bv_1, bv_2⟩ := id bv
          try dsimp only at bv_0 bv_1 bv_2
          by_cases hlt2 : j < zs.length
          · as_aux_lemma =>
            have HCk := hidp hC
            have HRk := hidp hR
            obtain ⟨gC, oC, eC, hcC⟩ := hC.resolve_left (by intro e; rw [e] at hlt2; simp at hlt2)
            obtain ⟨gR, oR, eR, hcR⟩ := hR.resolve_left (by intro e; rw [e] at hlt2; simp at hlt2)
            subst eC
            subst eR
            obtain ⟨y, Hy⟩ : ∃ y, Hid (zs.getD j 0 = y) := ⟨_, rfl⟩
            have y1 := Hy.out ▸ hcC j hlt2
            have y2 := Hy.out ▸ hcR j hlt2
            have jI : (j : Int) < (zs.length : Int) := by omega
            have kR : (k : Int) < (rs.length : Int) := by omega
            have jn : (j : Int) + 1 ≤ 9223372036854775807 := by omega
            clear hcC hcR hC hR
            go_wp2_with fail
            have hsS : wr.drew.cell? ⟨gC, oC + j, none⟩ = some (.int .i64 y) ∧ wr.drew.cell? ⟨gR, oR + j, none⟩ = some (.int .i64 y) ∧ wr.drew.cell? ⟨gw, ow + k, none⟩ = some (.slice (some ⟨gR, oR, none⟩) zs.length rc) ∧ wr.drew.cell? ⟨u3.heap.size, 2, none⟩ = some (.slice (some ⟨gw, ow, none⟩) rs.length wc) := ⟨y1, y2, hrc, bv_2⟩
            refine wp_region_held_drew (S := fun w' => w'.cell? ⟨gC, oC + j, none⟩ = some (.int .i64 y) ∧ w'.cell? ⟨gR, oR + j, none⟩ = some (.int .i64 y) ∧ w'.cell? ⟨gw, ow + k, none⟩ = some (.slice (some ⟨gR, oR, none⟩) zs.length rc) ∧ w'.cell? ⟨u3.heap.size, 2, none⟩ = some (.slice (some ⟨gw, ow, none⟩) rs.length wc)) (by kernel_rfl) ?_ (fun hHeld => ?_)
            · exact hsS
            refine wpAnyH_take (i := 0) (v := ?_) rfl (by kernel_rfl) (by kernel_rfl) (by kernel_rfl) (fun _ _ _ h => h) (Or.inl ⟨by rfl, ?_⟩) (by assumption) ?_
            rotate_left 1
            · ((intro w hSw; (try dsimp only at hSw); go_simp); (try with_reducible rfl))
            simp only [Act.put, List.setIfInBounds_toArray, List.set_cons_zero, List.set_cons_succ, List.getElem_toArray, List.getElem_cons_zero, List.getElem_cons_succ]
            refine wpAnyH_take (i := 1) (v := ?_) rfl (by kernel_rfl) (by kernel_rfl) (by kernel_rfl) (fun _ _ _ h => h) (Or.inl ⟨by rfl, ?_⟩) (by assumption) ?_
            rotate_left 1
            · ((intro w hSw; (try dsimp only at hSw); go_simp); (try with_reducible rfl))
            simp only [Act.put, List.setIfInBounds_toArray, List.set_cons_zero, List.set_cons_succ, List.getElem_toArray, List.getElem_cons_zero, List.getElem_cons_succ]
            refine wpAnyH_take (i := 2) (v := ?_) rfl (by kernel_rfl) (by kernel_rfl) (by kernel_rfl) (fun _ _ _ h => h) (Or.inl ⟨by rfl, ?_⟩) (by assumption) ?_
            rotate_left 1
            · ((intro w hSw; (try dsimp only at hSw); go_simp); (try with_reducible rfl))
            simp only [Act.put, List.setIfInBounds_toArray, List.set_cons_zero, List.set_cons_succ, List.getElem_toArray, List.getElem_cons_zero, List.getElem_cons_succ]
            refine wpAnyH_take (i := 3) (v := ?_) rfl (by kernel_rfl) (by kernel_rfl) (by kernel_rfl) (fun _ _ _ h => h) (Or.inl ⟨by rfl, ?_⟩) (by assumption) ?_
            rotate_left 1
            · ((intro w hSw; (try dsimp only at hSw); go_simp); (try with_reducible rfl))
            simp only [Act.put, List.setIfInBounds_toArray, List.set_cons_zero, List.set_cons_succ, List.getElem_toArray, List.getElem_cons_zero, List.getElem_cons_succ]
            refine wpAnyH_take (i := 4) (v := ?_) rfl (by kernel_rfl) (by kernel_rfl) (by kernel_rfl) (fun _ _ _ h => h) (Or.inl ⟨by rfl, ?_⟩) (by assumption) ?_
            rotate_left 1
            · ((intro w hSw; (try dsimp only at hSw); go_simp); (try with_reducible rfl))
            simp only [Act.put, List.setIfInBounds_toArray, List.set_cons_zero, List.set_cons_succ, List.getElem_toArray, List.getElem_cons_zero, List.getElem_cons_succ]
            refine wpAnyH_take (i := 5) (v := ?_) rfl (by kernel_rfl) (by kernel_rfl) (by kernel_rfl) (fun _ _ _ h => h) (Or.inl ⟨by rfl, ?_⟩) (by assumption) ?_
            rotate_left 1
            · ((intro w hSw; (try dsimp only at hSw); go_simp); (try with_reducible rfl))
            simp only [Act.put, List.setIfInBounds_toArray, List.set_cons_zero, List.set_cons_succ, List.getElem_toArray, List.getElem_cons_zero, List.getElem_cons_succ]
            refine wpAnyH_take (i := 6) (v := ?_) rfl (by kernel_rfl) (by kernel_rfl) (by kernel_rfl) (fun _ _ _ h => h) (Or.inl ⟨by rfl, ?_⟩) (by assumption) ?_
            rotate_left 1
            · ((intro w hSw; (try dsimp only at hSw); go_simp); (try with_reducible rfl))
            simp only [Act.put, List.setIfInBounds_toArray, List.set_cons_zero, List.set_cons_succ, List.getElem_toArray, List.getElem_cons_zero, List.getElem_cons_succ]
            refine wpAnyH_take (i := 7) (v := ?_) rfl (by kernel_rfl) (by kernel_rfl) (by kernel_rfl) (fun _ _ _ h => h) (Or.inl ⟨by rfl, ?_⟩) (by assumption) ?_
            rotate_left 1
            · ((intro w hSw; (try dsimp only at hSw); go_simp); (try with_reducible rfl))
            simp only [Act.put, List.setIfInBounds_toArray, List.set_cons_zero, List.set_cons_succ, List.getElem_toArray, List.getElem_cons_zero, List.getElem_cons_succ]
            refine wpAnyH_take (i := 8) (v := ?_) rfl (by kernel_rfl) (by kernel_rfl) (by kernel_rfl) (fun _ _ _ h => h) (Or.inl ⟨by rfl, ?_⟩) (by assumption) ?_
            rotate_left 1
            · ((intro w hSw; (try dsimp only at hSw); go_simp); (try with_reducible rfl))
            simp only [Act.put, List.setIfInBounds_toArray, List.set_cons_zero, List.set_cons_succ, List.getElem_toArray, List.getElem_cons_zero, List.getElem_cons_succ]
            refine wpAnyH_take (i := 9) (v := ?_) rfl (by kernel_rfl) (by kernel_rfl) (by kernel_rfl) (fun _ _ _ h => h) (Or.inl ⟨by rfl, ?_⟩) (by assumption) ?_
            rotate_left 1
            · ((intro w hSw; (try dsimp only at hSw); go_simp); (try with_reducible rfl))
            simp only [Act.put, List.setIfInBounds_toArray, List.set_cons_zero, List.set_cons_succ, List.getElem_toArray, List.getElem_cons_zero, List.getElem_cons_succ]
            refine wpAnyH_take (i := 10) (v := ?_) rfl (by kernel_rfl) (by kernel_rfl) (by kernel_rfl) (fun _ _ _ h => h) (Or.inl ⟨by rfl, ?_⟩) (by assumption) ?_
            rotate_left 1
            · ((intro w hSw; (try dsimp only at hSw); go_simp); (try with_reducible rfl))
            simp only [Act.put, List.setIfInBounds_toArray, List.set_cons_zero, List.set_cons_succ, List.getElem_toArray, List.getElem_cons_zero, List.getElem_cons_succ]
            refine wpAnyH_take (i := 11) (v := ?_) rfl (by kernel_rfl) (by kernel_rfl) (by kernel_rfl) (fun _ _ _ h => h) (Or.inl ⟨by rfl, ?_⟩) (by assumption) ?_
            rotate_left 1
            · ((intro w hSw; (try dsimp only at hSw); go_simp); (try with_reducible rfl))
            simp only [Act.put, List.setIfInBounds_toArray, List.set_cons_zero, List.set_cons_succ, List.getElem_toArray, List.getElem_cons_zero, List.getElem_cons_succ]
            refine wpAnyH_take (i := 12) (v := ?_) rfl (by kernel_rfl) (by kernel_rfl) (by kernel_rfl) (fun _ _ _ h => h) (Or.inl ⟨by rfl, ?_⟩) (by assumption) ?_
            rotate_left 1
            · ((intro w hSw; (try dsimp only at hSw); go_simp); (try with_reducible rfl))
            simp only [Act.put, List.setIfInBounds_toArray, List.set_cons_zero, List.set_cons_succ, List.getElem_toArray, List.getElem_cons_zero, List.getElem_cons_succ]
            refine wpAnyH_done (by kernel_rfl) ?_ _
            clear hHeld hsS
            go_wp2_with fail
            go_roundg (gk - 1)
            case measure => omega
            case rel => exact ⟨j + 1, by omega, by go_num, HCk.out.mono (Keeps.drew _), HRk.out.mono (Keeps.drew _), Keeps.drew _ _ _ hrc, Keeps.drew _ _ _ hbc, oN.turned (Turned.refl [] _).drew (by simp), hbu.drew⟩
          · obtain rfl : j = zs.length := by omega
            clear hC hR hlt2 hrc
            by_cases hkl : k < ls.length
            · have klI : (k : Int) < (ls.length : Int) := by omega
              obtain ⟨gl, ol, eL, hcl⟩ := (HL5.out.mono (Keeps.of_below hbu)).resolve_left (by intro e; rw [e] at hkl; simp at hkl)
              subst eL
              obtain ⟨b, Hb⟩ : ∃ b, Hid (ls.getD k 0 = b) := ⟨_, rfl⟩
              have lc := Hb.out ▸ hcl k hkl
              have hbw := HLW.out b (by rw [← Hb.out]; exact getD_mem (α := Int) hkl)
              have hb8 : 0 ≤ b ∧ b ≤ 255 := by simp [Lit.wf, IntKind.min, IntKind.max, IntKind.signed, IntKind.bits] at hbw; omega
              obtain ⟨b0, b1⟩ := hb8
              clear hcl hbw
              by_cases hbp : 0 < b
              · as_aux_lemma =>
                obtain ⟨m, hm⟩ : ∃ m, max (1 : Int) (x - b) = m := ⟨_, rfl⟩
                have hm64 : I64 m := by unfold I64; omega
                have Hm := hidp hm
                clear hm
                have hw1 : IntKind.i64.wrap b = b := IntWalk.i64_in _ (by omega)
                have hw2 : IntKind.i64.wrap (x - b) = x - b := IntWalk.i64_in _ (by omega)
                have Hstep := hidp (Hlo.out.step hlt Hx.out hm64)
                have hklo : k < lo.length := by rw [Hlo.out.len]; exact hlt
                have Hcz : Hid (wr.cell? ⟨g, k, none⟩ = some (.int .i64 x)) := hidp (by
                  obtain ⟨b', o', eA, hcl⟩ := oN.row.resolve_left (by intro e; rw [e] at hklo; simp at hklo)
                  cases eA
                  have := hcl k hklo
                  rw [Nat.zero_add, Hlo.out.rest k (Nat.le_refl _), Hx.out] at this
                  exact this)
                have cz := Hcz.out
                have fz := own_frozen oN.own k
                have kLI : (k : Int) < (bs.length : Int) := by omega
                have Hlc := hidp lc
                have Hbc9 := hidp hbc
                go_wp2_with fail
                go_still_tail 14, (by kernel_rfl)
                change wpList _ _ _ _ _ wr.drew
                go_wp2
                rw [Hm.out]
                have TS := (Turned.refl [g] wr).setCell (p := ⟨g, k, none⟩) (.inl (by simp)) (.int .i64 m)
                have oN2 := ((oN.put hklo m).turned ((Turned.refl [] _).drew) (by simp)).turned ((Turned.refl [] _).drew) (by simp)
                have hbu2 := (hbu.trans (TS.below hbu.size (by simpa using hg1))).drew.drew
                have gbl : gb < u5.heap.size := by
                  obtain ⟨b', o', e, h⟩ := HV5.out.bounds.at_.resolve_left (by intro e; dsimp only at e; rw [e] at hlt; simp at hlt)
                  cases e
                  exact cell_lt (h k hlt)
                have gbg : gb ≠ g := by omega
                have ugl : u3.heap.size < u5.heap.size := cell_lt HBV5.out.1
                have ugg : u3.heap.size ≠ g := by omega
                have hsS : ((wr.setCell ⟨g, k, none⟩ (.int .i64 m)).drew).drew.cell? ⟨g, k, none⟩ = some (.int .i64 m) ∧ ((wr.setCell ⟨g, k, none⟩ (.int .i64 m)).drew).drew.cell? ⟨u3.heap.size, 1, none⟩ = some (.slice (some ⟨gb, ob, none⟩) bs.length bc) ∧ ((wr.setCell ⟨g, k, none⟩ (.int .i64 m)).drew).drew.cell? ⟨gb, ob + k, none⟩ = some (.int .i64 x) := by
                  refine ⟨?_, (TS.cell bv_1 (by simpa using ugg) : _), (TS.cell Hbc9.out (by simpa using gbg) : _)⟩
                  obtain ⟨b', o', eA, hcl⟩ := oN2.row.resolve_left (by intro e; have := congrArg List.length e; rw [List.length_set, List.length_nil] at this; omega)
                  cases eA
                  have := hcl k (by rw [List.length_set]; exact hklo)
                  rw [Nat.zero_add] at this
                  have e2 : (lo.set k m).getD k 0 = m := by simp [List.getD, hklo]
                  rw [e2] at this
                  exact this
                clear TS gbg ugg cz fz lc hbc bv_0 bv_1 bv_2 bv hw1 hw2 oN hbu
                cases q with
                | true =>
                  refine wp_region_held_drew (S := fun w' => w'.cell? ⟨g, k, none⟩ = some (.int .i64 m) ∧ w'.cell? ⟨u3.heap.size, 1, none⟩ = some (.slice (some ⟨gb, ob, none⟩) bs.length bc) ∧ w'.cell? ⟨gb, ob + k, none⟩ = some (.int .i64 x)) (by kernel_rfl) ?_ (fun hHeld => ?_)
                  · exact hsS
                  refine wpAnyH_take (i := 0) (v := ?_) rfl (by kernel_rfl) (by kernel_rfl) (by kernel_rfl) (fun _ _ _ h => h) (Or.inl ⟨by rfl, ?_⟩) (by assumption) ?_
                  rotate_left 1
                  · ((intro w hSw; (try dsimp only at hSw); go_simp); (try with_reducible rfl))
                  simp only [Act.put, List.setIfInBounds_toArray, List.set_cons_zero, List.set_cons_succ, List.getElem_toArray, List.getElem_cons_zero, List.getElem_cons_succ]
                  refine wpAnyH_take (i := 1) (v := ?_) rfl (by kernel_rfl) (by kernel_rfl) (by kernel_rfl) (fun _ _ _ h => h) (Or.inl ⟨by rfl, ?_⟩) (by assumption) ?_
                  rotate_left 1
                  · ((intro w hSw; (try dsimp only at hSw); go_simp); (try with_reducible rfl))
                  simp only [Act.put, List.setIfInBounds_toArray, List.set_cons_zero, List.set_cons_succ, List.getElem_toArray, List.getElem_cons_zero, List.getElem_cons_succ]
                  refine wpAnyH_take (i := 2) (v := undef) rfl (by kernel_rfl) (by kernel_rfl) (by kernel_rfl) (fun _ _ _ h => h) (Or.inr ⟨by rfl, rfl⟩) (by assumption) ?_
                  simp only [Act.put, List.setIfInBounds_toArray, List.set_cons_zero, List.set_cons_succ, List.getElem_toArray, List.getElem_cons_zero, List.getElem_cons_succ]
                  refine wpAnyH_take (i := 3) (v := undef) rfl (by kernel_rfl) (by kernel_rfl) (by kernel_rfl) (fun _ _ _ h => h) (Or.inr ⟨by rfl, rfl⟩) (by assumption) ?_
                  simp only [Act.put, List.setIfInBounds_toArray, List.set_cons_zero, List.set_cons_succ, List.getElem_toArray, List.getElem_cons_zero, List.getElem_cons_succ]
                  refine wpAnyH_take (i := 4) (v := undef) rfl (by kernel_rfl) (by kernel_rfl) (by kernel_rfl) (fun _ _ _ h => h) (Or.inr ⟨by rfl, rfl⟩) (by assumption) ?_
                  simp only [Act.put, List.setIfInBounds_toArray, List.set_cons_zero, List.set_cons_succ, List.getElem_toArray, List.getElem_cons_zero, List.getElem_cons_succ]
                  refine wpAnyH_take (i := 5) (v := undef) rfl (by kernel_rfl) (by kernel_rfl) (by kernel_rfl) (fun _ _ _ h => h) (Or.inr ⟨by rfl, rfl⟩) (by assumption) ?_
                  simp only [Act.put, List.setIfInBounds_toArray, List.set_cons_zero, List.set_cons_succ, List.getElem_toArray, List.getElem_cons_zero, List.getElem_cons_succ]
                  refine wpAnyH_take (i := 6) (v := undef) rfl (by kernel_rfl) (by kernel_rfl) (by kernel_rfl) (fun _ _ _ h => h) (Or.inr ⟨by rfl, rfl⟩) (by assumption) ?_
                  simp only [Act.put, List.setIfInBounds_toArray, List.set_cons_zero, List.set_cons_succ, List.getElem_toArray, List.getElem_cons_zero, List.getElem_cons_succ]
                  refine wpAnyH_take (i := 7) (v := undef) rfl (by kernel_rfl) (by kernel_rfl) (by kernel_rfl) (fun _ _ _ h => h) (Or.inr ⟨by rfl, rfl⟩) (by assumption) ?_
                  simp only [Act.put, List.setIfInBounds_toArray, List.set_cons_zero, List.set_cons_succ, List.getElem_toArray, List.getElem_cons_zero, List.getElem_cons_succ]
                  refine wpAnyH_take (i := 8) (v := undef) rfl (by kernel_rfl) (by kernel_rfl) (by kernel_rfl) (fun _ _ _ h => h) (Or.inr ⟨by rfl, rfl⟩) (by assumption) ?_
                  simp only [Act.put, List.setIfInBounds_toArray, List.set_cons_zero, List.set_cons_succ, List.getElem_toArray, List.getElem_cons_zero, List.getElem_cons_succ]
                  refine wpAnyH_take (i := 9) (v := undef) rfl (by kernel_rfl) (by kernel_rfl) (by kernel_rfl) (fun _ _ _ h => h) (Or.inr ⟨by rfl, rfl⟩) (by assumption) ?_
                  simp only [Act.put, List.setIfInBounds_toArray, List.set_cons_zero, List.set_cons_succ, List.getElem_toArray, List.getElem_cons_zero, List.getElem_cons_succ]
                  refine wpAnyH_take (i := 10) (v := undef) rfl (by kernel_rfl) (by kernel_rfl) (by kernel_rfl) (fun _ _ _ h => h) (Or.inr ⟨by rfl, rfl⟩) (by assumption) ?_
                  simp only [Act.put, List.setIfInBounds_toArray, List.set_cons_zero, List.set_cons_succ, List.getElem_toArray, List.getElem_cons_zero, List.getElem_cons_succ]
                  refine wpAnyH_take (i := 11) (v := undef) rfl (by kernel_rfl) (by kernel_rfl) (by kernel_rfl) (fun _ _ _ h => h) (Or.inr ⟨by rfl, rfl⟩) (by assumption) ?_
                  simp only [Act.put, List.setIfInBounds_toArray, List.set_cons_zero, List.set_cons_succ, List.getElem_toArray, List.getElem_cons_zero, List.getElem_cons_succ]
                  refine wpAnyH_take (i := 12) (v := ?_) rfl (by kernel_rfl) (by kernel_rfl) (by kernel_rfl) (fun _ _ _ h => h) (Or.inl ⟨by rfl, ?_⟩) (by assumption) ?_
                  rotate_left 1
                  · ((intro w hSw; (try dsimp only at hSw); go_simp); (try with_reducible rfl))
                  simp only [Act.put, List.setIfInBounds_toArray, List.set_cons_zero, List.set_cons_succ, List.getElem_toArray, List.getElem_cons_zero, List.getElem_cons_succ]
                  refine wpAnyH_take (i := 13) (v := ?_) rfl (by kernel_rfl) (by kernel_rfl) (by kernel_rfl) (fun _ _ _ h => h) (Or.inl ⟨by rfl, ?_⟩) (by assumption) ?_
                  rotate_left 1
                  · ((intro w hSw; (try dsimp only at hSw); go_simp); (try with_reducible rfl))
                  simp only [Act.put, List.setIfInBounds_toArray, List.set_cons_zero, List.set_cons_succ, List.getElem_toArray, List.getElem_cons_zero, List.getElem_cons_succ]
                  refine wpAnyH_done (by kernel_rfl) ?_ _
                  clear hHeld hsS
                  go_wp2_with fail
                  go_roundg (bs.length - k - 1)
                  case measure => omega
                  case rel => exact ⟨k + 1, true, lo.set k m, by omega, by go_num, rfl, hidp Hstep.out, oN2, hbu2⟩
                | false =>
                  refine wp_region_held_drew (S := fun w' => w'.cell? ⟨g, k, none⟩ = some (.int .i64 m) ∧ w'.cell? ⟨u3.heap.size, 1, none⟩ = some (.slice (some ⟨gb, ob, none⟩) bs.length bc) ∧ w'.cell? ⟨gb, ob + k, none⟩ = some (.int .i64 x)) (by kernel_rfl) ?_ (fun hHeld => ?_)
                  · exact hsS
                  refine wpAnyH_take (i := 0) (v := ?_) rfl (by kernel_rfl) (by kernel_rfl) (by kernel_rfl) (fun _ _ _ h => h) (Or.inl ⟨by rfl, ?_⟩) (by assumption) ?_
                  rotate_left 1
                  · ((intro w hSw; (try dsimp only at hSw); go_simp); (try with_reducible rfl))
                  simp only [Act.put, List.setIfInBounds_toArray, List.set_cons_zero, List.set_cons_succ, List.getElem_toArray, List.getElem_cons_zero, List.getElem_cons_succ]
                  refine wpAnyH_take (i := 1) (v := ?_) rfl (by kernel_rfl) (by kernel_rfl) (by kernel_rfl) (fun _ _ _ h => h) (Or.inl ⟨by rfl, ?_⟩) (by assumption) ?_
                  rotate_left 1
                  · ((intro w hSw; (try dsimp only at hSw); go_simp); (try with_reducible rfl))
                  simp only [Act.put, List.setIfInBounds_toArray, List.set_cons_zero, List.set_cons_succ, List.getElem_toArray, List.getElem_cons_zero, List.getElem_cons_succ]
                  refine wpAnyH_take (i := 2) (v := ?_) rfl (by kernel_rfl) (by kernel_rfl) (by kernel_rfl) (fun _ _ _ h => h) (Or.inl ⟨by rfl, ?_⟩) (by assumption) ?_
                  rotate_left 1
                  · ((intro w hSw; (try dsimp only at hSw); go_simp); (try with_reducible rfl))
                  simp only [Act.put, List.setIfInBounds_toArray, List.set_cons_zero, List.set_cons_succ, List.getElem_toArray, List.getElem_cons_zero, List.getElem_cons_succ]
                  refine wpAnyH_take (i := 3) (v := ?_) rfl (by kernel_rfl) (by kernel_rfl) (by kernel_rfl) (fun _ _ _ h => h) (Or.inl ⟨by rfl, ?_⟩) (by assumption) ?_
                  rotate_left 1
                  · ((intro w hSw; (try dsimp only at hSw); go_simp); (try with_reducible rfl))
                  simp only [Act.put, List.setIfInBounds_toArray, List.set_cons_zero, List.set_cons_succ, List.getElem_toArray, List.getElem_cons_zero, List.getElem_cons_succ]
                  refine wpAnyH_take (i := 4) (v := ?_) rfl (by kernel_rfl) (by kernel_rfl) (by kernel_rfl) (fun _ _ _ h => h) (Or.inl ⟨by rfl, ?_⟩) (by assumption) ?_
                  rotate_left 1
                  · ((intro w hSw; (try dsimp only at hSw); go_simp); (try with_reducible rfl))
                  simp only [Act.put, List.setIfInBounds_toArray, List.set_cons_zero, List.set_cons_succ, List.getElem_toArray, List.getElem_cons_zero, List.getElem_cons_succ]
                  refine wpAnyH_take (i := 5) (v := ?_) rfl (by kernel_rfl) (by kernel_rfl) (by kernel_rfl) (fun _ _ _ h => h) (Or.inl ⟨by rfl, ?_⟩) (by assumption) ?_
                  rotate_left 1
                  · ((intro w hSw; (try dsimp only at hSw); go_simp); (try with_reducible rfl))
                  simp only [Act.put, List.setIfInBounds_toArray, List.set_cons_zero, List.set_cons_succ, List.getElem_toArray, List.getElem_cons_zero, List.getElem_cons_succ]
                  refine wpAnyH_take (i := 6) (v := ?_) rfl (by kernel_rfl) (by kernel_rfl) (by kernel_rfl) (fun _ _ _ h => h) (Or.inl ⟨by rfl, ?_⟩) (by assumption) ?_
                  rotate_left 1
                  · ((intro w hSw; (try dsimp only at hSw); go_simp); (try with_reducible rfl))
                  simp only [Act.put, List.setIfInBounds_toArray, List.set_cons_zero, List.set_cons_succ, List.getElem_toArray, List.getElem_cons_zero, List.getElem_cons_succ]
                  refine wpAnyH_take (i := 7) (v := ?_) rfl (by kernel_rfl) (by kernel_rfl) (by kernel_rfl) (fun _ _ _ h => h) (Or.inl ⟨by rfl, ?_⟩) (by assumption) ?_
                  rotate_left 1
                  · ((intro w hSw; (try dsimp only at hSw); go_simp); (try with_reducible rfl))
                  simp only [Act.put, List.setIfInBounds_toArray, List.set_cons_zero, List.set_cons_succ, List.getElem_toArray, List.getElem_cons_zero, List.getElem_cons_succ]
                  refine wpAnyH_take (i := 8) (v := ?_) rfl (by kernel_rfl) (by kernel_rfl) (by kernel_rfl) (fun _ _ _ h => h) (Or.inl ⟨by rfl, ?_⟩) (by assumption) ?_
                  rotate_left 1
                  · ((intro w hSw; (try dsimp only at hSw); go_simp); (try with_reducible rfl))
                  simp only [Act.put, List.setIfInBounds_toArray, List.set_cons_zero, List.set_cons_succ, List.getElem_toArray, List.getElem_cons_zero, List.getElem_cons_succ]
                  refine wpAnyH_take (i := 9) (v := ?_) rfl (by kernel_rfl) (by kernel_rfl) (by kernel_rfl) (fun _ _ _ h => h) (Or.inl ⟨by rfl, ?_⟩) (by assumption) ?_
                  rotate_left 1
                  · ((intro w hSw; (try dsimp only at hSw); go_simp); (try with_reducible rfl))
                  simp only [Act.put, List.setIfInBounds_toArray, List.set_cons_zero, List.set_cons_succ, List.getElem_toArray, List.getElem_cons_zero, List.getElem_cons_succ]
                  refine wpAnyH_take (i := 10) (v := ?_) rfl (by kernel_rfl) (by kernel_rfl) (by kernel_rfl) (fun _ _ _ h => h) (Or.inl ⟨by rfl, ?_⟩) (by assumption) ?_
                  rotate_left 1
                  · ((intro w hSw; (try dsimp only at hSw); go_simp); (try with_reducible rfl))
                  simp only [Act.put, List.setIfInBounds_toArray, List.set_cons_zero, List.set_cons_succ, List.getElem_toArray, List.getElem_cons_zero, List.getElem_cons_succ]
                  refine wpAnyH_take (i := 11) (v := ?_) rfl (by kernel_rfl) (by kernel_rfl) (by kernel_rfl) (fun _ _ _ h => h) (Or.inl ⟨by rfl, ?_⟩) (by assumption) ?_
                  rotate_left 1
                  · ((intro w hSw; (try dsimp only at hSw); go_simp); (try with_reducible rfl))
                  simp only [Act.put, List.setIfInBounds_toArray, List.set_cons_zero, List.set_cons_succ, List.getElem_toArray, List.getElem_cons_zero, List.getElem_cons_succ]
                  refine wpAnyH_take (i := 12) (v := ?_) rfl (by kernel_rfl) (by kernel_rfl) (by kernel_rfl) (fun _ _ _ h => h) (Or.inl ⟨by rfl, ?_⟩) (by assumption) ?_
                  rotate_left 1
                  · ((intro w hSw; (try dsimp only at hSw); go_simp); (try with_reducible rfl))
                  simp only [Act.put, List.setIfInBounds_toArray, List.set_cons_zero, List.set_cons_succ, List.getElem_toArray, List.getElem_cons_zero, List.getElem_cons_succ]
                  refine wpAnyH_take (i := 13) (v := ?_) rfl (by kernel_rfl) (by kernel_rfl) (by kernel_rfl) (fun _ _ _ h => h) (Or.inl ⟨by rfl, ?_⟩) (by assumption) ?_
                  rotate_left 1
                  · ((intro w hSw; (try dsimp only at hSw); go_simp); (try with_reducible rfl))
                  simp only [Act.put, List.setIfInBounds_toArray, List.set_cons_zero, List.set_cons_succ, List.getElem_toArray, List.getElem_cons_zero, List.getElem_cons_succ]
                  refine wpAnyH_done (by kernel_rfl) ?_ _
                  clear hHeld hsS
                  go_wp2_with fail
                  go_roundg (bs.length - k - 1)
                  case measure => omega
                  case rel => exact ⟨k + 1, decide (m < x), lo.set k m, by omega, by go_num, rfl, hidp (by have := Hstep.out; simpa using this), oN2, hbu2⟩
              · have hbp' : decide (0 < b) = false := by simpa using hbp
                go_wp2_with fail
                go_roundg (bs.length - k - 1)
                case measure => omega
                case rel => exact ⟨k + 1, q, lo, by omega, by go_num, rfl, hidp Hlo.out.skip, oN, hbu⟩
            · have hkl' : ¬ (k : Int) < (ls.length : Int) := by omega
              go_wp2_with fail
              go_roundg (bs.length - k - 1)
              case measure => omega
              case rel => exact ⟨k + 1, q, lo, by omega, by go_num, rfl, hidp Hlo.out.skip, oN, hbu⟩
      · obtain rfl : k = bs.length := by omega
        have hb := HB5.out.trans (hbu.mono HB5.out.size)
        cases q with
        | true =>
          as_aux_lemma =>
          have Hz : Hid (holdsV ⟨proto, ca, cc, cores, ha, hc, homes, some ⟨gt, ot, none⟩, tc, tasks⟩ lo = false) := hidp (by obtain ⟨j, hj⟩ := Hlo.out.some rfl; exact Hlow.out lo j hj)
          have hBo := oN.ok Hlo.out.i64
          have HH := holds_any _ lo _ d _ hs hBo
          rw [Hlo.out.len, Hz.out] at HH
          go_wp2_with fail
          refine HH.mono ?_
          rintro e u7 ⟨rfl, hb2⟩
          replace hb := hb.trans (hb2.mono hb.size)
          go_wp2_with fail
          go_ret
          exact ⟨rfl, hb⟩
        | false =>
          go_wp2_with fail
          go_ret
          exact ⟨rfl, hb⟩
  · as_aux_lemma =>
    have e1 : (E != 0) = true := by simpa using e0
    have hne : ¬ anE ⟨proto, ca, cc, cores, ha, hc, homes, ta, tc, tasks⟩ = 0 := by rw [HE.out]; exact e0
    have hB : bs = [] := by rw [h2]; unfold anB; rw [if_neg hne]
    have hW : rs = [] := by
      have : rs.map RowR.zs = [] := by rw [h3]; unfold anW; rw [if_neg hne]
      exact List.map_eq_nil_iff.1 this
    subst hB
    subst hW
    obtain rfl : ok = false := by rw [h1]; simpa using e0
    obtain ⟨bv_0, bv_1, bv_2⟩ := id bv
    dsimp only [List.length_nil] at bv_0 bv_1 bv_2
    clear h1 h2 h3 e0 hne hv
    go_wp2_with fail
    go_ret
    exact ⟨rfl, hb⟩

theorem own : ownKnob Try.prog.godebug = none := by kernel_rfl
theorem laidOut : laidOutB Try.prog = true := by kernel_rfl

/-! THE ROW's STEP -/
set_option maxRecDepth 100000 in
theorem lifted (os : Os) (started : os.Started) (H : Type) (enc : TypeId × Value → H) :
    ReturnsInHanded {} Try.checked os 3 .any (Rows.admitHoldsSpec.pre6 enc Try.prog Try.f3 Rows.admitHoldsRow.domain false) (Rows.admitHoldsSpec.post enc Try.prog Try.f3 false true false false) := by
  refine returnsInHanded_of_change (C := Try.checked) own started (by kernel_rfl) Try.func3
    (ChangeSpec.witness6 (enc := enc) (C := Try.checked) false ⟨#[], #[.agg #[.int .i64 0, .slice none 0 0, .slice none 0 0, .slice none 0 0], .slice none 0 0], []⟩ 8 (by kernel_rfl) (by kernel_rfl) (by kernel_rfl) (by kernel_rfl)) ?_
  intro W base args ds gs before hval0 hW hcnd _
  have hval : ∀ (j : Nat) t v, Try.f3.params[j]? = some t → args[j]? = some v → Value.okWide Try.prog W .any base t v := hval0
  have hW' := hW
  obtain ⟨p, q, hA0, hV, rfl, hfz, hnd⟩ := hW
  have hA : DataW.TrodAll enc Try.prog W 0 (fun _ => true) true Try.f3.params.toList args.toList ds p := hA0
  rw [Try.params3] at hA hval
  obtain ⟨v0, vs0, d0, ds0, p0, q0, hargs, rfl, rfl, h0, r0⟩ := trodAll_cons hA
  obtain ⟨v1, vs1, d1, ds1, p1, q1, rfl, rfl, rfl, h1, r1⟩ := trodAll_cons r0
  obtain ⟨rfl, rfl, rfl⟩ := trodAll_nil r1
  obtain rfl : args = #[v0, v1] := by cases args; simp_all
  obtain ⟨rfl, rfl⟩ := trodVars_none hV
  have k0 := h0
  have lt0 : ∀ x ∈ p0, x.block < W.heap.size := by obtain ⟨m, hm⟩ := k0; exact DataW.trod_lt m _ _ _ hm
  obtain ⟨s0, w0, rfl⟩ := setTypes.arg_set (hval 0 25 v0 rfl rfl) h0
  obtain ⟨a1, len1, cap1, rfl⟩ := okWide_slice Try.underlying26 (hval 1 26 v1 rfl rfl)
  have k1 := h1
  have lt1 : ∀ x ∈ p1, x.block < W.heap.size := by obtain ⟨m, hm⟩ := k1; exact DataW.trod_lt m _ _ _ hm
  obtain ⟨z1, w1⟩ : ∃ zs, IsRow .u8 W a1 len1 cap1 zs := by
    obtain ⟨fuel, hf⟩ := h1
    rcases open_ints Try.underlying26 Try.underlying5 (by kernel_rfl) hf with ⟨hcs, _⟩ | ⟨x, l, c, zs, hcs, _, hl, hm, hz, _, hcell, hwz⟩
    · simp [Value.cells] at hcs
      obtain ⟨rfl, rfl, rfl⟩ := hcs
      exact ⟨[], .inl ⟨rfl, rfl, rfl, rfl⟩⟩
    · simp [Value.cells] at hcs
      obtain ⟨rfl, rfl, rfl⟩ := hcs
      exact ⟨zs, .inr ⟨_, rfl, hl, hm, by simpa using hz, hcell, hwz⟩⟩
  clear hA0 hval0
  refine (walk s0 a1 len1 cap1 z1 W w0 w1).mono fun e W' ⟨he, bel⟩ => ?_
  subst he
  exact ⟨_, rfl, _, _, _, [], _, [], hW', trodAll_mk1 (shut_bool Try.underlying4 _), (trodAll_cons_mk (Below.trod laidOut (by kernel_rfl) (of_decide_eq_true (by kernel_rfl)) k0 bel lt0) (trodAll_cons_mk (Below.trod laidOut (by kernel_rfl) (of_decide_eq_true (by kernel_rfl)) k1 bel lt1) trodAll_mk0)), rfl, bel.frame _, fun h => by cases h⟩

theorem over : Rows.admitHoldsRow.holds Try.pinned (OpenSpec.ofChange Rows.admitHoldsSpec) :=
  OpenClaim.holds_of_wide 3 Try.f3 rfl rfl rfl rfl rfl rfl rfl ⟨rfl, rfl, rfl, rfl, rfl⟩ rfl rfl rfl rfl rfl (by kernel_rfl) Try.func3 (by kernel_rfl)
    (of_decide_eq_true (by kernel_rfl)) (by unfold Func.isWrapper; first | (rw [if_pos (by decide +kernel)]; kernel_rfl) | (rw [if_neg (by decide +kernel)]; exact ⟨rfl, rfl⟩))
    (fun os started H enc _ => lifted os started H enc)

/-- THE STATEMENT -/
theorem proved : Rows.AdmitHoldsSaid := over
#print axioms proved
end Go.Proofs.Ytlbaohefappfoaa.admitHolds

