/- WaitTells: of every set, bounds, task the waits of its parts, of all together, by the set's protocol. No condition. -/
import Derived.Test.YtindcpgmfdkpcaaGreatOwnT
import Derived.Test.YtindcpgmfdkpcaaGreatSound
import Derived.Test.YtindcpgmfdkpcaaGreatToken3
import Derived.Test.YtindcpgmfdkpcaaGreatAgent3
import Derived.Test.YtindcpgmfdkpcaaGreatOwnPut
import Derived.Test.YtindcpgmfdkpcaaGreatLit
import Derived.Test.YtindcpgmfdkpcaaGreatOkMk
import Derived.Test.YtindcpgmfdkpcaaGreatDemandNums
import Derived.Test.YtindcpgmfdkpcaaGreatRef11c
import Derived.Test.YtindcpgmfdkpcaaGreatRef14d
import Derived.Test.YtindcpgmfdkpcaaGreatRef15b
import Derived.Deep.LoopGhost
import Derived.Deep.QuietTactic
import Derived.BigQuiet
namespace Go.Proofs.YtindcpgmfdkpcaaGreat
open Go.ChangeShapes Go.WideShapes Go.ChangeAt Go.RowKit
set_option linter.unusedVariables false
/-- a set made by hand, whose row of tasks is of the call's own -/
def OneS16 (w : World) (B : Nat) (proto : Int) (ts : List TaskR) (e : Ending) : Prop := ∃ (ca ha ta : Option Addr) (cc hc tc : Nat), e = .returned (.agg #[.int .i64 proto, .slice ca 1 cc, .slice ha 1 hc, .slice ta ts.length tc]) ∧ IntsOk w ca cc [1] ∧ IntsOk w ha hc [0] ∧ OwnT B w ta ts.length tc ts ∧ (∀ k ∈ fp ca, k ∉ fp ta ∧ B ≤ k ∧ k < w.heap.size) ∧ ∀ k ∈ fp ha, k ∉ fp ta ∧ B ≤ k ∧ k < w.heap.size
theorem one16_any (proto : Int) (a : Option Addr) (c : Nat) (ps : List PartM) (w : World) : Calls Tryz.prog 41 #[.int .i64 proto, .slice a ps.length c] w fun e w' => OneS16 w' w.heap.size proto [⟨⟨#[97]⟩, 100, 100, 1, 0, a, c, ps⟩] e ∧ Below w.heap.size w w' := by
  go_enter Tryz.func41, Tryz.ntmps41
  go_wp2
  have B1 := ((Bk.at_ (w := w.alloc (.cells #[.int .i64 proto, .slice (some ⟨w.heap.size + 1, 0, none⟩) 1 1, .slice (some ⟨w.heap.size + 1 + 1, 0, none⟩) 1 1, .slice (some ⟨w.heap.size + 1 + 1 + 1, 0, none⟩) 1 1] 25)) (g := w.heap.size + 1) (t := 3) (cs := ([1].map (Value.int .i64)).toArray) (by simp) rfl).alloc (.cells #[.int .i64 0] 3)).alloc (.cells #[.string ⟨#[97]⟩, .int .i64 100, .int .i64 100, .int .i64 1, .int .i64 0, .slice a ps.length c] 39)
  have B2 := (Bk.at_ (w := (w.alloc (.cells #[.int .i64 proto, .slice (some ⟨w.heap.size + 1, 0, none⟩) 1 1, .slice (some ⟨w.heap.size + 1 + 1, 0, none⟩) 1 1, .slice (some ⟨w.heap.size + 1 + 1 + 1, 0, none⟩) 1 1] 25)).alloc (.cells #[.int .i64 1] 3)) (g := w.heap.size + 1 + 1) (t := 3) (cs := ([0].map (Value.int .i64)).toArray) (by simp) rfl).alloc (.cells #[.string ⟨#[97]⟩, .int .i64 100, .int .i64 100, .int .i64 1, .int .i64 0, .slice a ps.length c] 39)
  have B3 := Bk.at_ (w := ((w.alloc (.cells #[.int .i64 proto, .slice (some ⟨w.heap.size + 1, 0, none⟩) 1 1, .slice (some ⟨w.heap.size + 1 + 1, 0, none⟩) 1 1, .slice (some ⟨w.heap.size + 1 + 1 + 1, 0, none⟩) 1 1] 25)).alloc (.cells #[.int .i64 1] 3)).alloc (.cells #[.int .i64 0] 3)) (g := w.heap.size + 1 + 1 + 1) (t := 39) (cs := (ttc [⟨⟨#[97]⟩, 100, 100, 1, 0, a, c, ps⟩]).toArray) (by simp) rfl
  refine bodyPost_ret (v := .agg #[.int .i64 proto, .slice (some ⟨w.heap.size + 1, 0, none⟩) 1 1, .slice (some ⟨w.heap.size + 1 + 1, 0, none⟩) 1 1, .slice (some ⟨w.heap.size + 1 + 1 + 1, 0, none⟩) 1 1]) (by simp [results, Tryz.results41, go_sem]) rfl
    ⟨⟨_, _, _, 1, 1, 1, rfl, ⟨⟨(fun e => by cases e), by simp, by first | decide | (simp; done) | (simp; decide)⟩, ints_lit B1, by first | decide | (simp; done) | (simp; decide)⟩, ⟨⟨(fun e => by cases e), by simp, by first | decide | (simp; done) | (simp; decide)⟩, ints_lit B2, by first | decide | (simp; done) | (simp; decide)⟩, ⟨own_lit B3 (by omega) (ttc_len _) (by first | decide | (simp; done) | (simp; decide)), rfl, by first | decide | (simp; done) | (simp; decide), (fun e => by cases e)⟩, by simp [fp]; try omega, by simp [fp]; try omega⟩, ?_⟩
  exact ((((Below.refl _ _).alloc (Nat.le_refl _) _).alloc (by simp) _).alloc (by simp; omega) _).alloc (by simp; omega) _
/-- two tasks at one cluster -/
def twoS16 (S : SetR) (proto run lock run2 lock2 : Int) : Prop := S.proto = proto ∧ S.cores = [1] ∧ S.homes = [0] ∧ ∃ (a1 a2 : Option Addr) (c1 c2 : Nat), S.tasks = [⟨⟨#[97]⟩, 100, 100, 1, 0, a1, c1, [⟨1, run, 0⟩, ⟨3, lock, 0⟩]⟩, ⟨⟨#[98]⟩, 200, 200, 2, 0, a2, c2, [⟨1, run2, 0⟩, ⟨3, lock2, 0⟩]⟩]
def TwoP16 (w : World) (proto run lock run2 lock2 : Int) (e : Ending) (w' : World) : Prop := (∃ S : SetR, e = .returned (.agg #[.int .i64 S.proto, .slice S.ca S.cores.length S.cc, .slice S.ha S.homes.length S.hc, .slice S.ta S.tasks.length S.tc]) ∧ SetOk w' S ∧ twoS16 S proto run lock run2 lock2) ∧ Below w.heap.size w w'
set_option maxRecDepth 100000 in
theorem two16_any (proto run lock run2 lock2 : Int) (w : World) (h0 : I64 proto) (h1 : I64 run) (h2 : I64 lock) (h3 : I64 run2) (h4 : I64 lock2) : Calls Tryz.prog 22 #[.int .i64 proto, .int .i64 run, .int .i64 lock, .int .i64 run2, .int .i64 lock2] w (TwoP16 w proto run lock run2 lock2) := by
  obtain ⟨i0, hi0, hy0, hy1, hy2⟩ := info_parts infoTask
  have P0 := (Bk.new w 25 #[.int .i64 0, .slice none 0 0, .slice none 0 0, .slice none 0 0]).alloc (.cells (ptc [⟨1, run, 0⟩, ⟨3, lock, 0⟩]).toArray 43)
  have P1 := Bk.at_ (w := w.alloc (.cells #[.int .i64 0, .slice none 0 0, .slice none 0 0, .slice none 0 0] 25)) (g := w.heap.size + 1) (t := 43) (cs := (ptc [⟨1, run, 0⟩, ⟨3, lock, 0⟩]).toArray) (by simp) rfl
  have hb0 := ((Below.refl w.heap.size w).alloc (Nat.le_refl _) (.cells #[.int .i64 0, .slice none 0 0, .slice none 0 0, .slice none 0 0] 25)).alloc (by simp) (.cells (ptc [⟨1, run, 0⟩, ⟨3, lock, 0⟩]).toArray 43)
  have hz0 : ((w.alloc (.cells #[.int .i64 0, .slice none 0 0, .slice none 0 0, .slice none 0 0] 25)).alloc (.cells (ptc [⟨1, run, 0⟩, ⟨3, lock, 0⟩]).toArray 43)).heap.size = w.heap.size + 2 := by simp
  have Hz0 := hidp hz0
  clear hz0
  go_enter Tryz.func22, Tryz.ntmps22
  go_wp2_with fail
  refine (one16_any proto (some ⟨w.heap.size + 1, 0, none⟩) 2 [⟨1, run, 0⟩, ⟨3, lock, 0⟩] _).mono ?_
  rintro e w2 ⟨⟨ca, ha, ta, cc, hc, tc, rfl, kc, kh, kt, n1, n2⟩, hb⟩
  have hsz : w.heap.size + 2 ≤ w2.heap.size := by have := hb.size; rw [← Hz0.out]; exact this
  replace P0 := P0.below hb
  replace P1 := P1.below hb
  have hbe := hb0.trans (hb.mono hb0.size)
  clear hb hb0
  have kt := kt.low (show w.heap.size + 2 ≤ _ by rw [← Hz0.out]; exact Nat.le_refl _)
  have n1' : ∀ k ∈ fp ca, k ∉ fp ta ∧ w.heap.size + 2 ≤ k ∧ k < w2.heap.size := fun k hk => ⟨(n1 k hk).1, by have := (n1 k hk).2.1; rw [← Hz0.out]; exact this, (n1 k hk).2.2⟩
  have n2' : ∀ k ∈ fp ha, k ∉ fp ta ∧ w.heap.size + 2 ≤ k ∧ k < w2.heap.size := fun k hk => ⟨(n2 k hk).1, by have := (n2 k hk).2.1; rw [← Hz0.out]; exact this, (n2 k hk).2.2⟩
  have N1 := hidp n1'
  have N2 := hidp n2'
  have Hft := hidp (own_fp kt.own)
  clear n1 n2 n1' n2'
  obtain ⟨V, hV⟩ : ∃ V, w2.heap.size = V := ⟨_, rfl⟩
  have HV := hidp hV
  clear hV
  -- the boxes that come now
  have T0 := (((Turned.refl [] w2).alloc (.cells #[.int .i64 proto, .slice ca 1 cc, .slice ha 1 hc, .slice ta 1 tc] 25)).alloc (.cells (ptc [⟨1, run2, 0⟩, ⟨3, lock2, 0⟩]).toArray 43)).alloc (.cells (ttc [⟨⟨#[98]⟩, 200, 200, 2, 0, some ⟨w2.heap.size + 1, 0, none⟩, 2, [⟨1, run2, 0⟩, ⟨3, lock2, 0⟩]⟩]).toArray 39)
  have X0 := ((Bk.new w2 25 #[.int .i64 proto, .slice ca 1 cc, .slice ha 1 hc, .slice ta 1 tc]).alloc (.cells (ptc [⟨1, run2, 0⟩, ⟨3, lock2, 0⟩]).toArray 43)).alloc (.cells (ttc [⟨⟨#[98]⟩, 200, 200, 2, 0, some ⟨w2.heap.size + 1, 0, none⟩, 2, [⟨1, run2, 0⟩, ⟨3, lock2, 0⟩]⟩]).toArray 39)
  have X1 := (Bk.at_ (w := w2.alloc (.cells #[.int .i64 proto, .slice ca 1 cc, .slice ha 1 hc, .slice ta 1 tc] 25)) (g := w2.heap.size + 1) (t := 43) (cs := (ptc [⟨1, run2, 0⟩, ⟨3, lock2, 0⟩]).toArray) (by simp) rfl).alloc (.cells (ttc [⟨⟨#[98]⟩, 200, 200, 2, 0, some ⟨w2.heap.size + 1, 0, none⟩, 2, [⟨1, run2, 0⟩, ⟨3, lock2, 0⟩]⟩]).toArray 39)
  have S2 := Lies.newCells' ((w2.alloc (.cells #[.int .i64 proto, .slice ca 1 cc, .slice ha 1 hc, .slice ta 1 tc] 25)).alloc (.cells (ptc [⟨1, run2, 0⟩, ⟨3, lock2, 0⟩]).toArray 43)) (ttc [⟨⟨#[98]⟩, 200, 200, 2, 0, some ⟨w2.heap.size + 1, 0, none⟩, 2, [⟨1, run2, 0⟩, ⟨3, lock2, 0⟩]⟩]) 39
  rw [show ((w2.alloc (.cells #[.int .i64 proto, .slice ca 1 cc, .slice ha 1 hc, .slice ta 1 tc] 25)).alloc (.cells (ptc [⟨1, run2, 0⟩, ⟨3, lock2, 0⟩]).toArray 43)).heap.size = w2.heap.size + 1 + 1 by simp] at S2
  have O2 := hidp (ttc_one [⟨⟨#[98]⟩, 200, 200, 2, 0, some ⟨w2.heap.size + 1, 0, none⟩, 2, [⟨1, run2, 0⟩, ⟨3, lock2, 0⟩]⟩])
  have hown := own_turned kt.own T0 (by simp)
  have Z2 : Hid (w.heap.size + 2 ≤ (((w2.alloc (.cells #[.int .i64 proto, .slice ca 1 cc, .slice ha 1 hc, .slice ta 1 tc] 25)).alloc (.cells (ptc [⟨1, run2, 0⟩, ⟨3, lock2, 0⟩]).toArray 43)).alloc (.cells (ttc [⟨⟨#[98]⟩, 200, 200, 2, 0, some ⟨w2.heap.size + 1, 0, none⟩, 2, [⟨1, run2, 0⟩, ⟨3, lock2, 0⟩]⟩]).toArray 39)).heap.size) := hidp (Nat.le_trans hsz T0.size)
  have HS2 := hidp S2
  have HT0 := hidp T0
  have HX0 := hidp X0
  have HX1 := hidp X1
  clear S2 T0 X0 X1
  go_wp2_with (at_builtin; go_loud ((refine wpList_app2 _ rfl (.tmp 20) (.tmp 27) 23 rfl (w.heap.size + 2) 39 i0 _ 6 72 Tryz.underlying23 hi0 hy0 hy1 hy2 rfl (by decide) ta 1 tc _ rfl hown _ _ 1 1 (ttc [⟨⟨#[98]⟩, 200, 200, 2, 0, some ⟨w2.heap.size + 1, 0, none⟩, 2, [⟨1, run2, 0⟩, ⟨3, lock2, 0⟩]⟩]) rfl (by simp) rfl HS2.out O2.out (by decide) (by decide) Z2.out ?_; intro A' c' w3 happ; have X0 := HX0.out.turned happ.turned (fun hf => by have := (Hft.out _ hf).2; omega); have Y0 := (P0.turned HT0.out (by simp)).turned happ.turned (fun hf => by have := (Hft.out _ hf).1; omega); obtain ⟨f0, f1, f2, f3⟩ := ZF4 X0; obtain ⟨e0, e1, e2, e3⟩ := Z4 X0; obtain ⟨p0, p1, p2, p3⟩ := ZF4 Y0; obtain ⟨q0, q1, q2, q3⟩ := Z4 Y0)))
  have TS := (Turned.refl [w2.heap.size] w3).setCell (p := ⟨w2.heap.size, 3, none⟩) (.inl (by simp)) (.slice A' 2 c')
  have TP := put4_turned (w3.setCell ⟨w2.heap.size, 3, none⟩ (.slice A' 2 c')) w.heap.size (.int .i64 proto) (.slice ca 1 cc) (.slice ha 1 hc) (.slice A' 2 c')
  have PB := put4_bk (v0 := .int .i64 proto) (v1 := .slice ca 1 cc) (v2 := .slice ha 1 hc) (v3 := .slice A' 2 c') (Y0.turned TS (by simp; omega))
  have gV : ∀ k, k < w2.heap.size → k ∉ [w2.heap.size] := fun k hk hm => by simp at hm; omega
  have gH : ∀ k, w.heap.size + 1 ≤ k → k ∉ [w.heap.size] := fun k hk hm => by simp at hm; omega
  have kc5 := (((kc.turned HT0.out (by simp)).turned happ.turned (fun k hk => (N1.out k hk).1)).turned TS (fun k hk => gV k (N1.out k hk).2.2)).turned TP (fun k hk => gH k (by have := (N1.out k hk).2.1; omega))
  have kh5 := (((kh.turned HT0.out (by simp)).turned happ.turned (fun k hk => (N2.out k hk).1)).turned TS (fun k hk => gV k (N2.out k hk).2.2)).turned TP (fun k hk => gH k (by have := (N2.out k hk).2.1; omega))
  have P5 := parts_lit (((P1.turned HT0.out (by simp)).turned happ.turned (fun hf => by have := (Hft.out _ hf).1; omega)).turned TS (gV _ (by omega)) |>.turned TP (gH _ (by omega)))
  have Q5 := parts_lit ((HX1.out.turned happ.turned (fun hf => by have := (Hft.out _ hf).2; omega)).turned TS (by simp) |>.turned TP (gH _ (by omega)))
  have o3 := kt.app (ts := [⟨⟨#[98]⟩, 200, 200, 2, 0, some ⟨w2.heap.size + 1, 0, none⟩, 2, [⟨1, run2, 0⟩, ⟨3, lock2, 0⟩]⟩]) happ rfl
  have hz5 := HT0.out.size
  have o5 := (o3.turned TS (fun k hk => by
    rcases happ.fps k hk with h | h
    · exact gV k (Hft.out k h).2
    · intro hm; simp at hm h; omega)).turned TP (fun k hk => gH k (by have := (own_fp o3.own k hk).1; omega))
  have hall := (((hbe.trans (HT0.out.below hbe.size (by simp))).trans (happ.turned.below (Nat.le_trans hbe.size hz5) (fun k hk => by have := (Hft.out k hk).1; omega))).trans (TS.below (Nat.le_trans (Nat.le_trans hbe.size hz5) happ.turned.size) (by simp; omega))).trans (TP.below (Nat.le_trans (Nat.le_trans (Nat.le_trans hbe.size hz5) happ.turned.size) TS.size) (by simp))
  have W2 : ∀ x y : Int, I64 x → I64 y → ∀ p ∈ [PartM.mk 1 x 0, PartM.mk 3 y 0], p.wf := fun x y hx hy p hp => by
    simp at hp
    rcases hp with rfl | rfl
    · exact ⟨(by show I64 1; decide), hx, (by show I64 0; decide)⟩
    · exact ⟨(by show I64 3; decide), hy, (by show I64 0; decide)⟩
  have SL2 : ∀ a : Addr, SlOk (some a) 2 2 := fun a => ⟨(fun e => by cases e), Nat.le_refl _, by decide⟩
  have K1 := TaskOk.mk (w := put4 (w3.setCell ⟨w2.heap.size, 3, none⟩ (.slice A' 2 c')) w.heap.size (.int .i64 proto) (.slice ca 1 cc) (.slice ha 1 hc) (.slice A' 2 c')) (t := ⟨⟨#[97]⟩, 100, 100, 1, 0, some ⟨w.heap.size + 1, 0, none⟩, 2, [⟨1, run, 0⟩, ⟨3, lock, 0⟩]⟩) (by show 1 ≤ maxLen; decide) (by show I64 100; decide) (by show I64 100; decide) (by show I64 1; decide) (by show I64 0; decide) (SL2 _) P5 (W2 _ _ h1 h2)
  have K2 := TaskOk.mk (w := put4 (w3.setCell ⟨w2.heap.size, 3, none⟩ (.slice A' 2 c')) w.heap.size (.int .i64 proto) (.slice ca 1 cc) (.slice ha 1 hc) (.slice A' 2 c')) (t := ⟨⟨#[98]⟩, 200, 200, 2, 0, some ⟨w2.heap.size + 1, 0, none⟩, 2, [⟨1, run2, 0⟩, ⟨3, lock2, 0⟩]⟩) (by show 1 ≤ maxLen; decide) (by show I64 200; decide) (by show I64 200; decide) (by show I64 2; decide) (by show I64 0; decide) (SL2 _) Q5 (W2 _ _ h3 h4)
  have KA : TasksOk (put4 (w3.setCell ⟨w2.heap.size, 3, none⟩ (.slice A' 2 c')) w.heap.size (.int .i64 proto) (.slice ca 1 cc) (.slice ha 1 hc) (.slice A' 2 c')) A' c' [⟨⟨#[97]⟩, 100, 100, 1, 0, some ⟨w.heap.size + 1, 0, none⟩, 2, [⟨1, run, 0⟩, ⟨3, lock, 0⟩]⟩, ⟨⟨#[98]⟩, 200, 200, 2, 0, some ⟨w2.heap.size + 1, 0, none⟩, 2, [⟨1, run2, 0⟩, ⟨3, lock2, 0⟩]⟩] := ⟨o5.sl, o5.tasks, fun t ht => by
    simp only [List.mem_cons, List.not_mem_nil, or_false] at ht
    rcases ht with rfl | rfl
    · exact K1
    · exact K2⟩
  obtain ⟨r0, r1, r2, r3⟩ := Z4 PB
  unfold put4 at r0 r1 r2 r3 kc5 kh5 KA hall
  refine bodyPost_ret (v := .agg #[.int .i64 proto, .slice ca 1 cc, .slice ha 1 hc, .slice A' 2 c']) (by simp [results, Tryz.results22, go_sem, r0, r1, r2, r3]) rfl ⟨⟨⟨proto, ca, cc, [1], ha, hc, [0], A', c', [⟨⟨#[97]⟩, 100, 100, 1, 0, some ⟨w.heap.size + 1, 0, none⟩, 2, [⟨1, run, 0⟩, ⟨3, lock, 0⟩]⟩, ⟨⟨#[98]⟩, 200, 200, 2, 0, some ⟨w2.heap.size + 1, 0, none⟩, 2, [⟨1, run2, 0⟩, ⟨3, lock2, 0⟩]⟩]⟩, rfl, ⟨h0, kc5, kh5, KA⟩, rfl, rfl, rfl, _, _, _, _, rfl⟩, hall⟩

end Go.Proofs.YtindcpgmfdkpcaaGreat

namespace Go.Proofs.YtindcpgmfdkpcaaGreat
open Go.ChangeShapes Go.WideShapes Go.ChangeAt Go.RowKit
set_option linter.unusedVariables false
def FewP16 (w : World) (e : Ending) (w' : World) : Prop := (∃ b : Bool, e = .returned (.bool b)) ∧ Below w.heap.size w w'
set_option maxRecDepth 100000 in
theorem few16_any (s : SetR) (w : World) (hs : SetOk w s) : Calls Tryz.prog 6 #[.agg #[.int .i64 s.proto, .slice s.ca s.cores.length s.cc, .slice s.ha s.homes.length s.hc, .slice s.ta s.tasks.length s.tc]] w (FewP16 w) := by
  have hb := (Below.refl w.heap.size w).alloc (Nat.le_refl _) (.cells #[.int .i64 s.proto, .slice s.ca s.cores.length s.cc, .slice s.ha s.homes.length s.hc, .slice s.ta s.tasks.length s.tc] 25)
  have CB := hidp (SetCells.new w s 25)
  have l1 : s.tasks.length ≤ maxLen := Nat.le_trans hs.tasks.sl.2.1 hs.tasks.sl.2.2
  have l2 : s.cores.length ≤ maxLen := Nat.le_trans hs.cores.sl.2.1 hs.cores.sl.2.2
  have l3 : s.homes.length ≤ maxLen := Nat.le_trans hs.homes.sl.2.1 hs.homes.sl.2.2
  unfold maxLen at l1 l2 l3
  have HR := hidp hs.tasks.at_
  have Hok := hidp hs.tasks.ok
  clear hs
  obtain ⟨proto, ca, cc, cores, ha, hc, homes, ta, tc, tasks⟩ := s
  dsimp only at HR Hok l1 l2 l3 hb ⊢
  have F : ∀ b : Bool, ∀ w', Below w.heap.size w w' → FewP16 w (.returned (.bool b)) w' := fun b w' h => ⟨⟨b, rfl⟩, h⟩
  have HF := hidp F
  clear F
  have hc0 : (8 : Int) < (cores.length : Int) ∨ ¬ (8 : Int) < (cores.length : Int) ∧ (10 : Int) < (homes.length : Int) ∨ ¬ (8 : Int) < (cores.length : Int) ∧ ¬ (10 : Int) < (homes.length : Int) ∧ (9 : Int) < (tasks.length : Int) ∨ ¬ (8 : Int) < (cores.length : Int) ∧ ¬ (10 : Int) < (homes.length : Int) ∧ ¬ (9 : Int) < (tasks.length : Int) := by omega
  rcases hc0 with h | ⟨h, g⟩ | ⟨h, g, f⟩ | ⟨h, g, f⟩
  · go_enter Tryz.func6, Tryz.ntmps6
    go_wp2
    go_ret
    exact HF.out _ _ hb
  · go_enter Tryz.func6, Tryz.ntmps6
    go_wp2
    go_ret
    exact HF.out _ _ hb
  · go_enter Tryz.func6, Tryz.ntmps6
    go_wp2
    go_ret
    exact HF.out _ _ hb
  · go_enter Tryz.func6, Tryz.ntmps6
    go_wp2
    go_loopg [3] tasks.length (fun gg i wr => ∃ k : Nat, k + gg = tasks.length ∧ i = .int .i64 k ∧ SetCells wr w.heap.size ⟨proto, ca, cc, cores, ha, hc, homes, ta, tc, tasks⟩ ∧ Below w.heap.size w wr)
    case atStart => exact ⟨0, by omega, rfl, CB.out, hb⟩
    case round =>
      obtain ⟨k, hk, rfl, sc, hw⟩ := hrel
      have sc2 := sc
      obtain ⟨c0, c1, c2, c3⟩ := sc2
      dsimp only at c0 c1 c2 c3
      by_cases hlt : k < tasks.length
      · obtain ⟨g0, off, hA, hcl⟩ := HR.out.resolve_left (by intro e; rw [e] at hlt; simp at hlt)
        subst hA
        obtain ⟨t, HT⟩ : ∃ t, Hid (tasks.getD k default = t) := ⟨_, rfl⟩
        have tcl := (HT.out ▸ hcl k hlt).keep (Keeps.of_below hw)
        obtain ⟨d0, _, _, _, _, d5⟩ := tcl
        have hok := Hok.out t (HT.out ▸ getD_mem hlt)
        have n1 := hok.name
        have n2 : t.parts.length ≤ maxLen := Nat.le_trans hok.sl.2.1 hok.sl.2.2
        unfold maxLen at n1 n2
        clear hcl hok
        by_cases z1 : (20 : Int) < (t.name.size : Int)
        · go_wp2
          go_ret
          exact HF.out _ _ hw
        · by_cases z2 : (10 : Int) < (t.parts.length : Int)
          · go_wp2
            go_ret
            exact HF.out _ _ hw
          · go_wp2
            go_roundg (gk - 1)
            case measure => omega
            case rel => exact ⟨k + 1, by omega, by go_num, sc, hw⟩
      · go_wp2
        go_ret
        exact HF.out _ _ hw

end Go.Proofs.YtindcpgmfdkpcaaGreat

namespace Go.Proofs.YtindcpgmfdkpcaaGreat
open Go.ChangeShapes Go.WideShapes Go.ChangeAt Go.RowKit
set_option linter.unusedVariables false

def waitV (s : SetR) (bs : List Int) (of part : Int) : Int :=
  if bs.length = s.tasks.length then (if s.proto = 1 then fairV s of part else if s.proto = 2 then agentV s bs of part else tokV s of part) else 0
def waitK (s : SetR) (bs : List Int) (of part : Int) : Bool :=
  if bs.length = s.tasks.length then (if s.proto = 2 then agentK s bs of part else fairK s of part) else false
theorem lock_part {s : SetR} {of part : Int} (h : fairK s of part = true) : okS s = true ∧ 1 ≤ (partAt s of part).len ∧ (partAt s of part).len ≤ 60 ∧ (partAt s of part).kind = 3 := by
  obtain ⟨f1, f2, f3, f4⟩ := fairK_iff.1 h
  obtain ⟨ho, r1, r2⟩ := thereB_true.1 f1
  have hp : partAt s of part ∈ (s.tasks.getD of.toNat default).parts := by unfold partAt; exact getD_mem (by omega)
  have hlen := ((Good.of ho).parts _ (getD_mem (by omega : of.toNat < s.tasks.length))).lens _ hp
  exact ⟨ho, hlen.1, hlen.2, f4⟩
theorem fairV_bd (s : SetR) (of part : Int) : 0 ≤ fairV s of part ∧ fairV s of part ≤ 420 := by
  unfold fairV
  split
  · rename_i h
    obtain ⟨ho, h1, h2, _⟩ := lock_part h
    have hg := Good.of ho
    have hb := tot_small (fun x (hx : x ∈ othL of 0 s.tasks) => by have := othL_bd (fun q hq => (hg.parts q hq).lens) x hx; omega)
    have hl := Nat.le_trans (othL_len of 0 s.tasks) hg.ntasks.2
    omega
  · omega
theorem agent_lock {s : SetR} {bs : List Int} {of part : Int} (h : agentK s bs of part = true) : fairK s of part = true ∧ bs.length = s.tasks.length := by
  cases e : agentB s bs of part with
  | true => exact agentB_true.1 e
  | false => unfold agentK agentO at h; rw [e] at h; cases h
theorem agentV_no {s : SetR} {bs : List Int} {of part : Int} (h : agentK s bs of part = false) : agentV s bs of part = 0 := by
  unfold agentK at h
  unfold agentV
  cases e : agentO s bs of part with
  | none => rfl
  | some v => rw [e] at h; cases h
theorem agentV_in {s : SetR} {bs : List Int} {of part : Int} (h : agentK s bs of part = true) : leastV s of part ≤ agentV s bs of part ∧ agentV s bs of part ≤ 3000 := by
  obtain ⟨k1, k2⟩ := agent_lock h
  obtain ⟨ho, h1, h2, _⟩ := lock_part k1
  have hlo := lowerV_bd s of (homeV s of part)
  have hb : agentB s bs of part = true := agentB_true.2 ⟨k1, k2⟩
  unfold agentK agentO at h
  unfold agentV agentO
  rw [if_pos hb] at h ⊢
  cases e : fixO (winF (leastV s of part) (rivL s bs (prioOf s of) (homeV s of part) 0 s.tasks)) (leastV s of part) with
  | none => rw [e] at h; cases h
  | some v =>
    obtain ⟨a, b, _, _⟩ := fixO_some (by unfold leastV; omega) e
    exact ⟨a, b⟩
theorem agentV_bd (s : SetR) (bs : List Int) (of part : Int) : 0 ≤ agentV s bs of part ∧ agentV s bs of part ≤ 3000 := by
  cases e : agentK s bs of part with
  | true =>
    obtain ⟨a, b⟩ := agentV_in e
    obtain ⟨k1, k2⟩ := agent_lock e
    obtain ⟨ho, h1, h2, _⟩ := lock_part k1
    have hlo := lowerV_bd s of (homeV s of part)
    unfold leastV at a; omega
  | false => rw [agentV_no e]; omega
theorem tokV_bd (s : SetR) (of part : Int) : 0 ≤ tokV s of part ∧ tokV s of part ≤ 2940 := by
  have h1 := insV_bd s of part
  have h2 := outV_bd s of
  unfold tokV; split <;> omega
theorem waitV_bd (s : SetR) (bs : List Int) (of part : Int) : 0 ≤ waitV s bs of part ∧ waitV s bs of part ≤ 3000 := by
  have h1 := fairV_bd s of part
  have h2 := agentV_bd s bs of part
  have h3 := tokV_bd s of part
  unfold waitV
  split
  · split
    · omega
    · split <;> omega
  · omega
theorem waitK_lock {s : SetR} {bs : List Int} {of part : Int} (h : waitK s bs of part = true) : fairK s of part = true ∧ bs.length = s.tasks.length := by
  unfold waitK at h
  split at h
  · rename_i e
    split at h
    · exact agent_lock h
    · exact ⟨h, e⟩
  · cases h
/-- what a part takes, and whether that is told -/
def pW (s : SetR) (bs : List Int) (of : Int) (k : Nat) : Int := if (partAt s of k).kind = 3 then waitV s bs of k else 0
def pK (s : SetR) (bs : List Int) (of : Int) (k : Nat) : Bool := if (partAt s of k).kind = 3 then waitK s bs of k else true
def upTo (f : Nat → Bool) : Nat → Bool
  | 0 => true
  | k + 1 => upTo f k && f k
theorem upTo_iff (f : Nat → Bool) (n : Nat) : upTo f n = true ↔ ∀ k, k < n → f k = true := by
  induction n with
  | zero => simp [upTo]
  | succ n ih =>
    simp only [upTo, Bool.and_eq_true, ih]
    constructor
    · rintro ⟨a, b⟩ k hk
      by_cases e : k = n
      · subst e; exact b
      · exact a k (by omega)
    · intro h; exact ⟨fun k hk => h k (by omega), h n (by omega)⟩
theorem upTo_not {f : Nat → Bool} {n k : Nat} (hk : k < n) (h : f k = false) : upTo f n = false := by
  rw [Bool.eq_false_iff]; intro h2
  rw [(upTo_iff f n).1 h2 k hk] at h; cases h
def partsOf (s : SetR) (of : Int) : List PartM := (s.tasks.getD of.toNat default).parts
def waitsK (s : SetR) (bs : List Int) (of : Int) : Bool := thereB s of && upTo (pK s bs of) (partsOf s of).length
def waitsL (s : SetR) (bs : List Int) (of : Int) : List Int := if waitsK s bs of = true then (List.range (partsOf s of).length).map (pW s bs of) else []
theorem pW_bd (s : SetR) (bs : List Int) (of : Int) (k : Nat) : 0 ≤ pW s bs of k ∧ pW s bs of k ≤ 3000 := by
  have := waitV_bd s bs of k
  unfold pW; split <;> omega
theorem waits_no {s : SetR} {bs : List Int} {of : Int} (h : thereB s of = false) : waitsK s bs of = false ∧ waitsL s bs of = [] := by
  have e : waitsK s bs of = false := by unfold waitsK; rw [h]; rfl
  exact ⟨e, by unfold waitsL; rw [e]; rfl⟩
theorem waits_off {s : SetR} {bs : List Int} {of : Int} {k : Nat} (hk : k < (partsOf s of).length) (h : pK s bs of k = false) : waitsK s bs of = false ∧ waitsL s bs of = [] := by
  have e : waitsK s bs of = false := by unfold waitsK; rw [upTo_not hk h, Bool.and_false]
  exact ⟨e, by unfold waitsL; rw [e]; rfl⟩
theorem waits_yes {s : SetR} {bs : List Int} {of : Int} (h : thereB s of = true) (hk : ∀ k, k < (partsOf s of).length → pK s bs of k = true) : waitsK s bs of = true ∧ waitsL s bs of = (List.range (partsOf s of).length).map (pW s bs of) := by
  have e : waitsK s bs of = true := by unfold waitsK; rw [h, (upTo_iff _ _).2 hk]; rfl
  exact ⟨e, by unfold waitsL; rw [if_pos e]⟩
theorem range_snoc (f : Nat → Int) (k : Nat) : (List.range (k + 1)).map f = (List.range k).map f ++ [f k] := by simp [List.range_succ]
theorem waitsL_len (s : SetR) (bs : List Int) (of : Int) : (waitsL s bs of).length ≤ 6 ∧ ∀ n ∈ waitsL s bs of, 0 ≤ n ∧ n ≤ 3000 := by
  by_cases e : waitsK s bs of = true
  · have h : thereB s of = true := by
      cases h : thereB s of with
      | true => rfl
      | false => rw [(waits_no (bs := bs) h).1] at e; cases e
    obtain ⟨ho, r1, r2⟩ := thereB_true.1 h
    have hl := ((Good.of ho).parts _ (getD_mem (by omega : of.toNat < s.tasks.length))).len
    unfold waitsL
    rw [if_pos e]
    refine ⟨by simp; exact hl.2, fun n hn => ?_⟩
    obtain ⟨k, _, rfl⟩ := List.mem_map.1 hn
    exact pW_bd _ _ _ _
  · unfold waitsL; rw [if_neg e]; simp
theorem tot_cap {l : List Int} {c : Int} (h : ∀ n ∈ l, 0 ≤ n ∧ n ≤ c) : 0 ≤ tot l ∧ tot l ≤ c * (l.length : Int) := by
  induction l with
  | nil => simp [tot]
  | cons a l ih =>
    have h1 := ih (fun n hn => h n (by simp [hn]))
    have h2 := h a (by simp)
    simp only [tot, List.length_cons]
    rw [Int.natCast_succ, Int.mul_add, Int.mul_one]
    omega
theorem waitsT_bd (s : SetR) (bs : List Int) (of : Int) : 0 ≤ tot (waitsL s bs of) ∧ tot (waitsL s bs of) ≤ 18000 := by
  obtain ⟨h1, h2⟩ := waitsL_len s bs of
  have := tot_cap h2
  omega
end Go.Proofs.YtindcpgmfdkpcaaGreat

namespace Go.Proofs.YtindcpgmfdkpcaaGreat
open Go.ChangeShapes Go.WideShapes Go.ChangeAt Go.RowKit
set_option linter.unusedVariables false
set_option linter.unusedSimpArgs false

theorem there16_any (s : SetR) (of : Int) (w : World) (hs : SetOk w s) : Calls Tryz.prog 29 #[.agg #[.int .i64 s.proto, .slice s.ca s.cores.length s.cc, .slice s.ha s.homes.length s.hc, .slice s.ta s.tasks.length s.tc], .int .i64 of] w fun e w' => e = .returned (.bool (thereB s of)) ∧ Below w.heap.size w w' := by
  have hb := (Below.refl w.heap.size w).alloc (Nat.le_refl _) (.cells #[.int .i64 s.proto, .slice s.ca s.cores.length s.cc, .slice s.ha s.homes.length s.hc, .slice s.ta s.tasks.length s.tc] 25)
  have sc := SetCells.new w s 25
  have H := hidp (hs.keep (Keeps.of_below hb))
  have l3 : s.tasks.length ≤ maxLen := Nat.le_trans hs.tasks.sl.2.1 hs.tasks.sl.2.2
  unfold maxLen at l3
  clear hs
  by_cases e : chkE s = 0
  · have e1 : (chkE s == 0) = true := by simpa using e
    have ho : okS s = true := e1
    clear e
    by_cases h0 : 0 ≤ of
    · have Hv : Hid (thereB s of = decide (of < s.tasks.length)) := hidp (by simp [thereB, ho, h0])
      clear ho
      go_enter Tryz.func29, Tryz.ntmps29
      go_wp2_with (first | (go_at_call 58; (with_reducible refine (check_any _ _ H.out).mono ?_); rintro e w2 ⟨rfl, hb2⟩; have sc2 := sc.keep (Keeps.of_below hb2); obtain ⟨c0, c1, c2, c3⟩ := sc2))
      go_ret
      exact ⟨ret_bool Hv.out.symm, hb.trans (hb2.mono hb.size)⟩
    · have Hv : Hid (thereB s of = false) := hidp (by simp [thereB, h0])
      have d0 : decide (0 ≤ of) = false := by simpa using h0
      clear ho h0
      go_enter Tryz.func29, Tryz.ntmps29
      go_wp2_with (first | (go_at_call 58; (with_reducible refine (check_any _ _ H.out).mono ?_); rintro e w2 ⟨rfl, hb2⟩; have sc2 := sc.keep (Keeps.of_below hb2); obtain ⟨c0, c1, c2, c3⟩ := sc2))
      go_ret
      exact ⟨ret_bool Hv.out.symm, hb.trans (hb2.mono hb.size)⟩
  · have e1 : (chkE s == 0) = false := by simpa using e
    have Hv : Hid (thereB s of = false) := hidp (by unfold thereB okS; rw [e1]; rfl)
    clear e
    go_enter Tryz.func29, Tryz.ntmps29
    go_wp2_with (first | (go_at_call 58; (with_reducible refine (check_any _ _ H.out).mono ?_); rintro e w2 ⟨rfl, hb2⟩; have sc2 := sc.keep (Keeps.of_below hb2); obtain ⟨c0, c1, c2, c3⟩ := sc2))
    go_ret
    exact ⟨ret_bool Hv.out.symm, hb.trans (hb2.mono hb.size)⟩


set_option maxHeartbeats 1000000 in
theorem wpart_any (s : SetR) (bs : List Int) (ba : Option Addr) (bc : Nat) (of part : Int) (w : World) (hs : SetOk w s) (hB : IntsOk w ba bc bs) : Calls Tryz.prog 7 #[.agg #[.int .i64 s.proto, .slice s.ca s.cores.length s.cc, .slice s.ha s.homes.length s.hc, .slice s.ta s.tasks.length s.tc], .slice ba bs.length bc, .int .i64 of, .int .i64 part] w fun e w' => e = .returned (.tuple #[.int .i64 (waitV s bs of part), .bool (waitK s bs of part)]) ∧ Below w.heap.size w w' := by
  have hb := (Below.refl w.heap.size w).alloc (Nat.le_refl _) (.cells #[.int .i64 s.proto, .slice s.ca s.cores.length s.cc, .slice s.ha s.homes.length s.hc, .slice s.ta s.tasks.length s.tc] 25)
  have sc := SetCells.new w s 25
  have H := hs.keep (Keeps.of_below hb)
  have HB := hB.keep (Keeps.of_below hb)
  have l3 : s.tasks.length ≤ maxLen := Nat.le_trans hs.tasks.sl.2.1 hs.tasks.sl.2.2
  have l4 : bs.length ≤ maxLen := Nat.le_trans hB.sl.2.1 hB.sl.2.2
  unfold maxLen at l3 l4
  by_cases e2 : bs.length = s.tasks.length
  · have d1 : ((bs.length : Int) != (s.tasks.length : Int)) = false := by simp [e2]
    by_cases p1 : s.proto = 1
    · have HV : Hid (waitV s bs of part = fairV s of part) := hidp (by unfold waitV; rw [if_pos e2, if_pos p1])
      have HK : Hid (waitK s bs of part = fairK s of part) := hidp (by unfold waitK; rw [if_pos e2, if_neg (by omega)])
      have q1 : (s.proto == 1) = true := by simpa using p1
      clear p1 e2
      go_enter Tryz.func7, Tryz.ntmps7
      go_wp2_with fail
      refine (part_any s of part _ H).mono ?_
      rintro e w2 ⟨rfl, hb2⟩
      replace hb := hb.trans (hb2.mono hb.size)
      clear hb2
      go_wp2
      go_ret2
      exact ⟨ret_ib HV.out.symm HK.out.symm, hb⟩
    · have q1 : (s.proto == 1) = false := by simpa using p1
      by_cases p2 : s.proto = 2
      · have HV : Hid (waitV s bs of part = agentV s bs of part) := hidp (by unfold waitV; rw [if_pos e2, if_neg p1, if_pos p2])
        have HK : Hid (waitK s bs of part = agentK s bs of part) := hidp (by unfold waitK; rw [if_pos e2, if_pos p2])
        have q2 : (s.proto == 2) = true := by simpa using p2
        clear p1 p2 e2
        go_enter Tryz.func7, Tryz.ntmps7
        go_wp2_with fail
        refine (apart_any s bs ba bc of part _ H HB).mono ?_
        rintro e w2 ⟨rfl, hb2⟩
        replace hb := hb.trans (hb2.mono hb.size)
        clear hb2
        go_wp2
        go_ret2
        exact ⟨ret_ib HV.out.symm HK.out.symm, hb⟩
      · have q2 : (s.proto == 2) = false := by simpa using p2
        have HV : Hid (waitV s bs of part = tokV s of part) := hidp (by unfold waitV; rw [if_pos e2, if_neg p1, if_neg p2])
        have HK : Hid (waitK s bs of part = fairK s of part) := hidp (by unfold waitK; rw [if_pos e2, if_neg p2])
        by_cases p3 : s.proto = 3
        · have q3 : (s.proto == 3) = true := by simpa using p3
          clear p1 p2 p3 e2
          go_enter Tryz.func7, Tryz.ntmps7
          go_wp2_with fail
          refine (tpart_any s of part _ H).mono ?_
          rintro e w2 ⟨rfl, hb2⟩
          replace hb := hb.trans (hb2.mono hb.size)
          clear hb2
          go_wp2
          go_ret2
          exact ⟨ret_ib HV.out.symm HK.out.symm, hb⟩
        · have q3 : (s.proto == 3) = false := by simpa using p3
          have hk : fairK s of part = false := by
            rw [Bool.eq_false_iff]; intro h
            have := (Good.of (lock_part h).1).proto
            omega
          have HV2 : Hid (waitV s bs of part = 0) := hidp (by rw [HV.out]; unfold tokV; rw [hk]; rfl)
          have HK2 : Hid (waitK s bs of part = false) := hidp (by rw [HK.out, hk])
          clear p1 p2 p3 e2 hk
          go_enter Tryz.func7, Tryz.ntmps7
          go_wp2
          go_ret2
          exact ⟨ret_ib HV2.out.symm HK2.out.symm, hb⟩
  · have d1 : ((bs.length : Int) != (s.tasks.length : Int)) = true := by simp; omega
    have HV : Hid (waitV s bs of part = 0) := hidp (by unfold waitV; rw [if_neg e2])
    have HK : Hid (waitK s bs of part = false) := hidp (by unfold waitK; rw [if_neg e2])
    clear e2
    go_enter Tryz.func7, Tryz.ntmps7
    go_wp2
    go_ret2
    exact ⟨ret_ib HV.out.symm HK.out.symm, hb⟩

theorem OwnN.none (B : Nat) (w : World) : OwnN B w none 0 0 [] := ⟨World.ownsRow_nil _ _ _ _, rfl, by decide, fun _ => ⟨rfl, rfl⟩⟩
theorem OwnN.app {B : Nat} {w w1 w2 : World} {A A' : Option Addr} {n c c' : Nat} {rs ps : List Int} {m : Nat} (h : OwnN B w A n c rs) (ha : App B 3 1 w1 A A' (n + m) c' (rs.map (Value.int .i64) ++ ps.map (Value.int .i64)) w2) (hm : m = ps.length) : OwnN B w2 A' (n + m) c' (rs ++ ps) :=
  ⟨by rw [List.map_append]; exact ha.own, by rw [List.length_append, h.len, hm], ha.cap, ha.nil⟩
theorem ints_one (x : Int) : ∀ u ∈ [x].map (Value.int .i64), u.oneCell' = true := fun u hu => by simp at hu; subst hu; rfl
/-- a row of numbers, and a word -/
def RowK (w : World) (zs : List Int) (k : Bool) (e : Ending) (w' : World) : Prop := ∃ A c, e = .returned (.tuple #[.slice A zs.length c, .bool k]) ∧ IntsOk w' A c zs ∧ Below w.heap.size w w'
theorem RowK.eq {w w' : World} {zs ys : List Int} {k j : Bool} {e : Ending} (h : RowK w zs k e w') (h1 : zs = ys) (h2 : k = j) : RowK w ys j e w' := h1 ▸ h2 ▸ h

set_option maxHeartbeats 4000000 in
set_option maxRecDepth 100000 in
theorem wall_any (s : SetR) (bs : List Int) (ba : Option Addr) (bc : Nat) (of : Int) (w : World) (hs : SetOk w s) (hB : IntsOk w ba bc bs) : Calls Tryz.prog 9 #[.agg #[.int .i64 s.proto, .slice s.ca s.cores.length s.cc, .slice s.ha s.homes.length s.hc, .slice s.ta s.tasks.length s.tc], .slice ba bs.length bc, .int .i64 of] w (RowK w (waitsL s bs of) (waitsK s bs of)) := by
  have hb := (Below.refl w.heap.size w).alloc (Nat.le_refl _) (.cells #[.int .i64 s.proto, .slice s.ca s.cores.length s.cc, .slice s.ha s.homes.length s.hc, .slice s.ta s.tasks.length s.tc] 25)
  have sc := SetCells.new w s 25
  have H := hs.keep (Keeps.of_below hb)
  have l3 : s.tasks.length ≤ maxLen := Nat.le_trans hs.tasks.sl.2.1 hs.tasks.sl.2.2
  unfold maxLen at l3
  by_cases e : thereB s of = true
  · have Hth := hidp e
    obtain ⟨ho, r1, r2⟩ := thereB_true.1 e
    obtain ⟨n, rfl⟩ : ∃ n : Nat, of = n := ⟨of.toNat, by omega⟩
    have hn : n < s.tasks.length := by omega
    have hg := Good.of ho
    obtain ⟨t, HT⟩ : ∃ t, Hid (s.tasks.getD n default = t) := ⟨_, rfl⟩
    have hm : t ∈ s.tasks := HT.out ▸ getD_mem hn
    have Tok := hs.tasks.ok t hm
    have Tg := hg.parts t hm
    obtain ⟨g, off, hA, hcl⟩ := hs.tasks.at_.resolve_left (by intro e; rw [e] at hn; simp at hn)
    have Ht5 := hidp ((HT.out ▸ hcl n hn).2.2.2.2.2)
    have hpl := Tg.len
    obtain ⟨gp, op, hP, hpc⟩ := Tok.at_.resolve_left (by intro e; rw [e] at hpl; simp at hpl)
    have Hpc := hidp hpc
    obtain ⟨parts, hparts⟩ : ∃ parts, t.parts = parts := ⟨_, rfl⟩
    have Hpt : Hid (partsOf s n = parts) := hidp (by unfold partsOf; simp only [Int.toNat_natCast]; rw [HT.out, hparts])
    rw [hP, hparts] at Ht5
    rw [hparts] at Hpc hpl
    obtain ⟨V, HV⟩ : ∃ V : Nat → Int, Hid (∀ k : Nat, waitV s bs n k = V k) := ⟨fun k => waitV s bs n k, hidp (fun _ => rfl)⟩
    obtain ⟨K, HK⟩ : ∃ K : Nat → Bool, Hid (∀ k : Nat, waitK s bs n k = K k) := ⟨fun k => waitK s bs n k, hidp (fun _ => rfl)⟩
    have Hpa : Hid (∀ k : Nat, partAt s n k = parts.getD k default) := hidp (fun k => by unfold partAt; have := Hpt.out; unfold partsOf at this; rw [this]; simp)
    obtain ⟨PW, HPW⟩ : ∃ f : Nat → Int, Hid (pW s bs n = f) := ⟨_, hidp rfl⟩
    obtain ⟨PK, HPK⟩ : ∃ f : Nat → Bool, Hid (pK s bs n = f) := ⟨_, hidp rfl⟩
    have HPWl : Hid (∀ k, (parts.getD k default).kind = 3 → PW k = V k ∧ PK k = K k) := hidp (fun k h => by
      rw [← HPW.out, ← HPK.out]; unfold pW pK; rw [Hpa.out, if_pos h, if_pos h, HV.out, HK.out]; exact ⟨rfl, rfl⟩)
    have HPWn : Hid (∀ k, (parts.getD k default).kind ≠ 3 → PW k = 0 ∧ PK k = true) := hidp (fun k h => by
      rw [← HPW.out, ← HPK.out]; unfold pW pK; rw [Hpa.out, if_neg h, if_neg h]; exact ⟨rfl, rfl⟩)
    have HWb : Hid (∀ k, 0 ≤ PW k ∧ PW k ≤ 3000) := hidp (fun k => by rw [← HPW.out]; exact pW_bd s bs n k)
    have Hoff : Hid (∀ k, k < parts.length → PK k = false → waitsK s bs n = false ∧ waitsL s bs n = []) := hidp (fun k hk h => waits_off (by rw [Hpt.out]; exact hk) (by rw [HPK.out]; exact h))
    have Hyes : Hid ((∀ k, k < parts.length → PK k = true) → waitsK s bs n = true ∧ waitsL s bs n = (List.range parts.length).map PW) := hidp (fun h => by
      have := waits_yes (s := s) (bs := bs) (of := n) Hth.out (by rw [Hpt.out, HPK.out]; exact h)
      rw [Hpt.out, HPW.out] at this; exact this)
    obtain ⟨RL, HRL⟩ : ∃ L, Hid (waitsL s bs n = L) := ⟨_, hidp rfl⟩
    obtain ⟨RK, HRK⟩ : ∃ L, Hid (waitsK s bs n = L) := ⟨_, hidp rfl⟩
    rw [HRL.out, HRK.out] at Hoff Hyes ⊢
    have HS1 := hidp (fun u (h : Below w.heap.size w u) => hs.keep (Keeps.of_below h))
    have HB1 := hidp (fun u (h : Below w.heap.size w u) => hB.keep (Keeps.of_below h))
    obtain ⟨S, HSS⟩ : ∃ S : SetR, Hid (S = s) := ⟨s, rfl⟩
    obtain ⟨i0, hi0, hy0, hy1, hy2⟩ := info_parts infoZ
    clear hcl hm Tok Tg hpc hP hparts hg ho HT e hs hB r1
    have dn : decide (s.tasks.length ≤ n) = false := by simp; omega
    obtain ⟨proto, ca, cc, cores, ha, hc, homes, ta, tc, tasks⟩ := s
    dsimp only at hA hn l3 r2 hb sc H dn HS1 ⊢
    subst hA
    go_enter Tryz.func9, Tryz.ntmps9
    go_wp2
    go_step3
    go_wp2_with fail
    refine (there16_any _ _ _ H).mono ?_
    rintro e w2 ⟨rfl, hb2⟩
    replace hb := hb.trans (hb2.mono hb.size)
    replace sc := sc.keep (Keeps.of_below hb2)
    clear hb2
    try clear sc_0 sc_1 sc_2 sc_3
    have scx := sc
    obtain ⟨sc_0, sc_1, sc_2, sc_3⟩ := scx
    try dsimp only at sc_0 sc_1 sc_2 sc_3
    rw [Hth.out]
    have hz0 : w.heap.size + 1 ≤ w2.heap.size := cell_lt sc_0
    have d5 := Keeps.of_below hb _ _ Ht5.out
    go_wp2
    go_step3
    go_wp2
    clear sc_0 sc_1 sc_2 sc_3 d5
    go_loopg [8, 9, 24] parts.length (fun gg a ok i wr => ∃ (k c : Nat) (A : Option Addr), k + gg = parts.length ∧ i = .int .i64 k ∧ ok = .bool true ∧ a = .slice A k c ∧ Hid (∀ j, j < k → PK j = true) ∧ OwnN (w.heap.size + 1) wr A k c ((List.range k).map PW) ∧ SetCells wr w.heap.size ⟨proto, ca, cc, cores, ha, hc, homes, some ⟨g, off, none⟩, tc, tasks⟩ ∧ Below w.heap.size w wr ∧ w.heap.size + 1 ≤ wr.heap.size)
    case atStart => exact ⟨0, 0, none, by omega, rfl, rfl, rfl, hidp (fun j hj => by omega), OwnN.none _ _, sc, hb, hz0⟩
    case round =>
      clear sc hb
      obtain ⟨k, c, A, hk, rfl, rfl, rfl, Hk, ho, sc, hw, hz⟩ := hrel
      by_cases hlt : k < parts.length
      · obtain ⟨p, HP⟩ : ∃ p, Hid (parts.getD k default = p) := ⟨_, rfl⟩
        have pcl := (HP.out ▸ Hpc.out k hlt).keep (Keeps.of_below hw)
        obtain ⟨x0, x1, x2⟩ := pcl
        have hw1 := hw.alloc hw.size (.cells #[.int .i64 p.kind, .int .i64 p.len, .int .i64 p.res] 43)
        have ho1 := ho.turned ((Turned.refl [] wr).alloc (.cells #[.int .i64 p.kind, .int .i64 p.len, .int .i64 p.res] 43)) (by simp)
        have hz1 : w.heap.size + 1 ≤ (wr.alloc (.cells #[.int .i64 p.kind, .int .i64 p.len, .int .i64 p.res] 43)).heap.size := Nat.le_trans hz (by simp)
        have sc1 := sc.keep (Keeps.alloc wr (.cells #[.int .i64 p.kind, .int .i64 p.len, .int .i64 p.res] 43))
        obtain ⟨sc_0, sc_1, sc_2, sc_3⟩ := id sc1
        dsimp only at sc_0 sc_1 sc_2 sc_3
        have N2 : Hid (k + 1 ≤ maxLen) := hidp (by unfold maxLen; omega)
        have T2 : Hid ((k + 1) * 8 ≤ 140737488355328) := hidp (by omega)
        by_cases e : p.kind = 3
        · obtain ⟨v1, v2⟩ := HPWl.out k (by rw [HP.out]; exact e)
          have e' : (p.kind == 3) = true := by simpa using e
          obtain ⟨b, Hb⟩ : ∃ b, Hid (K k = b) := ⟨_, rfl⟩
          rw [Hb.out] at v2
          obtain ⟨v, Hv⟩ : ∃ v, Hid (PW k = v) := ⟨_, rfl⟩
          rw [Hv.out] at v1
          have Hvv := hidp v1.symm
          have Hpk := hidp v2
          clear v1 v2 e
          cases b with
          | false =>
            obtain ⟨f1, f2⟩ := Hoff.out k hlt Hpk.out
            have F1 := hidp f1
            have F2 := hidp f2
            clear f1 f2
            go_wp2_with fail
            refine (wpart_any _ bs ba bc n k _ (HS1.out _ hw1) (HB1.out _ hw1)).mono ?_
            rintro e w3 ⟨rfl, hb3⟩
            rw [HV.out k, HK.out k, Hb.out]
            go_wp2_with fail
            try rw [Exit.noGoto_ret]
            go_ret2
            exact RowK.eq ⟨none, 0, rfl, nil_ints _, hw1.trans (hb3.mono hw1.size)⟩ F2.out.symm F1.out.symm
          | true =>
            go_wp2_with fail
            refine (wpart_any _ bs ba bc n k _ (HS1.out _ hw1) (HB1.out _ hw1)).mono ?_
            rintro e w3 ⟨rfl, hb3⟩
            rw [HV.out k, HK.out k, Hb.out, Hvv.out]
            have hw3 := hw1.trans (hb3.mono hw1.size)
            have hown4 := ((ho1.turned (Turned.of_below hb3 []) (by simp)).turned ((Turned.refl [] w3).alloc (.cells #[.int .i64 v] 3)) (by simp))
            have S2 := hidp (Lies.newCells' w3 [.int .i64 v] 3)
            have Z2 : Hid (w.heap.size + 1 ≤ (w3.alloc (.cells #[.int .i64 v] 3)).heap.size) := hidp (Nat.le_trans hz1 (Nat.le_trans hb3.size (by simp)))
            have sc4 := (sc1.keep (Keeps.of_below hb3)).keep (Keeps.alloc _ (.cells #[.int .i64 v] 3))
            have hw4 := hw3.alloc hw3.size (.cells #[.int .i64 v] 3)
            have O2 := hidp (ints_one v)
            have Hfp := hidp (own_fp hown4.own)
            clear x0 x1 x2 sc_0 sc_1 sc_2 sc_3
            go_wp2_with (at_builtin; refine wpList_app2 _ rfl (.tmp 42) (.tmp 44) 22 rfl (w.heap.size + 1) 3 i0 _ 1 8 Tryz.underlying22 hi0 hy0 hy1 hy2 rfl (by decide) A k c _ rfl hown4.own _ _ 1 1 [.int .i64 v] rfl (by simp) rfl S2.out O2.out N2.out T2.out Z2.out ?_; intro A' c' w5 happ)
            go_roundg (gk - 1)
            case measure => omega
            case rel => exact ⟨k + 1, c', A', by omega, by go_num, rfl, rfl, hidp (fun j hj => by
              by_cases ej : j = k
              · subst ej; exact Hpk.out
              · exact Hk.out j (by omega)), by rw [range_snoc, Hv.out]; exact hown4.app (ps := [v]) happ rfl, sc4.turned happ.turned (fun hf => by have := (Hfp.out _ hf).1; omega), hw4.trans (happ.turned.below hw4.size (fun j hj => by have := (Hfp.out _ hj).1; omega)), Nat.le_trans Z2.out happ.turned.size⟩
        · obtain ⟨v1, v2⟩ := HPWn.out k (by rw [HP.out]; exact e)
          have e' : (p.kind == 3) = false := by simpa using e
          have Hv := hidp v1
          have Hpk := hidp v2
          clear v1 v2 e
          have hw3 := hw1
          have hown4 := ho1.turned ((Turned.refl [] (wr.alloc (.cells #[.int .i64 p.kind, .int .i64 p.len, .int .i64 p.res] 43))).alloc (.cells #[.int .i64 0] 3)) (by simp)
          have S2' := Lies.newCells' (wr.alloc (.cells #[.int .i64 p.kind, .int .i64 p.len, .int .i64 p.res] 43)) [.int .i64 0] 3
          rw [show (wr.alloc (.cells #[.int .i64 p.kind, .int .i64 p.len, .int .i64 p.res] 43)).heap.size = wr.heap.size + 1 by simp] at S2'
          have S2 := hidp S2'
          clear S2'
          have Z2 : Hid (w.heap.size + 1 ≤ ((wr.alloc (.cells #[.int .i64 p.kind, .int .i64 p.len, .int .i64 p.res] 43)).alloc (.cells #[.int .i64 0] 3)).heap.size) := hidp (Nat.le_trans hz1 (by simp))
          have sc4 := sc1.keep (Keeps.alloc _ (.cells #[.int .i64 0] 3))
          have hw4 := hw3.alloc hw3.size (.cells #[.int .i64 0] 3)
          have O2 := hidp (ints_one 0)
          have Hfp := hidp (own_fp hown4.own)
          go_wp2_with (at_builtin; refine wpList_app2 _ rfl (.tmp 42) (.tmp 44) 22 rfl (w.heap.size + 1) 3 i0 _ 1 8 Tryz.underlying22 hi0 hy0 hy1 hy2 rfl (by decide) A k c _ rfl hown4.own _ _ 1 1 [.int .i64 0] rfl (by simp) rfl S2.out O2.out N2.out T2.out Z2.out ?_; intro A' c' w5 happ)
          go_roundg (gk - 1)
          case measure => omega
          case rel => exact ⟨k + 1, c', A', by omega, by go_num, rfl, rfl, hidp (fun j hj => by
              by_cases ej : j = k
              · subst ej; exact Hpk.out
              · exact Hk.out j (by omega)), by rw [range_snoc, Hv.out]; exact hown4.app (ps := [0]) happ rfl, sc4.turned happ.turned (fun hf => by have := (Hfp.out _ hf).1; omega), hw4.trans (happ.turned.below hw4.size (fun j hj => by have := (Hfp.out _ hj).1; omega)), Nat.le_trans Z2.out happ.turned.size⟩
      · obtain rfl : k = parts.length := by omega
        obtain ⟨f1, f2⟩ := Hyes.out Hk.out
        have F1 := hidp f1
        have F2 := hidp f2
        have hrow := ho.ok (fun x hx => by obtain ⟨j, _, rfl⟩ := List.mem_map.1 hx; have := HWb.out j; unfold I64; omega)
        have Hr := hidp hrow
        clear f1 f2 hrow
        go_wp2
        try rw [Exit.noGoto_ret]
        go_ret2
        exact RowK.eq ⟨A, c, by simp, Hr.out, hw⟩ F2.out.symm F1.out.symm
  · have e : thereB s of = false := by simpa using e
    obtain ⟨k1, k2⟩ := waits_no (bs := bs) e
    have Hth := hidp e
    have F1 := hidp k1
    have F2 := hidp k2
    clear e k1 k2 hs hB
    go_enter Tryz.func9, Tryz.ntmps9
    go_wp2
    go_step3
    go_wp2_with fail
    refine (there16_any _ _ _ H).mono ?_
    rintro e w2 ⟨rfl, hb2⟩
    replace hb := hb.trans (hb2.mono hb.size)
    replace sc := sc.keep (Keeps.of_below hb2)
    clear hb2
    rw [Hth.out]
    go_wp2
    go_ret2
    exact RowK.eq ⟨none, 0, rfl, nil_ints _, hb⟩ F2.out.symm F1.out.symm

set_option maxHeartbeats 1000000 in
set_option maxRecDepth 100000 in
theorem wsum_any (s : SetR) (bs : List Int) (ba : Option Addr) (bc : Nat) (of : Int) (w : World) (hs : SetOk w s) (hB : IntsOk w ba bc bs) : Calls Tryz.prog 11 #[.agg #[.int .i64 s.proto, .slice s.ca s.cores.length s.cc, .slice s.ha s.homes.length s.hc, .slice s.ta s.tasks.length s.tc], .slice ba bs.length bc, .int .i64 of] w fun e w' => e = .returned (.tuple #[.int .i64 (tot (waitsL s bs of)), .bool (waitsK s bs of)]) ∧ Below w.heap.size w w' := by
  have hb := (Below.refl w.heap.size w).alloc (Nat.le_refl _) (.cells #[.int .i64 s.proto, .slice s.ca s.cores.length s.cc, .slice s.ha s.homes.length s.hc, .slice s.ta s.tasks.length s.tc] 25)
  have sc := SetCells.new w s 25
  have H := hs.keep (Keeps.of_below hb)
  have HB := hB.keep (Keeps.of_below hb)
  have h6 := waitsL_len s bs of
  obtain ⟨L, HL⟩ : ∃ L, Hid (waitsL s bs of = L) := ⟨_, hidp rfl⟩
  obtain ⟨K, HK⟩ : ∃ K, Hid (waitsK s bs of = K) := ⟨_, hidp rfl⟩
  rw [HL.out] at h6
  obtain ⟨l6, hb6⟩ := h6
  have HP := hidp hb6
  have HW := wall_any s bs ba bc of _ H HB
  rw [HL.out, HK.out] at HW ⊢
  clear hs hB H HB hb6
  go_enter Tryz.func11, Tryz.ntmps11
  go_wp2_with fail
  refine HW.mono ?_
  rintro e w2 ⟨A, c, rfl, hr, hb2⟩
  replace hb := hb.trans (hb2.mono hb.size)
  have HR := hidp hr.at_
  clear hr hb2 HW sc
  go_wp2
  go_loopg [10, 22] L.length (fun gg a i wr => ∃ (k : Nat) (x : Int), k + gg = L.length ∧ i = .int .i64 k ∧ a = .int .i64 x ∧ Hid (tot (L.take k) = x) ∧ w2 = wr)
  case atStart => exact ⟨0, 0, by omega, rfl, rfl, hidp rfl, rfl⟩
  case round =>
    obtain ⟨k, x, hk, rfl, rfl, Hx, rfl⟩ := hrel
    have hx := tot_cap (fun n (hn : n ∈ L.take k) => HP.out n (List.mem_of_mem_take hn))
    rw [Hx.out, List.length_take] at hx
    obtain ⟨x0, x1⟩ := hx
    have x2 : x ≤ 18000 := by omega
    clear x1
    by_cases hlt : k < L.length
    · obtain ⟨g, off, hA, hcl⟩ := HR.out.resolve_left (by intro e; rw [e] at hlt; simp at hlt)
      subst hA
      obtain ⟨v, Hv⟩ : ∃ v, Hid (L.getD k 0 = v) := ⟨_, rfl⟩
      have c1 := Hv.out ▸ hcl k hlt
      have hv := HP.out v (by rw [← Hv.out]; simp [List.getD, hlt])
      obtain ⟨v0, v1⟩ := hv
      have Hs : Hid (tot (L.take (k + 1)) = x + v) := hidp (by rw [tot_snoc _ _ hlt, Hx.out, Hv.out])
      clear hcl
      go_wp2
      go_roundg (gk - 1)
      case measure => omega
      case rel => exact ⟨k + 1, x + v, by omega, by go_num, rfl, Hs, rfl⟩
    · obtain rfl : k = L.length := by omega
      have Hz : Hid (tot L = x) := hidp (by have := Hx.out; rw [List.take_length] at this; exact this)
      go_wp2
      go_ret2
      exact ⟨ret_ib Hz.out.symm rfl, hb⟩
end Go.Proofs.YtindcpgmfdkpcaaGreat

namespace Go.Proofs.YtindcpgmfdkpcaaGreat
open Go.ChangeShapes Go.WideShapes Go.ChangeAt Go.RowKit
set_option linter.unusedVariables false

theorem two16_vals {S : SetR} (hS : twoS16 S 1 1 3 1 4) : waitV S [9, 9] 0 1 = 7 ∧ waitK S [9, 9] 0 1 = true ∧ waitsL S [9, 9] 0 = [0, 7] ∧ waitsK S [9, 9] 0 = true ∧ waitV S [] 0 1 = 0 ∧ waitK S [] 0 1 = false := by
  obtain ⟨p1, p2, p3, a1, a2, c1, c2, p4⟩ := hS
  have hok := okTwo p1 p2 p3 p4 (by decide) (by decide) (by decide) (by decide) (by decide)
  have ht : thereB S 0 = true := thereB_true.2 ⟨hok, by decide, by rw [p4]; simp⟩
  have hk : fairK S 0 1 = true := fairK_iff.2 ⟨ht, by decide, by rw [p4]; show (1 : Int) < 2; decide, by unfold partAt; rw [p4]; rfl⟩
  have fv : fairV S 0 1 = 7 := by unfold fairV; rw [if_pos hk]; unfold partAt; rw [p4]; rfl
  have hl : ([9, 9] : List Int).length = S.tasks.length := by rw [p4]; rfl
  have hn : ¬ ([] : List Int).length = S.tasks.length := by rw [p4]; simp
  have v1 : waitV S [9, 9] 0 1 = 7 := by unfold waitV; rw [if_pos hl, if_pos p1, fv]
  have v2 : waitK S [9, 9] 0 1 = true := by unfold waitK; rw [if_pos hl, if_neg (by omega), hk]
  have hp : partsOf S 0 = [⟨1, 1, 0⟩, ⟨3, 3, 0⟩] := by unfold partsOf; rw [p4]; rfl
  have q0 : (partAt S 0 (0 : Nat)).kind = 1 := by unfold partAt; rw [p4]; rfl
  have q1 : (partAt S 0 (1 : Nat)).kind = 3 := by unfold partAt; rw [p4]; rfl
  have k0 : pK S [9, 9] 0 0 = true := by unfold pK; rw [if_neg (by rw [q0]; decide)]
  have k1 : pK S [9, 9] 0 1 = true := by unfold pK; rw [if_pos q1]; exact v2
  have w0 : pW S [9, 9] 0 0 = 0 := by unfold pW; rw [if_neg (by rw [q0]; decide)]
  have w1 : pW S [9, 9] 0 1 = 7 := by unfold pW; rw [if_pos q1]; exact v1
  obtain ⟨y1, y2⟩ := waits_yes (s := S) (bs := [9, 9]) (of := 0) ht (by
    rw [hp]; intro k hk
    match k, hk with
    | 0, _ => exact k0
    | 1, _ => exact k1)
  refine ⟨v1, v2, ?_, y1, ?_, ?_⟩
  · rw [y2, hp]
    show [pW S [9, 9] 0 0, pW S [9, 9] 0 1] = _
    rw [w0, w1]
  · unfold waitV; rw [if_neg hn]
  · unfold waitK; rw [if_neg hn]

set_option maxHeartbeats 1000000 in
set_option maxRecDepth 100000 in
theorem known16_any (w : World) : Calls Tryz.prog 5 #[] w fun e w' => e = .returned (.bool true) ∧ Below w.heap.size w w' := by
  go_enter Tryz.func5, Tryz.ntmps5
  go_wp2_with fail
  refine (two16_any 1 1 3 1 4 _ (by decide) (by decide) (by decide) (by decide) (by decide)).mono ?_
  rintro e w1 ⟨⟨S, rfl, hs, hS⟩, hb⟩
  obtain ⟨v1, v2, v3, v4, v5, v6⟩ := two16_vals hS
  clear hS
  have sc := SetCells.new w1 S 25
  replace hb := hb.alloc hb.size (.cells #[.int .i64 S.proto, .slice S.ca S.cores.length S.cc, .slice S.ha S.homes.length S.hc, .slice S.ta S.tasks.length S.tc] 25)
  replace hs := hs.keep (Keeps.alloc w1 (.cells #[.int .i64 S.proto, .slice S.ca S.cores.length S.cc, .slice S.ha S.homes.length S.hc, .slice S.ta S.tasks.length S.tc] 25))
  have k1 := Keeps.alloc (w1.alloc (.cells #[.int .i64 S.proto, .slice S.ca S.cores.length S.cc, .slice S.ha S.homes.length S.hc, .slice S.ta S.tasks.length S.tc] 25)) (.cells #[.int .i64 9, .int .i64 9] 3)
  have HB := lit_ints (w := w1.alloc (.cells #[.int .i64 S.proto, .slice S.ca S.cores.length S.cc, .slice S.ha S.homes.length S.hc, .slice S.ta S.tasks.length S.tc] 25)) (g := w1.heap.size + 1) (zs := [9, 9]) (t := 3) (by simp) rfl (by decide) (by decide)
  replace sc := sc.keep k1
  replace hs := hs.keep k1
  replace hb := hb.alloc hb.size (.cells #[.int .i64 9, .int .i64 9] 3)
  go_wp2_with fail
  refine (wpart_any S [9, 9] _ 2 0 1 _ hs HB).mono ?_
  rintro e u0 ⟨rfl, hb2⟩
  replace hb := hb.trans (hb2.mono hb.size)
  replace sc := sc.keep (Keeps.of_below hb2)
  replace hs := hs.keep (Keeps.of_below hb2)
  clear hb2
  try clear sc_0 sc_1 sc_2 sc_3
  have scx := sc
  obtain ⟨sc_0, sc_1, sc_2, sc_3⟩ := scx
  try dsimp only at sc_0 sc_1 sc_2 sc_3
  rw [v1, v2]
  clear HB k1
  have k1 := Keeps.alloc u0 (.cells #[.int .i64 9, .int .i64 9] 3)
  have HB := lit_ints (w := u0) (zs := [9, 9]) (t := 3) rfl rfl (by decide) (by decide)
  replace hs := hs.keep k1
  replace sc := sc.keep k1
  replace hb := hb.alloc hb.size (.cells #[.int .i64 9, .int .i64 9] 3)
  go_wp2_with fail
  have CC := wall_any S [9, 9] _ 2 0 _ hs HB
  rw [v3, v4] at CC
  refine CC.mono ?_
  rintro e u1 ⟨A, c, rfl, hr, hb2⟩
  clear CC
  replace hb := hb.trans (hb2.mono hb.size)
  replace sc := sc.keep (Keeps.of_below hb2)
  replace hs := hs.keep (Keeps.of_below hb2)
  clear hb2
  try clear sc_0 sc_1 sc_2 sc_3
  have scx := sc
  obtain ⟨sc_0, sc_1, sc_2, sc_3⟩ := scx
  try dsimp only at sc_0 sc_1 sc_2 sc_3
  obtain ⟨g, off, hA, hcl⟩ := hr.at_.resolve_left (by simp)
  subst hA
  have l0 := hcl 0 (by simp)
  have l1 := hcl 1 (by simp)
  simp only [List.getD_cons_zero, List.getD_cons_succ, Nat.add_zero] at l0 l1
  clear HB k1 hr hcl
  have k1 := Keeps.alloc u1 (.cells #[.int .i64 9, .int .i64 9] 3)
  have HB := lit_ints (w := u1) (zs := [9, 9]) (t := 3) rfl rfl (by decide) (by decide)
  replace hs := hs.keep k1
  replace sc := sc.keep k1
  replace hb := hb.alloc hb.size (.cells #[.int .i64 9, .int .i64 9] 3)
  replace l0 := k1 _ _ l0
  replace l1 := k1 _ _ l1
  go_wp2_with fail
  refine (wsum_any S [9, 9] _ 2 0 _ hs HB).mono ?_
  rintro e u2 ⟨rfl, hb2⟩
  replace hb := hb.trans (hb2.mono hb.size)
  replace sc := sc.keep (Keeps.of_below hb2)
  replace hs := hs.keep (Keeps.of_below hb2)
  replace l0 := Keeps.of_below hb2 _ _ l0
  replace l1 := Keeps.of_below hb2 _ _ l1
  clear hb2
  try clear sc_0 sc_1 sc_2 sc_3
  have scx := sc
  obtain ⟨sc_0, sc_1, sc_2, sc_3⟩ := scx
  try dsimp only at sc_0 sc_1 sc_2 sc_3
  rw [v3, v4]
  clear HB k1
  go_wp2_with fail
  refine (wpart_any S [] none 0 0 1 _ hs (nil_ints _)).mono ?_
  rintro e u3 ⟨rfl, hb2⟩
  replace hb := hb.trans (hb2.mono hb.size)
  replace l0 := Keeps.of_below hb2 _ _ l0
  replace l1 := Keeps.of_below hb2 _ _ l1
  clear hb2
  rw [v5, v6]
  go_wp2_with fail
  go_ret
  exact ⟨rfl, hb⟩
end Go.Proofs.YtindcpgmfdkpcaaGreat

namespace Go.Proofs.YtindcpgmfdkpcaaGreat
open Go.ChangeShapes Go.WideShapes Go.ChangeAt Go.RowKit
set_option linter.unusedVariables false
set_option linter.unusedSimpArgs false

set_option maxHeartbeats 1000000 in
theorem rwpart_any (s : SetR) (bs : List Int) (ba : Option Addr) (bc : Nat) (of part : Int) (w : World) (hs : SetOk w s) (hB : IntsOk w ba bc bs) : Calls Tryz.prog 8 #[.agg #[.int .i64 s.proto, .slice s.ca s.cores.length s.cc, .slice s.ha s.homes.length s.hc, .slice s.ta s.tasks.length s.tc], .slice ba bs.length bc, .int .i64 of, .int .i64 part] w fun e w' => e = .returned (.tuple #[.int .i64 (waitV s bs of part), .bool (waitK s bs of part)]) ∧ Below w.heap.size w w' := by
  have hb := (Below.refl w.heap.size w).alloc (Nat.le_refl _) (.cells #[.int .i64 s.proto, .slice s.ca s.cores.length s.cc, .slice s.ha s.homes.length s.hc, .slice s.ta s.tasks.length s.tc] 25)
  have sc := SetCells.new w s 25
  have H := hs.keep (Keeps.of_below hb)
  have HB := hB.keep (Keeps.of_below hb)
  have l3 : s.tasks.length ≤ maxLen := Nat.le_trans hs.tasks.sl.2.1 hs.tasks.sl.2.2
  have l4 : bs.length ≤ maxLen := Nat.le_trans hB.sl.2.1 hB.sl.2.2
  unfold maxLen at l3 l4
  by_cases e2 : bs.length = s.tasks.length
  · have d1 : ((bs.length : Int) != (s.tasks.length : Int)) = false := by simp [e2]
    by_cases p1 : s.proto = 1
    · have HV : Hid (waitV s bs of part = fairV s of part) := hidp (by unfold waitV; rw [if_pos e2, if_pos p1])
      have HK : Hid (waitK s bs of part = fairK s of part) := hidp (by unfold waitK; rw [if_pos e2, if_neg (by omega)])
      have q1 : (s.proto == 1) = true := by simpa using p1
      clear p1 e2
      go_enter Tryz.func8, Tryz.ntmps8
      go_wp2_with fail
      refine (rfair_any s of part _ H).mono ?_
      rintro e w2 ⟨rfl, hb2⟩
      replace hb := hb.trans (hb2.mono hb.size)
      clear hb2
      go_wp2
      go_ret2
      exact ⟨ret_ib HV.out.symm HK.out.symm, hb⟩
    · have q1 : (s.proto == 1) = false := by simpa using p1
      by_cases p2 : s.proto = 2
      · have HV : Hid (waitV s bs of part = agentV s bs of part) := hidp (by unfold waitV; rw [if_pos e2, if_neg p1, if_pos p2])
        have HK : Hid (waitK s bs of part = agentK s bs of part) := hidp (by unfold waitK; rw [if_pos e2, if_pos p2])
        have q2 : (s.proto == 2) = true := by simpa using p2
        clear p1 p2 e2
        go_enter Tryz.func8, Tryz.ntmps8
        go_wp2_with fail
        refine (ragent_any s bs ba bc of part _ H HB).mono ?_
        rintro e w2 ⟨rfl, hb2⟩
        replace hb := hb.trans (hb2.mono hb.size)
        clear hb2
        go_wp2
        go_ret2
        exact ⟨ret_ib HV.out.symm HK.out.symm, hb⟩
      · have q2 : (s.proto == 2) = false := by simpa using p2
        have HV : Hid (waitV s bs of part = tokV s of part) := hidp (by unfold waitV; rw [if_pos e2, if_neg p1, if_neg p2])
        have HK : Hid (waitK s bs of part = fairK s of part) := hidp (by unfold waitK; rw [if_pos e2, if_neg p2])
        clear p1 p2 e2
        go_enter Tryz.func8, Tryz.ntmps8
        go_wp2_with fail
        refine (rtoken_any s of part _ H).mono ?_
        rintro e w2 ⟨rfl, hb2⟩
        replace hb := hb.trans (hb2.mono hb.size)
        clear hb2
        go_wp2
        go_ret2
        exact ⟨ret_ib HV.out.symm HK.out.symm, hb⟩
  · have d1 : ((bs.length : Int) != (s.tasks.length : Int)) = true := by simp; omega
    have HV : Hid (waitV s bs of part = 0) := hidp (by unfold waitV; rw [if_neg e2])
    have HK : Hid (waitK s bs of part = false) := hidp (by unfold waitK; rw [if_neg e2])
    clear e2
    go_enter Tryz.func8, Tryz.ntmps8
    go_wp2
    go_ret2
    exact ⟨ret_ib HV.out.symm HK.out.symm, hb⟩

theorem max_lock {ps : List PartM} (h : 0 < maxL ps) : ∃ k, k < ps.length ∧ (ps.getD k default).kind = 3 := by
  induction ps with
  | nil => simp [maxL] at h
  | cons p ps ih =>
    by_cases e : p.kind = 3
    · exact ⟨0, by simp, by simpa using e⟩
    · simp only [maxL, if_neg e] at h
      obtain ⟨k, hk, h2⟩ := ih (by have := maxL_nn ps; omega)
      exact ⟨k + 1, by simpa using hk, by simpa using h2⟩
theorem TaskBox.turned {F : List Nat} {w w' : World} {b : Nat} {t : TaskR} (h : TaskBox w b t) (ht : Turned F w w') (hb : b ∉ F) : TaskBox w' b t := ⟨ht.cell h.1 hb, ht.cell h.2.1 hb, ht.cell h.2.2.1 hb, ht.cell h.2.2.2.1 hb, ht.cell h.2.2.2.2.1 hb, ht.cell h.2.2.2.2.2 hb⟩
set_option maxHeartbeats 4000000 in
set_option maxRecDepth 100000 in
theorem rwaits_any (s : SetR) (bs : List Int) (ba : Option Addr) (bc : Nat) (of : Int) (w : World) (hs : SetOk w s) (hB : IntsOk w ba bc bs) : Calls Tryz.prog 10 #[.agg #[.int .i64 s.proto, .slice s.ca s.cores.length s.cc, .slice s.ha s.homes.length s.hc, .slice s.ta s.tasks.length s.tc], .slice ba bs.length bc, .int .i64 of] w (RowK w (waitsL s bs of) (waitsK s bs of)) := by
  have hb := (Below.refl w.heap.size w).alloc (Nat.le_refl _) (.cells #[.int .i64 s.proto, .slice s.ca s.cores.length s.cc, .slice s.ha s.homes.length s.hc, .slice s.ta s.tasks.length s.tc] 25)
  have sc := SetCells.new w s 25
  have H := hs.keep (Keeps.of_below hb)
  have l3 : s.tasks.length ≤ maxLen := Nat.le_trans hs.tasks.sl.2.1 hs.tasks.sl.2.2
  unfold maxLen at l3
  have l4 : bs.length ≤ maxLen := Nat.le_trans hB.sl.2.1 hB.sl.2.2
  unfold maxLen at l4
  by_cases e : thereB s of = true
  · have Hth := hidp e
    obtain ⟨ho, r1, r2⟩ := thereB_true.1 e
    obtain ⟨n, rfl⟩ : ∃ n : Nat, of = n := ⟨of.toNat, by omega⟩
    have hn : n < s.tasks.length := by omega
    have hg := Good.of ho
    obtain ⟨t, HT⟩ : ∃ t, Hid (s.tasks.getD n default = t) := ⟨_, rfl⟩
    have hm : t ∈ s.tasks := HT.out ▸ getD_mem hn
    have Tok := hs.tasks.ok t hm
    have Tg := hg.parts t hm
    obtain ⟨g, off, hA, hcl⟩ := hs.tasks.at_.resolve_left (by intro e; rw [e] at hn; simp at hn)
    have Ht5 := hidp ((HT.out ▸ hcl n hn).2.2.2.2.2)
    have hpl := Tg.len
    obtain ⟨gp, op, hP, hpc⟩ := Tok.at_.resolve_left (by intro e; rw [e] at hpl; simp at hpl)
    have Hpc := hidp hpc
    have HPA := hidp hP
    obtain ⟨parts, hparts⟩ : ∃ parts, t.parts = parts := ⟨_, rfl⟩
    have HPL := hidp hparts
    have Hpt : Hid (partsOf s n = parts) := hidp (by unfold partsOf; simp only [Int.toNat_natCast]; rw [HT.out, hparts])
    rw [hP, hparts] at Ht5
    rw [hparts] at Hpc hpl
    have TL : Hid (TaskLen w t) := hidp ⟨Tok.at_, Tg.lens, by have := Tg.len; omega⟩
    have Htc := hidp (HT.out ▸ hcl n hn)
    obtain ⟨mx, HM⟩ : ∃ m, Hid (maxL t.parts = m) := ⟨_, rfl⟩
    have HMp : Hid (0 < mx → ∃ k, k < t.parts.length ∧ (t.parts.getD k default).kind = 3) := hidp (fun h => by
      rw [← HM.out] at h; exact max_lock h)
    obtain ⟨V, HV⟩ : ∃ V : Nat → Int, Hid (∀ k : Nat, waitV s bs n k = V k) := ⟨fun k => waitV s bs n k, hidp (fun _ => rfl)⟩
    obtain ⟨K, HK⟩ : ∃ K : Nat → Bool, Hid (∀ k : Nat, waitK s bs n k = K k) := ⟨fun k => waitK s bs n k, hidp (fun _ => rfl)⟩
    have Hpa : Hid (∀ k : Nat, partAt s n k = parts.getD k default) := hidp (fun k => by unfold partAt; have := Hpt.out; unfold partsOf at this; rw [this]; simp)
    obtain ⟨PW, HPW⟩ : ∃ f : Nat → Int, Hid (pW s bs n = f) := ⟨_, hidp rfl⟩
    obtain ⟨PK, HPK⟩ : ∃ f : Nat → Bool, Hid (pK s bs n = f) := ⟨_, hidp rfl⟩
    have HPWl : Hid (∀ k, (parts.getD k default).kind = 3 → PW k = V k ∧ PK k = K k) := hidp (fun k h => by
      rw [← HPW.out, ← HPK.out]; unfold pW pK; rw [Hpa.out, if_pos h, if_pos h, HV.out, HK.out]; exact ⟨rfl, rfl⟩)
    have HPWn : Hid (∀ k, (parts.getD k default).kind ≠ 3 → PW k = 0 ∧ PK k = true) := hidp (fun k h => by
      rw [← HPW.out, ← HPK.out]; unfold pW pK; rw [Hpa.out, if_neg h, if_neg h]; exact ⟨rfl, rfl⟩)
    have HWb : Hid (∀ k, 0 ≤ PW k ∧ PW k ≤ 3000) := hidp (fun k => by rw [← HPW.out]; exact pW_bd s bs n k)
    have Hoff : Hid (∀ k, k < parts.length → PK k = false → waitsK s bs n = false ∧ waitsL s bs n = []) := hidp (fun k hk h => waits_off (by rw [Hpt.out]; exact hk) (by rw [HPK.out]; exact h))
    have Hyes : Hid ((∀ k, k < parts.length → PK k = true) → waitsK s bs n = true ∧ waitsL s bs n = (List.range parts.length).map PW) := hidp (fun h => by
      have := waits_yes (s := s) (bs := bs) (of := n) Hth.out (by rw [Hpt.out, HPK.out]; exact h)
      rw [Hpt.out, HPW.out] at this; exact this)
    obtain ⟨RL, HRL⟩ : ∃ L, Hid (waitsL s bs n = L) := ⟨_, hidp rfl⟩
    obtain ⟨RK, HRK⟩ : ∃ L, Hid (waitsK s bs n = L) := ⟨_, hidp rfl⟩
    rw [HRL.out, HRK.out] at Hoff Hyes ⊢
    have HS1 := hidp (fun u (h : Below w.heap.size w u) => hs.keep (Keeps.of_below h))
    have HB1 := hidp (fun u (h : Below w.heap.size w u) => hB.keep (Keeps.of_below h))
    obtain ⟨S, HSS⟩ : ∃ S : SetR, Hid (S = s) := ⟨s, rfl⟩
    obtain ⟨i0, hi0, hy0, hy1, hy2⟩ := info_parts infoZ
    have HMp2 : Hid (0 < mx → ∃ k, k < parts.length ∧ (parts.getD k default).kind = 3) := hidp (by rw [← Hpt.out]; unfold partsOf; simp only [Int.toNat_natCast]; rw [HT.out]; exact HMp.out)
    have Hkn : Hid (bs.length ≠ s.tasks.length → ∀ k : Nat, waitK s bs n k = false) := hidp (fun h k => by unfold waitK; rw [if_neg h])
    clear HMp
    clear hcl hm Tok Tg hpc hP hparts hg ho HT e hs hB r1
    have dn : decide (s.tasks.length ≤ n) = false := by simp; omega
    obtain ⟨proto, ca, cc, cores, ha, hc, homes, ta, tc, tasks⟩ := s
    dsimp only at hA hn l3 r2 hb sc H dn HS1 Hkn ⊢
    subst hA
    by_cases e2 : bs.length = tasks.length
    · have d1' : ((bs.length : Int) != (tasks.length : Int)) = false := by simp [e2]
      clear e2
      go_enter Tryz.func10, Tryz.ntmps10
      go_wp2_with fail
      refine (rthere_any _ _ _ H).mono ?_
      rintro e w2 ⟨rfl, hb2⟩
      replace hb := hb.trans (hb2.mono hb.size)
      replace sc := sc.keep (Keeps.of_below hb2)
      clear hb2
      try clear sc_0 sc_1 sc_2 sc_3
      have scx := sc
      obtain ⟨sc_0, sc_1, sc_2, sc_3⟩ := scx
      try dsimp only at sc_0 sc_1 sc_2 sc_3
      rw [Hth.out]
      have hz0 : w.heap.size + 1 ≤ w2.heap.size := cell_lt sc_0
      obtain ⟨d0, d1, d2, d3, d4, d5⟩ := Htc.out.keep (Keeps.of_below hb)
      go_wp2_with fail
      have tb := TaskBox.new w2 t 39
      replace hb := hb.alloc hb.size (.cells #[.string t.name, .int .i64 t.per, .int .i64 t.dl, .int .i64 t.prio, .int .i64 t.cl, .slice t.pa t.parts.length t.pc] 39)
      have hzs : w2.heap.size + 1 ≤ (w2.alloc (.cells #[.string t.name, .int .i64 t.per, .int .i64 t.dl, .int .i64 t.prio, .int .i64 t.cl, .slice t.pa t.parts.length t.pc] 39)).heap.size := by simp
      replace sc := sc.keep (Keeps.alloc w2 (.cells #[.string t.name, .int .i64 t.per, .int .i64 t.dl, .int .i64 t.prio, .int .i64 t.cl, .slice t.pa t.parts.length t.pc] 39))
      clear sc_0 sc_1 sc_2 sc_3 d0 d1 d2 d3 d4 d5
      go_loopg [8, 10] parts.length (fun gg a i wr => ∃ (k c : Nat) (A : Option Addr), k + gg = parts.length ∧ i = .int .i64 k ∧ a = .slice A k c ∧ Hid (∀ j, j < k → PK j = true) ∧ OwnN (w2.heap.size + 1) wr A k c ((List.range k).map PW) ∧ TaskBox wr w2.heap.size t ∧ SetCells wr w.heap.size ⟨proto, ca, cc, cores, ha, hc, homes, some ⟨g, off, none⟩, tc, tasks⟩ ∧ Below w.heap.size w wr ∧ w2.heap.size + 1 ≤ wr.heap.size)
      case atStart => exact ⟨0, 0, none, by omega, rfl, rfl, hidp (fun j hj => by omega), OwnN.none _ _, tb, sc, hb, hzs⟩
      case round =>
        clear tb sc hb
        obtain ⟨k, c, A, hk, rfl, rfl, Hk, ho, tb, sc, hw, hz⟩ := hrel
        obtain ⟨b0, b1, b2, b3, b4, b5⟩ := id tb
        rw [HPA.out, HPL.out] at b5
        by_cases hlt : k < parts.length
        · obtain ⟨p, HP⟩ : ∃ p, Hid (parts.getD k default = p) := ⟨_, rfl⟩
          have pcl := (HP.out ▸ Hpc.out k hlt).keep (Keeps.of_below hw)
          obtain ⟨x0, x1, x2⟩ := pcl
          have hw1 := hw
          have ho1 := ho
          have hz1 := hz
          have sc1 := sc
          obtain ⟨sc_0, sc_1, sc_2, sc_3⟩ := id sc1
          dsimp only at sc_0 sc_1 sc_2 sc_3
          have N2 : Hid (k + 1 ≤ maxLen) := hidp (by unfold maxLen; omega)
          have T2 : Hid ((k + 1) * 8 ≤ 140737488355328) := hidp (by omega)
          by_cases e : p.kind = 3
          · obtain ⟨v1, v2⟩ := HPWl.out k (by rw [HP.out]; exact e)
            have e' : (p.kind == 3) = true := by simpa using e
            obtain ⟨b, Hb⟩ : ∃ b, Hid (K k = b) := ⟨_, rfl⟩
            rw [Hb.out] at v2
            obtain ⟨v, Hv⟩ : ∃ v, Hid (PW k = v) := ⟨_, rfl⟩
            rw [Hv.out] at v1
            have Hvv := hidp v1.symm
            have Hpk := hidp v2
            clear v1 v2 e
            cases b with
            | false =>
              obtain ⟨f1, f2⟩ := Hoff.out k hlt Hpk.out
              have F1 := hidp f1
              have F2 := hidp f2
              clear f1 f2
              go_wp2_with fail
              refine (rwpart_any _ bs ba bc n k _ (HS1.out _ hw1) (HB1.out _ hw1)).mono ?_
              rintro e w3 ⟨rfl, hb3⟩
              rw [HV.out k, HK.out k, Hb.out]
              clear b0 b1 b2 b3 b4 b5
              go_wp2_with fail
              try rw [Exit.noGoto_ret]
              go_ret2
              exact RowK.eq ⟨none, 0, rfl, nil_ints _, hw1.trans (hb3.mono hw1.size)⟩ F2.out.symm F1.out.symm
            | true =>
              go_wp2_with fail
              refine (rwpart_any _ bs ba bc n k _ (HS1.out _ hw1) (HB1.out _ hw1)).mono ?_
              rintro e w3 ⟨rfl, hb3⟩
              rw [HV.out k, HK.out k, Hb.out, Hvv.out]
              have hw3 := hw1.trans (hb3.mono hw1.size)
              have hown4 := ((ho1.turned (Turned.of_below hb3 []) (by simp)).turned ((Turned.refl [] w3).alloc (.cells #[.int .i64 v] 3)) (by simp))
              have S2 := hidp (Lies.newCells' w3 [.int .i64 v] 3)
              have Z2 : Hid (w2.heap.size + 1 ≤ (w3.alloc (.cells #[.int .i64 v] 3)).heap.size) := hidp (Nat.le_trans hz1 (Nat.le_trans hb3.size (by simp)))
              have sc4 := (sc1.keep (Keeps.of_below hb3)).keep (Keeps.alloc _ (.cells #[.int .i64 v] 3))
              have tb4 := (tb.keep (Keeps.of_below hb3)).keep (Keeps.alloc _ (.cells #[.int .i64 v] 3))
              have hw4 := hw3.alloc hw3.size (.cells #[.int .i64 v] 3)
              have O2 := hidp (ints_one v)
              have Hfp := hidp (own_fp hown4.own)
              clear b0 b1 b2 b3 b4 b5 x0 x1 x2 sc_0 sc_1 sc_2 sc_3
              go_wp2_with (at_builtin; refine wpList_app2 _ rfl (.tmp 65) (.tmp 67) 22 rfl (w2.heap.size + 1) 3 i0 _ 1 8 Tryz.underlying22 hi0 hy0 hy1 hy2 rfl (by decide) A k c _ rfl hown4.own _ _ 1 1 [.int .i64 v] rfl (by simp) rfl S2.out O2.out N2.out T2.out Z2.out ?_; intro A' c' w5 happ)
              go_roundg (gk - 1)
              case measure => omega
              case rel => exact ⟨k + 1, c', A', by omega, by go_num, rfl, hidp (fun j hj => by
                by_cases ej : j = k
                · subst ej; exact Hpk.out
                · exact Hk.out j (by omega)), by rw [range_snoc, Hv.out]; exact hown4.app (ps := [v]) happ rfl, tb4.turned happ.turned (fun hf => by have := (Hfp.out _ hf).1; omega), sc4.turned happ.turned (fun hf => by have := (Hfp.out _ hf).1; omega), hw4.trans (happ.turned.below hw4.size (fun j hj => by have := (Hfp.out _ hj).1; omega)), Nat.le_trans Z2.out happ.turned.size⟩
          · obtain ⟨v1, v2⟩ := HPWn.out k (by rw [HP.out]; exact e)
            have e' : (p.kind == 3) = false := by simpa using e
            have Hv := hidp v1
            have Hpk := hidp v2
            clear v1 v2 e
            have hw3 := hw1
            have hown4 := ho1.turned ((Turned.refl [] wr).alloc (.cells #[.int .i64 0] 3)) (by simp)
            have S2' := Lies.newCells' wr [.int .i64 0] 3
            have S2 := hidp S2'
            clear S2'
            have Z2 : Hid (w2.heap.size + 1 ≤ (wr.alloc (.cells #[.int .i64 0] 3)).heap.size) := hidp (Nat.le_trans hz1 (by simp))
            have sc4 := sc1.keep (Keeps.alloc _ (.cells #[.int .i64 0] 3))
            have tb4 := tb.keep (Keeps.alloc _ (.cells #[.int .i64 0] 3))
            have hw4 := hw3.alloc hw3.size (.cells #[.int .i64 0] 3)
            have O2 := hidp (ints_one 0)
            have Hfp := hidp (own_fp hown4.own)
            go_wp2_with (at_builtin; refine wpList_app2 _ rfl (.tmp 65) (.tmp 67) 22 rfl (w2.heap.size + 1) 3 i0 _ 1 8 Tryz.underlying22 hi0 hy0 hy1 hy2 rfl (by decide) A k c _ rfl hown4.own _ _ 1 1 [.int .i64 0] rfl (by simp) rfl S2.out O2.out N2.out T2.out Z2.out ?_; intro A' c' w5 happ)
            go_roundg (gk - 1)
            case measure => omega
            case rel => exact ⟨k + 1, c', A', by omega, by go_num, rfl, hidp (fun j hj => by
                by_cases ej : j = k
                · subst ej; exact Hpk.out
                · exact Hk.out j (by omega)), by rw [range_snoc, Hv.out]; exact hown4.app (ps := [0]) happ rfl, tb4.turned happ.turned (fun hf => by have := (Hfp.out _ hf).1; omega), sc4.turned happ.turned (fun hf => by have := (Hfp.out _ hf).1; omega), hw4.trans (happ.turned.below hw4.size (fun j hj => by have := (Hfp.out _ hj).1; omega)), Nat.le_trans Z2.out happ.turned.size⟩
        · obtain rfl : k = parts.length := by omega
          obtain ⟨f1, f2⟩ := Hyes.out Hk.out
          have F1 := hidp f1
          have F2 := hidp f2
          have hrow := ho.ok (fun x hx => by obtain ⟨j, _, rfl⟩ := List.mem_map.1 hx; have := HWb.out j; unfold I64; omega)
          have Hr := hidp hrow
          clear f1 f2 hrow
          go_wp2
          try rw [Exit.noGoto_ret]
          go_ret2
          exact RowK.eq ⟨A, c, by simp, Hr.out, hw⟩ F2.out.symm F1.out.symm
    · have d1' : ((bs.length : Int) != (tasks.length : Int)) = true := by simp; omega
      by_cases e3 : 0 < mx
      · obtain ⟨k, hk1, hk2⟩ := HMp2.out e3
        obtain ⟨v1, v2⟩ := HPWl.out k hk2
        rw [← HK.out, Hkn.out e2] at v2
        obtain ⟨f1, f2⟩ := Hoff.out k hk1 v2
        have F1 := hidp f1
        have F2 := hidp f2
        clear f1 f2 v1 v2 hk1 hk2 e2
        go_enter Tryz.func10, Tryz.ntmps10
        go_wp2_with fail
        refine (rthere_any _ _ _ H).mono ?_
        rintro e w2 ⟨rfl, hb2⟩
        replace hb := hb.trans (hb2.mono hb.size)
        replace sc := sc.keep (Keeps.of_below hb2)
        clear hb2
        try clear sc_0 sc_1 sc_2 sc_3
        have scx := sc
        obtain ⟨sc_0, sc_1, sc_2, sc_3⟩ := scx
        try dsimp only at sc_0 sc_1 sc_2 sc_3
        rw [Hth.out]
        obtain ⟨d0, d1, d2, d3, d4, d5⟩ := Htc.out.keep (Keeps.of_below hb)
        go_wp2_with fail
        refine (rlongest_any t _ (TL.out.keep (Keeps.of_below hb))).mono ?_
        rintro e w3 ⟨rfl, hb2⟩
        replace hb := hb.trans (hb2.mono hb.size)
        clear hb2
        rw [HM.out]
        go_wp2_with fail
        go_ret2
        exact RowK.eq ⟨none, 0, rfl, nil_ints _, hb⟩ F2.out.symm F1.out.symm
      · clear e2
        go_enter Tryz.func10, Tryz.ntmps10
        go_wp2_with fail
        refine (rthere_any _ _ _ H).mono ?_
        rintro e w2 ⟨rfl, hb2⟩
        replace hb := hb.trans (hb2.mono hb.size)
        replace sc := sc.keep (Keeps.of_below hb2)
        clear hb2
        try clear sc_0 sc_1 sc_2 sc_3
        have scx := sc
        obtain ⟨sc_0, sc_1, sc_2, sc_3⟩ := scx
        try dsimp only at sc_0 sc_1 sc_2 sc_3
        rw [Hth.out]
        have hz0 : w.heap.size + 1 ≤ w2.heap.size := cell_lt sc_0
        obtain ⟨d0, d1, d2, d3, d4, d5⟩ := Htc.out.keep (Keeps.of_below hb)
        go_wp2_with fail
        refine (rlongest_any t _ (TL.out.keep (Keeps.of_below hb))).mono ?_
        rintro e w9 ⟨rfl, hb2⟩
        replace hb := hb.trans (hb2.mono hb.size)
        replace sc := sc.keep (Keeps.of_below hb2)
        clear hb2
        try clear sc_0 sc_1 sc_2 sc_3
        have scx := sc
        obtain ⟨sc_0, sc_1, sc_2, sc_3⟩ := scx
        try dsimp only at sc_0 sc_1 sc_2 sc_3
        rw [HM.out]
        clear d0 d1 d2 d3 d4 d5
        obtain ⟨d0, d1, d2, d3, d4, d5⟩ := Htc.out.keep (Keeps.of_below hb)
        have hz0 : w.heap.size + 1 ≤ w9.heap.size := cell_lt sc_0
        go_wp2_with fail
        have tb := TaskBox.new w9 t 39
        replace hb := hb.alloc hb.size (.cells #[.string t.name, .int .i64 t.per, .int .i64 t.dl, .int .i64 t.prio, .int .i64 t.cl, .slice t.pa t.parts.length t.pc] 39)
        have hzs : w9.heap.size + 1 ≤ (w9.alloc (.cells #[.string t.name, .int .i64 t.per, .int .i64 t.dl, .int .i64 t.prio, .int .i64 t.cl, .slice t.pa t.parts.length t.pc] 39)).heap.size := by simp
        replace sc := sc.keep (Keeps.alloc w9 (.cells #[.string t.name, .int .i64 t.per, .int .i64 t.dl, .int .i64 t.prio, .int .i64 t.cl, .slice t.pa t.parts.length t.pc] 39))
        clear sc_0 sc_1 sc_2 sc_3 d0 d1 d2 d3 d4 d5
        go_loopg [8, 10] parts.length (fun gg a i wr => ∃ (k c : Nat) (A : Option Addr), k + gg = parts.length ∧ i = .int .i64 k ∧ a = .slice A k c ∧ Hid (∀ j, j < k → PK j = true) ∧ OwnN (w9.heap.size + 1) wr A k c ((List.range k).map PW) ∧ TaskBox wr w9.heap.size t ∧ SetCells wr w.heap.size ⟨proto, ca, cc, cores, ha, hc, homes, some ⟨g, off, none⟩, tc, tasks⟩ ∧ Below w.heap.size w wr ∧ w9.heap.size + 1 ≤ wr.heap.size)
        case atStart => exact ⟨0, 0, none, by omega, rfl, rfl, hidp (fun j hj => by omega), OwnN.none _ _, tb, sc, hb, hzs⟩
        case round =>
          clear tb sc hb
          obtain ⟨k, c, A, hk, rfl, rfl, Hk, ho, tb, sc, hw, hz⟩ := hrel
          obtain ⟨b0, b1, b2, b3, b4, b5⟩ := id tb
          rw [HPA.out, HPL.out] at b5
          by_cases hlt : k < parts.length
          · obtain ⟨p, HP⟩ : ∃ p, Hid (parts.getD k default = p) := ⟨_, rfl⟩
            have pcl := (HP.out ▸ Hpc.out k hlt).keep (Keeps.of_below hw)
            obtain ⟨x0, x1, x2⟩ := pcl
            have hw1 := hw
            have ho1 := ho
            have hz1 := hz
            have sc1 := sc
            obtain ⟨sc_0, sc_1, sc_2, sc_3⟩ := id sc1
            dsimp only at sc_0 sc_1 sc_2 sc_3
            have N2 : Hid (k + 1 ≤ maxLen) := hidp (by unfold maxLen; omega)
            have T2 : Hid ((k + 1) * 8 ≤ 140737488355328) := hidp (by omega)
            by_cases e : p.kind = 3
            · obtain ⟨v1, v2⟩ := HPWl.out k (by rw [HP.out]; exact e)
              have e' : (p.kind == 3) = true := by simpa using e
              obtain ⟨b, Hb⟩ : ∃ b, Hid (K k = b) := ⟨_, rfl⟩
              rw [Hb.out] at v2
              obtain ⟨v, Hv⟩ : ∃ v, Hid (PW k = v) := ⟨_, rfl⟩
              rw [Hv.out] at v1
              have Hvv := hidp v1.symm
              have Hpk := hidp v2
              clear v1 v2 e
              cases b with
              | false =>
                obtain ⟨f1, f2⟩ := Hoff.out k hlt Hpk.out
                have F1 := hidp f1
                have F2 := hidp f2
                clear f1 f2
                go_wp2_with fail
                refine (rwpart_any _ bs ba bc n k _ (HS1.out _ hw1) (HB1.out _ hw1)).mono ?_
                rintro e w3 ⟨rfl, hb3⟩
                rw [HV.out k, HK.out k, Hb.out]
                clear b0 b1 b2 b3 b4 b5
                go_wp2_with fail
                try rw [Exit.noGoto_ret]
                go_ret2
                exact RowK.eq ⟨none, 0, rfl, nil_ints _, hw1.trans (hb3.mono hw1.size)⟩ F2.out.symm F1.out.symm
              | true =>
                go_wp2_with fail
                refine (rwpart_any _ bs ba bc n k _ (HS1.out _ hw1) (HB1.out _ hw1)).mono ?_
                rintro e w3 ⟨rfl, hb3⟩
                rw [HV.out k, HK.out k, Hb.out, Hvv.out]
                have hw3 := hw1.trans (hb3.mono hw1.size)
                have hown4 := ((ho1.turned (Turned.of_below hb3 []) (by simp)).turned ((Turned.refl [] w3).alloc (.cells #[.int .i64 v] 3)) (by simp))
                have S2 := hidp (Lies.newCells' w3 [.int .i64 v] 3)
                have Z2 : Hid (w9.heap.size + 1 ≤ (w3.alloc (.cells #[.int .i64 v] 3)).heap.size) := hidp (Nat.le_trans hz1 (Nat.le_trans hb3.size (by simp)))
                have sc4 := (sc1.keep (Keeps.of_below hb3)).keep (Keeps.alloc _ (.cells #[.int .i64 v] 3))
                have tb4 := (tb.keep (Keeps.of_below hb3)).keep (Keeps.alloc _ (.cells #[.int .i64 v] 3))
                have hw4 := hw3.alloc hw3.size (.cells #[.int .i64 v] 3)
                have O2 := hidp (ints_one v)
                have Hfp := hidp (own_fp hown4.own)
                clear b0 b1 b2 b3 b4 b5 x0 x1 x2 sc_0 sc_1 sc_2 sc_3
                go_wp2_with (at_builtin; refine wpList_app2 _ rfl (.tmp 65) (.tmp 67) 22 rfl (w9.heap.size + 1) 3 i0 _ 1 8 Tryz.underlying22 hi0 hy0 hy1 hy2 rfl (by decide) A k c _ rfl hown4.own _ _ 1 1 [.int .i64 v] rfl (by simp) rfl S2.out O2.out N2.out T2.out Z2.out ?_; intro A' c' w5 happ)
                go_roundg (gk - 1)
                case measure => omega
                case rel => exact ⟨k + 1, c', A', by omega, by go_num, rfl, hidp (fun j hj => by
                  by_cases ej : j = k
                  · subst ej; exact Hpk.out
                  · exact Hk.out j (by omega)), by rw [range_snoc, Hv.out]; exact hown4.app (ps := [v]) happ rfl, tb4.turned happ.turned (fun hf => by have := (Hfp.out _ hf).1; omega), sc4.turned happ.turned (fun hf => by have := (Hfp.out _ hf).1; omega), hw4.trans (happ.turned.below hw4.size (fun j hj => by have := (Hfp.out _ hj).1; omega)), Nat.le_trans Z2.out happ.turned.size⟩
            · obtain ⟨v1, v2⟩ := HPWn.out k (by rw [HP.out]; exact e)
              have e' : (p.kind == 3) = false := by simpa using e
              have Hv := hidp v1
              have Hpk := hidp v2
              clear v1 v2 e
              have hw3 := hw1
              have hown4 := ho1.turned ((Turned.refl [] wr).alloc (.cells #[.int .i64 0] 3)) (by simp)
              have S2' := Lies.newCells' wr [.int .i64 0] 3
              have S2 := hidp S2'
              clear S2'
              have Z2 : Hid (w9.heap.size + 1 ≤ (wr.alloc (.cells #[.int .i64 0] 3)).heap.size) := hidp (Nat.le_trans hz1 (by simp))
              have sc4 := sc1.keep (Keeps.alloc _ (.cells #[.int .i64 0] 3))
              have tb4 := tb.keep (Keeps.alloc _ (.cells #[.int .i64 0] 3))
              have hw4 := hw3.alloc hw3.size (.cells #[.int .i64 0] 3)
              have O2 := hidp (ints_one 0)
              have Hfp := hidp (own_fp hown4.own)
              go_wp2_with (at_builtin; refine wpList_app2 _ rfl (.tmp 65) (.tmp 67) 22 rfl (w9.heap.size + 1) 3 i0 _ 1 8 Tryz.underlying22 hi0 hy0 hy1 hy2 rfl (by decide) A k c _ rfl hown4.own _ _ 1 1 [.int .i64 0] rfl (by simp) rfl S2.out O2.out N2.out T2.out Z2.out ?_; intro A' c' w5 happ)
              go_roundg (gk - 1)
              case measure => omega
              case rel => exact ⟨k + 1, c', A', by omega, by go_num, rfl, hidp (fun j hj => by
                  by_cases ej : j = k
                  · subst ej; exact Hpk.out
                  · exact Hk.out j (by omega)), by rw [range_snoc, Hv.out]; exact hown4.app (ps := [0]) happ rfl, tb4.turned happ.turned (fun hf => by have := (Hfp.out _ hf).1; omega), sc4.turned happ.turned (fun hf => by have := (Hfp.out _ hf).1; omega), hw4.trans (happ.turned.below hw4.size (fun j hj => by have := (Hfp.out _ hj).1; omega)), Nat.le_trans Z2.out happ.turned.size⟩
          · obtain rfl : k = parts.length := by omega
            obtain ⟨f1, f2⟩ := Hyes.out Hk.out
            have F1 := hidp f1
            have F2 := hidp f2
            have hrow := ho.ok (fun x hx => by obtain ⟨j, _, rfl⟩ := List.mem_map.1 hx; have := HWb.out j; unfold I64; omega)
            have Hr := hidp hrow
            clear f1 f2 hrow
            go_wp2
            try rw [Exit.noGoto_ret]
            go_ret2
            exact RowK.eq ⟨A, c, by simp, Hr.out, hw⟩ F2.out.symm F1.out.symm
  · have e : thereB s of = false := by simpa using e
    obtain ⟨k1, k2⟩ := waits_no (bs := bs) e
    have Hth := hidp e
    have F1 := hidp k1
    have F2 := hidp k2
    clear e k1 k2 hs hB
    go_enter Tryz.func10, Tryz.ntmps10
    go_wp2_with fail
    refine (rthere_any _ _ _ H).mono ?_
    rintro e w2 ⟨rfl, hb2⟩
    replace hb := hb.trans (hb2.mono hb.size)
    replace sc := sc.keep (Keeps.of_below hb2)
    clear hb2
    rw [Hth.out]
    go_wp2
    go_ret2
    exact RowK.eq ⟨none, 0, rfl, nil_ints _, hb⟩ F2.out.symm F1.out.symm

set_option maxHeartbeats 1000000 in
set_option maxRecDepth 100000 in
theorem rwsum_any (s : SetR) (bs : List Int) (ba : Option Addr) (bc : Nat) (of : Int) (w : World) (hs : SetOk w s) (hB : IntsOk w ba bc bs) : Calls Tryz.prog 12 #[.agg #[.int .i64 s.proto, .slice s.ca s.cores.length s.cc, .slice s.ha s.homes.length s.hc, .slice s.ta s.tasks.length s.tc], .slice ba bs.length bc, .int .i64 of] w fun e w' => e = .returned (.tuple #[.int .i64 (tot (waitsL s bs of)), .bool (waitsK s bs of)]) ∧ Below w.heap.size w w' := by
  have hb := (Below.refl w.heap.size w).alloc (Nat.le_refl _) (.cells #[.int .i64 s.proto, .slice s.ca s.cores.length s.cc, .slice s.ha s.homes.length s.hc, .slice s.ta s.tasks.length s.tc] 25)
  have sc := SetCells.new w s 25
  have H := hs.keep (Keeps.of_below hb)
  have HB := hB.keep (Keeps.of_below hb)
  have h6 := waitsL_len s bs of
  obtain ⟨L, HL⟩ : ∃ L, Hid (waitsL s bs of = L) := ⟨_, hidp rfl⟩
  obtain ⟨K, HK⟩ : ∃ K, Hid (waitsK s bs of = K) := ⟨_, hidp rfl⟩
  rw [HL.out] at h6
  obtain ⟨l6, hb6⟩ := h6
  have HP := hidp hb6
  have HW := rwaits_any s bs ba bc of _ H HB
  rw [HL.out, HK.out] at HW ⊢
  clear hs hB H HB hb6
  go_enter Tryz.func12, Tryz.ntmps12
  go_wp2_with fail
  refine HW.mono ?_
  rintro e w2 ⟨A, c, rfl, hr, hb2⟩
  replace hb := hb.trans (hb2.mono hb.size)
  have HR := hidp hr.at_
  clear hr hb2 HW sc
  go_wp2
  go_loopg [10, 11] L.length (fun gg a i wr => ∃ (k : Nat) (x : Int), k + gg = L.length ∧ i = .int .i64 k ∧ a = .int .i64 x ∧ Hid (tot (L.take k) = x) ∧ w2 = wr)
  case atStart => exact ⟨0, 0, by omega, rfl, rfl, hidp rfl, rfl⟩
  case round =>
    obtain ⟨k, x, hk, rfl, rfl, Hx, rfl⟩ := hrel
    have hx := tot_cap (fun n (hn : n ∈ L.take k) => HP.out n (List.mem_of_mem_take hn))
    rw [Hx.out, List.length_take] at hx
    obtain ⟨x0, x1⟩ := hx
    have x2 : x ≤ 18000 := by omega
    clear x1
    by_cases hlt : k < L.length
    · obtain ⟨g, off, hA, hcl⟩ := HR.out.resolve_left (by intro e; rw [e] at hlt; simp at hlt)
      subst hA
      obtain ⟨v, Hv⟩ : ∃ v, Hid (L.getD k 0 = v) := ⟨_, rfl⟩
      have c1 := Hv.out ▸ hcl k hlt
      have hv := HP.out v (by rw [← Hv.out]; simp [List.getD, hlt])
      obtain ⟨v0, v1⟩ := hv
      have Hs : Hid (tot (L.take (k + 1)) = x + v) := hidp (by rw [tot_snoc _ _ hlt, Hx.out, Hv.out])
      clear hcl
      go_wp2
      go_roundg (gk - 1)
      case measure => omega
      case rel => exact ⟨k + 1, x + v, by omega, by go_num, rfl, Hs, rfl⟩
    · obtain rfl : k = L.length := by omega
      have Hz : Hid (tot L = x) := hidp (by have := Hx.out; rw [List.take_length] at this; exact this)
      go_wp2
      go_ret2
      exact ⟨ret_ib Hz.out.symm rfl, hb⟩
end Go.Proofs.YtindcpgmfdkpcaaGreat

namespace Go.Proofs.YtindcpgmfdkpcaaGreat
open Go.ChangeShapes Go.WideShapes Go.ChangeAt Go.RowKit
set_option linter.unusedVariables false

theorem same_yes {w : World} {A B : Option Addr} {zs : List Int} {n m c d : Nat} (ha : Row w .i64 A zs) (hb : Row w .i64 B zs) (hn : n = zs.length) (hm : m = zs.length) (hl : zs.length ≤ 1000) :
    Calls Tryz.prog 13 #[.slice A n c, .slice B m d] w fun e w' => e = .returned (.bool true) ∧ Qt w w' := by
  subst hn
  subst hm
  go_enter Tryz.func13, Tryz.ntmps13
  go_wp2
  go_loopg [5] zs.length (fun g i wr => ∃ k : Nat, k + g = zs.length ∧ i = .int .i64 k ∧ Qt w wr)
  case atStart => exact ⟨0, by omega, rfl, Qt.refl _⟩
  case round =>
    obtain ⟨k, hk, rfl, hq⟩ := hrel
    by_cases hlt : k < zs.length
    · obtain ⟨g, off, rfl, hc⟩ := ha.resolve_left (by intro e; subst e; simp at hlt)
      obtain ⟨g2, off2, rfl, hc2⟩ := hb.resolve_left (by intro e; subst e; simp at hlt)
      obtain ⟨n, HN⟩ : ∃ n, Hid (zs.getD k 0 = n) := ⟨_, rfl⟩
      have c1 : wr.cell? ⟨g, off + k, none⟩ = some (.int .i64 n) := hq.cell (HN.out ▸ hc k hlt)
      have c2 : wr.cell? ⟨g2, off2 + k, none⟩ = some (.int .i64 n) := hq.cell (HN.out ▸ hc2 k hlt)
      have b1 : (0 : Int) ≤ (k : Int) := by omega
      have b2 : (k : Int) < (zs.length : Int) := by omega
      clear hc hc2 ha hb
      go_wp2
      go_quiet (fail)
      go_wp2
      go_roundg (gk - 1)
      case measure => omega
      case rel => exact ⟨k + 1, by omega, by go_num, hq.add _⟩
    · obtain rfl : k = zs.length := by omega
      go_wp2
      go_ret
      exact ⟨rfl, hq⟩
end Go.Proofs.YtindcpgmfdkpcaaGreat

set_option maxHeartbeats 20000000
set_option maxRecDepth 100000
namespace Go.Proofs.YtindcpgmfdkpcaaGreat.waitTells
open Go.ChangeShapes Go.WideShapes Go.ChangeAt Go.RowKit
open Go.ChangeMaps (open_string shut_string)
set_option linter.unusedVariables false

/-- THE WALK: the Go text returns true, and writes nothing that was there. -/
theorem walk (s0 : SetR) (a1 : Option Addr) (len1 cap1 : Nat) (z1 : List Int) (a2 : Int) (a3 : Int) (w : World) (w0 : SetOk w s0) (w1 : IsRow .i64 w a1 len1 cap1 z1) (w2 : (Lit.int .i64 a2).wf = true) (w3 : (Lit.int .i64 a3).wf = true) :
    Calls Tryz.prog 3 #[.agg #[.int .i64 s0.proto, .slice s0.ca s0.cores.length s0.cc, .slice s0.ha s0.homes.length s0.hc, .slice s0.ta s0.tasks.length s0.tc], .slice a1 len1 cap1, .int .i64 a2, .int .i64 a3] w fun e w' => e = .returned (.bool true) ∧ Below w.heap.size w w' := by
  have hb := (Below.refl w.heap.size w).alloc (Nat.le_refl _) (.cells #[.int .i64 s0.proto, .slice s0.ca s0.cores.length s0.cc, .slice s0.ha s0.homes.length s0.hc, .slice s0.ta s0.tasks.length s0.tc] 25)
  have sc := SetCells.new w s0 25
  have hs := w0.keep (Keeps.of_below hb)
  obtain ⟨hB0, hBl⟩ := w1.ints
  obtain ⟨bs, hbs⟩ : ∃ bs, z1.take len1 = bs := ⟨_, rfl⟩
  rw [hbs] at hB0 hBl
  subst hBl
  have hB := hB0.keep (Keeps.of_below hb)
  have l4 : bs.length ≤ maxLen := Nat.le_trans hB0.sl.2.1 hB0.sl.2.2
  unfold maxLen at l4
  clear w0 w1 w2 w3 hB0 hbs
  have h6 := waitsL_len s0 bs a2
  obtain ⟨V, HV⟩ : ∃ V, Hid (waitV s0 bs a2 a3 = V) := ⟨_, rfl⟩
  obtain ⟨K, HK⟩ : ∃ K, Hid (waitK s0 bs a2 a3 = K) := ⟨_, rfl⟩
  obtain ⟨L, HL⟩ : ∃ L, Hid (waitsL s0 bs a2 = L) := ⟨_, rfl⟩
  obtain ⟨J, HJ⟩ : ∃ J, Hid (waitsK s0 bs a2 = J) := ⟨_, rfl⟩
  obtain ⟨T, HT⟩ : ∃ T, Hid (tot L = T) := ⟨_, rfl⟩
  rw [HL.out] at h6
  have H6 := hidp h6.1
  clear h6
  go_enter Tryz.func3, Tryz.ntmps3
  go_wp2_with fail
  refine (known16_any _).mono ?_
  rintro e u1 ⟨rfl, hb2⟩
  replace hb := hb.trans (hb2.mono hb.size)
  replace sc := sc.keep (Keeps.of_below hb2)
  replace hs := hs.keep (Keeps.of_below hb2)
  replace hB := hB.keep (Keeps.of_below hb2)
  clear hb2
  try clear sc_0 sc_1 sc_2 sc_3
  have scx := sc
  obtain ⟨sc_0, sc_1, sc_2, sc_3⟩ := scx
  try dsimp only at sc_0 sc_1 sc_2 sc_3
  go_wp2_with fail
  refine (few16_any s0 _ hs).mono ?_
  rintro e u2 ⟨⟨b, rfl⟩, hb2⟩
  replace hb := hb.trans (hb2.mono hb.size)
  replace sc := sc.keep (Keeps.of_below hb2)
  replace hs := hs.keep (Keeps.of_below hb2)
  replace hB := hB.keep (Keeps.of_below hb2)
  clear hb2
  try clear sc_0 sc_1 sc_2 sc_3
  have scx := sc
  obtain ⟨sc_0, sc_1, sc_2, sc_3⟩ := scx
  try dsimp only at sc_0 sc_1 sc_2 sc_3
  cases b
  · go_wp2_with fail
    go_ret
    exact ⟨rfl, hb⟩
  · by_cases h10 : (10 : Int) < (bs.length : Int)
    · go_wp2_with fail
      go_ret
      exact ⟨rfl, hb⟩
    · go_wp2_with fail
      refine (wpart_any s0 bs a1 cap1 a2 a3 _ hs hB).mono ?_
      rintro e u3 ⟨rfl, hb2⟩
      replace hb := hb.trans (hb2.mono hb.size)
      replace sc := sc.keep (Keeps.of_below hb2)
      replace hs := hs.keep (Keeps.of_below hb2)
      replace hB := hB.keep (Keeps.of_below hb2)
      clear hb2
      try clear sc_0 sc_1 sc_2 sc_3
      have scx := sc
      obtain ⟨sc_0, sc_1, sc_2, sc_3⟩ := scx
      try dsimp only at sc_0 sc_1 sc_2 sc_3
      rw [HV.out, HK.out]
      go_wp2_with fail
      refine (rwpart_any s0 bs a1 cap1 a2 a3 _ hs hB).mono ?_
      rintro e u4 ⟨rfl, hb2⟩
      replace hb := hb.trans (hb2.mono hb.size)
      replace sc := sc.keep (Keeps.of_below hb2)
      replace hs := hs.keep (Keeps.of_below hb2)
      replace hB := hB.keep (Keeps.of_below hb2)
      clear hb2
      try clear sc_0 sc_1 sc_2 sc_3
      have scx := sc
      obtain ⟨sc_0, sc_1, sc_2, sc_3⟩ := scx
      try dsimp only at sc_0 sc_1 sc_2 sc_3
      rw [HV.out, HK.out]
      go_wp2_with fail
      have CC := wall_any s0 bs a1 cap1 a2 _ hs hB
      rw [HL.out, HJ.out] at CC
      refine CC.mono ?_
      rintro e u5 ⟨A, c, rfl, hA, hb2⟩
      clear CC
      replace hb := hb.trans (hb2.mono hb.size)
      replace sc := sc.keep (Keeps.of_below hb2)
      replace hs := hs.keep (Keeps.of_below hb2)
      replace hB := hB.keep (Keeps.of_below hb2)
      clear hb2
      try clear sc_0 sc_1 sc_2 sc_3
      have scx := sc
      obtain ⟨sc_0, sc_1, sc_2, sc_3⟩ := scx
      try dsimp only at sc_0 sc_1 sc_2 sc_3
      go_wp2_with fail
      have CC := rwaits_any s0 bs a1 cap1 a2 _ hs hB
      rw [HL.out, HJ.out] at CC
      refine CC.mono ?_
      rintro e u6 ⟨C, d, rfl, hC, hb2⟩
      clear CC
      replace hb := hb.trans (hb2.mono hb.size)
      replace sc := sc.keep (Keeps.of_below hb2)
      replace hs := hs.keep (Keeps.of_below hb2)
      replace hB := hB.keep (Keeps.of_below hb2)
      replace hA := hA.keep (Keeps.of_below hb2)
      clear hb2
      try clear sc_0 sc_1 sc_2 sc_3
      have scx := sc
      obtain ⟨sc_0, sc_1, sc_2, sc_3⟩ := scx
      try dsimp only at sc_0 sc_1 sc_2 sc_3
      go_wp2_with fail
      refine (wsum_any s0 bs a1 cap1 a2 _ hs hB).mono ?_
      rintro e u7 ⟨rfl, hb2⟩
      replace hb := hb.trans (hb2.mono hb.size)
      replace sc := sc.keep (Keeps.of_below hb2)
      replace hs := hs.keep (Keeps.of_below hb2)
      replace hB := hB.keep (Keeps.of_below hb2)
      replace hA := hA.keep (Keeps.of_below hb2)
      replace hC := hC.keep (Keeps.of_below hb2)
      clear hb2
      try clear sc_0 sc_1 sc_2 sc_3
      have scx := sc
      obtain ⟨sc_0, sc_1, sc_2, sc_3⟩ := scx
      try dsimp only at sc_0 sc_1 sc_2 sc_3
      rw [HL.out, HJ.out, HT.out]
      go_wp2_with fail
      refine (rwsum_any s0 bs a1 cap1 a2 _ hs hB).mono ?_
      rintro e u8 ⟨rfl, hb2⟩
      replace hb := hb.trans (hb2.mono hb.size)
      replace hA := hA.keep (Keeps.of_below hb2)
      replace hC := hC.keep (Keeps.of_below hb2)
      clear hb2
      rw [HL.out, HJ.out, HT.out]
      clear sc_0 sc_1 sc_2 sc_3 sc hs hB h10 l4
      have HA := hidp hA.at_
      have HC := hidp hC.at_
      clear hA hC
      go_wp2_with fail
      refine (same_yes HA.out HC.out rfl rfl (Nat.le_trans H6.out (by decide))).mono ?_
      rintro e u9 ⟨rfl, hq⟩
      replace hb := hq.below hb
      go_wp2_with fail
      go_ret
      exact ⟨rfl, hb⟩

theorem own : ownKnob Tryz.prog.godebug = none := by kernel_rfl
theorem laidOut : laidOutB Tryz.prog = true := by kernel_rfl

/-! THE ROW's STEP -/
set_option maxRecDepth 100000 in
theorem lifted (os : Os) (started : os.Started) (H : Type) (enc : TypeId × Value → H) :
    ReturnsInHanded {} Tryz.checked os 3 .any (Rows.waitTellsSpec.pre6 enc Tryz.prog Tryz.f3 Rows.waitTellsRow.domain false) (Rows.waitTellsSpec.post enc Tryz.prog Tryz.f3 false true false false) := by
  refine returnsInHanded_of_change (C := Tryz.checked) own started (by kernel_rfl) Tryz.func3
    (ChangeSpec.witness6 (enc := enc) (C := Tryz.checked) false ⟨#[], #[.agg #[.int .i64 0, .slice none 0 0, .slice none 0 0, .slice none 0 0], .slice none 0 0, .int .i64 0, .int .i64 0], []⟩ 8 (by kernel_rfl) (by kernel_rfl) (by kernel_rfl) (by kernel_rfl)) ?_
  intro W base args ds gs before hval0 hW hcnd _
  have hval : ∀ (j : Nat) t v, Tryz.f3.params[j]? = some t → args[j]? = some v → Value.okWide Tryz.prog W .any base t v := hval0
  have hW' := hW
  obtain ⟨p, q, hA0, hV, rfl, hfz, hnd⟩ := hW
  have hA : DataW.TrodAll enc Tryz.prog W 0 (fun _ => true) true Tryz.f3.params.toList args.toList ds p := hA0
  rw [Tryz.params3] at hA hval
  obtain ⟨v0, vs0, d0, ds0, p0, q0, hargs, rfl, rfl, h0, r0⟩ := trodAll_cons hA
  obtain ⟨v1, vs1, d1, ds1, p1, q1, rfl, rfl, rfl, h1, r1⟩ := trodAll_cons r0
  obtain ⟨v2, vs2, d2, ds2, p2, q2, rfl, rfl, rfl, h2, r2⟩ := trodAll_cons r1
  obtain ⟨v3, vs3, d3, ds3, p3, q3, rfl, rfl, rfl, h3, r3⟩ := trodAll_cons r2
  obtain ⟨rfl, rfl, rfl⟩ := trodAll_nil r3
  obtain rfl : args = #[v0, v1, v2, v3] := by cases args; simp_all
  obtain ⟨rfl, rfl⟩ := trodVars_none hV
  have k0 := h0
  have lt0 : ∀ x ∈ p0, x.block < W.heap.size := by obtain ⟨m, hm⟩ := k0; exact DataW.trod_lt m _ _ _ hm
  obtain ⟨s0, w0, rfl⟩ := setTypes.arg_set (hval 0 25 v0 rfl rfl) h0
  obtain ⟨a1, len1, cap1, rfl⟩ := okWide_slice Tryz.underlying22 (hval 1 22 v1 rfl rfl)
  have k1 := h1
  have lt1 : ∀ x ∈ p1, x.block < W.heap.size := by obtain ⟨m, hm⟩ := k1; exact DataW.trod_lt m _ _ _ hm
  obtain ⟨z1, w1⟩ : ∃ zs, IsRow .i64 W a1 len1 cap1 zs := by
    obtain ⟨fuel, hf⟩ := h1
    rcases open_ints Tryz.underlying22 Tryz.underlying3 (by kernel_rfl) hf with ⟨hcs, _⟩ | ⟨x, l, c, zs, hcs, _, hl, hm, hz, _, hcell, hwz⟩
    · simp [Value.cells] at hcs
      obtain ⟨rfl, rfl, rfl⟩ := hcs
      exact ⟨[], .inl ⟨rfl, rfl, rfl, rfl⟩⟩
    · simp [Value.cells] at hcs
      obtain ⟨rfl, rfl, rfl⟩ := hcs
      exact ⟨zs, .inr ⟨_, rfl, hl, hm, by simpa using hz, hcell, hwz⟩⟩
  obtain ⟨a2, rfl, rfl, rfl, w2⟩ := open_int Tryz.underlying3 (hval 2 3 v2 rfl rfl) h2
  obtain ⟨a3, rfl, rfl, rfl, w3⟩ := open_int Tryz.underlying3 (hval 3 3 v3 rfl rfl) h3
  clear hA0 hval0
  refine (walk s0 a1 len1 cap1 z1 a2 a3 W w0 w1 w2 w3).mono fun e W' ⟨he, bel⟩ => ?_
  subst he
  exact ⟨_, rfl, _, _, _, [], _, [], hW', trodAll_mk1 (shut_bool Tryz.underlying4 _), (trodAll_cons_mk (Below.trod laidOut (by kernel_rfl) (of_decide_eq_true (by kernel_rfl)) k0 bel lt0) (trodAll_cons_mk (Below.trod laidOut (by kernel_rfl) (of_decide_eq_true (by kernel_rfl)) k1 bel lt1) (trodAll_cons_mk (shut_int Tryz.underlying3 w2) (trodAll_cons_mk (shut_int Tryz.underlying3 w3) trodAll_mk0)))), rfl, bel.frame _, fun h => by cases h⟩

theorem over : Rows.waitTellsRow.holds Tryz.pinned (OpenSpec.ofChange Rows.waitTellsSpec) :=
  OpenClaim.holds_of_wide 3 Tryz.f3 rfl rfl rfl rfl rfl rfl rfl ⟨rfl, rfl, rfl, rfl, rfl⟩ rfl rfl rfl rfl rfl (by kernel_rfl) Tryz.func3 (by kernel_rfl)
    (of_decide_eq_true (by kernel_rfl)) (by unfold Func.isWrapper; first | (rw [if_pos (by decide +kernel)]; kernel_rfl) | (rw [if_neg (by decide +kernel)]; exact ⟨rfl, rfl⟩))
    (fun os started H enc _ => lifted os started H enc)

/-- THE STATEMENT -/
theorem proved : Rows.WaitTellsSaid := over
#print axioms proved
end Go.Proofs.YtindcpgmfdkpcaaGreat.waitTells

