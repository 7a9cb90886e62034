/- swingbridgelaw19: sets made by hand. -/
import Derived.Test.YtjjlpaampmpdfaaGreatDoorOwnT
namespace Go.Proofs.YtjjlpaampmpdfaaGreatDoor
open Go.ChangeShapes Go.WideShapes Go.ChangeAt Go.RowKit
set_option linter.unusedVariables false
/-- a set made by hand, whose row of tasks is of the call's own -/
def OneS19 (w : World) (B : Nat) (proto : Int) (ts : List TaskR) (e : Ending) : Prop := ∃ (ca ha ta : Option Addr) (cc hc tc : Nat), e = .returned (.agg #[.int .i64 proto, .slice ca 1 cc, .slice ha 1 hc, .slice ta ts.length tc]) ∧ IntsOk w ca cc [1] ∧ IntsOk w ha hc [0] ∧ OwnT B w ta ts.length tc ts ∧ (∀ k ∈ fp ca, k ∉ fp ta ∧ B ≤ k ∧ k < w.heap.size) ∧ ∀ k ∈ fp ha, k ∉ fp ta ∧ B ≤ k ∧ k < w.heap.size
theorem one19_any (proto : Int) (a : Option Addr) (c : Nat) (ps : List PartM) (w : World) : Calls Tryz.prog 13 #[.int .i64 proto, .slice a ps.length c] w fun e w' => OneS19 w' w.heap.size proto [⟨⟨#[97]⟩, 100, 100, 1, 0, a, c, ps⟩] e ∧ Below w.heap.size w w' := by
  go_enter Tryz.func13, Tryz.ntmps13
  go_wp2
  have B1 := ((Bk.at_ (w := w.alloc (.cells #[.int .i64 proto, .slice (some ⟨w.heap.size + 1, 0, none⟩) 1 1, .slice (some ⟨w.heap.size + 1 + 1, 0, none⟩) 1 1, .slice (some ⟨w.heap.size + 1 + 1 + 1, 0, none⟩) 1 1] 25)) (g := w.heap.size + 1) (t := 3) (cs := ([1].map (Value.int .i64)).toArray) (by simp) rfl).alloc (.cells #[.int .i64 0] 3)).alloc (.cells #[.string ⟨#[97]⟩, .int .i64 100, .int .i64 100, .int .i64 1, .int .i64 0, .slice a ps.length c] 41)
  have B2 := (Bk.at_ (w := (w.alloc (.cells #[.int .i64 proto, .slice (some ⟨w.heap.size + 1, 0, none⟩) 1 1, .slice (some ⟨w.heap.size + 1 + 1, 0, none⟩) 1 1, .slice (some ⟨w.heap.size + 1 + 1 + 1, 0, none⟩) 1 1] 25)).alloc (.cells #[.int .i64 1] 3)) (g := w.heap.size + 1 + 1) (t := 3) (cs := ([0].map (Value.int .i64)).toArray) (by simp) rfl).alloc (.cells #[.string ⟨#[97]⟩, .int .i64 100, .int .i64 100, .int .i64 1, .int .i64 0, .slice a ps.length c] 41)
  have B3 := Bk.at_ (w := ((w.alloc (.cells #[.int .i64 proto, .slice (some ⟨w.heap.size + 1, 0, none⟩) 1 1, .slice (some ⟨w.heap.size + 1 + 1, 0, none⟩) 1 1, .slice (some ⟨w.heap.size + 1 + 1 + 1, 0, none⟩) 1 1] 25)).alloc (.cells #[.int .i64 1] 3)).alloc (.cells #[.int .i64 0] 3)) (g := w.heap.size + 1 + 1 + 1) (t := 41) (cs := (ttc [⟨⟨#[97]⟩, 100, 100, 1, 0, a, c, ps⟩]).toArray) (by simp) rfl
  refine bodyPost_ret (v := .agg #[.int .i64 proto, .slice (some ⟨w.heap.size + 1, 0, none⟩) 1 1, .slice (some ⟨w.heap.size + 1 + 1, 0, none⟩) 1 1, .slice (some ⟨w.heap.size + 1 + 1 + 1, 0, none⟩) 1 1]) (by simp [results, Tryz.results13, go_sem]) rfl
    ⟨⟨_, _, _, 1, 1, 1, rfl, ⟨⟨(fun e => by cases e), by simp, by first | decide | (simp; done) | (simp; decide)⟩, ints_lit B1, by first | decide | (simp; done) | (simp; decide)⟩, ⟨⟨(fun e => by cases e), by simp, by first | decide | (simp; done) | (simp; decide)⟩, ints_lit B2, by first | decide | (simp; done) | (simp; decide)⟩, ⟨own_lit B3 (by omega) (ttc_len _) (by first | decide | (simp; done) | (simp; decide)), rfl, by first | decide | (simp; done) | (simp; decide), (fun e => by cases e)⟩, by simp [fp]; try omega, by simp [fp]; try omega⟩, ?_⟩
  exact ((((Below.refl _ _).alloc (Nat.le_refl _) _).alloc (by simp) _).alloc (by simp; omega) _).alloc (by simp; omega) _
/-- two tasks at one cluster -/
def twoS19 (S : SetR) (proto run lock run2 lock2 : Int) : Prop := S.proto = proto ∧ S.cores = [1] ∧ S.homes = [0] ∧ ∃ (a1 a2 : Option Addr) (c1 c2 : Nat), S.tasks = [⟨⟨#[97]⟩, 100, 100, 1, 0, a1, c1, [⟨1, run, 0⟩, ⟨3, lock, 0⟩]⟩, ⟨⟨#[98]⟩, 200, 200, 2, 0, a2, c2, [⟨1, run2, 0⟩, ⟨3, lock2, 0⟩]⟩]
def TwoP19 (w : World) (proto run lock run2 lock2 : Int) (e : Ending) (w' : World) : Prop := (∃ S : SetR, e = .returned (.agg #[.int .i64 S.proto, .slice S.ca S.cores.length S.cc, .slice S.ha S.homes.length S.hc, .slice S.ta S.tasks.length S.tc]) ∧ SetOk w' S ∧ twoS19 S proto run lock run2 lock2) ∧ Below w.heap.size w w'
set_option maxRecDepth 100000 in
theorem two19_any (proto run lock run2 lock2 : Int) (w : World) (h0 : I64 proto) (h1 : I64 run) (h2 : I64 lock) (h3 : I64 run2) (h4 : I64 lock2) : Calls Tryz.prog 16 #[.int .i64 proto, .int .i64 run, .int .i64 lock, .int .i64 run2, .int .i64 lock2] w (TwoP19 w proto run lock run2 lock2) := by
  obtain ⟨i0, hi0, hy0, hy1, hy2⟩ := info_parts infoTask
  have P0 := (Bk.new w 25 #[.int .i64 0, .slice none 0 0, .slice none 0 0, .slice none 0 0]).alloc (.cells (ptc [⟨1, run, 0⟩, ⟨3, lock, 0⟩]).toArray 38)
  have P1 := Bk.at_ (w := w.alloc (.cells #[.int .i64 0, .slice none 0 0, .slice none 0 0, .slice none 0 0] 25)) (g := w.heap.size + 1) (t := 38) (cs := (ptc [⟨1, run, 0⟩, ⟨3, lock, 0⟩]).toArray) (by simp) rfl
  have hb0 := ((Below.refl w.heap.size w).alloc (Nat.le_refl _) (.cells #[.int .i64 0, .slice none 0 0, .slice none 0 0, .slice none 0 0] 25)).alloc (by simp) (.cells (ptc [⟨1, run, 0⟩, ⟨3, lock, 0⟩]).toArray 38)
  have hz0 : ((w.alloc (.cells #[.int .i64 0, .slice none 0 0, .slice none 0 0, .slice none 0 0] 25)).alloc (.cells (ptc [⟨1, run, 0⟩, ⟨3, lock, 0⟩]).toArray 38)).heap.size = w.heap.size + 2 := by simp
  have Hz0 := hidp hz0
  clear hz0
  go_enter Tryz.func16, Tryz.ntmps16
  go_wp2_with fail
  refine (one19_any proto (some ⟨w.heap.size + 1, 0, none⟩) 2 [⟨1, run, 0⟩, ⟨3, lock, 0⟩] _).mono ?_
  rintro e w2 ⟨⟨ca, ha, ta, cc, hc, tc, rfl, kc, kh, kt, n1, n2⟩, hb⟩
  have hsz : w.heap.size + 2 ≤ w2.heap.size := by have := hb.size; rw [← Hz0.out]; exact this
  replace P0 := P0.below hb
  replace P1 := P1.below hb
  have hbe := hb0.trans (hb.mono hb0.size)
  clear hb hb0
  have kt := kt.low (show w.heap.size + 2 ≤ _ by rw [← Hz0.out]; exact Nat.le_refl _)
  have n1' : ∀ k ∈ fp ca, k ∉ fp ta ∧ w.heap.size + 2 ≤ k ∧ k < w2.heap.size := fun k hk => ⟨(n1 k hk).1, by have := (n1 k hk).2.1; rw [← Hz0.out]; exact this, (n1 k hk).2.2⟩
  have n2' : ∀ k ∈ fp ha, k ∉ fp ta ∧ w.heap.size + 2 ≤ k ∧ k < w2.heap.size := fun k hk => ⟨(n2 k hk).1, by have := (n2 k hk).2.1; rw [← Hz0.out]; exact this, (n2 k hk).2.2⟩
  have N1 := hidp n1'
  have N2 := hidp n2'
  have Hft := hidp (own_fp kt.own)
  clear n1 n2 n1' n2'
  obtain ⟨V, hV⟩ : ∃ V, w2.heap.size = V := ⟨_, rfl⟩
  have HV := hidp hV
  clear hV
  -- the boxes that come now
  have T0 := (((Turned.refl [] w2).alloc (.cells #[.int .i64 proto, .slice ca 1 cc, .slice ha 1 hc, .slice ta 1 tc] 25)).alloc (.cells (ptc [⟨1, run2, 0⟩, ⟨3, lock2, 0⟩]).toArray 38)).alloc (.cells (ttc [⟨⟨#[98]⟩, 200, 200, 2, 0, some ⟨w2.heap.size + 1, 0, none⟩, 2, [⟨1, run2, 0⟩, ⟨3, lock2, 0⟩]⟩]).toArray 41)
  have X0 := ((Bk.new w2 25 #[.int .i64 proto, .slice ca 1 cc, .slice ha 1 hc, .slice ta 1 tc]).alloc (.cells (ptc [⟨1, run2, 0⟩, ⟨3, lock2, 0⟩]).toArray 38)).alloc (.cells (ttc [⟨⟨#[98]⟩, 200, 200, 2, 0, some ⟨w2.heap.size + 1, 0, none⟩, 2, [⟨1, run2, 0⟩, ⟨3, lock2, 0⟩]⟩]).toArray 41)
  have X1 := (Bk.at_ (w := w2.alloc (.cells #[.int .i64 proto, .slice ca 1 cc, .slice ha 1 hc, .slice ta 1 tc] 25)) (g := w2.heap.size + 1) (t := 38) (cs := (ptc [⟨1, run2, 0⟩, ⟨3, lock2, 0⟩]).toArray) (by simp) rfl).alloc (.cells (ttc [⟨⟨#[98]⟩, 200, 200, 2, 0, some ⟨w2.heap.size + 1, 0, none⟩, 2, [⟨1, run2, 0⟩, ⟨3, lock2, 0⟩]⟩]).toArray 41)
  have S2 := Lies.newCells' ((w2.alloc (.cells #[.int .i64 proto, .slice ca 1 cc, .slice ha 1 hc, .slice ta 1 tc] 25)).alloc (.cells (ptc [⟨1, run2, 0⟩, ⟨3, lock2, 0⟩]).toArray 38)) (ttc [⟨⟨#[98]⟩, 200, 200, 2, 0, some ⟨w2.heap.size + 1, 0, none⟩, 2, [⟨1, run2, 0⟩, ⟨3, lock2, 0⟩]⟩]) 41
  rw [show ((w2.alloc (.cells #[.int .i64 proto, .slice ca 1 cc, .slice ha 1 hc, .slice ta 1 tc] 25)).alloc (.cells (ptc [⟨1, run2, 0⟩, ⟨3, lock2, 0⟩]).toArray 38)).heap.size = w2.heap.size + 1 + 1 by simp] at S2
  have O2 := hidp (ttc_one [⟨⟨#[98]⟩, 200, 200, 2, 0, some ⟨w2.heap.size + 1, 0, none⟩, 2, [⟨1, run2, 0⟩, ⟨3, lock2, 0⟩]⟩])
  have hown := own_turned kt.own T0 (by simp)
  have Z2 : Hid (w.heap.size + 2 ≤ (((w2.alloc (.cells #[.int .i64 proto, .slice ca 1 cc, .slice ha 1 hc, .slice ta 1 tc] 25)).alloc (.cells (ptc [⟨1, run2, 0⟩, ⟨3, lock2, 0⟩]).toArray 38)).alloc (.cells (ttc [⟨⟨#[98]⟩, 200, 200, 2, 0, some ⟨w2.heap.size + 1, 0, none⟩, 2, [⟨1, run2, 0⟩, ⟨3, lock2, 0⟩]⟩]).toArray 41)).heap.size) := hidp (Nat.le_trans hsz T0.size)
  have HS2 := hidp S2
  have HT0 := hidp T0
  have HX0 := hidp X0
  have HX1 := hidp X1
  clear S2 T0 X0 X1
  go_wp2_with (at_builtin; go_loud ((refine wpList_app2 _ rfl (.tmp 20) (.tmp 27) 23 rfl (w.heap.size + 2) 41 i0 _ 6 72 Tryz.underlying23 hi0 hy0 hy1 hy2 rfl (by decide) ta 1 tc _ rfl hown _ _ 1 1 (ttc [⟨⟨#[98]⟩, 200, 200, 2, 0, some ⟨w2.heap.size + 1, 0, none⟩, 2, [⟨1, run2, 0⟩, ⟨3, lock2, 0⟩]⟩]) rfl (by simp) rfl HS2.out O2.out (by decide) (by decide) Z2.out ?_; intro A' c' w3 happ; have X0 := HX0.out.turned happ.turned (fun hf => by have := (Hft.out _ hf).2; omega); have Y0 := (P0.turned HT0.out (by simp)).turned happ.turned (fun hf => by have := (Hft.out _ hf).1; omega); obtain ⟨f0, f1, f2, f3⟩ := ZF4 X0; obtain ⟨e0, e1, e2, e3⟩ := Z4 X0; obtain ⟨p0, p1, p2, p3⟩ := ZF4 Y0; obtain ⟨q0, q1, q2, q3⟩ := Z4 Y0)))
  have TS := (Turned.refl [w2.heap.size] w3).setCell (p := ⟨w2.heap.size, 3, none⟩) (.inl (by simp)) (.slice A' 2 c')
  have TP := put4_turned (w3.setCell ⟨w2.heap.size, 3, none⟩ (.slice A' 2 c')) w.heap.size (.int .i64 proto) (.slice ca 1 cc) (.slice ha 1 hc) (.slice A' 2 c')
  have PB := put4_bk (v0 := .int .i64 proto) (v1 := .slice ca 1 cc) (v2 := .slice ha 1 hc) (v3 := .slice A' 2 c') (Y0.turned TS (by simp; omega))
  have gV : ∀ k, k < w2.heap.size → k ∉ [w2.heap.size] := fun k hk hm => by simp at hm; omega
  have gH : ∀ k, w.heap.size + 1 ≤ k → k ∉ [w.heap.size] := fun k hk hm => by simp at hm; omega
  have kc5 := (((kc.turned HT0.out (by simp)).turned happ.turned (fun k hk => (N1.out k hk).1)).turned TS (fun k hk => gV k (N1.out k hk).2.2)).turned TP (fun k hk => gH k (by have := (N1.out k hk).2.1; omega))
  have kh5 := (((kh.turned HT0.out (by simp)).turned happ.turned (fun k hk => (N2.out k hk).1)).turned TS (fun k hk => gV k (N2.out k hk).2.2)).turned TP (fun k hk => gH k (by have := (N2.out k hk).2.1; omega))
  have P5 := parts_lit (((P1.turned HT0.out (by simp)).turned happ.turned (fun hf => by have := (Hft.out _ hf).1; omega)).turned TS (gV _ (by omega)) |>.turned TP (gH _ (by omega)))
  have Q5 := parts_lit ((HX1.out.turned happ.turned (fun hf => by have := (Hft.out _ hf).2; omega)).turned TS (by simp) |>.turned TP (gH _ (by omega)))
  have o3 := kt.app (ts := [⟨⟨#[98]⟩, 200, 200, 2, 0, some ⟨w2.heap.size + 1, 0, none⟩, 2, [⟨1, run2, 0⟩, ⟨3, lock2, 0⟩]⟩]) happ rfl
  have hz5 := HT0.out.size
  have o5 := (o3.turned TS (fun k hk => by
    rcases happ.fps k hk with h | h
    · exact gV k (Hft.out k h).2
    · intro hm; simp at hm h; omega)).turned TP (fun k hk => gH k (by have := (own_fp o3.own k hk).1; omega))
  have hall := (((hbe.trans (HT0.out.below hbe.size (by simp))).trans (happ.turned.below (Nat.le_trans hbe.size hz5) (fun k hk => by have := (Hft.out k hk).1; omega))).trans (TS.below (Nat.le_trans (Nat.le_trans hbe.size hz5) happ.turned.size) (by simp; omega))).trans (TP.below (Nat.le_trans (Nat.le_trans (Nat.le_trans hbe.size hz5) happ.turned.size) TS.size) (by simp))
  have W2 : ∀ x y : Int, I64 x → I64 y → ∀ p ∈ [PartM.mk 1 x 0, PartM.mk 3 y 0], p.wf := fun x y hx hy p hp => by
    simp at hp
    rcases hp with rfl | rfl
    · exact ⟨(by show I64 1; decide), hx, (by show I64 0; decide)⟩
    · exact ⟨(by show I64 3; decide), hy, (by show I64 0; decide)⟩
  have SL2 : ∀ a : Addr, SlOk (some a) 2 2 := fun a => ⟨(fun e => by cases e), Nat.le_refl _, by decide⟩
  have K1 := TaskOk.mk (w := put4 (w3.setCell ⟨w2.heap.size, 3, none⟩ (.slice A' 2 c')) w.heap.size (.int .i64 proto) (.slice ca 1 cc) (.slice ha 1 hc) (.slice A' 2 c')) (t := ⟨⟨#[97]⟩, 100, 100, 1, 0, some ⟨w.heap.size + 1, 0, none⟩, 2, [⟨1, run, 0⟩, ⟨3, lock, 0⟩]⟩) (by show 1 ≤ maxLen; decide) (by show I64 100; decide) (by show I64 100; decide) (by show I64 1; decide) (by show I64 0; decide) (SL2 _) P5 (W2 _ _ h1 h2)
  have K2 := TaskOk.mk (w := put4 (w3.setCell ⟨w2.heap.size, 3, none⟩ (.slice A' 2 c')) w.heap.size (.int .i64 proto) (.slice ca 1 cc) (.slice ha 1 hc) (.slice A' 2 c')) (t := ⟨⟨#[98]⟩, 200, 200, 2, 0, some ⟨w2.heap.size + 1, 0, none⟩, 2, [⟨1, run2, 0⟩, ⟨3, lock2, 0⟩]⟩) (by show 1 ≤ maxLen; decide) (by show I64 200; decide) (by show I64 200; decide) (by show I64 2; decide) (by show I64 0; decide) (SL2 _) Q5 (W2 _ _ h3 h4)
  have KA : TasksOk (put4 (w3.setCell ⟨w2.heap.size, 3, none⟩ (.slice A' 2 c')) w.heap.size (.int .i64 proto) (.slice ca 1 cc) (.slice ha 1 hc) (.slice A' 2 c')) A' c' [⟨⟨#[97]⟩, 100, 100, 1, 0, some ⟨w.heap.size + 1, 0, none⟩, 2, [⟨1, run, 0⟩, ⟨3, lock, 0⟩]⟩, ⟨⟨#[98]⟩, 200, 200, 2, 0, some ⟨w2.heap.size + 1, 0, none⟩, 2, [⟨1, run2, 0⟩, ⟨3, lock2, 0⟩]⟩] := ⟨o5.sl, o5.tasks, fun t ht => by
    simp only [List.mem_cons, List.not_mem_nil, or_false] at ht
    rcases ht with rfl | rfl
    · exact K1
    · exact K2⟩
  obtain ⟨r0, r1, r2, r3⟩ := Z4 PB
  unfold put4 at r0 r1 r2 r3 kc5 kh5 KA hall
  refine bodyPost_ret (v := .agg #[.int .i64 proto, .slice ca 1 cc, .slice ha 1 hc, .slice A' 2 c']) (by simp [results, Tryz.results16, go_sem, r0, r1, r2, r3]) rfl ⟨⟨⟨proto, ca, cc, [1], ha, hc, [0], A', c', [⟨⟨#[97]⟩, 100, 100, 1, 0, some ⟨w.heap.size + 1, 0, none⟩, 2, [⟨1, run, 0⟩, ⟨3, lock, 0⟩]⟩, ⟨⟨#[98]⟩, 200, 200, 2, 0, some ⟨w2.heap.size + 1, 0, none⟩, 2, [⟨1, run2, 0⟩, ⟨3, lock2, 0⟩]⟩]⟩, rfl, ⟨h0, kc5, kh5, KA⟩, rfl, rfl, rfl, _, _, _, _, rfl⟩, hall⟩

end Go.Proofs.YtjjlpaampmpdfaaGreatDoor
