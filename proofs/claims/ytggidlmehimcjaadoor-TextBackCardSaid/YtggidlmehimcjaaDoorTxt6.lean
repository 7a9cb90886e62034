/- text's read: a line of words. -/
import Derived.Test.YtggidlmehimcjaaDoorTxt5
import Derived.Deep.QuietTactic
import Derived.BigQuiet
namespace Go.Proofs.YtggidlmehimcjaaDoor
open Go.ChangeShapes Go.WideShapes Go.ChangeAt Go.RowKit
set_option linter.unusedVariables false
set_option linter.unusedSimpArgs false
def RdEq (r : RdT) (s : SetR) (want co : Int) (zs : List Int) : Prop := s.bare = r.bare ∧ want = (r.want : Int) ∧ co = (r.coresAt : Int) ∧ zs = r.tasksAt.map (fun (n : Nat) => (n : Int))
def LineRes (r : Except Int RdT) (s : SetR) (want co : Int) (zs : List Int) (e : Ending) : Prop := match r with
  | .ok r' => e = .returned (.int .i64 0) ∧ RdEq r' s want co zs
  | .error x => e = .returned (.int .i64 x) ∧ x ≠ 0
def ReadPost (B : Nat) (W : World) (g : Nat) (r : Except Int RdT) (e : Ending) (w' : World) : Prop :=
  Below B W w' ∧ ∃ s want co A c zs, Rdr B w' g s want co A c zs ∧ LineRes r s want co zs e
theorem fp_cut {A : Option Addr} {c k j : Nat} (h : j ∈ fp (cutA A c k)) : j ∈ fp A := by
  unfold cutA at h
  split at h
  · exact h
  · cases A with
    | none => simp [fp] at h
    | some a =>
      simp only [Option.map_some, fp, List.mem_singleton] at h ⊢
      rw [h]; cases a; unfold Addr.add; split <;> rfl
theorem StrsAt.turned {F : List Nat} {w w' : World} {A : Option Addr} {ls : List ByteArray} (h : StrsAt w A ls) (ht : Turned F w w') (hF : ∀ k ∈ fp A, k ∉ F) : StrsAt w' A ls := by
  rcases h with h | ⟨b, off, rfl, hc⟩
  · exact .inl h
  · exact .inr ⟨b, off, rfl, fun i hi => ht.cell (hc i hi) (hF b (by simp [fp]))⟩
section
variable {B : Nat} {w w' : World} {g : Nat} {s : SetR} {want co : Int} {A : Option Addr} {c : Nat} {zs : List Int}
theorem Rdr.setWant (h : Rdr B w g s want co A c zs) (x : Int) : Rdr B (w.setCell ⟨g, 4, none⟩ (.int .i64 x)) g s x co A c zs := ⟨by have := h.bk.put 4 (.int .i64 x); simpa [rdC] using this, rd_put h.rows 4 _⟩
theorem Rdr.setAt (h : Rdr B w g s want co A c zs) (x : Int) : Rdr B (w.setCell ⟨g, 5, none⟩ (.int .i64 x)) g s want x A c zs := ⟨by have := h.bk.put 5 (.int .i64 x); simpa [rdC] using this, rd_put h.rows 5 _⟩
theorem Rdr.setProto (h : Rdr B w g s want co A c zs) {p : Int} (hp : I64 p) : Rdr B (w.setCell ⟨g, 0, none⟩ (.int .i64 p)) g { s with proto := p } want co A c zs := ⟨by have := h.bk.put 0 (.int .i64 p); simpa [rdC] using this, (rd_put h.rows 0 _).setProto hp⟩
theorem Rdr.setCores (h : Rdr B w g s want co A c zs) {C : Option Addr} {cc : Nat} {cs : List Int} (hi : IntsOk w C cc cs) (hC : ∀ k ∈ fp C, (B ≤ k ∧ k < w.heap.size) ∧ k ≠ g ∧ k ∉ fp s.ta ∧ k ∉ fp A) : Rdr B (w.setCell ⟨g, 1, none⟩ (.slice C cs.length cc)) g { s with ca := C, cc := cc, cores := cs } want co A c zs :=
  ⟨by have := h.bk.put 1 (.slice C cs.length cc); simpa [rdC] using this, rd_put (h.rows.setCores hi hC) 1 _⟩
theorem Rdr.setHomes (h : Rdr B w g s want co A c zs) {C : Option Addr} {cc : Nat} {cs : List Int} (hi : IntsOk w C cc cs) (hC : ∀ k ∈ fp C, (B ≤ k ∧ k < w.heap.size) ∧ k ≠ g ∧ k ∉ fp s.ta ∧ k ∉ fp A) : Rdr B (w.setCell ⟨g, 2, none⟩ (.slice C cs.length cc)) g { s with ha := C, hc := cc, homes := cs } want co A c zs :=
  ⟨by have := h.bk.put 2 (.slice C cs.length cc); simpa [rdC] using this, rd_put (h.rows.setHomes hi hC) 2 _⟩
theorem Rdr.addAt (h : Rdr B w g s want co A c zs) {A' : Option Addr} {c' : Nat} {x : Int} (ha : App B 3 1 w A A' (zs.length + 1) c' (zs.map (Value.int .i64) ++ [.int .i64 x]) w') : Rdr B ((w'.setCell ⟨g, 4, none⟩ (.int .i64 3)).setCell ⟨g, 6, none⟩ (.slice A' (zs.length + 1) c')) g s 3 co A' c' (zs ++ [x]) :=
  ⟨by
    have := ((h.bk.turned ha.turned (fun hm => (h.rows.dA g hm).1 rfl)).put 4 (.int .i64 3)).put 6 (.slice A' (zs.length + 1) c')
    simpa [rdC] using this, rd_put (rd_put (h.rows.addAt ha) 4 _) 6 _⟩
theorem Rws.fresh {v u : World} (h : Rws B v g s A c zs) (hb : Below v.heap.size v u) {C : Option Addr} {n cc : Nat} {cs : List Int} (ho : OwnN v.heap.size u C n cc cs) : ∀ k ∈ fp C, (B ≤ k ∧ k < u.heap.size) ∧ k ≠ g ∧ k ∉ fp s.ta ∧ k ∉ fp A := fun k hk => by
  have h1 := own_fp ho.own k hk
  have h2 := h.gB
  refine ⟨⟨by omega, h1.2⟩, by omega, fun hm => ?_, fun hm => ?_⟩
  · have := (own_fp h.tasks.own k hm).2; omega
  · have := (own_fp h.ats.own k hm).2; omega
end
theorem i64_small {x : Int} (h : 0 ≤ x ∧ x ≤ 9999999) : I64 x := by unfold I64; omega
theorem protoOf_bd (l : List Bts) : I64 (protoOf l).1 := by
  unfold protoOf
  cases h : protoT l with
  | none => unfold I64; decide
  | some p =>
    unfold protoT at h
    split at h
    · split at h
      · injection h with h; subst h; unfold I64; decide
      · split at h
        · injection h with h; subst h; unfold I64; decide
        · split at h
          · injection h with h; subst h; unfold I64; decide
          · cases h
    · cases h
theorem lineT_proto (r : RdT) (at_ : Nat) (rs : List Bts) (hw : r.want = 0) : lineT r at_ ([112, 114, 111, 116, 111, 99, 111, 108] :: rs) = if (protoOf rs).2 = true then .ok { r with want := 1, proto := (protoOf rs).1 } else .error 10 := by
  unfold lineT
  dsimp only
  rw [if_pos ⟨rfl, hw⟩]
  unfold protoOf
  cases protoT rs <;> rfl
theorem lineT_cores (r : RdT) (at_ : Nat) (rs : List Bts) (zs : List Int) (ok : Bool) (hw : r.want = 1) (hv : someT rs = if ok = true then some zs else none) : lineT r at_ ([99, 111, 114, 101, 115] :: rs) = if ok = true then .ok { r with want := 2, coresAt := at_, cores := zs } else .error 10 := by
  unfold lineT
  dsimp only
  rw [if_neg (by rintro ⟨h, _⟩; exact absurd h (by decide)), if_pos ⟨rfl, hw⟩, hv]
  cases ok <;> rfl
theorem lineT_homes (r : RdT) (at_ : Nat) (rs : List Bts) (zs : List Int) (ok : Bool) (hw : r.want = 2) (hv : someT rs = if ok = true then some zs else none) : lineT r at_ ([104, 111, 109, 101, 115] :: rs) = if ok = true then .ok { r with want := 3, homes := zs } else .error 10 := by
  unfold lineT
  dsimp only
  rw [if_neg (by rintro ⟨h, _⟩; exact absurd h (by decide)), if_neg (by rintro ⟨h, _⟩; exact absurd h (by decide)), if_pos ⟨rfl, hw⟩, hv]
  cases ok <;> rfl
theorem lineT_task (r : RdT) (at_ : Nat) (rs : List Bts) (hw : 2 ≤ r.want) : lineT r at_ ([116, 97, 115, 107] :: rs) = match taskT rs with | .ok t => .ok { r with want := 3, tasksAt := r.tasksAt ++ [at_], tasks := r.tasks ++ [t] } | .error e => .error e := by
  unfold lineT
  dsimp only
  rw [if_neg (by rintro ⟨h, _⟩; exact absurd h (by decide)), if_neg (by rintro ⟨h, _⟩; exact absurd h (by decide)), if_neg (by rintro ⟨h, _⟩; exact absurd h (by decide)), if_pos ⟨rfl, hw⟩]
  cases taskT rs <;> rfl
theorem lineT_no (r : RdT) (at_ : Nat) (h : Bts) (rs : List Bts) (h0 : ¬ (h = [112, 114, 111, 116, 111, 99, 111, 108] ∧ r.want = 0)) (h1 : ¬ (h = [99, 111, 114, 101, 115] ∧ r.want = 1)) (h2 : ¬ (h = [104, 111, 109, 101, 115] ∧ r.want = 2)) (h3 : ¬ (h = [116, 97, 115, 107] ∧ 2 ≤ r.want)) : lineT r at_ (h :: rs) = .error 10 := by
  unfold lineT
  dsimp only
  rw [if_neg h0, if_neg h1, if_neg h2, if_neg h3]
theorem taskT_err {l : List Bts} {x : Int} (h : taskT l = .error x) : x ≠ 0 := by
  unfold taskT at h
  split at h
  · injection h with h; omega
  · split at h
    · split at h
      · cases h
      · injection h with h; omega
    · injection h with h; omega
set_option maxHeartbeats 4000000 in
theorem read_any (B : Nat) (g : Nat) (r : RdT) (s : SetR) (want co : Int) (A : Option Addr) (c : Nat) (zs : List Int) (at_ : Nat) (L : Option Addr) (cl : Nat) (x : ByteArray) (rs : List ByteArray) (m : Int) (W w : World) (hR : Rdr B w g s want co A c zs) (hE : RdEq r s want co zs) (hBW : B ≤ W.heap.size) (hb : Below B W w)
    (h0B : 0 < B) (hm : W.cell? ⟨0, 0, none⟩ = some (.int .i64 m)) (hs : StrsAt w L (x :: rs)) (hl : rs.length ≤ 99999) (hcl : rs.length + 1 ≤ cl) (hz : ∀ y ∈ x :: rs, y.size ≤ 90000) (hts : s.tasks.length ≤ 100000) (hzs : zs.length ≤ 100000) (hat : at_ ≤ 100000) (hLd : ∀ k ∈ fp L, k ≠ g ∧ k ∉ fp s.ta ∧ k ∉ fp A) :
    Calls Tryd.prog 38 #[.pointer (some ⟨g, 0, none⟩), .int .i64 at_, .slice L (rs.length + 1) cl] w (ReadPost B W g (lineT r at_ ((x :: rs).map bl))) := by
  obtain ⟨M, hM⟩ : ∃ M, rs.length = M := ⟨_, rfl⟩
  have HM := hidp hM
  have HRn : Hid (∀ n, Rdr B (w.drewN n) g s want co A c zs) := hidp (fun n => hR.over (below_drewN (Below.refl _ w) n))
  have HBn : Hid (∀ n, Below B W (w.drewN n)) := hidp (fun n => below_drewN hb n)
  have HW3 : Hid (want = (r.want : Int)) := hidp hE.2.1
  obtain ⟨c0, c1, c2, c3, c4, c5, c6, fz⟩ := hR.cells
  have z0 := fz 0
  have z1 := fz 1
  have z2 := fz 2
  have z4 := fz 4
  have z5 := fz 5
  have z6 := fz 6
  have HSn : Hid (∀ (F : List Nat) (w' : World), Turned F w w' → (∀ k ∈ fp L, k ∉ F) → StrsAt w' (cutA L cl 1) rs) := hidp (fun F w' h1 h2 => (strs_from hs (by simpa using hcl) 1).turned h1 (fun k hk => h2 k (fp_cut hk)))
  clear fz
  have S1 : StrsAt w (cutA L cl 1) rs := strs_from hs (by simpa using hcl) 1
  have cx0 : ∃ b off, L = some ⟨b, off, none⟩ ∧ w.cell? ⟨b, off, none⟩ = some (.string x) := by
    obtain ⟨b, off, e, hc⟩ := hs.resolve_left (by simp)
    exact ⟨b, off, e, hc 0 (by simp)⟩
  rw [hM] at hl hcl ⊢
  have hL1d : ∀ k ∈ fp (cutA L cl 1), (k ≠ g ∧ k ∉ fp s.ta ∧ k ∉ fp A) ∧ k < w.heap.size := fun k hk => ⟨hLd k (fp_cut hk), by
    obtain ⟨b, off, e, hc⟩ := cx0
    have := fp_cut hk
    rw [e] at this
    simp [fp] at this
    rw [this]; exact cell_lt hc⟩
  have e1 : ∀ u : World, (Instr.slice 54 (.slice L (M + 1) cl) (some (.int .i64 1)) none none).run Tryd.prog u = .ok (.slice (cutA L cl 1) M (cl - 1)) u := fun u => strs_low L (M + 1) cl 1 (by omega) (by omega) u
  obtain ⟨L1, hL1⟩ : ∃ L1, cutA L cl 1 = L1 := ⟨_, rfl⟩
  rw [hL1] at S1 e1 hL1d
  obtain ⟨b, off, rfl, cx⟩ := cx0
  have HS1 := hidp S1
  rw [hL1] at HSn
  have HSt := HSn
  have HL1 := hidp hL1d
  have HR := hidp hR
  have HB := hidp hb
  have HE := hidp hE
  have HMx := hidp hm
  have HX := hidp (hLd b (by simp [fp]))
  have HZ := hidp (fun y (hy : y ∈ rs) => hz y (List.mem_cons_of_mem _ hy))
  have b1 : (0 : Int) < (M : Int) + 1 := by omega
  have q0 := toList_lit x [112, 114, 111, 116, 111, 99, 111, 108]
  have q1 := toList_lit x [99, 111, 114, 101, 115]
  have q2 := toList_lit x [104, 111, 109, 101, 115]
  have q3 := toList_lit x [116, 97, 115, 107]
  clear S1 hL1 hL1d hR hb hE hm hs hz hLd hM
  by_cases d0 : bl x = [112, 114, 111, 116, 111, 99, 111, 108]
  · rw [d0] at q0 q1 q2 q3
    have f0 : (x.toList == [112, 114, 111, 116, 111, 99, 111, 108]) = true := by rw [q0]; decide
    have f1 : (x.toList == [99, 111, 114, 101, 115]) = false := by rw [q1]; decide
    have f2 : (x.toList == [104, 111, 109, 101, 115]) = false := by rw [q2]; decide
    have f3 : (x.toList == [116, 97, 115, 107]) = false := by rw [q3]; decide
    clear q0 q1 q2 q3
    by_cases e0 : want = 0
    · have HLT : Hid (lineT r at_ ((x :: rs).map bl) = if (protoOf (rs.map bl)).2 = true then .ok { r with want := 1, proto := (protoOf (rs.map bl)).1 } else .error 10) := hidp (by rw [List.map_cons, d0]; exact lineT_proto r at_ _ (by have := HW3.out; omega))
      have HPI := hidp (protoOf_bd (rs.map bl))
      have CP : Hid (∀ n, Calls Tryd.prog 50 #[.slice L1 M (cl - 1)] ((w.drewN n).setCell ⟨g, 4, none⟩ (.int .i64 1)) fun e w' => e = .returned (.tuple #[.int .i64 (protoOf (rs.map bl)).1, .bool (protoOf (rs.map bl)).2]) ∧ (w.drewN n).setCell ⟨g, 4, none⟩ (.int .i64 1) = w') := hidp (fun n => by
        have := proto_any L1 (cl - 1) rs ((w.drewN n).setCell ⟨g, 4, none⟩ (.int .i64 1)) (HSt.out [g] _ (((Turned.refl [g] w).drewN n).setCell (.inl (by simp)) _) (by simpa [fp] using HX.out.1)) (by rw [HM.out]; omega)
        rwa [HM.out] at this)
      obtain ⟨⟨p, o⟩, HP⟩ : ∃ v, Hid (protoOf (rs.map bl) = v) := ⟨_, hidp rfl⟩
      rw [HP.out] at HLT HPI CP
      dsimp only at HLT HPI CP
      have HRf : Hid (∀ n, Rdr B (((w.drewN n).setCell ⟨g, 4, none⟩ (.int .i64 1)).setCell ⟨g, 0, none⟩ (.int .i64 p)) g { s with proto := p } 1 co A c zs) := hidp (fun n => ((HRn.out n).setWant 1).setProto HPI.out)
      have HBf : Hid (∀ n, Below B W (((w.drewN n).setCell ⟨g, 4, none⟩ (.int .i64 1)).setCell ⟨g, 0, none⟩ (.int .i64 p))) := hidp (fun n => put_below (put_below (HBn.out n) hBW HR.out.rows.gB.1) hBW HR.out.rows.gB.1)
      have f9 : (want == 0) = true := by simpa using e0
      clear d0 HP e0
      go_enter Tryd.func38, Tryd.ntmps38
      go_wp2_with fail
      go_quiet (fail)
      go_wp2_with fail
      refine (CP.out _).mono ?_
      rintro e u ⟨rfl, rfl⟩
      cases o with
      | true =>
        go_wp2_with fail
        go_ret
        refine ⟨HBf.out _, _, _, _, _, _, _, HRf.out _, ?_⟩
        rw [HLT.out, if_pos (by trivial)]
        obtain ⟨h1, h2, h3, h4⟩ := HE.out
        refine ⟨rfl, ?_, rfl, h3, h4⟩
        simp only [SetR.bare, RdT.bare, SetR.mk.injEq] at h1 ⊢
        simp [h1]
      | false =>
        go_wp2_with fail
        go_ret
        refine ⟨HBf.out _, _, _, _, _, _, _, HRf.out _, ?_⟩
        rw [HLT.out, if_neg (by decide)]
        exact ⟨rfl, by decide⟩
    · have f9 : (want == 0) = false := by simpa using e0
      have HLT : Hid (lineT r at_ ((x :: rs).map bl) = .error 10) := hidp (by
        rw [List.map_cons, d0]
        exact lineT_no r at_ _ _ (by rintro ⟨_, h⟩; have := HW3.out; omega) (by rintro ⟨h, _⟩; exact absurd h (by decide)) (by rintro ⟨h, _⟩; exact absurd h (by decide)) (by rintro ⟨h, _⟩; exact absurd h (by decide)))
      clear e0 d0
      go_enter Tryd.func38, Tryd.ntmps38
      go_wp2_with fail
      go_quiet (fail)
      go_wp2_with fail
      go_ret
      exact ⟨HBn.out _, s, want, co, A, c, zs, HRn.out _, by rw [HLT.out]; exact ⟨rfl, by decide⟩⟩
  by_cases d1 : bl x = [99, 111, 114, 101, 115]
  · rw [d1] at q0 q1 q2 q3
    have f0 : (x.toList == [112, 114, 111, 116, 111, 99, 111, 108]) = false := by rw [q0]; decide
    have f1 : (x.toList == [99, 111, 114, 101, 115]) = true := by rw [q1]; decide
    have f2 : (x.toList == [104, 111, 109, 101, 115]) = false := by rw [q2]; decide
    have f3 : (x.toList == [116, 97, 115, 107]) = false := by rw [q3]; decide
    clear q0 q1 q2 q3
    by_cases e0 : want = 1
    · have CP : Hid (∀ n, Calls Tryd.prog 51 #[.slice L1 M (cl - 1)] (((w.drewN n).setCell ⟨g, 4, none⟩ (.int .i64 2)).setCell ⟨g, 5, none⟩ (.int .i64 at_)) (SomePost (((w.drewN n).setCell ⟨g, 4, none⟩ (.int .i64 2)).setCell ⟨g, 5, none⟩ (.int .i64 at_)) (rs.map bl))) := hidp (fun n => by
        have := some_any L1 (cl - 1) rs (((w.drewN n).setCell ⟨g, 4, none⟩ (.int .i64 2)).setCell ⟨g, 5, none⟩ (.int .i64 at_)) (HSt.out [g] _ ((((Turned.refl [g] w).drewN n).setCell (.inl (by simp)) _).setCell (.inl (by simp)) _) (by simpa [fp] using HX.out.1)) (by rw [HM.out]; omega) (fun y hy => Nat.le_trans (HZ.out y hy) (by omega))
        rwa [HM.out] at this)
      have HRs : Hid (∀ n, Rdr B (((w.drewN n).setCell ⟨g, 4, none⟩ (.int .i64 2)).setCell ⟨g, 5, none⟩ (.int .i64 at_)) g s 2 at_ A c zs) := hidp (fun n => ((HRn.out n).setWant 2).setAt at_)
      have HBs : Hid (∀ n, Below B W (((w.drewN n).setCell ⟨g, 4, none⟩ (.int .i64 2)).setCell ⟨g, 5, none⟩ (.int .i64 at_))) := hidp (fun n => put_below (put_below (HBn.out n) hBW HR.out.rows.gB.1) hBW HR.out.rows.gB.1)
      have f9 : (want == 1) = true := by simpa using e0
      have HE0 := hidp e0
      have HD := hidp d1
      clear e0 d1
      go_enter Tryd.func38, Tryd.ntmps38
      go_wp2_with fail
      go_quiet (fail)
      go_wp2_with fail
      refine (CP.out _).mono ?_
      rintro e u ⟨C, cc, cs, o, rfl, ho, hbu, hn, hln, hv⟩
      have HRu := hidp ((HRs.out _).over hbu)
      have HBu := hidp ((HBs.out _).trans (hbu.mono (Nat.le_trans hBW (HBs.out _).size)))
      have HC := hidp ((HRs.out _).rows.fresh hbu ho)
      have HI := hidp (ho.ok (fun n hm => i64_small (hn n hm)))
      have HLT : Hid (lineT r at_ ((x :: rs).map bl) = if o = true then .ok { r with want := 2, coresAt := at_, cores := cs } else .error 10) := hidp (by rw [List.map_cons, HD.out]; exact lineT_cores r at_ _ cs o (by have := HW3.out; have := HE0.out; omega) hv)
      have HRf : Hid (Rdr B (u.setCell ⟨g, 1, none⟩ (.slice C cs.length cc)) g { s with ca := C, cc := cc, cores := cs } 2 at_ A c zs) := hidp (HRu.out.setCores HI.out HC.out)
      have HBf := hidp (put_below (i := 1) (v := .slice C cs.length cc) HBu.out hBW HR.out.rows.gB.1)
      obtain ⟨x0, x1, x2, x3, x4, x5, x6, fx⟩ := HRu.out.cells
      have y1 := fx 1
      clear ho hbu hn hln hv HC HI fx HRs HBs CP
      cases o with
      | true =>
        go_wp2_with fail
        go_ret
        refine ⟨HBf.out, _, _, _, _, _, _, HRf.out, ?_⟩
        rw [HLT.out, if_pos (by trivial)]
        obtain ⟨h1, h2, h3, h4⟩ := HE.out
        refine ⟨rfl, ?_, rfl, rfl, h4⟩
        simp only [SetR.bare, RdT.bare, SetR.mk.injEq] at h1 ⊢
        simp [h1]
      | false =>
        go_wp2_with fail
        go_ret
        refine ⟨HBf.out, _, _, _, _, _, _, HRf.out, ?_⟩
        rw [HLT.out, if_neg (by decide)]
        exact ⟨rfl, by decide⟩
    · have f9 : (want == 1) = false := by simpa using e0
      have HLT : Hid (lineT r at_ ((x :: rs).map bl) = .error 10) := hidp (by
        rw [List.map_cons, d1]
        exact lineT_no r at_ _ _ (by rintro ⟨h, _⟩; exact absurd h (by decide)) (by rintro ⟨_, h⟩; have := HW3.out; omega) (by rintro ⟨h, _⟩; exact absurd h (by decide)) (by rintro ⟨h, _⟩; exact absurd h (by decide)))
      clear e0 d1
      go_enter Tryd.func38, Tryd.ntmps38
      go_wp2_with fail
      go_quiet (fail)
      go_wp2_with fail
      go_ret
      exact ⟨HBn.out _, s, want, co, A, c, zs, HRn.out _, by rw [HLT.out]; exact ⟨rfl, by decide⟩⟩
  by_cases d2 : bl x = [104, 111, 109, 101, 115]
  · rw [d2] at q0 q1 q2 q3
    have f0 : (x.toList == [112, 114, 111, 116, 111, 99, 111, 108]) = false := by rw [q0]; decide
    have f1 : (x.toList == [99, 111, 114, 101, 115]) = false := by rw [q1]; decide
    have f2 : (x.toList == [104, 111, 109, 101, 115]) = true := by rw [q2]; decide
    have f3 : (x.toList == [116, 97, 115, 107]) = false := by rw [q3]; decide
    clear q0 q1 q2 q3
    by_cases e0 : want = 2
    · have CP : Hid (∀ n, Calls Tryd.prog 51 #[.slice L1 M (cl - 1)] ((w.drewN n).setCell ⟨g, 4, none⟩ (.int .i64 3)) (SomePost ((w.drewN n).setCell ⟨g, 4, none⟩ (.int .i64 3)) (rs.map bl))) := hidp (fun n => by
        have := some_any L1 (cl - 1) rs ((w.drewN n).setCell ⟨g, 4, none⟩ (.int .i64 3)) (HSt.out [g] _ (((Turned.refl [g] w).drewN n).setCell (.inl (by simp)) _) (by simpa [fp] using HX.out.1)) (by rw [HM.out]; omega) (fun y hy => Nat.le_trans (HZ.out y hy) (by omega))
        rwa [HM.out] at this)
      have HRs : Hid (∀ n, Rdr B ((w.drewN n).setCell ⟨g, 4, none⟩ (.int .i64 3)) g s 3 co A c zs) := hidp (fun n => (HRn.out n).setWant 3)
      have HBs : Hid (∀ n, Below B W ((w.drewN n).setCell ⟨g, 4, none⟩ (.int .i64 3))) := hidp (fun n => put_below (HBn.out n) hBW HR.out.rows.gB.1)
      have f9 : (want == 2) = true := by simpa using e0
      have HE0 := hidp e0
      have HD := hidp d2
      clear e0 d2
      go_enter Tryd.func38, Tryd.ntmps38
      go_wp2_with fail
      go_quiet (fail)
      go_wp2_with fail
      refine (CP.out _).mono ?_
      rintro e u ⟨C, cc, cs, o, rfl, ho, hbu, hn, hln, hv⟩
      have HRu := hidp ((HRs.out _).over hbu)
      have HBu := hidp ((HBs.out _).trans (hbu.mono (Nat.le_trans hBW (HBs.out _).size)))
      have HC := hidp ((HRs.out _).rows.fresh hbu ho)
      have HI := hidp (ho.ok (fun n hm => i64_small (hn n hm)))
      have HLT : Hid (lineT r at_ ((x :: rs).map bl) = if o = true then .ok { r with want := 3, homes := cs } else .error 10) := hidp (by rw [List.map_cons, HD.out]; exact lineT_homes r at_ _ cs o (by have := HW3.out; have := HE0.out; omega) hv)
      have HRf : Hid (Rdr B (u.setCell ⟨g, 2, none⟩ (.slice C cs.length cc)) g { s with ha := C, hc := cc, homes := cs } 3 co A c zs) := hidp (HRu.out.setHomes HI.out HC.out)
      have HBf := hidp (put_below (i := 2) (v := .slice C cs.length cc) HBu.out hBW HR.out.rows.gB.1)
      obtain ⟨x0, x1, x2, x3, x4, x5, x6, fx⟩ := HRu.out.cells
      have y2 := fx 2
      clear ho hbu hn hln hv HC HI fx HRs HBs CP
      cases o with
      | true =>
        go_wp2_with fail
        go_ret
        refine ⟨HBf.out, _, _, _, _, _, _, HRf.out, ?_⟩
        rw [HLT.out, if_pos (by trivial)]
        obtain ⟨h1, h2, h3, h4⟩ := HE.out
        refine ⟨rfl, ?_, rfl, h3, h4⟩
        simp only [SetR.bare, RdT.bare, SetR.mk.injEq] at h1 ⊢
        simp [h1]
      | false =>
        go_wp2_with fail
        go_ret
        refine ⟨HBf.out, _, _, _, _, _, _, HRf.out, ?_⟩
        rw [HLT.out, if_neg (by decide)]
        exact ⟨rfl, by decide⟩
    · have f9 : (want == 2) = false := by simpa using e0
      have HLT : Hid (lineT r at_ ((x :: rs).map bl) = .error 10) := hidp (by
        rw [List.map_cons, d2]
        exact lineT_no r at_ _ _ (by rintro ⟨h, _⟩; exact absurd h (by decide)) (by rintro ⟨h, _⟩; exact absurd h (by decide)) (by rintro ⟨_, h⟩; have := HW3.out; omega) (by rintro ⟨h, _⟩; exact absurd h (by decide)))
      clear e0 d2
      go_enter Tryd.func38, Tryd.ntmps38
      go_wp2_with fail
      go_quiet (fail)
      go_wp2_with fail
      go_ret
      exact ⟨HBn.out _, s, want, co, A, c, zs, HRn.out _, by rw [HLT.out]; exact ⟨rfl, by decide⟩⟩
  by_cases d3 : bl x = [116, 97, 115, 107]
  · rw [d3] at q0 q1 q2 q3
    have f0 : (x.toList == [112, 114, 111, 116, 111, 99, 111, 108]) = false := by rw [q0]; decide
    have f1 : (x.toList == [99, 111, 114, 101, 115]) = false := by rw [q1]; decide
    have f2 : (x.toList == [104, 111, 109, 101, 115]) = false := by rw [q2]; decide
    have f3 : (x.toList == [116, 97, 115, 107]) = true := by rw [q3]; decide
    clear q0 q1 q2 q3
    by_cases e0 : 2 ≤ want
    · obtain ⟨i0, hi0, hy0, hy1, hy2⟩ := info_parts infoN
      have HOW : Hid (lineT r at_ ((x :: rs).map bl) = match taskT (rs.map bl) with | .ok t => .ok { r with want := 3, tasksAt := r.tasksAt ++ [at_], tasks := r.tasks ++ [t] } | .error e => .error e) := hidp (by rw [List.map_cons, d3]; exact lineT_task r at_ _ (by have := HW3.out; omega))
      have N2 : Hid (zs.length + 1 ≤ maxLen) := hidp (by unfold maxLen; omega)
      have T2 : Hid ((zs.length + 1) * 8 ≤ 140737488355328) := hidp (by omega)
      have O2 := hidp (num_one [(at_ : Int)])
      have HRa : Hid (∀ n, Rdr B ((w.drewN n).alloc (.cells #[.int .i64 at_] 3)) g s want co A c zs) := hidp (fun n => (HRn.out n).over ((Below.refl _ _).alloc (Nat.le_refl _) _))
      have HBa : Hid (∀ n, Below B W ((w.drewN n).alloc (.cells #[.int .i64 at_] 3))) := hidp (fun n => (HBn.out n).alloc (Nat.le_trans hBW (HBn.out n).size) _)
      have HS2 : Hid (∀ n, Lies (w.heap.size + 1) ((w.drewN n).alloc (.cells #[.int .i64 at_] 3)) (some ⟨w.heap.size, 0, none⟩) [.int .i64 at_]) := hidp (fun n => new_liesW (w.drewN n) [.int .i64 at_] 3)
      have HZa : Hid (∀ n, B ≤ ((w.drewN n).alloc (.cells #[.int .i64 at_] 3)).heap.size) := hidp (fun n => Nat.le_trans hBW (HBa.out n).size)
      obtain ⟨tt, HTT⟩ : ∃ tt, Hid (taskT (rs.map bl) = tt) := ⟨_, hidp rfl⟩
      have f9 : decide (2 ≤ want) = true := by simpa using e0
      clear d3
      go_enter Tryd.func38, Tryd.ntmps38
      go_wp2_with fail
      go_quiet (fail)
      go_wp2_with (at_builtin; refine wpList_app2 _ rfl (.tmp 100) (.tmp 102) 22 rfl B 3 i0 _ 1 8 Tryd.underlying22 hi0 hy0 hy1 hy2 rfl (by decide) A zs.length c _ rfl (HRa.out _).rows.ats.own _ _ 1 1 [.int .i64 at_] rfl (by simp) rfl (HS2.out _) O2.out N2.out T2.out (HZa.out _) ?_; intro A9 c9 w6 happ; have bk6 := (HRa.out _).bk.turned happ.turned (fun hm => (HR.out.rows.dA g hm).1 rfl); have k4 : w6.cell? ⟨g, 4, none⟩ = some (.int .i64 want) := bk6.cell 4; have k6 : w6.cell? ⟨g, 6, none⟩ = some (.slice A zs.length c) := bk6.cell 6; have y4 := bk6.frozen 4; have y6 := bk6.frozen 6)
      have R7 := (HRa.out _).addAt happ
      have hFA := own_fp HR.out.rows.ats.own
      have hb7 := put_below (i := 6) (v := .slice A9 (zs.length + 1) c9) (put_below (i := 4) (v := .int .i64 3) ((HBa.out _).trans (happ.turned.below (Nat.le_trans hBW (HBa.out _).size) (fun k hk => (hFA k hk).1))) hBW R7.rows.gB.1) hBW R7.rows.gB.1
      have ht7 := ((((((Turned.refl (g :: fp A) w).drewN _).alloc _).trans happ.turned (fun i hi => .inl (List.mem_cons_of_mem _ hi))).setCell (p := ⟨g, 4, none⟩) (.inl (by simp)) (.int .i64 3)).setCell (p := ⟨g, 6, none⟩) (.inl (by simp)) (.slice A9 (zs.length + 1) c9))
      have CT := readTask_any B g s 3 co A9 c9 (zs ++ [(at_ : Int)]) L1 (cl - 1) rs m W _ R7 hBW hb7 ((hb7.cell (p := ⟨0, 0, none⟩) h0B).trans HMx.out) (HSt.out _ _ ht7 (fun k hk hm => by
          have hx := HX.out
          simp only [fp, List.mem_singleton] at hk
          subst hk
          rcases List.mem_cons.1 hm with h | h
          · exact hx.1 h
          · exact hx.2.2 h)) (by rw [HM.out]; omega) (by rw [HM.out]; omega) HZ.out hts (fun k hk => ⟨(HL1.out k hk).1.1, (HL1.out k hk).1.2.1, fun hm => by
          rcases happ.fps k hm with h | h
          · exact (HL1.out k hk).1.2.2 h
          · have := (HL1.out k hk).2; simp at h; omega⟩)
      rw [HM.out] at CT
      clear k4 k6 y4 y6 bk6 R7 hFA hb7 ht7 happ
      refine CT.mono ?_
      rintro e u ⟨hbu, hpost⟩
      have HBU := hidp hbu
      rw [HTT.out] at hpost
      cases tt with
      | error y =>
        obtain ⟨rfl, hr⟩ := hpost
        have HRR := hidp hr
        clear hbu hr CT
        go_wp2_with fail
        go_ret
        refine ⟨HBU.out, _, _, _, _, _, _, HRR.out, ?_⟩
        rw [HOW.out, HTT.out]
        exact ⟨rfl, taskT_err HTT.out⟩
      | ok tk =>
        obtain ⟨rfl, t', ta, tc, ht, hr⟩ := hpost
        have HRR := hidp hr
        have HTK := hidp ht
        clear hbu hr ht CT
        go_wp2_with fail
        go_ret
        refine ⟨HBU.out, _, _, _, _, _, _, HRR.out, ?_⟩
        rw [HOW.out, HTT.out]
        obtain ⟨h1, h2, h3, h4⟩ := HE.out
        refine ⟨rfl, ?_, rfl, h3, by rw [h4, List.map_append]; rfl⟩
        simp only [SetR.bare, RdT.bare, SetR.mk.injEq] at h1 ⊢
        simp [h1, HTK.out]
    · have f9 : decide (2 ≤ want) = false := by simpa using e0
      have HLT : Hid (lineT r at_ ((x :: rs).map bl) = .error 10) := hidp (by
        rw [List.map_cons, d3]
        exact lineT_no r at_ _ _ (by rintro ⟨h, _⟩; exact absurd h (by decide)) (by rintro ⟨h, _⟩; exact absurd h (by decide)) (by rintro ⟨h, _⟩; exact absurd h (by decide)) (by rintro ⟨_, h⟩; have := HW3.out; omega))
      clear e0 d3
      go_enter Tryd.func38, Tryd.ntmps38
      go_wp2_with fail
      go_quiet (fail)
      go_wp2_with fail
      go_ret
      exact ⟨HBn.out _, s, want, co, A, c, zs, HRn.out _, by rw [HLT.out]; exact ⟨rfl, by decide⟩⟩
  have f0 : (x.toList == [112, 114, 111, 116, 111, 99, 111, 108]) = false := by rw [q0]; exact decide_eq_false d0
  have f1 : (x.toList == [99, 111, 114, 101, 115]) = false := by rw [q1]; exact decide_eq_false d1
  have f2 : (x.toList == [104, 111, 109, 101, 115]) = false := by rw [q2]; exact decide_eq_false d2
  have f3 : (x.toList == [116, 97, 115, 107]) = false := by rw [q3]; exact decide_eq_false d3
  have HLT : Hid (lineT r at_ ((x :: rs).map bl) = .error 10) := hidp (by
    rw [List.map_cons]
    exact lineT_no r at_ _ _ (fun h => d0 h.1) (fun h => d1 h.1) (fun h => d2 h.1) (fun h => d3 h.1))
  clear d0 d1 d2 d3 q0 q1 q2 q3
  go_enter Tryd.func38, Tryd.ntmps38
  go_wp2_with fail
  go_quiet (fail)
  go_wp2_with fail
  go_ret
  exact ⟨HBn.out _, s, want, co, A, c, zs, HRn.out _, by rw [HLT.out]; exact ⟨rfl, by decide⟩⟩
end Go.Proofs.YtggidlmehimcjaaDoor
