/- job.Job: what a job on the heap is; at, Part, Kind, Left, Res, Release, Over. -/
import Derived.Test.YtbnncaljekifdaaTape
import Derived.Test.YtbnncaljekifdaaOwnP
import Derived.Test.YtbnncaljekifdaaReg
namespace Go.Proofs.Ytbnncaljekifdaa
open Go.ChangeShapes Go.WideShapes Go.ChangeAt Go.RowKit
set_option linter.unusedVariables false
set_option linter.unusedSimpArgs false

/-- a job in block b: its parts, when it was released, at which part, how much is left, its tape's block -/
structure JB (w : World) (b : Nat) (ps : List PartM) (rel : Int) (pt : Nat) (lf : Int) (A : Option Addr) (c tb : Nat) : Prop where
  blk : Bk w b 68 #[.int .i64 rel, .int .i64 pt, .int .i64 lf, .slice A ps.length c, .pointer (some ⟨tb, 0, none⟩)]
  parts : PartsAt w A ps
  ne : b ∉ fp A
  low : ∀ k ∈ fp A, k < w.heap.size
  len : ps.length ≤ 1000
  at_ : pt ≤ ps.length
  wf : ∀ p ∈ ps, p.wf
/-- three cells written one by one -/
def put3 (w : World) (g : Nat) (v0 v1 v2 : Value) : World := ((w.setCell ⟨g, 0, none⟩ v0).setCell ⟨g, 1, none⟩ v1).setCell ⟨g, 2, none⟩ v2
theorem put3_bk {w : World} {g : Nat} {t : TypeId} {c0 c1 c2 v0 v1 v2 : Value} (h : Bk w g t #[c0, c1, c2]) : Bk (put3 w g v0 v1 v2) g t #[v0, v1, v2] := by
  have := ((h.put 0 v0).put 1 v1).put 2 v2
  unfold put3
  simpa using this
theorem put3_turned (w : World) (g : Nat) (v0 v1 v2 : Value) : Turned [g] w (put3 w g v0 v1 v2) :=
  (((Turned.refl [g] w).setCell (.inl (by simp)) _).setCell (.inl (by simp)) _).setCell (.inl (by simp)) _
theorem Z3 {w : World} {g : Nat} {t : TypeId} {c0 c1 c2 : Value} (h : Bk w g t #[c0, c1, c2]) : w.cell? ⟨g, 0, none⟩ = some c0 ∧ w.cell? ⟨g, 1, none⟩ = some c1 ∧ w.cell? ⟨g, 2, none⟩ = some c2 := ⟨h.cell 0, h.cell 1, h.cell 2⟩
theorem ZF3 {w : World} {g : Nat} {t : TypeId} {cs : Array Value} (h : Bk w g t cs) : w.frozen? ⟨g, 0, none⟩ = false ∧ w.frozen? ⟨g, 1, none⟩ = false ∧ w.frozen? ⟨g, 2, none⟩ = false := ⟨h.frozen 0, h.frozen 1, h.frozen 2⟩
theorem PartsAt.turned' {F : List Nat} {w w' : World} {a : Option Addr} {ps : List PartM} (h : PartsAt w a ps) (ht : Turned F w w') (hF : ∀ k ∈ fp a, k ∉ F) : PartsAt w' a ps := by
  rcases h with h | ⟨b, off, rfl, hc⟩
  · exact .inl h
  · refine .inr ⟨b, off, rfl, fun i hi => ?_⟩
    obtain ⟨c0, c1, c2⟩ := hc i hi
    exact ⟨ht.cell c0 (hF b (by simp [fp])), ht.cell c1 (hF b (by simp [fp])), ht.cell c2 (hF b (by simp [fp]))⟩
section
variable {w w' : World} {b pt c tb : Nat} {ps : List PartM} {rel lf : Int} {A : Option Addr} {F : List Nat}
theorem JB.turned (h : JB w b ps rel pt lf A c tb) (ht : Turned F w w') (hb : b ∉ F) (hA : ∀ k ∈ fp A, k ∉ F) : JB w' b ps rel pt lf A c tb :=
  ⟨h.blk.turned ht hb, h.parts.turned' ht hA, h.ne, fun k hk => Nat.lt_of_lt_of_le (h.low k hk) ht.size, h.len, h.at_, h.wf⟩
theorem JB.over (h : JB w b ps rel pt lf A c tb) (hb : Below w.heap.size w w') : JB w' b ps rel pt lf A c tb := h.turned (Turned.of_below hb []) (by simp) (by simp)
theorem JB.set (h : JB w b ps rel pt lf A c tb) (k : Nat) (u : Value) : Turned [b] w (w.setCell ⟨b, k, none⟩ u) := (Turned.refl _ _).setCell (.inl (by simp)) _
theorem JB.put (h : JB w b ps rel pt lf A c tb) (i : Nat) (u : Value) {cs : Array Value} (e : (#[.int .i64 rel, .int .i64 pt, .int .i64 lf, .slice A ps.length c, .pointer (some ⟨tb, 0, none⟩)] : Array Value).setIfInBounds i u = cs) : Bk (w.setCell ⟨b, i, none⟩ u) b 68 cs := by
  have := h.blk.put i u
  rw [e] at this; exact this
theorem JB.left (h : JB w b ps rel pt lf A c tb) (l : Int) : JB (w.setCell ⟨b, 2, none⟩ (.int .i64 l)) b ps rel pt l A c tb :=
  ⟨h.put 2 _ rfl, h.parts.turned' (h.set 2 _) (fun i hi hm => by simp at hm; subst hm; exact h.ne hi), h.ne, fun k hk => by simpa [World.setCell] using h.low k hk, h.len, h.at_, h.wf⟩
theorem JB.part (h : JB w b ps rel pt lf A c tb) (n : Nat) (hn : n ≤ ps.length) : JB (w.setCell ⟨b, 1, none⟩ (.int .i64 n)) b ps rel n lf A c tb :=
  ⟨h.put 1 _ rfl, h.parts.turned' (h.set 1 _) (fun i hi hm => by simp at hm; subst hm; exact h.ne hi), h.ne, fun k hk => by simpa [World.setCell] using h.low k hk, h.len, hn, h.wf⟩
theorem JB.cs (h : JB w b ps rel pt lf A c tb) : w.cell? ⟨b, 0, none⟩ = some (.int .i64 rel) ∧ w.cell? ⟨b, 1, none⟩ = some (.int .i64 pt) ∧ w.cell? ⟨b, 2, none⟩ = some (.int .i64 lf) ∧ w.cell? ⟨b, 3, none⟩ = some (.slice A ps.length c) ∧ w.cell? ⟨b, 4, none⟩ = some (.pointer (some ⟨tb, 0, none⟩)) :=
  ⟨(h.blk.cell 0).trans rfl, (h.blk.cell 1).trans rfl, (h.blk.cell 2).trans rfl, (h.blk.cell 3).trans rfl, (h.blk.cell 4).trans rfl⟩

/-- the part that it is at (none: noughts) -/
def partV (ps : List PartM) (pt : Nat) : PartM := if pt < ps.length then ps.getD pt default else ⟨0, 0, 0⟩
def AtPost (w : World) (p : PartM) (e : Ending) (w' : World) : Prop := e = .returned (.agg #[.int .i64 p.kind, .int .i64 p.len, .int .i64 p.res]) ∧ Below w.heap.size w w'
set_option maxHeartbeats 2000000 in
theorem at_any (h : JB w b ps rel pt lf A c tb) : Calls Try.prog 44 #[.pointer (some ⟨b, 0, none⟩)] w (AtPost w (partV ps pt)) := by
  obtain ⟨p0, HP⟩ : ∃ p, Hid (partV ps pt = p) := ⟨_, rfl⟩
  rw [HP.out]
  have hbw := h.blk.lt
  have hn := h.at_
  have hl := h.len
  have B1 := (Bk.new w 49 #[.int .i64 0, .int .i64 0, .int .i64 0]).alloc (.cells #[.int .i64 0, .int .i64 0, .int .i64 0] 49)
  have B2 := Bk.new (w.alloc (.cells #[.int .i64 0, .int .i64 0, .int .i64 0] 49)) 49 #[.int .i64 0, .int .i64 0, .int .i64 0]
  rw [show (w.alloc (.cells #[.int .i64 0, .int .i64 0, .int .i64 0] 49)).heap.size = w.heap.size + 1 by simp] at B2
  have hb : Below w.heap.size w ((w.alloc (.cells #[.int .i64 0, .int .i64 0, .int .i64 0] 49)).alloc (.cells #[.int .i64 0, .int .i64 0, .int .i64 0] 49)) := ((Below.refl _ _).alloc (Nat.le_refl _) _).alloc (by simp) _
  have hz : w.heap.size + 2 ≤ ((w.alloc (.cells #[.int .i64 0, .int .i64 0, .int .i64 0] 49)).alloc (.cells #[.int .i64 0, .int .i64 0, .int .i64 0] 49)).heap.size := by simp
  have J := hidp (h.over hb)
  obtain ⟨j0, j1, j2, j3, j4⟩ := J.out.cs
  clear j0 j1 j2 j4
  obtain ⟨n, HN⟩ : ∃ n, Hid (ps.length = n) := ⟨_, rfl⟩
  rw [HN.out] at hn hl j3
  have J0 := hidp h
  clear h
  go_enter Try.func44, Try.ntmps44
  go_wp2
  go_step3
  go_wp2
  go_step3
  go_wp2
  go_loopg [11] n (fun g i wr => ∃ k : Nat, k + g = n ∧ k ≤ pt ∧ i = .int .i64 k ∧ Bk wr w.heap.size 49 #[.int .i64 0, .int .i64 0, .int .i64 0] ∧ Bk wr (w.heap.size + 1) 49 #[.int .i64 0, .int .i64 0, .int .i64 0] ∧ Below w.heap.size w wr ∧ w.heap.size + 2 ≤ wr.heap.size)
  case atStart => exact ⟨0, by omega, by omega, rfl, B1, B2, hb, hz⟩
  case round =>
    clear B1 B2 hb hz j3
    obtain ⟨k, hk, hkp, rfl, B1, B2, hb, hz⟩ := hrel
    by_cases hlt : k < n
    · obtain ⟨g, off, rfl, hc⟩ := J0.out.parts.resolve_left (by intro e; have := HN.out; rw [e] at this; simp at this; omega)
      obtain ⟨p, HX⟩ : ∃ p, Hid (ps.getD k default = p) := ⟨_, rfl⟩
      obtain ⟨c0, c1, c2⟩ := (HX.out ▸ hc k (by rw [HN.out]; exact hlt)).keep (Keeps.of_below hb)
      obtain ⟨q0, q1, q2, q3, q4⟩ := ((J0.out.over hb).over (Below.alloc (Below.refl _ _) (Nat.le_refl _) (.cells #[.int .i64 p.kind, .int .i64 p.len, .int .i64 p.res] 49))).cs
      clear q0 q2 q3 q4 hc
      have E1 := B1.alloc (.cells #[.int .i64 p.kind, .int .i64 p.len, .int .i64 p.res] 49)
      have E2 := B2.alloc (.cells #[.int .i64 p.kind, .int .i64 p.len, .int .i64 p.res] 49)
      have hb2 := hb.alloc hb.size (.cells #[.int .i64 p.kind, .int .i64 p.len, .int .i64 p.res] 49)
      by_cases he : k = pt
      · subst he
        have Hp : Hid (p0 = p) := hidp (by rw [← HP.out, ← HX.out]; unfold partV; rw [if_pos (by rw [HN.out]; exact hlt)])
        obtain ⟨kd, ln, rs⟩ := p
        obtain ⟨f0, f1, f2⟩ := ZF3 E2
        obtain ⟨e0, e1, e2⟩ := Z3 E2
        have P2 := put3_bk E2 (v0 := .int .i64 kd) (v1 := .int .i64 ln) (v2 := .int .i64 rs)
        have T2 := put3_turned (wr.alloc (.cells #[.int .i64 kd, .int .i64 ln, .int .i64 rs] 49)) (w.heap.size + 1) (.int .i64 kd) (.int .i64 ln) (.int .i64 rs)
        have P1 := E1.turned T2 (by simp)
        obtain ⟨g0, g1, g2⟩ := Z3 P2
        obtain ⟨h0, h1, h2⟩ := ZF3 P1
        obtain ⟨i0, i1, i2⟩ := Z3 P1
        have PB := put3_bk P1 (v0 := .int .i64 kd) (v1 := .int .i64 ln) (v2 := .int .i64 rs)
        have T1 := put3_turned (put3 (wr.alloc (.cells #[.int .i64 kd, .int .i64 ln, .int .i64 rs] 49)) (w.heap.size + 1) (.int .i64 kd) (.int .i64 ln) (.int .i64 rs)) w.heap.size (.int .i64 kd) (.int .i64 ln) (.int .i64 rs)
        have hbe := (hb2.trans (T2.below hb2.size (by simp))).trans (T1.below (Nat.le_trans hb2.size T2.size) (by simp))
        obtain ⟨r0, r1, r2⟩ := Z3 PB
        clear PB P1 P2 T1 T2
        unfold put3 at *
        rw [Hp.out]
        go_wp2
        try rw [Exit.noGoto_ret]
        refine bodyPost_ret (v := .agg #[.int .i64 kd, .int .i64 ln, .int .i64 rs]) (by simp [results, Try.results44, go_sem, r0, r1, r2]) rfl ⟨by rw [Hp.out], hbe⟩
      · have hne : ((k : Int) == (pt : Int)) = false := by rw [beq_eq_false_iff_ne]; omega
        go_wp2
        go_roundg (gk - 1)
        case measure => omega
        case rel => exact ⟨k + 1, by omega, by omega, by go_num, E1, E2, hb2, by simp; omega⟩
    · obtain rfl : k = n := by omega
      obtain rfl : pt = k := by omega
      have Hp : Hid (p0 = ⟨0, 0, 0⟩) := hidp (by rw [← HP.out]; unfold partV; rw [if_neg (by rw [HN.out]; omega)])
      obtain ⟨g0, g1, g2⟩ := Z3 B2
      obtain ⟨h0, h1, h2⟩ := ZF3 B1
      obtain ⟨i0, i1, i2⟩ := Z3 B1
      have PB := put3_bk B1 (v0 := .int .i64 0) (v1 := .int .i64 0) (v2 := .int .i64 0)
      have T1 := put3_turned wr w.heap.size (.int .i64 0) (.int .i64 0) (.int .i64 0)
      have hbe := hb.trans (T1.below hb.size (by simp))
      obtain ⟨r0, r1, r2⟩ := Z3 PB
      clear PB T1
      unfold put3 at *
      rw [Hp.out]
      go_wp2
      try rw [Exit.noGoto_ret]
      refine bodyPost_ret (v := .agg #[.int .i64 0, .int .i64 0, .int .i64 0]) (by simp [results, Try.results44, go_sem, r0, r1, r2]) rfl ⟨by rw [Hp.out], hbe⟩
theorem release_any (h : JB w b ps rel pt lf A c tb) : Calls Try.prog 22 #[.pointer (some ⟨b, 0, none⟩)] w fun e w' => e = .returned (.int .i64 rel) ∧ w = w' := by
  obtain ⟨c0, -, -, -, -⟩ := h.cs
  clear h
  go_enter Try.func22, Try.ntmps22
  go_wp2
  go_ret
  exact ⟨rfl, rfl⟩
theorem part_any (h : JB w b ps rel pt lf A c tb) : Calls Try.prog 23 #[.pointer (some ⟨b, 0, none⟩)] w fun e w' => e = .returned (.int .i64 pt) ∧ w = w' := by
  obtain ⟨-, c1, -, -, -⟩ := h.cs
  clear h
  go_enter Try.func23, Try.ntmps23
  go_wp2
  go_ret
  exact ⟨rfl, rfl⟩
theorem left_any (h : JB w b ps rel pt lf A c tb) : Calls Try.prog 26 #[.pointer (some ⟨b, 0, none⟩)] w fun e w' => e = .returned (.int .i64 lf) ∧ w = w' := by
  obtain ⟨-, -, c2, -, -⟩ := h.cs
  clear h
  go_enter Try.func26, Try.ntmps26
  go_wp2
  go_ret
  exact ⟨rfl, rfl⟩
theorem kind_any (h : JB w b ps rel pt lf A c tb) : Calls Try.prog 24 #[.pointer (some ⟨b, 0, none⟩)] w fun e w' => e = .returned (.int .i64 (partV ps pt).kind) ∧ Below w.heap.size w w' := by
  have ha := at_any h
  obtain ⟨p, HP⟩ : ∃ p, Hid (partV ps pt = p) := ⟨_, rfl⟩
  rw [HP.out] at ha ⊢
  obtain ⟨kd, ln, rs⟩ := p
  dsimp only at ha ⊢
  have hfd : ∀ w : World, (Instr.field 49 (.agg #[.int .i64 kd, .int .i64 ln, .int .i64 rs]) 0).run Try.prog w = .ok (.int .i64 kd) w := fun _ => by kernel_rfl
  go_enter Try.func24, Try.ntmps24
  go_wp2_with fail
  refine ha.mono ?_
  rintro e w1 ⟨rfl, hb⟩
  go_wp2_with fail
  go_ret
  exact ⟨rfl, hb⟩
theorem res_any (h : JB w b ps rel pt lf A c tb) : Calls Try.prog 27 #[.pointer (some ⟨b, 0, none⟩)] w fun e w' => e = .returned (.int .i64 (partV ps pt).res) ∧ Below w.heap.size w w' := by
  have ha := at_any h
  obtain ⟨p, HP⟩ : ∃ p, Hid (partV ps pt = p) := ⟨_, rfl⟩
  rw [HP.out] at ha ⊢
  obtain ⟨kd, ln, rs⟩ := p
  dsimp only at ha ⊢
  have hfd : ∀ w : World, (Instr.field 49 (.agg #[.int .i64 kd, .int .i64 ln, .int .i64 rs]) 2).run Try.prog w = .ok (.int .i64 rs) w := fun _ => by kernel_rfl
  go_enter Try.func27, Try.ntmps27
  go_wp2_with fail
  refine ha.mono ?_
  rintro e w1 ⟨rfl, hb⟩
  go_wp2_with fail
  go_ret
  exact ⟨rfl, hb⟩
def overB (ps : List PartM) (pt : Nat) : Bool := decide (pt = ps.length)
theorem over_any (h : JB w b ps rel pt lf A c tb) : Calls Try.prog 29 #[.pointer (some ⟨b, 0, none⟩)] w fun e w' => e = .returned (.bool (overB ps pt)) ∧ Qt w w' := by
  obtain ⟨-, c1, -, c3, -⟩ := h.cs
  obtain ⟨n, HN⟩ : ∃ n, Hid (ps.length = n) := ⟨_, rfl⟩
  obtain ⟨v, HV⟩ : ∃ v, Hid (overB ps pt = v) := ⟨_, rfl⟩
  rw [HN.out] at c3
  rw [HV.out]
  clear h
  by_cases e : pt = n
  · subst e
    have H : Hid (v = true) := hidp (by rw [← HV.out]; unfold overB; simpa using HN.out.symm)
    go_enter Try.func29, Try.ntmps29
    go_wp2
    go_quiet (fail)
    go_wp2
    go_ret
    exact ⟨ret_bool H.out.symm, _, rfl⟩
  · have H : Hid (v = false) := hidp (by rw [← HV.out]; unfold overB; rw [HN.out]; simpa using e)
    have hne : ((pt : Int) == (n : Int)) = false := by rw [beq_eq_false_iff_ne]; omega
    go_enter Try.func29, Try.ntmps29
    go_wp2
    go_quiet (fail)
    go_wp2
    go_ret
    exact ⟨ret_bool H.out.symm, _, rfl⟩
theorem Qt.over {w w' : World} (h : Qt w w') : Below w.heap.size w w' := h.b

/-- what is left at the beginning of a part; how many bytes were used then -/
def beginL (bs : List Int) (us : Nat) (ps : List PartM) (pt : Nat) : Int := if pt < ps.length then pickV bs us 1 (ps.getD pt default).len else 0
def beginU (us : Nat) (ps : List PartM) (pt : Nat) : Nat := if pt < ps.length then usedV us 1 (ps.getD pt default).len else us
theorem beginU_le (us : Nat) (ps : List PartM) (pt : Nat) : beginU us ps pt ≤ us + 1 := by unfold beginU usedV; split <;> (try split) <;> omega
/-- the job and its tape -/
structure JT (w : World) (b : Nat) (ps : List PartM) (rel : Int) (pt : Nat) (lf : Int) (A : Option Addr) (c tb : Nat) (bs : List Int) (us : Nat) (F : List Nat) : Prop where
  job : JB w b ps rel pt lf A c tb
  tape : Tp w tb bs us F
  ap : Ap (b :: fp A) F
section
variable {bs : List Int} {us : Nat} {G : List Nat}
theorem JT.turned (h : JT w b ps rel pt lf A c tb bs us F) (ht : Turned G w w') (hb : b ∉ G) (hA : ∀ k ∈ fp A, k ∉ G) (hF : ∀ k ∈ F, k ∉ G) : JT w' b ps rel pt lf A c tb bs us F := ⟨h.job.turned ht hb hA, h.tape.turned ht hF, h.ap⟩
theorem JT.over (h : JT w b ps rel pt lf A c tb bs us F) (hb : Below w.heap.size w w') : JT w' b ps rel pt lf A c tb bs us F := h.turned (Turned.of_below hb []) (by simp) (by simp) (by simp)
def JTPost (w : World) (b : Nat) (ps : List PartM) (rel : Int) (pt : Nat) (lf : Int) (A : Option Addr) (c tb : Nat) (bs : List Int) (us : Nat) (F : List Nat) (v : Value) (e : Ending) (w' : World) : Prop := e = .returned v ∧ JT w' b ps rel pt lf A c tb bs us F ∧ Turned [b, tb] w w'
set_option maxHeartbeats 1000000 in
theorem begin_any (h : JT w b ps rel pt lf A c tb bs us F) (hu : us < 1000000000000) : Calls Try.prog 42 #[.pointer (some ⟨b, 0, none⟩)] w (JTPost w b ps rel pt (beginL bs us ps pt) A c tb bs (beginU us ps pt) F (.tuple #[])) := by
  obtain ⟨l, HL⟩ : ∃ l, Hid (beginL bs us ps pt = l) := ⟨_, rfl⟩
  obtain ⟨u2, HU⟩ : ∃ l, Hid (beginU us ps pt = l) := ⟨_, rfl⟩
  rw [HL.out, HU.out]
  have hbt : b ≠ tb := fun e => h.ap b (by simp) (e ▸ h.tape.head)
  have htA : ∀ k ∈ fp A, k ≠ tb := fun k hk e => h.ap k (by simp [hk]) (e ▸ h.tape.head)
  have hbF : ∀ k ∈ F, k ≠ b := fun k hk e => h.ap b (by simp) (e ▸ hk)
  have T0 := h.job.set 2 (.int .i64 0)
  have J0 := h.job.left 0
  have P0 := h.tape.turned T0 (by simpa using hbF)
  obtain ⟨-, -, c2, -, -⟩ := h.job.cs
  have f2 := h.job.blk.frozen 2
  have hap := hidp h.ap
  have Hlt : Hid (∀ k ∈ fp A, k ∉ [tb]) := hidp (by simpa using htA)
  have HbF := hidp hbF
  have T0' : Turned [b, tb] w (w.setCell ⟨b, 2, none⟩ (.int .i64 0)) := T0.mono (by simp)
  clear h T0 htA hbF
  by_cases ho : overB ps pt = true
  · have HL0 : Hid (l = 0) := hidp (by rw [← HL.out]; unfold beginL; rw [if_neg (by unfold overB at ho; simp at ho; omega)])
    have HU0 : Hid (u2 = us) := hidp (by rw [← HU.out]; unfold beginU; rw [if_neg (by unfold overB at ho; simp at ho; omega)])
    rw [HL0.out, HU0.out]
    have O := over_any J0
    rw [ho] at O
    clear ho
    go_enter Try.func42, Try.ntmps42
    go_wp2_with fail
    refine O.mono ?_
    rintro e w2 ⟨rfl, hq⟩
    have J1 := J0.over hq.b
    have P1 := P0.over hq.b
    have T1 := T0'.trans (Turned.of_below hq.b [b, tb]) (fun k hk => .inl hk)
    clear O J0 P0 T0'
    go_wp2_with fail
    refine bodyPost_ret (v := .tuple #[]) (by simp [results, Try.results42, go_sem]) rfl ⟨rfl, ⟨J1, P1, hap.out⟩, T1⟩
  · have ho' : overB ps pt = false := by simpa using ho
    have hlt : pt < ps.length := by have := J0.at_; unfold overB at ho'; simp at ho'; omega
    obtain ⟨p, HP⟩ : ∃ p, Hid (ps.getD pt default = p) := ⟨_, rfl⟩
    have Hp : Hid (partV ps pt = p) := hidp (by unfold partV; rw [if_pos hlt, HP.out])
    have Ip : Hid (I64 p.len) := hidp ((J0.wf p (by rw [← HP.out]; simp only [List.getD, List.getElem?_eq_getElem hlt, Option.getD_some]; exact List.getElem_mem hlt)).2.1)
    have HL0 : Hid (pickV bs us 1 p.len = l) := hidp (by rw [← HL.out]; unfold beginL; rw [if_pos hlt, HP.out])
    have HU0 : Hid (usedV us 1 p.len = u2) := hidp (by rw [← HU.out]; unfold beginU; rw [if_pos hlt, HP.out])
    have O := over_any J0
    rw [ho'] at O
    clear ho ho' hlt
    go_enter Try.func42, Try.ntmps42
    go_wp2_with fail
    refine O.mono ?_
    rintro e w2 ⟨rfl, hq⟩
    have J1 : JB w2.drew b ps rel pt 0 A c tb := (J0.over hq.b).turned ((Turned.refl [] w2).drew) (by simp) (by simp)
    have P1 : Tp w2.drew tb bs us F := (P0.over hq.b).turned ((Turned.refl [] w2).drew) (by simp)
    have T1 : Turned [b, tb] w w2.drew := (T0'.trans (Turned.of_below hq.b [b, tb]) (fun k hk => .inl hk)).drew
    clear O J0 P0 T0' hq
    have hs : w2.drew.cell? ⟨b, 4, none⟩ = some (.pointer (some ⟨tb, 0, none⟩)) := J1.cs.2.2.2.2
    go_wp2_with fail
    refine wp_region_held_drew (S := fun w' => w'.cell? ⟨b, 4, none⟩ = some (.pointer (some ⟨tb, 0, none⟩))) (by kernel_rfl) ?_ (fun hHeld => ?_)
    · exact hs
    refine wpAnyH_take (i := 0) (v := ?_) rfl (by kernel_rfl) (by kernel_rfl) (by kernel_rfl) (fun _ _ _ h => h) (Or.inl ⟨by rfl, ?_⟩) (by assumption) ?_
    rotate_left 1
    · ((intro w hSw; (try dsimp only at hSw); go_simp); (try with_reducible rfl))
    simp only [Act.put, List.setIfInBounds_toArray, List.set_cons_zero, List.set_cons_succ]
    refine wpAnyH_take (i := 1) (v := ?_) rfl (by kernel_rfl) (by kernel_rfl) (by kernel_rfl) (fun _ _ _ h => h) (Or.inl ⟨by rfl, ?_⟩) (by assumption) ?_
    rotate_left 1
    · ((intro w hSw; (try dsimp only at hSw); go_simp); (try with_reducible rfl))
    simp only [Act.put, List.setIfInBounds_toArray, List.set_cons_zero, List.set_cons_succ]
    refine wpAnyH_take (i := 2) (v := ?_) rfl (by kernel_rfl) (by kernel_rfl) (by kernel_rfl) (fun _ _ _ h => h) (Or.inl ⟨by rfl, ?_⟩) (by assumption) ?_
    rotate_left 1
    · ((intro w hSw; (try dsimp only at hSw); go_simp); (try with_reducible rfl))
    simp only [Act.put, List.setIfInBounds_toArray, List.set_cons_zero, List.set_cons_succ]
    refine wpAnyH_take (i := 3) (v := ?_) rfl (by kernel_rfl) (by kernel_rfl) (by kernel_rfl) (fun _ _ _ h => h) (Or.inl ⟨by rfl, ?_⟩) (by assumption) ?_
    rotate_left 1
    · ((intro w hSw; (try dsimp only at hSw); go_simp); (try with_reducible rfl))
    simp only [Act.put, List.setIfInBounds_toArray, List.set_cons_zero, List.set_cons_succ]
    refine wpAnyH_take (i := 4) (v := ?_) rfl (by kernel_rfl) (by kernel_rfl) (by kernel_rfl) (fun _ _ _ h => h) (Or.inl ⟨by rfl, ?_⟩) (by assumption) ?_
    rotate_left 1
    · ((intro w hSw; (try dsimp only at hSw); go_simp); (try with_reducible rfl))
    simp only [Act.put, List.setIfInBounds_toArray, List.set_cons_zero, List.set_cons_succ]
    refine wpAnyH_take (i := 5) (v := ?_) rfl (by kernel_rfl) (by kernel_rfl) (by kernel_rfl) (fun _ _ _ h => h) (Or.inl ⟨by rfl, ?_⟩) (by assumption) ?_
    rotate_left 1
    · ((intro w hSw; (try dsimp only at hSw); go_simp); (try with_reducible rfl))
    simp only [Act.put, List.setIfInBounds_toArray, List.set_cons_zero, List.set_cons_succ]
    refine wpAnyH_ready (rs := [6]) (by kernel_rfl) (by simp) ?_
    refine AllReadyH.cons rfl (fun K hK => ?_) AllReadyH.nil
    go_simp
    refine (at_any J1).mono ?_
    rintro e w3 ⟨rfl, hb3⟩
    rw [Hp.out]
    have hfd : ∀ w : World, (Instr.field 49 (.agg #[.int .i64 p.kind, .int .i64 p.len, .int .i64 p.res]) 1).run Try.prog w = .ok (.int .i64 p.len) w := fun _ => by kernel_rfl
    replace J1 := J1.over hb3
    replace P1 := P1.over hb3
    replace T1 := T1.trans (Turned.of_below hb3 [b, tb]) (fun k hk => .inl hk)
    replace hs := J1.cs.2.2.2.2
    clear hHeld hb3
    go_wp2_with fail
    refine hK.out _ _ ?_ (fun hHeld => ?_)
    · exact hs
    clear hK K
    try simp only [Act.put, List.setIfInBounds_toArray, List.set_cons_zero, List.set_cons_succ]
    refine wpAnyH_take (i := 7) (v := ?_) rfl (by kernel_rfl) (by kernel_rfl) (by kernel_rfl) (fun _ _ _ h => h) (Or.inl ⟨by rfl, ?_⟩) (by assumption) ?_
    rotate_left 1
    · ((intro w hSw; (try dsimp only at hSw); go_simp); (try with_reducible rfl))
    simp only [Act.put, List.setIfInBounds_toArray, List.set_cons_zero, List.set_cons_succ]
    refine wpAnyH_ready (rs := [8]) (by kernel_rfl) (by simp) ?_
    refine AllReadyH.cons rfl (fun K hK => ?_) AllReadyH.nil
    go_simp
    refine (tpick_any P1 (by decide) Ip.out hu).mono ?_
    rintro e w4 ⟨rfl, P2, t4⟩
    rw [HL0.out]
    rw [HU0.out] at P2
    replace J1 := J1.turned t4 (by simpa using hbt) Hlt.out
    replace T1 := T1.trans t4 (fun k hk => by simp at hk; subst hk; left; simp)
    replace hs := J1.cs.2.2.2.2
    clear hHeld P1 t4
    go_wp2_with fail
    refine hK.out _ _ ?_ (fun hHeld => ?_)
    · exact hs
    clear hK K
    try simp only [Act.put, List.setIfInBounds_toArray, List.set_cons_zero, List.set_cons_succ]
    obtain ⟨-, -, d2, -, -⟩ := J1.cs
    have g2 := J1.blk.frozen 2
    have J2 := J1.left l
    replace T1 := T1.setCell (p := ⟨b, 2, none⟩) (.inl (by simp)) (.int .i64 l)
    replace P2 := P2.turned (J1.set 2 (.int .i64 l)) (by simpa using HbF.out)
    replace hs := J2.cs.2.2.2.2
    refine wpAnyH_take (i := 9) (v := ?_) rfl (by kernel_rfl) (by kernel_rfl) (by kernel_rfl) (fun _ _ _ h => h) (Or.inl ⟨by rfl, ?_⟩) (by assumption) ?_
    rotate_left 1
    · ((intro w hSw; (try dsimp only at hSw); go_simp); (try with_reducible rfl))
    simp only [Act.put, List.setIfInBounds_toArray, List.set_cons_zero, List.set_cons_succ]
    refine wpAnyH_take (i := 10) (v := ?_) rfl (by kernel_rfl) (by kernel_rfl) (by kernel_rfl) (fun _ _ _ h => h) (Or.inl ⟨by rfl, ?_⟩) (by assumption) ?_
    rotate_left 1
    · ((intro w hSw; (try dsimp only at hSw); go_simp); (try with_reducible rfl))
    simp only [Act.put, List.setIfInBounds_toArray, List.set_cons_zero, List.set_cons_succ]
    refine wpAnyH_ready (rs := [11]) (by kernel_rfl) (by simp) ?_
    refine AllReadyH.cons rfl (fun K hK => ?_) AllReadyH.nil
    go_simp
    refine hK.out _ _ ?_ (fun hHeld => ?_)
    · exact hs
    clear hK K
    try simp only [Act.put, List.setIfInBounds_toArray, List.set_cons_zero, List.set_cons_succ]
    refine wpAnyH_done (by kernel_rfl) ?_ _
    go_wp2_with fail
    refine bodyPost_ret (v := .tuple #[]) (by simp [results, Try.results42, go_sem]) rfl ⟨rfl, ⟨J2, P2, hap.out⟩, T1⟩
end
end
end Go.Proofs.Ytbnncaljekifdaa
