/- swingbridgeref25: Inverted. -/
import Derived.Test.YtmchjmgifipfoaaRef25L
import Derived.Test.YtmchjmgifipfoaaInvNums
import Derived.BigQuiet
namespace Go.Proofs.Ytmchjmgifipfoaa
open Go.ChangeShapes Go.WideShapes Go.ChangeAt Go.RowKit
set_option linter.unusedVariables false
set_option linter.unusedSimpArgs false

/-- who ran, who was below, of the first k slots, in tick z -/
def ranK (xs : List SlotM) (d : DoneM) (z : Int) : Bool := xs.any fun x => decide (x.time = z) && (x.task == d.task)
def lowK (s : SetR) (xs : List SlotM) (d : DoneM) (z : Int) : Bool := xs.any fun x => decide (x.time = z) && lowB s x d.task.toNat
theorem any_snoc {α : Type} [Inhabited α] {f : α → Bool} {xs : List α} {k : Nat} (hk : k < xs.length) : (xs.take (k + 1)).any f = ((xs.take k).any f || f (xs.getD k default)) := by
  rw [take_snocD xs k hk, List.any_append]; simp
theorem ranK_snoc {xs : List SlotM} {d : DoneM} {z : Int} {k : Nat} (hk : k < xs.length) : ranK (xs.take (k + 1)) d z = (ranK (xs.take k) d z || (decide ((xs.getD k default).time = z) && ((xs.getD k default).task == d.task))) := any_snoc hk
theorem lowK_snoc {s : SetR} {xs : List SlotM} {d : DoneM} {z : Int} {k : Nat} (hk : k < xs.length) : lowK s (xs.take (k + 1)) d z = (lowK s (xs.take k) d z || (decide ((xs.getD k default).time = z) && lowB s (xs.getD k default) d.task.toNat)) := any_snoc hk
def rinvV (s : SetR) (t : TraceR) (d : DoneM) : Int := if there25 s d.task = true then (if fromD d < toD d then (invN s t d (fromD d) (toD d - fromD d).toNat : Int) else 0) else 0
theorem inv_same2 {s : SetR} {t : TraceR} {d : DoneM} : invV s t d = rinvV s t d := by
  unfold invV rinvV there25
  by_cases h : okS s = true ∧ 0 ≤ d.task ∧ d.task < s.tasks.length
  · rw [if_pos h, if_pos (by simp [h.1, h.2.1, h.2.2])]
    by_cases g : fromD d < toD d
    · rw [if_pos g, inv_same g]
    · rw [if_neg g]
      have : momL s t d = [] := by unfold momL; rw [if_pos (by omega)]
      rw [this]; rfl
  · rw [if_neg h, if_neg]
    intro g
    simp only [Bool.and_eq_true, decide_eq_true_iff] at g
    exact h ⟨g.1, g.2.1, g.2.2⟩
theorem invN_le (s : SetR) (t : TraceR) (d : DoneM) (F : Int) (n : Nat) : invN s t d F n ≤ n := by
  induction n with
  | zero => exact Nat.le_refl _
  | succ n ih => simp only [invN]; split <;> omega
/-- the boxes that the loops look into -/
structure IvR (w wr : World) (s : SetR) (t : TraceR) (d : DoneM) (r : TaskR) (M : Nat) : Prop where
  b : Below w.heap.size w wr
  sc : SetCells wr w.heap.size s
  tb : TraceBox wr (w.heap.size + 1) t
  db : DoneBox wr (w.heap.size + 1 + 1) d
  mb : TaskBox wr M r
theorem IvR.keep {w wr w2 : World} {s : SetR} {t : TraceR} {d : DoneM} {r : TaskR} {M : Nat} (h : IvR w wr s t d r M) (hb : Below wr.heap.size wr w2) : IvR w w2 s t d r M :=
  ⟨h.b.trans (hb.mono h.b.size), h.sc.keep (Keeps.of_below hb), h.tb.keep (Keeps.of_below hb), h.db.keep (Keeps.of_below hb), h.mb.keep (Keeps.of_below hb)⟩
theorem IvR.alloc {w wr : World} {s : SetR} {t : TraceR} {d : DoneM} {r : TaskR} {M : Nat} (h : IvR w wr s t d r M) (o : Obj) : IvR w (wr.alloc o) s t d r M := h.keep ((Below.refl _ _).alloc (Nat.le_refl _) o)
theorem IvR.drewN {w wr : World} {s : SetR} {t : TraceR} {d : DoneM} {r : TaskR} {M : Nat} (h : IvR w wr s t d r M) (n : Nat) : IvR w (wr.drewN n) s t d r M := h.keep (below_drewN (Below.refl _ _) n)

set_option maxHeartbeats 8000000 in
set_option maxRecDepth 100000 in
theorem rinv_any (s : SetR) (t : TraceR) (d : DoneM) (w : World) (hs : SetOk w s) (ht : TraceOk w t) (hd : d.wf) : Calls Try.prog 23 #[.agg #[.int .i64 s.proto, .slice s.ca s.cores.length s.cc, .slice s.ha s.homes.length s.hc, .slice s.ta s.tasks.length s.tc], .agg #[.int .i64 t.ticks, .slice t.sa t.slots.length t.sc, .slice t.ja t.jobs.length t.jc, .slice t.wa t.waits.length t.wc], .agg #[.int .i64 d.task, .int .i64 d.rel, .int .i64 d.fin]] w fun e w' => e = .returned (.int .i64 (rinvV s t d)) ∧ Below w.heap.size w w' := by
  have hb := (((Below.refl w.heap.size w).alloc (Nat.le_refl _) (.cells #[.int .i64 s.proto, .slice s.ca s.cores.length s.cc, .slice s.ha s.homes.length s.hc, .slice s.ta s.tasks.length s.tc] 26)).alloc (by simp) (.cells #[.int .i64 t.ticks, .slice t.sa t.slots.length t.sc, .slice t.ja t.jobs.length t.jc, .slice t.wa t.waits.length t.wc] 38)).alloc (by simp; omega) (.cells #[.int .i64 d.task, .int .i64 d.rel, .int .i64 d.fin] 32)
  have sc := ((SetCells.new w s 26).keep (Keeps.alloc _ (.cells #[.int .i64 t.ticks, .slice t.sa t.slots.length t.sc, .slice t.ja t.jobs.length t.jc, .slice t.wa t.waits.length t.wc] 38))).keep (Keeps.alloc _ (.cells #[.int .i64 d.task, .int .i64 d.rel, .int .i64 d.fin] 32))
  have tb := (TraceBox.new (w.alloc (.cells #[.int .i64 s.proto, .slice s.ca s.cores.length s.cc, .slice s.ha s.homes.length s.hc, .slice s.ta s.tasks.length s.tc] 26)) t 38).keep (Keeps.alloc _ (.cells #[.int .i64 d.task, .int .i64 d.rel, .int .i64 d.fin] 32))
  have db := DoneBox.new ((w.alloc (.cells #[.int .i64 s.proto, .slice s.ca s.cores.length s.cc, .slice s.ha s.homes.length s.hc, .slice s.ta s.tasks.length s.tc] 26)).alloc (.cells #[.int .i64 t.ticks, .slice t.sa t.slots.length t.sc, .slice t.ja t.jobs.length t.jc, .slice t.wa t.waits.length t.wc] 38)) d 32
  have z1 : (w.alloc (.cells #[.int .i64 s.proto, .slice s.ca s.cores.length s.cc, .slice s.ha s.homes.length s.hc, .slice s.ta s.tasks.length s.tc] 26)).heap.size = w.heap.size + 1 := by simp
  have z2 : ((w.alloc (.cells #[.int .i64 s.proto, .slice s.ca s.cores.length s.cc, .slice s.ha s.homes.length s.hc, .slice s.ta s.tasks.length s.tc] 26)).alloc (.cells #[.int .i64 t.ticks, .slice t.sa t.slots.length t.sc, .slice t.ja t.jobs.length t.jc, .slice t.wa t.waits.length t.wc] 38)).heap.size = w.heap.size + 1 + 1 := by simp
  rw [z1] at tb
  rw [z2] at db
  clear z1 z2
  have H := hidp (hs.keep (Keeps.of_below hb))
  have HX := hidp ht.slots
  have HXw := hidp ht.swf
  have HW := hidp ht.waits
  have lw : t.waits.length ≤ maxLen := Nat.le_trans ht.wsl.2.1 ht.wsl.2.2
  have lx : t.slots.length ≤ maxLen := Nat.le_trans ht.ssl.2.1 ht.ssl.2.2
  have l3 : s.tasks.length ≤ maxLen := Nat.le_trans hs.tasks.sl.2.1 hs.tasks.sl.2.2
  unfold maxLen at lw lx l3
  have HTs := hidp hs.tasks
  have Hd := hidp hd
  clear hs ht hd
  obtain ⟨P, HP⟩ : ∃ P, Hid (there25 s d.task = P) := ⟨_, hidp rfl⟩
  obtain ⟨tk, sa, sc', slots, ja, jc, jobs, wa, wc, ws⟩ := t
  dsimp only at hb sc tb db H HX HXw HW lw lx ⊢
  obtain ⟨c0, c1, c2, c3⟩ := id sc
  obtain ⟨p0, p1, p2⟩ := id db
  go_enter Try.func23, Try.ntmps23
  go_wp2_with fail
  refine (rthere25_is HP.out _ H.out).mono ?_
  rintro e u2 ⟨rfl, hb2⟩
  replace hb := hb.trans (hb2.mono hb.size)
  replace sc := sc.keep (Keeps.of_below hb2)
  replace tb := tb.keep (Keeps.of_below hb2)
  replace db := db.keep (Keeps.of_below hb2)
  clear hb2 c0 c1 c2 c3 p0 p1 p2 H
  cases P with
  | false =>
    have HV : Hid (rinvV s ⟨tk, sa, sc', slots, ja, jc, jobs, wa, wc, ws⟩ d = 0) := hidp (by unfold rinvV; rw [HP.out]; rfl)
    go_wp2_with fail
    go_ret
    exact ⟨ret_int HV.out.symm, hb⟩
  | true =>
    have hp : 0 ≤ d.task ∧ d.task < s.tasks.length := by
      have h := HP.out
      unfold there25 at h
      simp only [Bool.and_eq_true] at h
      exact ⟨of_decide_eq_true h.2.1, of_decide_eq_true h.2.2⟩
    obtain ⟨q, hq⟩ : ∃ q : Nat, d.task = q := ⟨d.task.toNat, by omega⟩
    have hlq : q < s.tasks.length := by omega
    obtain ⟨g, off, hA, hc⟩ := HTs.out.at_.resolve_left (by intro e; rw [e] at hlq; simp at hlq)
    obtain ⟨r, HR⟩ : ∃ r, Hid (s.tasks.getD q default = r) := ⟨_, rfl⟩
    obtain ⟨a0, a1, a2, a3, a4, a5⟩ := (HR.out ▸ hc q hlq).keep (Keeps.of_below hb)
    have dq : decide (s.tasks.length ≤ q) = false := by simp; omega
    have qI : (q : Int) < (s.tasks.length : Int) := by omega
    have mb := TaskBox.new u2 r 49
    obtain ⟨F, HF⟩ : ∃ v, Hid (fromD d = v) := ⟨_, hidp rfl⟩
    obtain ⟨T, HT⟩ : ∃ v, Hid (toD d = v) := ⟨_, hidp rfl⟩
    have HV : Hid (rinvV s ⟨tk, sa, sc', slots, ja, jc, jobs, wa, wc, ws⟩ d = if F < T then (invN s ⟨tk, sa, sc', slots, ja, jc, jobs, wa, wc, ws⟩ d F (T - F).toNat : Int) else 0) := hidp (by unfold rinvV; rw [HP.out, if_pos rfl, HF.out, HT.out])
    obtain ⟨M, hM⟩ : ∃ M, u2.heap.size = M := ⟨_, rfl⟩
    rw [hM] at mb
    have HI0 : Hid (IvR w (u2.alloc (.cells #[.string r.name, .int .i64 r.per, .int .i64 r.dl, .int .i64 r.prio, .int .i64 r.cl, .slice r.pa r.parts.length r.pc] 49)) s ⟨tk, sa, sc', slots, ja, jc, jobs, wa, wc, ws⟩ d r M) := hidp ⟨hb.alloc hb.size _, sc.keep (Keeps.alloc _ _), tb.keep (Keeps.alloc _ _), db.keep (Keeps.alloc _ _), mb⟩
    have mF : (if 0 < d.rel then d.rel else 0) = F := by rw [← HF.out]; unfold fromD; split <;> omega
    have F0 : 0 ≤ F := by rw [← HF.out]; unfold fromD; omega
    have Hft : Hid (T = min d.fin 20001) := hidp (by rw [← HT.out]; rfl)
    obtain ⟨A0, A1, A2⟩ := id db
    obtain ⟨c0, c1, c2, c3⟩ := id sc
    have HIw := hidp Hd.out
    have HTc0 : Hid (∀ i, i < s.tasks.length → TaskCells w g (off + i * 6) (s.tasks.getD i default)) := hidp hc
    clear hc hp mb
    have HdF := hidp (show d.fin = d.fin from rfl)
    go_upto_region 5 with fail
    obtain ⟨v0, hv0⟩ : ∃ v, u2.alloc (.cells #[.string r.name, .int .i64 r.per, .int .i64 r.dl, .int .i64 r.prio, .int .i64 r.cl, .slice r.pa r.parts.length r.pc] 49) = v := ⟨_, rfl⟩
    rw [hv0] at HI0 ⊢
    try rw [hM]
    clear hv0 hM a0 a1 a2 a3 a4 a5 A0 A1 A2 c0 c1 c2 c3 qI hb sc tb db
    obtain ⟨f, hf⟩ : ∃ f : Nat, F = f := ⟨F.toNat, by omega⟩
    subst hf
    obtain ⟨N, HN⟩ : ∃ N, Hid ((T - (f : Int)).toNat = N) := ⟨_, hidp rfl⟩
    obtain ⟨A0, A1, A2⟩ := HI0.out.db
    have Hq := hidp hq
    obtain ⟨nm, per, dl, prio, cl, pa, pc, parts⟩ := r
    try dsimp only at HR HI0
    obtain ⟨dk, dr, df⟩ := d
    try dsimp only at A0 A1 A2 mF Hft hq
    clear hq
    have Hf20 : Hid (∀ z : Nat, f ≤ z → (z : Int) < T → z ≤ 20000) := hidp (fun z h1 h2 => by have := Hft.out; omega)
    go_wp2_with fail
    clear A0 A1 A2
    go_loopg [7, 9] N (fun gg n tm wr => ∃ (z c : Nat), (z - f) + gg = N ∧ f ≤ z ∧ n = .int .i64 c ∧ tm = .int .i64 z ∧ c ≤ z - f ∧ Hid (invN s ⟨tk, sa, sc', slots, ja, jc, jobs, wa, wc, ws⟩ ⟨dk, dr, df⟩ (f : Int) (z - f) = c) ∧ Hid (IvR w wr s ⟨tk, sa, sc', slots, ja, jc, jobs, wa, wc, ws⟩ ⟨dk, dr, df⟩ ⟨nm, per, dl, prio, cl, pa, pc, parts⟩ M))
    case atStart => exact ⟨f, 0, by omega, Nat.le_refl _, rfl, rfl, by omega, hidp (by rw [Nat.sub_self]; rfl), HI0⟩
    case round =>
      obtain ⟨z, c, hk, hz, rfl, rfl, hcz, Hc, HI⟩ := hrel
      clear HI0
      obtain ⟨A0, A1, A2⟩ := HI.out.db
      try dsimp only at A0 A1 A2
      by_cases hlt : (z : Int) < T
      · have hz20 := Hf20.out z hz hlt
        have hzN : z - f < N := by have := HN.out; omega
        have g1 : decide ((z : Int) < df) = true := by have := Hft.out; simp; omega
        have g2 : decide ((z : Int) ≤ 20000) = true := by simp; omega
        have g3 : (z : Int) < df := by have := Hft.out; omega
        obtain ⟨t0, t1, t2, t3⟩ := HI.out.tb
        try dsimp only at t0 t1 t2 t3
        go_wp2_with fail
        clear A0 A1 A2 t0 t1 t2 t3
        go_loopg [10, 11, 12] slots.length (fun gg a b i wr => ∃ (k : Nat) (o l : Bool), k + gg = slots.length ∧ a = .bool o ∧ b = .bool l ∧ i = .int .i64 k ∧ Hid (ranK (slots.take k) ⟨dk, dr, df⟩ z = o) ∧ Hid (lowK s (slots.take k) ⟨dk, dr, df⟩ z = l) ∧ Hid (IvR w wr s ⟨tk, sa, sc', slots, ja, jc, jobs, wa, wc, ws⟩ ⟨dk, dr, df⟩ ⟨nm, per, dl, prio, cl, pa, pc, parts⟩ M))
        case atStart => exact ⟨0, false, false, by omega, rfl, rfl, rfl, hidp (by simp [ranK]), hidp (by simp [lowK]), HI⟩
        case round =>
          obtain ⟨k, o, l, hk2, rfl, rfl, rfl, Ho, Hl, HJ⟩ := hrel
          obtain ⟨t0, t1, t2, t3⟩ := HJ.out.tb
          try dsimp only at t0 t1 t2 t3
          by_cases hkl : k < slots.length
          · obtain ⟨xg, xo, hxA, hd⟩ := HX.out.resolve_left (by intro e; rw [e] at hkl; simp at hkl)
            obtain ⟨y, HY⟩ : ∃ y, Hid (slots.getD k default = y) := ⟨_, rfl⟩
            obtain ⟨d0, d1, d2, d3⟩ := (HY.out ▸ hd k hkl).keep (Keeps.of_below HJ.out.b)
            have kI : (k : Int) < (slots.length : Int) := by omega
            have HJ1 := hidp (HJ.out.alloc (.cells #[.int .i64 y.time, .int .i64 y.cl, .int .i64 y.task, .bool y.held] 29))
            have yb := SlotBox.new wr y 29
            obtain ⟨Y, hY⟩ : ∃ Y, wr.heap.size = Y := ⟨_, rfl⟩
            rw [hY] at yb
            have HHo : Hid (ranK (slots.take (k + 1)) ⟨dk, dr, df⟩ z = (o || (decide (y.time = z) && (y.task == dk)))) := hidp (by rw [ranK_snoc hkl, Ho.out, HY.out])
            have HHl : Hid (lowK s (slots.take (k + 1)) ⟨dk, dr, df⟩ z = (l || (decide (y.time = z) && lowB s y (dk : Int).toNat))) := hidp (by rw [lowK_snoc hkl, Hl.out, HY.out])
            obtain ⟨s0, s1, s2, s3⟩ := HJ1.out.sc
            obtain ⟨m0, m1, m2, m3, m4, m5⟩ := HJ1.out.mb
            obtain ⟨A0, A1, A2⟩ := HJ1.out.db
            have HTc : Hid (∀ i, i < s.tasks.length → TaskCells (wr.alloc (.cells #[.int .i64 y.time, .int .i64 y.cl, .int .i64 y.task, .bool y.held] 29)) g (off + i * 6) (s.tasks.getD i default)) := hidp (fun i hi => (HTc0.out i hi).keep (Keeps.of_below HJ1.out.b))
            have hyT : ∀ j : Nat, y.task = j → j < s.tasks.length → ∃ (t0 : TaskR), Hid (s.tasks.getD j default = t0) := fun j _ _ => ⟨_, rfl⟩
            clear hyT
            clear hd
            subst hxA
            obtain ⟨yt, yc, yk, yh⟩ := y
            obtain ⟨y0, y1, y2, y3⟩ := yb
            try dsimp only at y0 y1 y2 y3 A0 A1 A2 m0 m1 m2 m3 m4 m5 d0 d1 d2 d3 HHo HHl HJ1
            go_upto_region 13 with fail
            obtain ⟨v, hv⟩ : ∃ v, wr.alloc (.cells #[.int .i64 yt, .int .i64 yc, .int .i64 yk, .bool yh] 29) = v := ⟨_, rfl⟩
            rw [hv] at HJ1 y0 y1 y2 y3 A0 A1 A2 m0 m1 m2 m3 m4 m5 s0 s1 s2 s3 HTc ⊢
            try rw [hY]
            clear hv hY d0 d1 d2 d3 t0 t1 t2 t3 kI
            by_cases hyz : yt = (z : Int)
            · have Hyz := hidp hyz
              clear hyz
              have e1 : (yt != (z : Int)) = false := by simpa using Hyz.out
              have H1o := hidp HHo.out
              rw [decide_eq_true Hyz.out, Bool.true_and] at H1o
              have H1l := hidp HHl.out
              rw [decide_eq_true Hyz.out, Bool.true_and] at H1l
              clear HHo HHl
              cases o with
              | true =>
                cases l with
                | true =>
                  have HNo : Hid (ranK (slots.take (k + 1)) ⟨dk, dr, df⟩ z = true) := hidp (by rw [H1o.out]; rfl)
                  have HNl : Hid (lowK s (slots.take (k + 1)) ⟨dk, dr, df⟩ z = true) := hidp (by rw [H1l.out]; rfl)
                  go_wp2_with fail
                  go_quiet (fail)
                  go_wp2_with fail
                  go_roundg (gk - 1)
                  case measure => omega
                  case rel => exact ⟨k + 1, true, true, by omega, rfl, rfl, by go_num, HNo, HNl, hidp (HJ1.out.drewN _)⟩
                | false =>
                  by_cases hcl : yc = cl
                  · have f1 : (yc == cl) = true := by simpa using hcl
                    by_cases h0 : 0 ≤ yk
                    · have f2 : decide (0 ≤ yk) = true := by simpa using h0
                      by_cases h1 : yk < (s.tasks.length : Int)
                      · have f3 : decide (yk < (s.tasks.length : Int)) = true := by simpa using h1
                        obtain ⟨j, hj⟩ : ∃ j : Nat, yk = j := ⟨yk.toNat, by omega⟩
                        have hjl : j < s.tasks.length := by omega
                        have dj : decide (s.tasks.length ≤ j) = false := by simp; omega
                        obtain ⟨x0, HX0⟩ : ∃ x0, Hid (s.tasks.getD j default = x0) := ⟨_, rfl⟩
                        obtain ⟨b0, b1, b2, b3, b4, b5⟩ := HX0.out ▸ HTc.out j hjl
                        obtain ⟨nm2, per2, dl2, prio2, cl2, pa2, pc2, parts2⟩ := x0
                        try dsimp only at b3
                        have HlB : Hid (lowB s ⟨yt, yc, yk, yh⟩ (dk : Int).toNat = decide (prio < prio2)) := hidp (by rw [lowB_yes ⟨h0, h1⟩, Hq.out]; simp only [Int.toNat_natCast, hj, HR.out, HX0.out]; rw [f1, Bool.true_and])
                        subst hj
                        clear b0 b1 b2 b4 b5 h0 h1 hcl
                        have HNo : Hid (ranK (slots.take (k + 1)) ⟨dk, dr, df⟩ z = true) := hidp (by rw [H1o.out]; rfl)
                        have HNl : Hid (lowK s (slots.take (k + 1)) ⟨dk, dr, df⟩ z = decide (prio < prio2)) := hidp (by rw [H1l.out]; rw [HlB.out]; rfl)
                        go_wp2_with fail
                        go_quiet (fail)
                        go_wp2_with fail
                        go_roundg (gk - 1)
                        case measure => omega
                        case rel => exact ⟨k + 1, true, decide (prio < prio2), by omega, rfl, rfl, by go_num, HNo, HNl, hidp (HJ1.out.drewN _)⟩
                      · have f3 : decide (yk < (s.tasks.length : Int)) = false := by simpa using h1
                        have HlB := hidp (lowB_no (s := s) (x := ⟨yt, yc, yk, yh⟩) (k := (dk : Int).toNat) (fun h => h1 h.2))
                        clear h0 h1 hcl
                        have HNo : Hid (ranK (slots.take (k + 1)) ⟨dk, dr, df⟩ z = true) := hidp (by rw [H1o.out]; rfl)
                        have HNl : Hid (lowK s (slots.take (k + 1)) ⟨dk, dr, df⟩ z = false) := hidp (by rw [H1l.out]; rw [HlB.out]; rfl)
                        go_wp2_with fail
                        go_quiet (fail)
                        go_wp2_with fail
                        go_roundg (gk - 1)
                        case measure => omega
                        case rel => exact ⟨k + 1, true, false, by omega, rfl, rfl, by go_num, HNo, HNl, hidp (HJ1.out.drewN _)⟩
                    · have f2 : decide (0 ≤ yk) = false := by simpa using h0
                      have HlB := hidp (lowB_no (s := s) (x := ⟨yt, yc, yk, yh⟩) (k := (dk : Int).toNat) (fun h => h0 h.1))
                      clear h0 hcl
                      have HNo : Hid (ranK (slots.take (k + 1)) ⟨dk, dr, df⟩ z = true) := hidp (by rw [H1o.out]; rfl)
                      have HNl : Hid (lowK s (slots.take (k + 1)) ⟨dk, dr, df⟩ z = false) := hidp (by rw [H1l.out]; rw [HlB.out]; rfl)
                      go_wp2_with fail
                      go_quiet (fail)
                      go_wp2_with fail
                      go_roundg (gk - 1)
                      case measure => omega
                      case rel => exact ⟨k + 1, true, false, by omega, rfl, rfl, by go_num, HNo, HNl, hidp (HJ1.out.drewN _)⟩
                  · have f1 : (yc == cl) = false := by simpa using hcl
                    have HlB : Hid (lowB s ⟨yt, yc, yk, yh⟩ (dk : Int).toNat = false) := hidp (by
                      by_cases hh : 0 ≤ yk ∧ yk < (s.tasks.length : Int)
                      · rw [lowB_yes hh, Hq.out]; simp only [Int.toNat_natCast, HR.out]; rw [f1, Bool.false_and]
                      · exact lowB_no hh)
                    clear hcl
                    have HNo : Hid (ranK (slots.take (k + 1)) ⟨dk, dr, df⟩ z = true) := hidp (by rw [H1o.out]; rfl)
                    have HNl : Hid (lowK s (slots.take (k + 1)) ⟨dk, dr, df⟩ z = false) := hidp (by rw [H1l.out]; rw [HlB.out]; rfl)
                    go_wp2_with fail
                    go_quiet (fail)
                    go_wp2_with fail
                    go_roundg (gk - 1)
                    case measure => omega
                    case rel => exact ⟨k + 1, true, false, by omega, rfl, rfl, by go_num, HNo, HNl, hidp (HJ1.out.drewN _)⟩
              | false =>
                cases l with
                | true =>
                  have HNo : Hid (ranK (slots.take (k + 1)) ⟨dk, dr, df⟩ z = (yk == dk)) := hidp (by rw [H1o.out]; rfl)
                  have HNl : Hid (lowK s (slots.take (k + 1)) ⟨dk, dr, df⟩ z = true) := hidp (by rw [H1l.out]; rfl)
                  go_wp2_with fail
                  go_quiet (fail)
                  go_wp2_with fail
                  go_roundg (gk - 1)
                  case measure => omega
                  case rel => exact ⟨k + 1, (yk == dk), true, by omega, rfl, rfl, by go_num, HNo, HNl, hidp (HJ1.out.drewN _)⟩
                | false =>
                  by_cases hcl : yc = cl
                  · have f1 : (yc == cl) = true := by simpa using hcl
                    by_cases h0 : 0 ≤ yk
                    · have f2 : decide (0 ≤ yk) = true := by simpa using h0
                      by_cases h1 : yk < (s.tasks.length : Int)
                      · have f3 : decide (yk < (s.tasks.length : Int)) = true := by simpa using h1
                        obtain ⟨j, hj⟩ : ∃ j : Nat, yk = j := ⟨yk.toNat, by omega⟩
                        have hjl : j < s.tasks.length := by omega
                        have dj : decide (s.tasks.length ≤ j) = false := by simp; omega
                        obtain ⟨x0, HX0⟩ : ∃ x0, Hid (s.tasks.getD j default = x0) := ⟨_, rfl⟩
                        obtain ⟨b0, b1, b2, b3, b4, b5⟩ := HX0.out ▸ HTc.out j hjl
                        obtain ⟨nm2, per2, dl2, prio2, cl2, pa2, pc2, parts2⟩ := x0
                        try dsimp only at b3
                        have HlB : Hid (lowB s ⟨yt, yc, yk, yh⟩ (dk : Int).toNat = decide (prio < prio2)) := hidp (by rw [lowB_yes ⟨h0, h1⟩, Hq.out]; simp only [Int.toNat_natCast, hj, HR.out, HX0.out]; rw [f1, Bool.true_and])
                        subst hj
                        clear b0 b1 b2 b4 b5 h0 h1 hcl
                        have HNo : Hid (ranK (slots.take (k + 1)) ⟨dk, dr, df⟩ z = ((j : Int) == dk)) := hidp (by rw [H1o.out]; rfl)
                        have HNl : Hid (lowK s (slots.take (k + 1)) ⟨dk, dr, df⟩ z = decide (prio < prio2)) := hidp (by rw [H1l.out]; rw [HlB.out]; rfl)
                        go_wp2_with fail
                        go_quiet (fail)
                        go_wp2_with fail
                        go_roundg (gk - 1)
                        case measure => omega
                        case rel => exact ⟨k + 1, ((j : Int) == dk), decide (prio < prio2), by omega, rfl, rfl, by go_num, HNo, HNl, hidp (HJ1.out.drewN _)⟩
                      · have f3 : decide (yk < (s.tasks.length : Int)) = false := by simpa using h1
                        have HlB := hidp (lowB_no (s := s) (x := ⟨yt, yc, yk, yh⟩) (k := (dk : Int).toNat) (fun h => h1 h.2))
                        clear h0 h1 hcl
                        have HNo : Hid (ranK (slots.take (k + 1)) ⟨dk, dr, df⟩ z = (yk == dk)) := hidp (by rw [H1o.out]; rfl)
                        have HNl : Hid (lowK s (slots.take (k + 1)) ⟨dk, dr, df⟩ z = false) := hidp (by rw [H1l.out]; rw [HlB.out]; rfl)
                        go_wp2_with fail
                        go_quiet (fail)
                        go_wp2_with fail
                        go_roundg (gk - 1)
                        case measure => omega
                        case rel => exact ⟨k + 1, (yk == dk), false, by omega, rfl, rfl, by go_num, HNo, HNl, hidp (HJ1.out.drewN _)⟩
                    · have f2 : decide (0 ≤ yk) = false := by simpa using h0
                      have HlB := hidp (lowB_no (s := s) (x := ⟨yt, yc, yk, yh⟩) (k := (dk : Int).toNat) (fun h => h0 h.1))
                      clear h0 hcl
                      have HNo : Hid (ranK (slots.take (k + 1)) ⟨dk, dr, df⟩ z = (yk == dk)) := hidp (by rw [H1o.out]; rfl)
                      have HNl : Hid (lowK s (slots.take (k + 1)) ⟨dk, dr, df⟩ z = false) := hidp (by rw [H1l.out]; rw [HlB.out]; rfl)
                      go_wp2_with fail
                      go_quiet (fail)
                      go_wp2_with fail
                      go_roundg (gk - 1)
                      case measure => omega
                      case rel => exact ⟨k + 1, (yk == dk), false, by omega, rfl, rfl, by go_num, HNo, HNl, hidp (HJ1.out.drewN _)⟩
                  · have f1 : (yc == cl) = false := by simpa using hcl
                    have HlB : Hid (lowB s ⟨yt, yc, yk, yh⟩ (dk : Int).toNat = false) := hidp (by
                      by_cases hh : 0 ≤ yk ∧ yk < (s.tasks.length : Int)
                      · rw [lowB_yes hh, Hq.out]; simp only [Int.toNat_natCast, HR.out]; rw [f1, Bool.false_and]
                      · exact lowB_no hh)
                    clear hcl
                    have HNo : Hid (ranK (slots.take (k + 1)) ⟨dk, dr, df⟩ z = (yk == dk)) := hidp (by rw [H1o.out]; rfl)
                    have HNl : Hid (lowK s (slots.take (k + 1)) ⟨dk, dr, df⟩ z = false) := hidp (by rw [H1l.out]; rw [HlB.out]; rfl)
                    go_wp2_with fail
                    go_quiet (fail)
                    go_wp2_with fail
                    go_roundg (gk - 1)
                    case measure => omega
                    case rel => exact ⟨k + 1, (yk == dk), false, by omega, rfl, rfl, by go_num, HNo, HNl, hidp (HJ1.out.drewN _)⟩
            · skip
              have e1 : (yt != (z : Int)) = true := by simpa using hyz
              have H1o : Hid (ranK (slots.take (k + 1)) ⟨dk, dr, df⟩ z = o) := hidp (by rw [HHo.out, decide_eq_false hyz]; simp)
              have H1l : Hid (lowK s (slots.take (k + 1)) ⟨dk, dr, df⟩ z = l) := hidp (by rw [HHl.out, decide_eq_false hyz]; simp)
              clear hyz
              go_wp2_with fail
              go_roundg (gk - 1)
              case measure => omega
              case rel => exact ⟨k + 1, o, l, by omega, rfl, rfl, by go_num, H1o, H1l, HJ1⟩
          · have Ho2 : Hid (ranAt ⟨tk, sa, sc', slots, ja, jc, jobs, wa, wc, ws⟩ ⟨dk, dr, df⟩ z = o) := hidp (by rw [← Ho.out, List.take_of_length_le (by omega)]; rfl)
            have Hl2 : Hid (lowAt s ⟨tk, sa, sc', slots, ja, jc, jobs, wa, wc, ws⟩ ⟨dk, dr, df⟩ z = l) := hidp (by rw [← Hl.out, List.take_of_length_le (by omega)]; rfl)
            have kI : ¬ (k : Int) < (slots.length : Int) := by omega
            go_wp2_with fail
            clear t0 t1 t2 t3 kI Ho Hl
            go_loopg [10, 14] ws.length (fun gg a i wr => ∃ (k : Nat) (h : Bool), k + gg = ws.length ∧ a = .bool h ∧ i = .int .i64 k ∧ Hid ((o || (ws.take k).any (holdsAt ⟨dk, dr, df⟩ z)) = h) ∧ Hid (IvR w wr s ⟨tk, sa, sc', slots, ja, jc, jobs, wa, wc, ws⟩ ⟨dk, dr, df⟩ ⟨nm, per, dl, prio, cl, pa, pc, parts⟩ M))
            case atStart => exact ⟨0, o, by omega, rfl, rfl, hidp (by simp), HJ⟩
            case round =>
              obtain ⟨k3, h, hk3, rfl, rfl, Hh, HJ⟩ := hrel
              obtain ⟨t0, t1, t2, t3⟩ := HJ.out.tb
              try dsimp only at t0 t1 t2 t3
              by_cases hkl3 : k3 < ws.length
              · obtain ⟨xg, xo, hxA, hd⟩ := HW.out.resolve_left (by intro e; rw [e] at hkl3; simp at hkl3)
                obtain ⟨y, HY⟩ : ∃ y, Hid (ws.getD k3 default = y) := ⟨_, rfl⟩
                obtain ⟨d0, d1, d2, d3, d4⟩ := (HY.out ▸ hd k3 hkl3).keep (Keeps.of_below HJ.out.b)
                have kI : (k3 : Int) < (ws.length : Int) := by omega
                have HJ1 := hidp (HJ.out.alloc (.cells #[.int .i64 y.task, .int .i64 y.part, .int .i64 y.ask, .int .i64 y.got, .int .i64 y.fin] 35))
                have yb := WaitBox.new wr y 35
                have HHh : Hid ((o || (ws.take (k3 + 1)).any (holdsAt ⟨dk, dr, df⟩ z)) = (h || holdsAt ⟨dk, dr, df⟩ z y)) := hidp (by rw [any_snoc hkl3, ← Bool.or_assoc, Hh.out, HY.out])
                obtain ⟨A0, A1, A2⟩ := HJ1.out.db
                clear hd
                subst hxA
                obtain ⟨yk, yp, ya, yg, yf⟩ := y
                obtain ⟨y0, y1, y2, y3, y4⟩ := yb
                try dsimp only at y0 y1 y2 y3 y4 A0 A1 A2 d0 d1 d2 d3 d4 HHh HJ1
                cases h with
                | true =>
                  have HN3 : Hid ((o || (ws.take (k3 + 1)).any (holdsAt ⟨dk, dr, df⟩ z)) = true) := hidp (by rw [HHh.out]; rfl)
                  go_wp2_with fail
                  go_roundg (gk - 1)
                  case measure => omega
                  case rel => exact ⟨k3 + 1, true, by omega, rfl, by go_num, HN3, HJ1⟩
                | false =>
                  by_cases h0 : yk = dk
                  · have f0 : (yk == dk) = true := by simpa using h0
                    by_cases h1 : yg ≤ (z : Int)
                    · have f1 : decide (yg ≤ (z : Int)) = true := by simpa using h1
                      have HB : Hid (holdsAt ⟨dk, dr, df⟩ z ⟨yk, yp, ya, yg, yf⟩ = decide ((z : Int) < yf)) := hidp (by unfold holdsAt; dsimp only; rw [decide_eq_true h0, f1]; rfl)
                      clear h0 h1
                      have HN3 : Hid ((o || (ws.take (k3 + 1)).any (holdsAt ⟨dk, dr, df⟩ z)) = decide ((z : Int) < yf)) := hidp (by rw [HHh.out]; rw [HB.out]; rfl)
                      go_wp2_with fail
                      go_roundg (gk - 1)
                      case measure => omega
                      case rel => exact ⟨k3 + 1, decide ((z : Int) < yf), by omega, rfl, by go_num, HN3, HJ1⟩
                    · have f1 : decide (yg ≤ (z : Int)) = false := by simpa using h1
                      have HB : Hid (holdsAt ⟨dk, dr, df⟩ z ⟨yk, yp, ya, yg, yf⟩ = false) := hidp (by unfold holdsAt; dsimp only; rw [f1]; simp)
                      clear h0 h1
                      have HN3 : Hid ((o || (ws.take (k3 + 1)).any (holdsAt ⟨dk, dr, df⟩ z)) = false) := hidp (by rw [HHh.out]; rw [HB.out]; rfl)
                      go_wp2_with fail
                      go_roundg (gk - 1)
                      case measure => omega
                      case rel => exact ⟨k3 + 1, false, by omega, rfl, by go_num, HN3, HJ1⟩
                  · have f0 : (yk == dk) = false := by simpa using h0
                    have HB : Hid (holdsAt ⟨dk, dr, df⟩ z ⟨yk, yp, ya, yg, yf⟩ = false) := hidp (by unfold holdsAt; dsimp only; rw [decide_eq_false h0]; rfl)
                    clear h0
                    have HN3 : Hid ((o || (ws.take (k3 + 1)).any (holdsAt ⟨dk, dr, df⟩ z)) = false) := hidp (by rw [HHh.out]; rw [HB.out]; rfl)
                    go_wp2_with fail
                    go_roundg (gk - 1)
                    case measure => omega
                    case rel => exact ⟨k3 + 1, false, by omega, rfl, by go_num, HN3, HJ1⟩
              · have Hh2 : Hid ((o || holdAt ⟨tk, sa, sc', slots, ja, jc, jobs, wa, wc, ws⟩ ⟨dk, dr, df⟩ z) = h) := hidp (by rw [← Hh.out, List.take_of_length_le (by omega)]; rfl)
                have kI : ¬ (k3 : Int) < (ws.length : Int) := by omega
                have HA : Hid (invA s ⟨tk, sa, sc', slots, ja, jc, jobs, wa, wc, ws⟩ ⟨dk, dr, df⟩ z = (l && !h)) := hidp (by unfold invA; rw [Hl2.out, Ho2.out, Hh2.out])
                have Hsub : Hid (z + 1 - f = z - f + 1) := hidp (by omega)
                have HS1 : Hid (invN s ⟨tk, sa, sc', slots, ja, jc, jobs, wa, wc, ws⟩ ⟨dk, dr, df⟩ (f : Int) (z + 1 - f) = c + if (l && !h) then 1 else 0) := hidp (by
                  rw [Hsub.out]
                  show invN _ _ _ _ (z - f) + _ = _
                  rw [Hc.out]
                  have e : (f : Int) + ((z - f : Nat) : Int) = (z : Int) := by omega
                  rw [e, HA.out])
                cases l with
                | false =>
                  have HZ : Hid (invN s ⟨tk, sa, sc', slots, ja, jc, jobs, wa, wc, ws⟩ ⟨dk, dr, df⟩ (f : Int) (z + 1 - f) = c) := hidp (by rw [HS1.out]; rfl)
                  go_wp2_with fail
                  go_roundg (N - (z - f) - 1)
                  case measure => omega
                  case rel => exact ⟨z + 1, c, by omega, by omega, rfl, by go_num, by omega, HZ, HJ⟩
                | true =>
                  cases h with
                  | false =>
                    have HZ : Hid (invN s ⟨tk, sa, sc', slots, ja, jc, jobs, wa, wc, ws⟩ ⟨dk, dr, df⟩ (f : Int) (z + 1 - f) = c + 1) := hidp (by rw [HS1.out]; rfl)
                    go_wp2_with fail
                    go_roundg (N - (z - f) - 1)
                    case measure => omega
                    case rel => exact ⟨z + 1, c + 1, by omega, by omega, by go_num, by go_num, by omega, HZ, HJ⟩
                  | true =>
                    have HZ : Hid (invN s ⟨tk, sa, sc', slots, ja, jc, jobs, wa, wc, ws⟩ ⟨dk, dr, df⟩ (f : Int) (z + 1 - f) = c) := hidp (by rw [HS1.out]; rfl)
                    go_wp2_with fail
                    go_roundg (N - (z - f) - 1)
                    case measure => omega
                    case rel => exact ⟨z + 1, c, by omega, by omega, rfl, by go_num, by omega, HZ, HJ⟩
      · have HVf : Hid (rinvV s ⟨tk, sa, sc', slots, ja, jc, jobs, wa, wc, ws⟩ ⟨dk, dr, df⟩ = c) := hidp (by
          rw [HV.out]
          by_cases hFT : (f : Int) < T
          · rw [if_pos hFT, ← Hc.out, HN.out]
            congr 2
            have := HN.out
            omega
          · rw [if_neg hFT, ← Hc.out]
            have e : z - f = 0 := by have := HN.out; omega
            rw [e]; rfl)
        have hbw := HI.out.b
        by_cases hzf : (z : Int) < df
        · have g2 : ¬ (z : Int) ≤ 20000 := by have := Hft.out; omega
          have g1 : decide ((z : Int) < df) = true := by simpa using hzf
          have g3 : decide ((z : Int) ≤ 20000) = false := by simpa using g2
          go_wp2_with fail
          go_ret
          exact ⟨ret_int HVf.out.symm, hbw⟩
        · have g1 : decide ((z : Int) < df) = false := by simpa using hzf
          go_wp2_with fail
          go_ret
          exact ⟨ret_int HVf.out.symm, hbw⟩
end Go.Proofs.Ytmchjmgifipfoaa
