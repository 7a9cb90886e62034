/- Traces as they come in. Imports nothing of the dump's functions. -/
import Derived.Test.YtmchjmgifipfoaaTraceM
namespace Go.Proofs.Ytmchjmgifipfoaa
open Go.ChangeShapes Go.WideShapes Go.ChangeAt Go.RowKit Go.Deep
set_option linter.unusedVariables false
section
variable {H : Type} {enc : TypeId × Value → H} {P : Program} {w : World}
theorem bool_field {t : TypeId} {n : Nat} {v : Value} {y : DataW H × List MemPlace} (u : P.underlying t = some .bool) (h : DataW.trod enc P w 0 (fun _ => true) true n t [v] = some y) : ∃ z, v = .bool z := by
  obtain ⟨z, e, _⟩ := DataW.trod_bool u h
  exact ⟨z, by injection e⟩
/-- the types of a trace, as the dump has them -/
structure TraceTypes (P : Program) (slot slots done dones wait waits trace : TypeId) : Prop where
  tySlots : P.underlying slots = some (.slice slot)
  tySlot : ∃ f0 f1 f2 f3, P.underlying slot = some (.struct #[f0, f1, f2, f3]) ∧ oneCellFields P #[f0, f1, f2, f3] = true ∧ P.cellsOf slot = 4 ∧ P.underlying f0.type = some (.int .i64) ∧ P.underlying f1.type = some (.int .i64) ∧ P.underlying f2.type = some (.int .i64) ∧ P.underlying f3.type = some .bool
  tyDones : P.underlying dones = some (.slice done)
  tyDone : ∃ f0 f1 f2, P.underlying done = some (.struct #[f0, f1, f2]) ∧ oneCellFields P #[f0, f1, f2] = true ∧ P.cellsOf done = 3 ∧ P.underlying f0.type = some (.int .i64) ∧ P.underlying f1.type = some (.int .i64) ∧ P.underlying f2.type = some (.int .i64)
  tyWaits : P.underlying waits = some (.slice wait)
  tyWait : ∃ f0 f1 f2 f3 f4, P.underlying wait = some (.struct #[f0, f1, f2, f3, f4]) ∧ oneCellFields P #[f0, f1, f2, f3, f4] = true ∧ P.cellsOf wait = 5 ∧ P.underlying f0.type = some (.int .i64) ∧ P.underlying f1.type = some (.int .i64) ∧ P.underlying f2.type = some (.int .i64) ∧ P.underlying f3.type = some (.int .i64) ∧ P.underlying f4.type = some (.int .i64)
  tyTrace : ∃ f0 f1 f2 f3, P.underlying trace = some (.struct #[f0, f1, f2, f3]) ∧ oneCellFields P #[f0, f1, f2, f3] = true ∧ P.cellsOf trace = 4 ∧ P.underlying f0.type = some (.int .i64) ∧ f1.type = slots ∧ f2.type = dones ∧ f3.type = waits
variable {slot slots done dones wait waits trace : TypeId}
theorem TraceTypes.open_slot (T : TraceTypes P slot slots done dones wait waits trace) {fuel : Nat} {cs : List Value} {x : DataW H × List MemPlace} (h : DataW.trod enc P w 0 (fun _ => true) true fuel slot cs = some x) :
    ∃ p : SlotM, p.wf ∧ cs = [.int .i64 p.time, .int .i64 p.cl, .int .i64 p.task, .bool p.held] := by
  obtain ⟨f0, f1, f2, f3, he, hone, hC, u0, u1, u2, u3⟩ := T.tySlot
  obtain ⟨hl, hf⟩ := field_of he hone hC h
  obtain ⟨v0, _, _, e0, t0⟩ := hf 0 f0 rfl
  obtain ⟨v1, _, _, e1, t1⟩ := hf 1 f1 rfl
  obtain ⟨v2, _, _, e2, t2⟩ := hf 2 f2 rfl
  obtain ⟨v3, _, _, e3, t3⟩ := hf 3 f3 rfl
  obtain ⟨z0, rfl, g0⟩ := int_field u0 t0
  obtain ⟨z1, rfl, g1⟩ := int_field u1 t1
  obtain ⟨z2, rfl, g2⟩ := int_field u2 t2
  obtain ⟨z3, rfl⟩ := bool_field u3 t3
  refine ⟨⟨z0, z1, z2, z3⟩, ⟨i64_of g0, i64_of g1, i64_of g2⟩, ?_⟩
  match cs, hl with
  | [a0, a1, a2, a3], _ => simp at e0 e1 e2 e3; simp [e0, e1, e2, e3]
theorem TraceTypes.open_slots (T : TraceTypes P slot slots done dones wait waits trace) {fuel : Nat} {cs : List Value} {x : DataW H × List MemPlace} (h : DataW.trod enc P w 0 (fun _ => true) true fuel slots cs = some x) :
    ∃ a cap ps, cs = [.slice a ps.length cap] ∧ SlOk a ps.length cap ∧ SlotsAt w a ps ∧ ∀ p ∈ ps, SlotM.wf p := by
  obtain ⟨f0, f1, f2, f3, he, hone, hC, u0, u1, u2, u3⟩ := T.tySlot
  obtain ⟨a, len, cap, rfl, hs, hi⟩ := slice_of T.tySlots hC (by omega) h
  rcases hi with rfl | ⟨b, off, rfl, hi⟩
  · exact ⟨a, cap, [], rfl, hs, .inl rfl, by simp⟩
  · have hp : ∀ i, i < len → ∃ p : SlotM, p.wf ∧ SlotCells w b (off + i * 4) p := fun i hlt => by
      obtain ⟨cs', x', n, hl, hc, ht⟩ := hi i hlt
      obtain ⟨p, hw, rfl⟩ := T.open_slot ht
      exact ⟨p, hw, hc 0 (by omega), hc 1 (by omega), hc 2 (by omega), hc 3 (by omega)⟩
    obtain ⟨f, hf⟩ := choose_lt hp
    have hl : ((List.range len).map f).length = len := by simp
    refine ⟨_, cap, (List.range len).map f, by rw [hl], by rw [hl]; exact hs, .inr ⟨b, off, rfl, fun i hlt => ?_⟩, fun p hp => ?_⟩
    · rw [hl] at hlt
      have := (hf i hlt).2
      simpa [List.getD, hlt] using this
    · obtain ⟨i, hlt, rfl⟩ := List.mem_map.1 hp
      exact (hf i (by simpa using hlt)).1
theorem TraceTypes.open_done (T : TraceTypes P slot slots done dones wait waits trace) {fuel : Nat} {cs : List Value} {x : DataW H × List MemPlace} (h : DataW.trod enc P w 0 (fun _ => true) true fuel done cs = some x) :
    ∃ p : DoneM, p.wf ∧ cs = [.int .i64 p.task, .int .i64 p.rel, .int .i64 p.fin] := by
  obtain ⟨f0, f1, f2, he, hone, hC, u0, u1, u2⟩ := T.tyDone
  obtain ⟨hl, hf⟩ := field_of he hone hC h
  obtain ⟨v0, _, _, e0, t0⟩ := hf 0 f0 rfl
  obtain ⟨v1, _, _, e1, t1⟩ := hf 1 f1 rfl
  obtain ⟨v2, _, _, e2, t2⟩ := hf 2 f2 rfl
  obtain ⟨z0, rfl, g0⟩ := int_field u0 t0
  obtain ⟨z1, rfl, g1⟩ := int_field u1 t1
  obtain ⟨z2, rfl, g2⟩ := int_field u2 t2
  refine ⟨⟨z0, z1, z2⟩, ⟨i64_of g0, i64_of g1, i64_of g2⟩, ?_⟩
  match cs, hl with
  | [a0, a1, a2], _ => simp at e0 e1 e2; simp [e0, e1, e2]
theorem TraceTypes.open_dones (T : TraceTypes P slot slots done dones wait waits trace) {fuel : Nat} {cs : List Value} {x : DataW H × List MemPlace} (h : DataW.trod enc P w 0 (fun _ => true) true fuel dones cs = some x) :
    ∃ a cap ps, cs = [.slice a ps.length cap] ∧ SlOk a ps.length cap ∧ DonesAt w a ps ∧ ∀ p ∈ ps, DoneM.wf p := by
  obtain ⟨f0, f1, f2, he, hone, hC, u0, u1, u2⟩ := T.tyDone
  obtain ⟨a, len, cap, rfl, hs, hi⟩ := slice_of T.tyDones hC (by omega) h
  rcases hi with rfl | ⟨b, off, rfl, hi⟩
  · exact ⟨a, cap, [], rfl, hs, .inl rfl, by simp⟩
  · have hp : ∀ i, i < len → ∃ p : DoneM, p.wf ∧ DoneCells w b (off + i * 3) p := fun i hlt => by
      obtain ⟨cs', x', n, hl, hc, ht⟩ := hi i hlt
      obtain ⟨p, hw, rfl⟩ := T.open_done ht
      exact ⟨p, hw, hc 0 (by omega), hc 1 (by omega), hc 2 (by omega)⟩
    obtain ⟨f, hf⟩ := choose_lt hp
    have hl : ((List.range len).map f).length = len := by simp
    refine ⟨_, cap, (List.range len).map f, by rw [hl], by rw [hl]; exact hs, .inr ⟨b, off, rfl, fun i hlt => ?_⟩, fun p hp => ?_⟩
    · rw [hl] at hlt
      have := (hf i hlt).2
      simpa [List.getD, hlt] using this
    · obtain ⟨i, hlt, rfl⟩ := List.mem_map.1 hp
      exact (hf i (by simpa using hlt)).1
theorem TraceTypes.open_wait (T : TraceTypes P slot slots done dones wait waits trace) {fuel : Nat} {cs : List Value} {x : DataW H × List MemPlace} (h : DataW.trod enc P w 0 (fun _ => true) true fuel wait cs = some x) :
    ∃ p : WaitM, p.wf ∧ cs = [.int .i64 p.task, .int .i64 p.part, .int .i64 p.ask, .int .i64 p.got, .int .i64 p.fin] := by
  obtain ⟨f0, f1, f2, f3, f4, he, hone, hC, u0, u1, u2, u3, u4⟩ := T.tyWait
  obtain ⟨hl, hf⟩ := field_of he hone hC h
  obtain ⟨v0, _, _, e0, t0⟩ := hf 0 f0 rfl
  obtain ⟨v1, _, _, e1, t1⟩ := hf 1 f1 rfl
  obtain ⟨v2, _, _, e2, t2⟩ := hf 2 f2 rfl
  obtain ⟨v3, _, _, e3, t3⟩ := hf 3 f3 rfl
  obtain ⟨v4, _, _, e4, t4⟩ := hf 4 f4 rfl
  obtain ⟨z0, rfl, g0⟩ := int_field u0 t0
  obtain ⟨z1, rfl, g1⟩ := int_field u1 t1
  obtain ⟨z2, rfl, g2⟩ := int_field u2 t2
  obtain ⟨z3, rfl, g3⟩ := int_field u3 t3
  obtain ⟨z4, rfl, g4⟩ := int_field u4 t4
  refine ⟨⟨z0, z1, z2, z3, z4⟩, ⟨i64_of g0, i64_of g1, i64_of g2, i64_of g3, i64_of g4⟩, ?_⟩
  match cs, hl with
  | [a0, a1, a2, a3, a4], _ => simp at e0 e1 e2 e3 e4; simp [e0, e1, e2, e3, e4]
theorem TraceTypes.open_waits (T : TraceTypes P slot slots done dones wait waits trace) {fuel : Nat} {cs : List Value} {x : DataW H × List MemPlace} (h : DataW.trod enc P w 0 (fun _ => true) true fuel waits cs = some x) :
    ∃ a cap ps, cs = [.slice a ps.length cap] ∧ SlOk a ps.length cap ∧ WaitsAt w a ps ∧ ∀ p ∈ ps, WaitM.wf p := by
  obtain ⟨f0, f1, f2, f3, f4, he, hone, hC, u0, u1, u2, u3, u4⟩ := T.tyWait
  obtain ⟨a, len, cap, rfl, hs, hi⟩ := slice_of T.tyWaits hC (by omega) h
  rcases hi with rfl | ⟨b, off, rfl, hi⟩
  · exact ⟨a, cap, [], rfl, hs, .inl rfl, by simp⟩
  · have hp : ∀ i, i < len → ∃ p : WaitM, p.wf ∧ WaitCells w b (off + i * 5) p := fun i hlt => by
      obtain ⟨cs', x', n, hl, hc, ht⟩ := hi i hlt
      obtain ⟨p, hw, rfl⟩ := T.open_wait ht
      exact ⟨p, hw, hc 0 (by omega), hc 1 (by omega), hc 2 (by omega), hc 3 (by omega), hc 4 (by omega)⟩
    obtain ⟨f, hf⟩ := choose_lt hp
    have hl : ((List.range len).map f).length = len := by simp
    refine ⟨_, cap, (List.range len).map f, by rw [hl], by rw [hl]; exact hs, .inr ⟨b, off, rfl, fun i hlt => ?_⟩, fun p hp => ?_⟩
    · rw [hl] at hlt
      have := (hf i hlt).2
      simpa [List.getD, hlt] using this
    · obtain ⟨i, hlt, rfl⟩ := List.mem_map.1 hp
      exact (hf i (by simpa using hlt)).1
theorem TraceTypes.open_trace (T : TraceTypes P slot slots done dones wait waits trace) {fuel : Nat} {cs : List Value} {x : DataW H × List MemPlace} (h : DataW.trod enc P w 0 (fun _ => true) true fuel trace cs = some x) :
    ∃ s : TraceR, TraceOk w s ∧ cs = [.int .i64 s.ticks, .slice s.sa s.slots.length s.sc, .slice s.ja s.jobs.length s.jc, .slice s.wa s.waits.length s.wc] := by
  obtain ⟨f0, f1, f2, f3, he, hone, hC, u0, u1, u2, u3⟩ := T.tyTrace
  obtain ⟨hl, hf⟩ := field_of he hone hC h
  obtain ⟨v0, _, _, e0, t0⟩ := hf 0 f0 rfl
  obtain ⟨v1, _, _, e1, t1⟩ := hf 1 f1 rfl
  obtain ⟨v2, _, _, e2, t2⟩ := hf 2 f2 rfl
  obtain ⟨v3, _, _, e3, t3⟩ := hf 3 f3 rfl
  obtain ⟨z0, rfl, g0⟩ := int_field u0 t0
  rw [u1] at t1
  rw [u2] at t2
  rw [u3] at t3
  obtain ⟨a1, c1, ss, x1, h1, k1, m1⟩ := T.open_slots t1
  obtain rfl : v1 = .slice a1 ss.length c1 := by injection x1
  obtain ⟨a2, c2, ds, x2, h2, k2, m2⟩ := T.open_dones t2
  obtain rfl : v2 = .slice a2 ds.length c2 := by injection x2
  obtain ⟨a3, c3, ws, x3, h3, k3, m3⟩ := T.open_waits t3
  obtain rfl : v3 = .slice a3 ws.length c3 := by injection x3
  refine ⟨⟨z0, a1, c1, ss, a2, c2, ds, a3, c3, ws⟩, ⟨i64_of g0, h1, k1, m1, h2, k2, m2, h3, k3, m3⟩, ?_⟩
  match cs, hl with
  | [a, b, c, d], _ => simp at e0 e1 e2 e3; simp [e0, e1, e2, e3]
theorem TraceTypes.arg_trace (T : TraceTypes P slot slots done dones wait waits trace) {r : Reach} {b0 : Nat} {v : Value} {d : DataW H} {ps : List MemPlace} (hv : Value.okWide P w r b0 trace v) (h : DataW.Trod enc P w 0 (fun _ => true) true trace v d ps) :
    ∃ s : TraceR, (TraceOk w s) ∧ v = .agg #[.int .i64 s.ticks, .slice s.sa s.slots.length s.sc, .slice s.ja s.jobs.length s.jc, .slice s.wa s.waits.length s.wc] := by
  obtain ⟨f0, f1, f2, f3, he, _⟩ := T.tyTrace
  obtain ⟨cs, rfl, _⟩ := okWide_struct he hv
  obtain ⟨fuel, hf⟩ := h
  obtain ⟨s, hs, e⟩ := T.open_trace hf
  obtain ⟨l⟩ := cs
  refine ⟨s, hs, ?_⟩
  simp [Value.cells] at e
  rw [e]
theorem TraceTypes.arg_wait (T : TraceTypes P slot slots done dones wait waits trace) {r : Reach} {b0 : Nat} {v : Value} {d : DataW H} {ps : List MemPlace} (hv : Value.okWide P w r b0 wait v) (h : DataW.Trod enc P w 0 (fun _ => true) true wait v d ps) :
    ∃ s : WaitM, (s.wf) ∧ v = .agg #[.int .i64 s.task, .int .i64 s.part, .int .i64 s.ask, .int .i64 s.got, .int .i64 s.fin] := by
  obtain ⟨f0, f1, f2, f3, f4, he, _⟩ := T.tyWait
  obtain ⟨cs, rfl, _⟩ := okWide_struct he hv
  obtain ⟨fuel, hf⟩ := h
  obtain ⟨s, hs, e⟩ := T.open_wait hf
  obtain ⟨l⟩ := cs
  refine ⟨s, hs, ?_⟩
  simp [Value.cells] at e
  rw [e]
theorem TraceTypes.arg_done (T : TraceTypes P slot slots done dones wait waits trace) {r : Reach} {b0 : Nat} {v : Value} {d : DataW H} {ps : List MemPlace} (hv : Value.okWide P w r b0 done v) (h : DataW.Trod enc P w 0 (fun _ => true) true done v d ps) :
    ∃ s : DoneM, (s.wf) ∧ v = .agg #[.int .i64 s.task, .int .i64 s.rel, .int .i64 s.fin] := by
  obtain ⟨f0, f1, f2, he, _⟩ := T.tyDone
  obtain ⟨cs, rfl, _⟩ := okWide_struct he hv
  obtain ⟨fuel, hf⟩ := h
  obtain ⟨s, hs, e⟩ := T.open_done hf
  obtain ⟨l⟩ := cs
  refine ⟨s, hs, ?_⟩
  simp [Value.cells] at e
  rw [e]
end
theorem traceTypes : TraceTypes Try.prog 29 30 32 33 35 36 38 where
  tySlots := Try.underlying30
  tySlot := ⟨_, _, _, _, Try.underlying29, by kernel_rfl, by kernel_rfl, Try.underlying3, Try.underlying3, Try.underlying3, Try.underlying4⟩
  tyDones := Try.underlying33
  tyDone := ⟨_, _, _, Try.underlying32, by kernel_rfl, by kernel_rfl, Try.underlying3, Try.underlying3, Try.underlying3⟩
  tyWaits := Try.underlying36
  tyWait := ⟨_, _, _, _, _, Try.underlying35, by kernel_rfl, by kernel_rfl, Try.underlying3, Try.underlying3, Try.underlying3, Try.underlying3, Try.underlying3⟩
  tyTrace := ⟨_, _, _, _, Try.underlying38, by kernel_rfl, by kernel_rfl, Try.underlying3, rfl, rfl, rfl⟩
end Go.Proofs.Ytmchjmgifipfoaa
