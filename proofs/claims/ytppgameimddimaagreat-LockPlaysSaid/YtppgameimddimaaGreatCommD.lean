/- A region that draws its order and whose last operation, a communication, waits for all the others: whatever order comes up, the communication comes last. -/
import Derived.Test.YtppgameimddimaaGreatComm
import Derived.OrdersHeld
namespace Go.Proofs.YtppgameimddimaaGreat
open Go.Conc
set_option linter.unusedVariables false
section
variable {P : Program} {ops : Array Oper} {Q : Exit → Act → World → Prop} {rest : List Nat} {a : Act} {w : World} {i c : Nat}
/-- one operation as 'wpOp' tells it, then the others -/
theorem wpS_op (h : wpOp P ops Q i (WpS P ops Q rest) a w) : WpS P ops Q (i :: rest) a w := by
  intro b k cs
  unfold wpOp at h
  cases ho : ops[i]? with
  | none =>
    simp only [ho] at h
    obtain ⟨e, a', w', hq, harr⟩ := h b k cs
    have hs := step_op_skip (P := P) (b := b) (a := a) (k := k) (cs := cs) (w := w) (ops := ops) (i := i) (rest := rest) (by simp [ho])
    simp only [ho, Option.bind_none, Act.put] at hs
    exact ⟨e, a', w', hq, .of_steps (.one hs) harr⟩
  | some o =>
    simp only [ho] at h
    by_cases hw : Region.wanted o (yielded ops a.tmps) = true
    · simp only [hw, if_true] at h
      have hfin : ∀ (a : Act) (v : Value), (b.at a (.inRegion ops (i :: rest) :: k)).finish v = b.at (a.put o.dst v) (.inRegion ops rest :: k) := fun a v => by
        rw [Frame.finish_at, ho]; rfl
      have hg := stepG_op (P := P) (b := b) (k := k) (cs := cs) (w := w) (rest := rest) ho hw
      rcases h with h | ⟨hasks, a₀, w₀, hq⟩
      · unfold Oper.wp at h
        generalize hr : (execOp a.eval o).run P w = r at h
        cases r with
        | ok x w' =>
          cases x <;> simp only [Oper.upon] at h
          case value v =>
            obtain ⟨e, a', w2, hq, harr⟩ := h b k cs
            exact ⟨e, a', w2, hq, .of_steps (.one (step_lone_go (by rw [hg, ← hfin]; simp [stepG.apply, hr]))) harr⟩
          case skip =>
            obtain ⟨e, a', w2, hq, harr⟩ := h b k cs
            exact ⟨e, a', w2, hq, .of_steps (.one (step_lone_go (by rw [hg, ← hfin]; simp [stepG.apply, hr]))) harr⟩
          case defer d =>
            obtain ⟨e, a', w2, hq, harr⟩ := h b k cs
            refine ⟨e, a', w2, hq, .of_steps (.one (step_lone_go ?_)) harr⟩
            rw [hg]; simp only [stepG.apply, Sem.runT_eq, hr, GStep.bare_after]
            exact congrArg (fun fr => GStep.go { frame := fr, callers := cs, status := .running, dying := none } w') (hfin { a with defers := d :: a.defers } undef)
          case enter f args =>
            obtain ⟨e, w2, fr, hR, hsteps, _, hleave⟩ := h (b.at a (.inRegion ops (i :: rest) :: k) :: cs)
            have henter : step P (lone (b.at a (.inRegion ops (i :: rest) :: k)) cs w) = .next (lone (Frame.enter P f args .normal) (b.at a (.inRegion ops (i :: rest) :: k) :: cs) w') :=
              step_lone_go (by rw [hg]; simp [stepG.apply, hr, Frame.at])
            cases e with
            | returned v =>
              obtain ⟨e, a', w3, hq, harr⟩ := hR b k cs
              refine ⟨e, a', w3, hq, .of_steps (.head henter (hsteps.trans (.one ?_))) harr⟩
              rw [← hfin]; exact step_leave_returned hleave
            | panicked chain =>
              refine ⟨.panic chain, a, w2, hR, .inRegion ops (i :: rest) :: k, .head henter (hsteps.trans (.one ?_))⟩
              rw [← Frame.raise_at]; exact step_leave_panicked hleave
            | outgrown =>
              obtain ⟨a₀, w₀, hq⟩ := hR
              exact ⟨.outgrown, a₀, w₀, hq, .inr (Outgrown.of_steps (.one henter) hsteps)⟩
          case row row args =>
            obtain ⟨v, w2, hR, hsteps⟩ := h (b.at a (.inRegion ops (i :: rest) :: k)) cs
            have henter : step P (lone (b.at a (.inRegion ops (i :: rest) :: k)) cs w) = .next (lone (Frame.ofRow P row args .normal) (b.at a (.inRegion ops (i :: rest) :: k) :: cs) w') :=
              step_lone_go (by rw [hg]; simp [stepG.apply, hr, Frame.at])
            obtain ⟨e, a', w3, hq, harr⟩ := hR b k cs
            refine ⟨e, a', w3, hq, .of_steps (.head henter ?_) harr⟩
            rw [← hfin]; exact hsteps
        | halt x w' =>
          cases x <;> simp only [Oper.upon] at h
          case panic v =>
            refine ⟨_, a, w', h, .inRegion ops (i :: rest) :: k, .one (step_lone_go ?_)⟩
            rw [hg, ← Frame.raise_at]; simp [stepG.apply, hr]
      · by_cases hk : b.kind = .early
        · exact ⟨.outgrown, a₀, w₀, hq, .inl hk⟩
        · exact ⟨.outgrown, a₀, w₀, hq, .inr (asks_outgrown ho hw hk hasks)⟩
    · simp only [hw, if_false, Bool.false_eq_true] at h
      obtain ⟨e, a', w', hq, harr⟩ := h b k cs
      have hs := step_op_skip (P := P) (b := b) (a := a) (k := k) (cs := cs) (w := w) (ops := ops) (i := i) (rest := rest) (by simp [ho]; simpa using hw)
      simp only [ho, Option.bind_some] at hs
      exact ⟨e, a', w', hq, .of_steps (.one hs) harr⟩
/-- what is asked of the state ahead of the last operation -/
def LastQ (P : Program) (ops : Array Oper) (Q : Exit → Act → World → Prop) (c : Nat) : Exit → Act → World → Prop
  | .normal => WpS P ops Q [c]
  | e => Q e
theorem letsOut_last (h : LetsOut (LastQ P ops Q c)) : LetsOut Q := h
theorem wpOp_last {K : Act → World → Prop} (h : wpOp P ops (LastQ P ops Q c) i K a w) : wpOp P ops Q i K a w := by
  unfold wpOp at *
  cases ho : ops[i]? with
  | none => simpa only [ho] using h
  | some o =>
    simp only [ho] at h ⊢
    split
    · rename_i hw
      simp only [hw, if_true] at h
      rcases h with h | ⟨h1, h2⟩
      · refine .inl ?_
        unfold Oper.wp at *
        generalize (execOp a.eval o).run P w = r at *
        cases r with
        | ok x w' =>
          cases x <;> simp only [Oper.upon] at h ⊢ <;> first
            | exact h
            | exact Calls.mono h fun e w2 he => by cases e <;> exact he
        | halt x w' => cases x <;> simp only [Oper.upon] at h ⊢ <;> exact h
      · exact .inr ⟨h1, h2⟩
    · rename_i hw; simpa only [hw, if_false, Bool.false_eq_true] using h
/-- every operation waits for such ahead of it only; each but the last one is waited for by one behind it -/
def lastWaits (ops : Array Oper) (c : Nat) : Bool :=
  c + 1 == ops.size && (List.range ops.size).all (fun j => match ops[j]? with | some o => o.after.all (fun e => decide (e.on < j)) | none => true) &&
    (List.range c).all (fun j => (List.range ops.size).any (fun k => decide (j < k) && match ops[k]? with | some o => o.after.any (fun e => Region.binds .any e && e.on == j) | none => false))
theorem lastWaits_spec (h : lastWaits ops c = true) : c + 1 = ops.size ∧ (∀ (j : Nat) (o : Oper), ops[j]? = some o → ∀ e ∈ o.after, e.on < j) ∧ ∀ j < c, ∃ (k : Nat) (o : Oper), j < k ∧ k ≤ c ∧ ops[k]? = some o ∧ ∃ e ∈ o.after, Region.binds .any e = true ∧ e.on = j := by
  unfold lastWaits at h
  simp only [Bool.and_eq_true, beq_iff_eq, List.all_eq_true, List.mem_range] at h
  refine ⟨h.1.1, fun j o ho e he => ?_, fun j hj => ?_⟩
  · have hjs : j < ops.size := (Array.getElem?_eq_some_iff.1 ho).1
    have := h.1.2 j hjs
    rw [ho] at this
    simpa using (Array.all_eq_true_iff_forall_mem.1 this) e he
  · have := h.2 j hj
    rw [List.any_eq_true] at this
    obtain ⟨k, hk, hkk⟩ := this
    rw [List.mem_range] at hk
    rw [Bool.and_eq_true] at hkk
    obtain ⟨hjk, hkk⟩ := hkk
    have ho : ops[k]? = some ops[k] := Array.getElem?_eq_getElem hk
    rw [ho] at hkk
    obtain ⟨q, hq, h1⟩ := Array.any_eq_true.1 hkk
    simp only [Bool.and_eq_true, beq_iff_eq] at h1
    exact ⟨k, ops[k], of_decide_eq_true hjk, by omega, ho, (ops[k]).after[q], Array.getElem_mem hq, h1⟩
section
variable {listed : Array Bool}
theorem ready_none (hd : ∀ (j : Nat) (o : Oper), ops[j]? = some o → ∀ e ∈ o.after, e.on < j) (hs : listed.size = ops.size) (h : Region.ready .any ops listed = []) : ∀ j < ops.size, listed.getD j false = true := by
  intro j
  induction j using Nat.strongRecOn with
  | ind j ih =>
    intro hj
    cases hl : listed.getD j false with
    | true => rfl
    | false =>
      exfalso
      have ho : ops[j]? = some ops[j] := Array.getElem?_eq_getElem hj
      have hmem : j ∈ Region.ready .any ops listed := mem_ready.2 ⟨by
        have hjs : j < listed.size := by omega
        simp only [Array.getD, hjs, dif_pos] at hl ⊢
        exact hl, ops[j], ho, fun e he _ => ih _ (hd j _ ho e he) (by have := hd j _ ho e he; omega)⟩
      rw [h] at hmem
      cases hmem
theorem ready_all (h : ∀ j < ops.size, listed.getD j true = true) : Region.ready .any ops listed = [] := by
  refine List.eq_nil_iff_forall_not_mem.2 fun j hj => ?_
  obtain ⟨h1, o, ho, -⟩ := mem_ready.1 hj
  rw [h j (Array.getElem?_eq_some_iff.1 ho).1] at h1
  cases h1
theorem getD_tt {j : Nat} (hj : j < listed.size) (d e : Bool) : listed.getD j d = listed.getD j e := by
  simp [Array.getD, hj]
theorem last_sound (hw : lastWaits ops c = true) : ∀ (fuel t : Nat) (listed : Array Bool) (a : Act) (w : World), listed.size = ops.size → listed.getD c true = false →
    (∀ (j : Nat) (o : Oper), ops[j]? = some o → listed.getD j false = true → ∀ e ∈ o.after, Region.binds .any e = true → listed.getD e.on false = true) →
    wpAny P .any ops (LastQ P ops Q c) fuel (listed.setIfInBounds c true) a w → WpS P ops Q (Region.linearise.go .any ops (fuel + 1) t listed []) a w := by
  obtain ⟨hc, hd, ha⟩ := lastWaits_spec hw
  have hoc : ops[c]? = some ops[c] := Array.getElem?_eq_getElem (by omega)
  -- where nothing else is left
  have hend : ∀ (fuel t : Nat) (listed : Array Bool) (a : Act) (w : World), listed.size = ops.size → listed.getD c true = false → Region.ready .any ops (listed.setIfInBounds c true) = [] → WpS P ops Q [c] a w → WpS P ops Q (Region.linearise.go .any ops (fuel + 1) t listed []) a w := by
    intro fuel t listed a w hs hl hr h
    have hall := ready_none hd (by simpa using hs) hr
    have hother : ∀ j < ops.size, j ≠ c → listed.getD j false = true := fun j hj hne => by
      have := hall j hj
      rwa [getD_set_ne false (Ne.symm hne)] at this
    have hrc : Region.ready .any ops listed = [c] := by
      have hmem : c ∈ Region.ready .any ops listed := mem_ready.2 ⟨hl, ops[c], hoc, fun e he _ => hother _ (by have := hd c _ hoc e he; omega) (by have := hd c _ hoc e he; omega)⟩
      have hsub : ∀ j ∈ Region.ready .any ops listed, j = c := fun j hj => by
        obtain ⟨h1, o, ho, -⟩ := mem_ready.1 hj
        have hjs := (Array.getElem?_eq_some_iff.1 ho).1
        by_cases hne : j = c
        · exact hne
        · have := hother j hjs hne
          rw [getD_tt (by omega) false true, h1] at this
          cases this
      have hnd : (Region.ready .any ops listed).Nodup := (List.nodup_range).filter _
      generalize Region.ready .any ops listed = l at *
      cases l with
      | nil => cases hmem
      | cons x xs =>
        cases xs with
        | nil => rw [hsub x (by simp)]
        | cons y ys =>
          have hx := hsub x (by simp)
          have hy := hsub y (by simp)
          subst hx; subst hy
          simp at hnd
    have hnil : ∀ (f t : Nat) (acc : List Nat), Region.linearise.go .any ops f t (listed.setIfInBounds c true) acc = acc.reverse := by
      intro f t acc
      cases f with
      | zero => rfl
      | succ f =>
        simp only [Region.linearise.go]
        change (match (Region.ready .any ops (listed.setIfInBounds c true))[t % (Region.ready .any ops (listed.setIfInBounds c true)).length]? with
          | some i => Region.linearise.go .any ops f (t / (Region.ready .any ops (listed.setIfInBounds c true)).length) ((listed.setIfInBounds c true).setIfInBounds i true) (i :: acc)
          | none => acc.reverse) = _
        rw [hr]
        rfl
    simp only [Region.linearise.go]
    change WpS P ops Q (match (Region.ready .any ops listed)[t % (Region.ready .any ops listed).length]? with
      | some i => Region.linearise.go .any ops fuel (t / (Region.ready .any ops listed).length) (listed.setIfInBounds i true) [i]
      | none => [].reverse) a w
    rw [hrc]
    simp only [List.length_singleton, Nat.mod_one, List.getElem?_cons_zero, hnil]
    exact h
  intro fuel
  induction fuel with
  | zero => intro t listed a w hs hl hcl0 h; exact hend 0 t listed a w hs hl h.1 h.2
  | succ fuel ih =>
    intro t listed a w hs hl hcl0 h
    by_cases hr : Region.ready .any ops (listed.setIfInBounds c true) = []
    · exact hend _ t listed a w hs hl hr (h.1 hr)
    · have hcl : (listed.setIfInBounds c true).getD c false = true := by simp [show c < listed.size by omega]
      -- the last one isn't ready yet
      have hrr : Region.ready .any ops listed = Region.ready .any ops (listed.setIfInBounds c true) := by
        unfold Region.ready
        refine List.filter_congr fun j hj => ?_
        have hjs : j < ops.size := by simpa using hj
        by_cases hjc : j = c
        · subst hjc
          have h1 : (listed.setIfInBounds j true).getD j true = true := by simp [show j < listed.size by omega]
          rw [h1, hl]
          simp only [Bool.not_true, Bool.false_and, Bool.not_false, Bool.true_and]
          rw [Array.getElem?_eq_getElem hjs]
          simp only [Option.map_some, Option.getD_some]
          rw [Bool.eq_false_iff]
          intro hall
          refine hr (ready_all fun i hi => ?_)
          by_cases hij : i = j
          · subst hij; exact h1
          · have key : ∀ d i, i + d = j → i < j → listed.getD i false = true := by
              intro d
              induction d using Nat.strongRecOn with
              | ind d ihd =>
                intro i hid hij
                obtain ⟨k, o, hik, hkc, hok, e, he, hb, hon⟩ := ha i hij
                by_cases hkj : k = j
                · subst hkj
                  have hoe : o = ops[k] := by rw [Array.getElem?_eq_getElem hjs] at hok; exact (Option.some.inj hok).symm
                  subst hoe
                  have := (Array.all_eq_true_iff_forall_mem.1 hall) e he
                  rw [hb, hon] at this
                  simpa using this
                · have := hcl0 k o hok (ihd (j - k) (by omega) k (by omega) (by omega)) e he hb
                  rwa [hon] at this
            rw [getD_set_ne true (Ne.symm hij), getD_tt (by omega) true false]
            exact key (j - i) i (by omega) (by omega)
        · rw [getD_set_ne true (Ne.symm hjc), Array.getElem?_eq_getElem hjs]
          congr 1
          simp only [Option.map_some, Option.getD_some]
          rw [Bool.eq_iff_iff, Array.all_eq_true_iff_forall_mem, Array.all_eq_true_iff_forall_mem]
          refine forall_congr' fun e => forall_congr' fun he => ?_
          have := hd j _ (Array.getElem?_eq_getElem hjs) e he
          rw [getD_set_ne false (show c ≠ e.on by omega)]
      simp only [Region.linearise.go]
      change WpS P ops Q (match (Region.ready .any ops listed)[t % (Region.ready .any ops listed).length]? with
        | some i => Region.linearise.go .any ops (fuel + 1) (t / (Region.ready .any ops listed).length) (listed.setIfInBounds i true) [i]
        | none => [].reverse) a w
      rw [hrr]
      generalize hrs : Region.ready .any ops (listed.setIfInBounds c true) = rs at *
      cases hi : rs[t % rs.length]? with
      | none =>
        exfalso
        have hlen : 0 < rs.length := List.length_pos_iff.2 hr
        rw [List.getElem?_eq_none_iff] at hi
        have := Nat.mod_lt t hlen
        omega
      | some i =>
        simp only []
        rw [linearise_go_acc, List.reverse_singleton, List.singleton_append]
        have him := List.mem_of_getElem? hi
        have hic : i ≠ c := fun e => by
          rw [← hrs] at him
          have := (mem_ready.1 him).1
          rw [e, getD_tt (by simp; omega) true false, hcl] at this
          cases this
        refine wpS_op (wpOp_last (wpOp_mono (fun a w h => ?_) (h.2 i (hrs ▸ him))))
        refine ih _ _ a w (by simpa using hs) (by rw [getD_set_ne true hic]; exact hl) (fun j o ho hj e he hb => ?_) ?_
        · by_cases hji : j = i
          · subst hji
            rw [← hrs] at him
            obtain ⟨-, o', ho', hall⟩ := mem_ready.1 him
            rw [ho] at ho'
            obtain rfl := Option.some.inj ho'
            have h1 := hall e he hb
            have h2 := hd j _ ho e he
            have hjs := (Array.getElem?_eq_some_iff.1 ho).1
            rw [getD_set_ne false (show c ≠ e.on by omega)] at h1
            rw [getD_set_ne false (show j ≠ e.on by omega)]
            exact h1
          · rw [getD_set_ne false (Ne.symm hji)] at hj
            have h1 := hcl0 j o ho hj e he hb
            exact getD_set_true h1
        · rwa [Array.setIfInBounds_comm _ _ hic]
end
/-- A REGION THAT DRAWS ITS ORDER, WHOSE LAST OPERATION COMMUNICATES AND WAITS FOR ALL THE OTHERS: the others in any order, then that one. -/
theorem wp_region_last {S : World → Prop} {id : Nat} (c : Nat) (hm : P.follows .mixedOrders = true) (hw : lastWaits ops c = true)
    (h : wpAnyH P .any ops (LastQ P ops Q c) S c ((Array.replicate ops.size false).setIfInBounds c true) a { w with drawn := w.drawn + 1 }) : (Code.region id ops true).wp P Q a w := by
  intro b k cs
  have hc := (lastWaits_spec hw).1
  have H : ∀ t, WpS P ops Q (Region.schedule (P.follows .mixedOrders) ops t) a { w with drawn := w.drawn + 1 } := fun t => by
    simp only [Region.schedule, hm, Bool.true_or, if_true]
    unfold Region.linearise
    rw [← hc] at h ⊢
    exact last_sound hw c t _ a _ (by simp [hc]) (by simp) (fun j o ho hj => by simp [Array.getD] at hj) (wpAny_of_held _ _ _ _ h)
  obtain ⟨e, a', w', q, r⟩ := H _ b k cs
  exact ⟨e, a', w', q, .of_steps (.one step_region_draw) r⟩
theorem wp_region_last_drew {S : World → Prop} {id : Nat} (c : Nat) (hm : P.follows .mixedOrders = true) (hw : lastWaits ops c = true) (hS : S w.drew)
    (h : S w.drew → wpAnyH P .any ops (LastQ P ops Q c) S c ((Array.replicate ops.size false).setIfInBounds c true) a w.drew) : (Code.region id ops true).wp P Q a w := wp_region_last c hm hw (h hS)
theorem last_done {S : World → Prop} {listed : Array Bool} (hr : Region.ready .any ops listed = []) (h : WpS P ops Q [c] a w) : ∀ fuel, wpAnyH P .any ops (LastQ P ops Q c) S fuel listed a w := wpAnyH_done hr h
end
end Go.Proofs.YtppgameimddimaaGreat
