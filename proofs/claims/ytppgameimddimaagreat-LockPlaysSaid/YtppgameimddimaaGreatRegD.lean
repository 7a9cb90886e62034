/- A region that draws its order and some of whose last operations (cs) turn what earlier ones load: S0 holds all along, S until the first of those operations. Plain laws over any program. -/
import Derived.Test.YtppgameimddimaaGreatReg
namespace Go.Proofs.YtppgameimddimaaGreat
open Go
/-- is one of cs done? -/
def begunD (cs : List Nat) (listed : Array Bool) : Bool := cs.any fun c => listed.getD c false
theorem begunD_mono {cs : List Nat} {listed : Array Bool} (j : Nat) (h : begunD cs listed = true) : begunD cs (listed.setIfInBounds j true) = true := by
  unfold begunD at h ⊢
  rw [List.any_eq_true] at h ⊢
  obtain ⟨c, hc, h⟩ := h
  refine ⟨c, hc, ?_⟩
  by_cases e : j = c
  · subst e
    have hl : j < listed.size := by
      by_cases x : j < listed.size
      · exact x
      · simp [Array.getD, x] at h
    simp [Array.getD, hl]
  · rw [getD_set_ne false e]; exact h
theorem begunD_not {cs : List Nat} {listed : Array Bool} {j : Nat} (h : begunD cs listed = false) (hj : j ∉ cs) : begunD cs (listed.setIfInBounds j true) = false := by
  cases hb : begunD cs (listed.setIfInBounds j true) with
  | false => rfl
  | true =>
    exfalso
    unfold begunD at h hb
    rw [List.any_eq_true] at hb
    obtain ⟨c, hc, hb⟩ := hb
    have hne : j ≠ c := fun e => hj (by rw [e]; exact hc)
    rw [getD_set_ne false hne] at hb
    have := List.any_eq_false.1 h c hc
    exact this hb
/-- whatever order is picked; S0 holds behind each operation, S as long as none of cs is done -/
def wpAnyD (P : Program) (md : Region.Mode) (ops : Array Oper) (Q : Exit → Act → World → Prop) (S0 S : World → Prop) (cs : List Nat) : Nat → Array Bool → Act → World → Prop
  | 0, listed, a, w => Region.ready md ops listed = [] ∧ Q .normal a w
  | fuel + 1, listed, a, w =>
    (Region.ready md ops listed = [] → Q .normal a w) ∧
    ∀ i ∈ Region.ready md ops listed, wpOp P ops Q i (fun a' w' => S0 w' ∧ (begunD cs (listed.setIfInBounds i true) = true ∨ S w') ∧ wpAnyD P md ops Q S0 S cs fuel (listed.setIfInBounds i true) a' w') a w
section
variable {P : Program} {ops : Array Oper} {Q : Exit → Act → World → Prop} {md : Region.Mode} {S0 S : World → Prop} {cs : List Nat}
theorem wpAny_of_d : ∀ (fuel : Nat) (listed : Array Bool) (a : Act) (w : World), wpAnyD P md ops Q S0 S cs fuel listed a w → wpAny P md ops Q fuel listed a w
  | 0, _, _, _, h => h
  | fuel + 1, _, _, _, h => ⟨h.1, fun i hi => wpOp_mono (fun a' w' h' => wpAny_of_d fuel _ a' w' h'.2.2) (h.2 i hi)⟩
/-- o waits for number i -/
def waitsForD (md : Region.Mode) (o : Oper) (i : Nat) : Bool := o.after.any fun e => Region.binds md e && e.on == i
/-- what yields wherever S0 holds -/
theorem wpAnyD_first0 {i : Nat} {oi : Oper} {v : Value} (hi : ops[i]? = some oi) (hnoc : i ∉ cs) (hsel : ∀ (j : Nat) (o : Oper) cs b, ops[j]? = some o → o.op ≠ .select cs b)
    (hQ : ∀ c a w, Q (.panic c) (a.put oi.dst v) w → Q (.panic c) a w) :
    ∀ (fuel : Nat) (listed : Array Bool) (a : Act) (w : World),
      (∀ j oj, ops[j]? = some oj → j ≠ i → listed.getD j true = false → (∀ e ∈ oj.after, Region.binds md e = true → e.on ≠ i) → oi.apart ops oj = true) →
      i ∈ Region.ready md ops listed → YieldsIf P ops S0 oi v a → S0 w → (begunD cs listed = true ∨ S w) →
      wpAnyD P md ops Q S0 S cs fuel (listed.setIfInBounds i true) (a.put oi.dst v) w → wpAnyD P md ops Q S0 S cs (fuel + 1) listed a w := by
  intro fuel
  induction fuel with
  | zero =>
    intro listed a w _ hr hy hS hI H
    refine ⟨fun h => (by rw [h] at hr; cases hr), fun j hj => ?_⟩
    by_cases hji : j = i
    · subst hji; exact hy.wpOp hi hS ⟨hS, hI.imp_left (begunD_mono _), H⟩
    · have := ready_mono hj hji
      rw [H.1] at this
      cases this
  | succ fuel ih =>
    intro listed a w hfree hr hy hS hI H
    refine ⟨fun h => (by rw [h] at hr; cases hr), fun j hj => ?_⟩
    by_cases hji : j = i
    · subst hji; exact hy.wpOp hi hS ⟨hS, hI.imp_left (begunD_mono _), H⟩
    · have h1 := H.2 j (ready_mono hj hji)
      obtain ⟨hjun, oj, hoj, hall⟩ := mem_ready.1 hj
      have hnot : ∀ e ∈ oj.after, Region.binds md e = true → e.on ≠ i := fun e he hb heq => by
        have h1 := hall e he hb
        have h0 := (mem_ready.1 hr).1
        rw [heq] at h1
        rcases Nat.lt_or_ge i listed.size with h' | h'
        · simp [h'] at h0 h1; rw [h0] at h1; cases h1
        · simp [Array.getElem?_eq_none h'] at h1
      have h2 := wpOp_putIf hoj (hfree j oj hoj hji hjun hnot) (fun cs b => hsel i oi cs b hi) (fun cs b => hsel j oj cs b hoj) hQ hy h1
      have hfree' : ∀ k ok, ops[k]? = some ok → k ≠ i → (listed.setIfInBounds j true).getD k true = false →
          (∀ e ∈ ok.after, Region.binds md e = true → e.on ≠ i) → oi.apart ops ok = true := fun k ok hk hki hun hno => by
        refine hfree k ok hk hki ?_ hno
        by_cases hjk : j = k
        · subst hjk; exact hjun
        · rw [getD_set_ne true hjk] at hun; exact hun
      refine wpOp_mono (fun a' w' h3 => ?_) h2
      have hI2 : begunD cs (listed.setIfInBounds j true) = true ∨ S w' := by
        rcases h3.2.2.1 with h | h
        · by_cases hb : begunD cs (listed.setIfInBounds j true) = true
          · exact .inl hb
          · have hb : begunD cs (listed.setIfInBounds j true) = false := by simpa using hb
            rw [Array.setIfInBounds_comm _ _ (Ne.symm hji), begunD_not hb hnoc] at h; cases h
        · exact .inr h
      refine ⟨h3.2.1, hI2, ih (listed.setIfInBounds j true) a' w' hfree' (ready_mono hr (Ne.symm hji)) h3.1 h3.2.1 hI2 ?_⟩
      rw [Array.setIfInBounds_comm _ _ hji]
      exact h3.2.2.2
/-- what yields wherever S0 and S hold, and each of cs waits for -/
theorem wpAnyD_first {i : Nat} {oi : Oper} {v : Value} (hi : ops[i]? = some oi) (hwc : ∀ c ∈ cs, ∀ oc, ops[c]? = some oc → waitsForD md oc i = true) (hsel : ∀ (j : Nat) (o : Oper) cs b, ops[j]? = some o → o.op ≠ .select cs b)
    (hQ : ∀ c a w, Q (.panic c) (a.put oi.dst v) w → Q (.panic c) a w) :
    ∀ (fuel : Nat) (listed : Array Bool) (a : Act) (w : World),
      (∀ j oj, ops[j]? = some oj → j ≠ i → listed.getD j true = false → (∀ e ∈ oj.after, Region.binds md e = true → e.on ≠ i) → oi.apart ops oj = true) →
      i ∈ Region.ready md ops listed → YieldsIf P ops (fun w => S0 w ∧ S w) oi v a → S0 w → S w → begunD cs listed = false →
      wpAnyD P md ops Q S0 S cs fuel (listed.setIfInBounds i true) (a.put oi.dst v) w → wpAnyD P md ops Q S0 S cs (fuel + 1) listed a w := by
  intro fuel
  induction fuel with
  | zero =>
    intro listed a w _ hr hy hS hI hB H
    refine ⟨fun h => (by rw [h] at hr; cases hr), fun j hj => ?_⟩
    by_cases hji : j = i
    · subst hji; exact hy.wpOp hi ⟨hS, hI⟩ ⟨hS, .inr hI, H⟩
    · have := ready_mono hj hji
      rw [H.1] at this
      cases this
  | succ fuel ih =>
    intro listed a w hfree hr hy hS hI hB H
    refine ⟨fun h => (by rw [h] at hr; cases hr), fun j hj => ?_⟩
    by_cases hji : j = i
    · subst hji; exact hy.wpOp hi ⟨hS, hI⟩ ⟨hS, .inr hI, H⟩
    · have h1 := H.2 j (ready_mono hj hji)
      obtain ⟨hjun, oj, hoj, hall⟩ := mem_ready.1 hj
      have hnot : ∀ e ∈ oj.after, Region.binds md e = true → e.on ≠ i := fun e he hb heq => by
        have h1 := hall e he hb
        have h0 := (mem_ready.1 hr).1
        rw [heq] at h1
        rcases Nat.lt_or_ge i listed.size with h' | h'
        · simp [h'] at h0 h1; rw [h0] at h1; cases h1
        · simp [Array.getElem?_eq_none h'] at h1
      have hjc : j ∉ cs := fun e => by
        have hwc := hwc j e oj hoj
        unfold waitsForD at hwc
        rw [Array.any_eq_true] at hwc
        obtain ⟨n, hn, h⟩ := hwc
        rw [Bool.and_eq_true] at h
        exact hnot oj.after[n] (Array.getElem_mem hn) h.1 (by simpa using h.2)
      have hB2 := begunD_not hB hjc
      have h2 := wpOp_putIf hoj (hfree j oj hoj hji hjun hnot) (fun cs b => hsel i oi cs b hi) (fun cs b => hsel j oj cs b hoj) hQ hy h1
      have hfree' : ∀ k ok, ops[k]? = some ok → k ≠ i → (listed.setIfInBounds j true).getD k true = false →
          (∀ e ∈ ok.after, Region.binds md e = true → e.on ≠ i) → oi.apart ops ok = true := fun k ok hk hki hun hno => by
        refine hfree k ok hk hki ?_ hno
        by_cases hjk : j = k
        · subst hjk; exact hjun
        · rw [getD_set_ne true hjk] at hun; exact hun
      refine wpOp_mono (fun a' w' h3 => ?_) h2
      have hic : i ∉ cs := fun e => by
        have hwc := hwc i e oi hi
        unfold waitsForD at hwc
        rw [Array.any_eq_true] at hwc
        obtain ⟨n, hn, h⟩ := hwc
        rw [Bool.and_eq_true] at h
        obtain ⟨hun, oi', hoi', hall'⟩ := mem_ready.1 hr
        rw [hi] at hoi'
        injection hoi' with hoi'
        subst hoi'
        have h1 := hall' oi.after[n] (Array.getElem_mem hn) h.1
        rw [show oi.after[n].on = i by simpa using h.2] at h1
        rcases Nat.lt_or_ge i listed.size with h' | h'
        · simp [h'] at hun h1; rw [hun] at h1; cases h1
        · simp [Array.getElem?_eq_none h'] at h1
      have hSw : S w' := by
        rcases h3.2.2.1 with h | h
        · rw [Array.setIfInBounds_comm _ _ (Ne.symm hji), begunD_not hB2 hic] at h; cases h
        · exact h
      refine ⟨h3.2.1, .inr hSw, ih (listed.setIfInBounds j true) a' w' hfree' (ready_mono hr (Ne.symm hji)) h3.1 h3.2.1 hSw hB2 ?_⟩
      rw [Array.setIfInBounds_comm _ _ hji]
      exact h3.2.2.2
theorem wpAnyD_take0 {i : Nat} {oi : Oper} {v : Value} {fuel : Nat} {listed : Array Bool} {a : Act} {w : World} (hi : ops[i]? = some oi) (hnoc : i ∉ cs)
    (hs : Region.noSelect ops = true) (hf : Region.free md ops listed i = true) (hr : (Region.ready md ops listed).contains i = true)
    (hQ : ∀ c a w, Q (.panic c) (a.put oi.dst v) w → Q (.panic c) a w) (hy : YieldsIf P ops S0 oi v a) (hS0 : S0 w) (hS : S w)
    (h : wpAnyD P md ops Q S0 S cs fuel (listed.setIfInBounds i true) (a.put oi.dst v) w) : wpAnyD P md ops Q S0 S cs (fuel + 1) listed a w :=
  wpAnyD_first0 hi hnoc (Region.noSelect_spec hs) hQ fuel listed a w (Region.free_spec hi hf) (by simpa using hr) hy hS0 (.inr hS) h
theorem wpAnyD_take {i : Nat} {oi : Oper} {v : Value} {fuel : Nat} {listed : Array Bool} {a : Act} {w : World} (hi : ops[i]? = some oi) (hwc : (cs.all fun c => (ops[c]?).all fun oc => waitsForD md oc i) = true)
    (hs : Region.noSelect ops = true) (hf : Region.free md ops listed i = true) (hr : (Region.ready md ops listed).contains i = true) (hB : begunD cs listed = false)
    (hQ : ∀ c a w, Q (.panic c) (a.put oi.dst v) w → Q (.panic c) a w) (hy : YieldsIf P ops (fun w => S0 w ∧ S w) oi v a) (hS0 : S0 w) (hS : S w)
    (h : wpAnyD P md ops Q S0 S cs fuel (listed.setIfInBounds i true) (a.put oi.dst v) w) : wpAnyD P md ops Q S0 S cs (fuel + 1) listed a w :=
  wpAnyD_first hi (fun c hc oc ho => by have := List.all_eq_true.1 hwc c hc; rw [ho] at this; simpa using this) (Region.noSelect_spec hs) hQ fuel listed a w (Region.free_spec hi hf) (by simpa using hr) hy hS0 hS hB h
def AllReadyD (P : Program) (md : Region.Mode) (ops : Array Oper) (Q : Exit → Act → World → Prop) (S0 S : World → Prop) (cs : List Nat) (fuel : Nat) (listed : Array Bool) (a : Act) (w : World) (rs : List Nat) : Prop :=
  ∀ i ∈ rs, wpOp P ops Q i (fun a' w' => S0 w' ∧ (begunD cs (listed.setIfInBounds i true) = true ∨ S w') ∧ wpAnyD P md ops Q S0 S cs fuel (listed.setIfInBounds i true) a' w') a w
theorem AllReadyD.nil {fuel : Nat} {listed : Array Bool} {a : Act} {w : World} : AllReadyD P md ops Q S0 S cs fuel listed a w [] := fun _ h => by cases h
/-- an operation behind which one of cs is done: S0 alone is asked -/
theorem AllReadyD.last {c : Nat} {fuel : Nat} {listed : Array Bool} {a : Act} {w : World} {o : Oper} (hb : begunD cs (listed.setIfInBounds c true) = true) (ho : ops[c]? = some o)
    (h : ∀ K' : Act → World → Prop, Shut (∀ a w, S0 w → wpAnyD P md ops Q S0 S cs fuel (listed.setIfInBounds c true) a w → K' a w) → if Region.wanted o (yielded ops a.tmps) = true then Oper.wp P o a w K' Q else K' (a.put o.dst undef) w) : AllReadyD P md ops Q S0 S cs fuel listed a w [c] := fun j hj => by
  rcases List.mem_cons.1 hj with rfl | hj
  · exact wpOp_step ho (fun K' hK => h K' (fun a w hS hW => hK a w ⟨hS, .inl hb, hW⟩))
  · cases hj
theorem wpAnyD_ready {rs : List Nat} {fuel : Nat} {listed : Array Bool} {a : Act} {w : World} (hr : Region.ready md ops listed = rs) (hne : rs ≠ [])
    (h : AllReadyD P md ops Q S0 S cs fuel listed a w rs) : wpAnyD P md ops Q S0 S cs (fuel + 1) listed a w := ⟨fun h0 => absurd (hr ▸ h0) hne, hr ▸ h⟩
theorem wpAnyD_done {listed : Array Bool} {a : Act} {w : World} (hr : Region.ready md ops listed = []) (h : Q .normal a w) :
    ∀ fuel, wpAnyD P md ops Q S0 S cs fuel listed a w
  | 0 => ⟨hr, h⟩
  | _ + 1 => ⟨fun _ => h, by rw [hr]; simp⟩
/-- the beginning -/
theorem wp_region_d_drew (cs : List Nat) {id : Nat} {a : Act} {w : World} (hm : P.follows .mixedOrders = true) (hS0 : S0 w.drew) (hS : S w.drew)
    (h : S0 w.drew → S w.drew → wpAnyD P .any ops Q S0 S cs ops.size (Array.replicate ops.size false) a w.drew) : (Code.region id ops true).wp P Q a w :=
  wp_region_any hm (wpAny_of_d _ _ _ _ (h hS0 hS))
end
end Go.Proofs.YtppgameimddimaaGreat
