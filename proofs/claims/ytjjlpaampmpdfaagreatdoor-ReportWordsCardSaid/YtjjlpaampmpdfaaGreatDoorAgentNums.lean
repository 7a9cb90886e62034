/- agent: the numbers: rivals, what they do in a window, the least window that is enough. Plain numbers. -/
import Derived.Test.YtjjlpaampmpdfaaGreatDoorFair1
import Derived.Test.YtjjlpaampmpdfaaGreatDoorDemand3
import Derived.Test.YtjjlpaampmpdfaaGreatDoorCountNums
namespace Go.Proofs.YtjjlpaampmpdfaaGreatDoor
open Go.ChangeShapes Go.WideShapes Go.ChangeAt Go.RowKit
set_option linter.unusedVariables false

/-- the longest that tasks of greater Prio ask for at a cluster -/
def lowL (s : SetR) (pr cl : Int) : Nat → List TaskR → Int
  | _, [] => 0
  | k, t :: ts => max (if pr < t.prio then mostV s k cl else 0) (lowL s pr cl (k + 1) ts)
theorem mostV_bd (s : SetR) (of cl : Int) : 0 ≤ mostV s of cl ∧ mostV s of cl ≤ 60 := ⟨maxL_nn _, maxL_bd (srv_len s of cl).1⟩
theorem atV_bd (s : SetR) (of cl : Int) : 0 ≤ atV s of cl ∧ atV s of cl ≤ 360 := by
  have h := sumK_bd 3 (srv_len s of cl).1
  have h2 := (srv_len s of cl).2
  unfold atV; omega
theorem lowL_bd (s : SetR) (pr cl : Int) (k : Nat) (ts : List TaskR) : 0 ≤ lowL s pr cl k ts ∧ lowL s pr cl k ts ≤ 60 := by
  induction ts generalizing k with
  | nil => simp [lowL]
  | cons t ts ih =>
    have h1 := ih (k + 1)
    have h2 := mostV_bd s k cl
    simp only [lowL]; split <;> omega
theorem lowL_append (s : SetR) (pr cl : Int) (k : Nat) (a b : List TaskR) : lowL s pr cl k (a ++ b) = max (lowL s pr cl k a) (lowL s pr cl (k + a.length) b) := by
  induction a generalizing k with
  | nil => have := (lowL_bd s pr cl k b).1; simp [lowL]; omega
  | cons t a ih => simp only [List.cons_append, lowL, ih, List.length_cons]; rw [show k + 1 + a.length = k + (a.length + 1) by omega]; omega
theorem lowL_snoc (s : SetR) (pr cl : Int) (ts : List TaskR) (n : Nat) (h : n < ts.length) : lowL s pr cl 0 (ts.take (n + 1)) = max (lowL s pr cl 0 (ts.take n)) (if pr < (ts.getD n default).prio then mostV s n cl else 0) := by
  rw [take_snocD ts n h, lowL_append]
  have h2 := mostV_bd s (n : Nat) cl
  simp only [lowL, List.length_take, Nat.min_eq_left (Nat.le_of_lt h), Nat.zero_add]
  split <;> omega
def prioOf (s : SetR) (of : Int) : Int := (s.tasks.getD of.toNat default).prio
def lowerV (s : SetR) (of cl : Int) : Int := if thereB s of = true then lowL s (prioOf s of) cl 0 s.tasks else 0

/-- the rivals: of each task of lesser Prio its bound, its period, what it asks for at a cluster -/
def rivL (s : SetR) (bs : List Int) (pr cl : Int) : Nat → List TaskR → List PartM
  | _, [] => []
  | k, t :: ts => (if t.prio < pr then [⟨bs.getD k 0, t.per, atV s k cl⟩] else []) ++ rivL s bs pr cl (k + 1) ts
theorem rivL_append (s : SetR) (bs : List Int) (pr cl : Int) (k : Nat) (a b : List TaskR) : rivL s bs pr cl k (a ++ b) = rivL s bs pr cl k a ++ rivL s bs pr cl (k + a.length) b := by
  induction a generalizing k with
  | nil => simp [rivL]
  | cons t a ih => simp only [List.cons_append, rivL, ih, List.length_cons, List.append_assoc]; rw [show k + 1 + a.length = k + (a.length + 1) by omega]
theorem rivL_snoc (s : SetR) (bs : List Int) (pr cl : Int) (ts : List TaskR) (n : Nat) (h : n < ts.length) : rivL s bs pr cl 0 (ts.take (n + 1)) = rivL s bs pr cl 0 (ts.take n) ++ (if (ts.getD n default).prio < pr then [⟨bs.getD n 0, (ts.getD n default).per, atV s n cl⟩] else []) := by
  rw [take_snocD ts n h, rivL_append]
  simp [rivL, List.length_take, Nat.min_eq_left (Nat.le_of_lt h)]
theorem rivL_len (s : SetR) (bs : List Int) (pr cl : Int) (k : Nat) (ts : List TaskR) : (rivL s bs pr cl k ts).length ≤ ts.length := by
  induction ts generalizing k with
  | nil => simp [rivL]
  | cons t ts ih =>
    have := ih (k + 1)
    simp only [rivL, List.length_append, List.length_cons]
    split
    · simp; omega
    · simp; omega
/-- numbers of a rival that fit -/
def RivOk (r : PartM) : Prop := I64 r.kind ∧ I64 r.len ∧ 0 ≤ r.res ∧ r.res ≤ 360
theorem rivL_ok {s : SetR} {bs : List Int} {pr cl : Int} {k : Nat} {ts : List TaskR} (hb : ∀ n ∈ bs, I64 n) (ht : ∀ t ∈ ts, I64 t.per) : ∀ r ∈ rivL s bs pr cl k ts, RivOk r := by
  induction ts generalizing k with
  | nil => simp [rivL]
  | cons t ts ih =>
    intro r hr
    simp only [rivL, List.mem_append] at hr
    rcases hr with hr | hr
    · split at hr
      · simp at hr; subst hr
        have := atV_bd s k cl
        exact ⟨getD_i64 hb k, ht t (by simp), this.1, this.2⟩
      · simp at hr
    · exact ih (fun q hq => ht q (by simp [hq])) r hr

/-- what they do in a window -/
def workS (wd : Int) : List PartM → Int
  | [] => 0
  | r :: l => workV wd r.kind r.len r.res + workS wd l
theorem workS_append (wd : Int) (a b : List PartM) : workS wd (a ++ b) = workS wd a + workS wd b := by
  induction a with
  | nil => simp [workS]
  | cons r a ih => simp only [List.cons_append, workS, ih]; omega
theorem workS_snoc (wd : Int) (l : List PartM) (n : Nat) (h : n < l.length) : workS wd (l.take (n + 1)) = workS wd (l.take n) + workV wd (l.getD n default).kind (l.getD n default).len (l.getD n default).res := by
  rw [take_snocD l n h, workS_append]; simp [workS]
theorem workS_bd (wd : Int) (l : List PartM) : 0 ≤ workS wd l ∧ workS wd l ≤ 1000000 * (l.length : Int) := by
  induction l with
  | nil => simp [workS]
  | cons r l ih =>
    have h := workV_bd wd r.kind r.len r.res
    simp only [workS, List.length_cons]; omega
theorem workV_window {w w' b p e : Int} (h : w ≤ w') : workV w b p e ≤ workV w' b p e := by
  by_cases hp : 0 < p
  · exact workV_mono h (Int.le_refl _) (Int.le_refl _) hp (Int.le_refl _)
  · have e1 : workV w b p e = 0 := by unfold workV; rw [jobV_out (by omega)]; omega
    have := workV_bd w' b p e
    omega
theorem workS_window {w w' : Int} (h : w ≤ w') (l : List PartM) : workS w l ≤ workS w' l := by
  induction l with
  | nil => simp [workS]
  | cons r l ih =>
    have := workV_window (b := r.kind) (p := r.len) (e := r.res) h
    simp only [workS]; omega
def capV (n : Int) : Int := min n 1000000
/-- own ticks and what rivals do in a window -/
def winF (own : Int) (l : List PartM) (wd : Int) : Int := own + capV (workS wd l)
theorem winF_mono {w w' : Int} (own : Int) (l : List PartM) (h : w ≤ w') : winF own l w ≤ winF own l w' := by
  have := workS_window h l
  unfold winF capV; omega
theorem winF_own (own : Int) (l : List PartM) (w : Int) : own ≤ winF own l w ∧ winF own l w ≤ own + 1000000 := by
  have := workS_bd w l
  unfold winF capV; omega

/-- the least of so many numbers from w on that F leaves as it is -/
def fixN (F : Int → Int) : Nat → Int → Option Int
  | 0, _ => none
  | n + 1, w => if F w = w then some w else fixN F n (w + 1)
theorem fixN_some {F : Int → Int} {n : Nat} {w v : Int} (h : fixN F n w = some v) : w ≤ v ∧ v < w + n ∧ F v = v ∧ ∀ u, w ≤ u → u < v → F u ≠ u := by
  induction n generalizing w with
  | zero => simp [fixN] at h
  | succ n ih =>
    unfold fixN at h
    split at h
    · rename_i e
      cases h
      exact ⟨Int.le_refl _, by omega, e, fun u h1 h2 => by omega⟩
    · rename_i e
      obtain ⟨a, b, c, d⟩ := ih h
      refine ⟨by omega, by omega, c, fun u h1 h2 => ?_⟩
      by_cases hu : u = w
      · subst hu; exact e
      · exact d u (by omega) h2
theorem fixN_none {F : Int → Int} {n : Nat} {w : Int} (h : fixN F n w = none) : ∀ u, w ≤ u → u < w + n → F u ≠ u := by
  induction n generalizing w with
  | zero => intro u h1 h2; omega
  | succ n ih =>
    unfold fixN at h
    split at h
    · cases h
    · rename_i e
      intro u h1 h2
      by_cases hu : u = w
      · subst hu; exact e
      · exact ih h u (by omega) (by omega)
/-- the least of all windows from own on, up to 3000 -/
def fixO (F : Int → Int) (own : Int) : Option Int := fixN F (3001 - own).toNat own
theorem fixO_some {F : Int → Int} {own v : Int} (h0 : own ≤ 3001) (h : fixO F own = some v) : own ≤ v ∧ v ≤ 3000 ∧ F v = v ∧ ∀ u, own ≤ u → u < v → F u ≠ u := by
  obtain ⟨a, b, c, d⟩ := fixN_some h
  exact ⟨a, by omega, c, d⟩
theorem fixO_none {F : Int → Int} {own : Int} (h : fixO F own = none) : ∀ u, own ≤ u → u ≤ 3000 → F u ≠ u := fun u h1 h2 => fixN_none h u h1 (by omega)
theorem fixO_at {F : Int → Int} {own v : Int} (h1 : own ≤ v) (h2 : v ≤ 3000) (h3 : F v = v) (h4 : ∀ u, own ≤ u → u < v → F u ≠ u) : fixO F own = some v := by
  cases e : fixO F own with
  | none => exact absurd h3 (fixO_none e v h1 h2)
  | some x =>
    obtain ⟨a, b, c, d⟩ := fixO_some (by omega) e
    by_cases hx : x < v
    · exact absurd c (h4 x a hx)
    · by_cases hy : v < x
      · exact absurd h3 (d v h1 hy)
      · rw [show x = v by omega]
theorem fixO_not {F : Int → Int} {own : Int} (h0 : own ≤ 3001) (h : ∀ u, own ≤ u → u ≤ 3000 → F u ≠ u) : fixO F own = none := by
  cases e : fixO F own with
  | none => rfl
  | some x => obtain ⟨a, b, c, d⟩ := fixO_some h0 e; exact absurd c (h x a b)
/-- one step from w on: none that is passed over would do -/
theorem fix_step {F : Int → Int} (hm : ∀ x y, x ≤ y → F x ≤ F y) {own w : Int} (h : ∀ u, own ≤ u → u < w → F u ≠ u) : ∀ u, own ≤ u → u < F w → F u ≠ u ∨ u < w := by
  intro u h1 h2
  by_cases hu : u < w
  · exact .inr hu
  · left; have := hm w u (by omega); omega
theorem fix_pass {F : Int → Int} (hm : ∀ x y, x ≤ y → F x ≤ F y) {own w : Int} (h : ∀ u, own ≤ u → u < w → F u ≠ u) : ∀ u, own ≤ u → u < F w → F u ≠ u := by
  intro u h1 h2
  by_cases hu : u < w
  · exact h u h1 hu
  · have := hm w u (by omega); omega
theorem fix_far {F : Int → Int} (hm : ∀ x y, x ≤ y → F x ≤ F y) {own w : Int} (h0 : own ≤ 3001) (h : ∀ u, own ≤ u → u < w → F u ≠ u) (hw : 3000 < F w) : fixO F own = none :=
  fixO_not h0 fun u h1 h2 => fix_pass hm h u h1 (by omega)
/-- a lesser F comes to rest where a greater one does, or ahead of it -/
theorem fix_le {F G : Int → Int} (hm : ∀ x y, x ≤ y → F x ≤ F y) (hFG : ∀ x, F x ≤ G x) {own own' v : Int} (ho : own ≤ own') (hF : ∀ x, own ≤ F x) (h0 : own' ≤ 3001) (h : fixO G own' = some v) : ∃ u, fixO F own = some u ∧ u ≤ v := by
  obtain ⟨a, b, c, d⟩ := fixO_some h0 h
  have key : ∀ (k : Nat) (w : Int), own ≤ w → F w ≤ w → w ≤ v → (w - own).toNat ≤ k → ∃ u, own ≤ u ∧ u ≤ w ∧ F u = u := by
    intro k
    induction k with
    | zero => intro w h1 h2 h3 h4; have := hF w; exact ⟨w, h1, Int.le_refl _, by omega⟩
    | succ k ih =>
      intro w h1 h2 h3 h4
      by_cases e : F w = w
      · exact ⟨w, h1, Int.le_refl _, e⟩
      · have h5 := hF w
        obtain ⟨u, x, y, z⟩ := ih (F w) h5 (hm _ _ h2) (by omega) (by omega)
        exact ⟨u, x, by omega, z⟩
  obtain ⟨u, x, y, z⟩ := key _ v (by omega) (by have := hFG v; omega) (Int.le_refl _) (Nat.le_refl _)
  cases e : fixO F own with
  | none => exact absurd z (fixO_none e u x (by omega))
  | some q =>
    refine ⟨q, rfl, ?_⟩
    obtain ⟨a2, b2, c2, d2⟩ := fixO_some (by omega) e
    by_cases hq : q ≤ v
    · exact hq
    · exact absurd z (d2 u x (by omega))

def higherB (s : SetR) (bs : List Int) (of : Int) : Bool := thereB s of && decide (bs.length = s.tasks.length)
theorem higherB_true {s : SetR} {bs : List Int} {of : Int} : higherB s bs of = true ↔ thereB s of = true ∧ bs.length = s.tasks.length := by simp [higherB]
def higherV (s : SetR) (bs : List Int) (of cl wd : Int) : Int := if higherB s bs of = true then capV (workS wd (rivL s bs (prioOf s of) cl 0 s.tasks)) else 0
/-- of, part: a Lock of a task that there is -/
def agentB (s : SetR) (bs : List Int) (of part : Int) : Bool := fairK s of part && decide (bs.length = s.tasks.length)
theorem agentB_true {s : SetR} {bs : List Int} {of part : Int} : agentB s bs of part = true ↔ fairK s of part = true ∧ bs.length = s.tasks.length := by simp [agentB]
def homeV (s : SetR) (of part : Int) : Int := s.homes.getD (partAt s of part).res.toNat 0
def leastV (s : SetR) (of part : Int) : Int := (partAt s of part).len + lowerV s of (homeV s of part)
def agentO (s : SetR) (bs : List Int) (of part : Int) : Option Int :=
  if agentB s bs of part = true then fixO (winF (leastV s of part) (rivL s bs (prioOf s of) (homeV s of part) 0 s.tasks)) (leastV s of part) else none
def agentV (s : SetR) (bs : List Int) (of part : Int) : Int := (agentO s bs of part).getD 0
def agentK (s : SetR) (bs : List Int) (of part : Int) : Bool := (agentO s bs of part).isSome
end Go.Proofs.YtjjlpaampmpdfaaGreatDoor
