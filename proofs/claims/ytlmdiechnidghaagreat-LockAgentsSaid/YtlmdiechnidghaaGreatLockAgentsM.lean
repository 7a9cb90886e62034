/- LockAgents: agents serve who has the least priority number of all that wait, once who is served is done. No condition. -/
import Derived.Test.YtlmdiechnidghaaGreatLkJM
import Derived.Test.YtlmdiechnidghaaGreatLkVM
import Derived.Test.YtlmdiechnidghaaGreatCrowd23M
namespace Go.Proofs.YtlmdiechnidghaaGreat
open Go.ChangeShapes Go.WideShapes Go.ChangeAt Go.RowKit Go.Conc
set_option linter.unusedVariables false
set_option linter.unusedSimpArgs false
theorem let_not {s : Ls} (ho : LsOk s) (hp : s.proto ≠ 3) : letS s = s := by unfold letS; rw [newS_nil ho hp]; rfl
theorem fold_held (xs : List AL) : ∀ (s : Ls) (l : List Int), (∀ a ∈ xs, heldS s a.res = true) → xs.foldl try1 (s, l) = (s, l) := by
  induction xs with
  | nil => exact fun s l _ => rfl
  | cons a xs ih =>
    intro s l h
    rw [List.foldl_cons]
    have e : try1 (s, l) a = (s, l) := by unfold try1; rw [if_pos (h a (by simp))]
    rw [e]
    exact ih s l fun b hb => h b (List.mem_cons_of_mem _ hb)
theorem candS_mem {s : Ls} {a : AL} : a ∈ candS s ↔ a ∈ waitG s := (List.mergeSort_perm _ _).mem_iff
/-- one key for all that ask: somebody holds, nobody is granted; else the one ahead -/
theorem grant_held {s : Ls} (ho : LsOk s) (hp : s.proto ≠ 3) (hall : ∀ a ∈ s.L, ∀ b ∈ s.L, sameK s a.res b.res = true) {b : AL} (hb : b ∈ s.L) (hh : b.holds = true) : grantS s = s := by
  unfold grantS grantP
  rw [let_not ho hp, fold_held]
  exact fun a ha => heldS_true.2 ⟨b, hb, hh, hall b hb a (mem_waitG.1 (candS_mem.1 ha)).1⟩
theorem grant_none {s : Ls} (ho : LsOk s) (hp : s.proto ≠ 3) (h : s.L = []) : grantS s = s := by
  have : candS s = [] := by unfold candS waitG; rw [h]; simp
  unfold grantS grantP
  rw [let_not ho hp, this]; rfl
theorem grant_first {s : Ls} (ho : LsOk s) (hp : s.proto ≠ 3) (hall : ∀ a ∈ s.L, ∀ b ∈ s.L, sameK s a.res b.res = true) (hn : ∀ a ∈ s.L, a.holds = false) (hne : s.L ≠ []) :
    ∃ a ∈ s.L, grantS s = holdS s a.task ∧ ∀ b ∈ s.L, keyS s a ≤ keyS s b := by
  have hw : ∀ a, a ∈ waitG s ↔ a ∈ s.L := fun a => by rw [mem_waitG]; exact ⟨fun h => h.1, fun h => ⟨h, hn a h, ho.tok hp a h⟩⟩
  have hs : (candS s).Pairwise (fun a b => decide (keyS s a ≤ keyS s b) = true) := List.pairwise_mergeSort (le := fun a b => decide (keyS s a ≤ keyS s b)) (fun a b c h1 h2 => by simp at *; omega) (fun a b => by simp; omega) (waitG s)
  cases hc : candS s with
  | nil =>
    obtain ⟨x, hx⟩ := List.exists_mem_of_ne_nil _ hne
    have := candS_mem.2 ((hw x).2 hx)
    rw [hc] at this; simp at this
  | cons a xs =>
    rw [hc] at hs
    have ha : a ∈ s.L := (hw a).1 (candS_mem.1 (by rw [hc]; simp))
    have hax : ∀ b ∈ xs, b ∈ s.L := fun b hb => (hw b).1 (candS_mem.1 (by rw [hc]; exact List.mem_cons_of_mem _ hb))
    have h0 : heldS s a.res = false := by
      cases e : heldS s a.res with
      | false => rfl
      | true =>
        obtain ⟨b, hb, h1, _⟩ := heldS_true.1 e
        rw [hn b hb] at h1; cases h1
    refine ⟨a, ha, ?_, fun b hb => ?_⟩
    · unfold grantS grantP
      rw [let_not ho hp, hc, List.foldl_cons]
      have e : try1 (s, []) a = (holdS s a.task, [] ++ [a.task]) := by unfold try1; rw [if_neg (by rw [h0]; decide)]
      rw [e, fold_held]
      intro b hb
      rw [heldS_hold ho ha, hall a ha b (hax b hb)]
      simp
    · rcases List.mem_cons.1 (show b ∈ a :: xs from hc ▸ candS_mem.2 ((hw b).2 hb)) with rfl | hb
      · exact Int.le_refl _
      · have := (List.pairwise_cons.1 hs).1 b hb
        simpa using this
structure AgShape (s : Ls) : Prop where
  proto : s.proto = 2
  prio : s.prio = [6, 5, 4, 3, 2, 1]
  homes : s.homes = [0, 0]
theorem AgShape.same {s s' : Ls} (h : AgShape s) (hs : SameLs s s') : AgShape s' := ⟨hs.proto.trans h.proto, hs.prio.trans h.prio, hs.homes.trans h.homes⟩
/-- ahead of a grant -/
structure AgJ (s : Ls) (ins : List Bool) (h : Int) : Prop where
  sh : AgShape s
  ok : LsOk s
  len : ins.length = 6
  ins : ∀ t : Nat, t < 6 → ins.getD t false = (s.get t).isSome
  hh : ∀ t : Nat, t < 6 → holdsS s t = decide ((t : Int) = h)
  hr : -1 ≤ h ∧ h < 6
def lastN (ins : List Bool) : Nat → Int
  | 0 => -1
  | k + 1 => if ins.getD k false = true then (k : Int) else lastN ins k
theorem lastN_bd (ins : List Bool) : ∀ k, -1 ≤ lastN ins k ∧ lastN ins k < k
  | 0 => by simp [lastN]
  | k + 1 => by
    have := lastN_bd ins k
    unfold lastN
    split <;> omega
theorem lastN_none {ins : List Bool} : ∀ {k : Nat}, (∀ t : Nat, t < k → ins.getD t false = false) → lastN ins k = -1
  | 0, _ => rfl
  | k + 1, h => by
    unfold lastN
    rw [if_neg (by rw [h k (by omega)]; decide)]
    exact lastN_none fun t ht => h t (by omega)
theorem lastN_at {ins : List Bool} {n : Nat} (h1 : ins.getD n false = true) : ∀ {k : Nat}, n < k → (∀ t : Nat, n < t → t < k → ins.getD t false = false) → lastN ins k = n
  | 0, h, _ => absurd h (by omega)
  | k + 1, h, h2 => by
    unfold lastN
    by_cases e : k = n
    · subst e; rw [if_pos h1]
    · rw [if_neg (by rw [h2 k (by omega) (by omega)]; decide)]
      exact lastN_at h1 (by omega) fun t ht hk => h2 t ht (by omega)
/-- the holder behind a grant -/
def nextH (ins : List Bool) (h : Int) : Int := if h < 0 then lastN ins 6 else h
structure AgI (s : Ls) (ins : List Bool) (h : Int) : Prop where
  j : AgJ s ins h
  hn : h < 0 → ∀ t : Nat, t < 6 → ins.getD t false = false
section
variable {s : Ls} {ins : List Bool} {h : Int}
theorem AgShape.all (hs : AgShape s) (ho : LsOk s) : ∀ a ∈ s.L, ∀ b ∈ s.L, sameK s a.res b.res = true := fun a ha b hb => by
  have h1 := ho.rs a ha
  have h2 := ho.rs b hb
  unfold Ls.hasR at h1 h2
  unfold sameK Ls.home
  rw [hs.homes] at *
  simp only [List.length_cons, List.length_nil] at h1 h2
  have e : ∀ r : Int, 0 ≤ r ∧ r < 2 → [(0 : Int), 0].getD r.toNat 0 = 0 := fun r hr => by
    have : r = 0 ∨ r = 1 := by omega
    rcases this with rfl | rfl <;> rfl
  rw [e _ (by omega), e _ (by omega), hs.proto]
  simp
theorem AgShape.pri (hs : AgShape s) {t : Int} (ht : s.has t) : s.pri t = 6 - t := by
  unfold Ls.has at ht
  unfold Ls.pri
  rw [hs.prio] at *
  simp only [List.length_cons, List.length_nil] at ht
  have : t = 0 ∨ t = 1 ∨ t = 2 ∨ t = 3 ∨ t = 4 ∨ t = 5 := by omega
  rcases this with rfl | rfl | rfl | rfl | rfl | rfl <;> rfl
theorem AgShape.has (hs : AgShape s) (t : Int) : s.has t ↔ 0 ≤ t ∧ t < 6 := by unfold Ls.has; rw [hs.prio]; simp
theorem AgJ.at_ (hj : AgJ s ins h) {a : AL} (ha : a ∈ s.L) : ∃ n : Nat, n < 6 ∧ a.task = (n : Int) ∧ ins.getD n false = true ∧ a.holds = decide (a.task = h) := by
  have h1 := (hj.sh.has _).1 (hj.ok.tk a ha)
  refine ⟨a.task.toNat, by omega, by omega, ?_, ?_⟩
  · rw [hj.ins _ (by omega), show ((a.task.toNat : Nat) : Int) = a.task by omega, hj.ok.get_of ha]; rfl
  · have := hj.hh a.task.toNat (by omega)
    rw [show ((a.task.toNat : Nat) : Int) = a.task by omega] at this
    unfold holdsS at this
    rw [hj.ok.get_of ha] at this
    exact this
theorem AgI.leave (hi : AgI s ins h) (h0 : 0 ≤ h) : leaveC s h = 0 ∧ AgJ (leaveS s h) (ins.set h.toNat false) (-1) := by
  obtain ⟨n, rfl⟩ : ∃ n : Nat, h = (n : Int) := ⟨h.toNat, by omega⟩
  have hr := hi.j.hr
  have hh := hi.j.hh n (by omega)
  rw [show decide ((n : Int) = (n : Int)) = true by simp] at hh
  have hg : (s.get n).isSome = true := by
    unfold holdsS at hh
    cases hx : s.get n with
    | none => rw [hx] at hh; cases hh
    | some a => rfl
  refine ⟨by unfold leaveC; rw [if_pos hg], hi.j.sh.same (same_leave s n), hi.j.ok.leave n, by rw [List.length_set]; exact hi.j.len, fun t ht => ?_, fun t ht => ?_, by omega⟩
  · rw [Int.toNat_natCast, getD_set' (by rw [hi.j.len]; omega), get_leave]
    by_cases e : t = n
    · subst e; simp
    · rw [if_neg e, if_neg (by omega)]; exact hi.j.ins t ht
  · unfold holdsS
    rw [get_leave]
    by_cases e : t = n
    · subst e; simp
    · rw [if_neg (by omega)]
      have := hi.j.hh t ht
      unfold holdsS at this
      rw [this]
      have e1 : ¬ (t : Int) = (n : Int) := by omega
      have e2 : ¬ (t : Int) = -1 := by omega
      simp [e1, e2]
theorem AgI.ask (hi : AgI s ins h) {t : Nat} (ht : t < 6) (hn : ins.getD t false = false) {r : Int} (hr : 0 ≤ r ∧ r < 2) : askC s t r = 0 ∧ AgJ (askS s t r) (ins.set t true) h := by
  have hg : s.get t = none := by
    have := hi.j.ins t ht
    rw [hn] at this
    cases hx : s.get t with
    | none => rfl
    | some a => rw [hx] at this; cases this
  have h1 : s.has t := (hi.j.sh.has _).2 (by omega)
  have h2 : s.hasR r := by unfold Ls.hasR; rw [hi.j.sh.homes]; simp; omega
  have hc : askC s t r = 0 := by unfold askC; rw [if_neg (by simpa using h1), if_neg (by simpa using h2), hg]; rfl
  have he : askS s t r = askN s t r := by unfold askS; rw [if_pos hc]
  have hs : SameLs s (askN s t r) := by unfold askN; split <;> exact ⟨rfl, rfl, rfl, rfl, rfl⟩
  have hp := hi.j.sh.proto
  have hL : (askN s t r).L = s.L ++ [⟨t, r, s.count + 1, false⟩] := by unfold askN; rw [if_neg (by omega)]
  have hget : ∀ u : Int, (askN s t r).get u = if u = t then some ⟨t, r, s.count + 1, false⟩ else s.get u := fun u => by
    have := get_app s ⟨t, r, s.count + 1, false⟩ u hg
    unfold Ls.get at *
    rw [hL]; exact this
  rw [he]
  have hht : ¬ (t : Int) = h := fun e => by
    have := hi.j.hh t ht
    unfold holdsS at this
    rw [hg] at this
    simp [e] at this
  refine ⟨hc, hi.j.sh.same hs, hi.j.ok.ask h1 h2 hg, by rw [List.length_set]; exact hi.j.len, fun u hu => ?_, fun u hu => ?_, hi.j.hr⟩
  · rw [getD_set' (by rw [hi.j.len]; omega), hget]
    by_cases e : u = t
    · subst e; simp
    · rw [if_neg e, if_neg (by omega)]; exact hi.j.ins u hu
  · unfold holdsS
    rw [hget]
    by_cases e : u = t
    · subst e; simp [hht]
    · rw [if_neg (by omega)]; exact hi.j.hh u hu
theorem AgJ.grant (hj : AgJ s ins h) : AgI (grantS s) ins (nextH ins h) := by
  have hp : s.proto ≠ 3 := by rw [hj.sh.proto]; decide
  have hall := hj.sh.all hj.ok
  unfold nextH
  by_cases h0 : h < 0
  · rw [if_pos h0]
    have hne : ∀ a ∈ s.L, a.holds = false := fun a ha => by
      obtain ⟨n, hn, e, _, e2⟩ := hj.at_ ha
      rw [e2]
      have : ¬ a.task = h := by omega
      simp [this]
    by_cases hL : s.L = []
    · have hz : ∀ t : Nat, t < 6 → ins.getD t false = false := fun t ht => by
        rw [hj.ins t ht]; unfold Ls.get; rw [hL]; rfl
      rw [grant_none hj.ok hp hL, lastN_none hz]
      have : h = -1 := by have := hj.hr; omega
      rw [← this]
      exact ⟨hj, fun _ => hz⟩
    · obtain ⟨a, ha, eg, hmin⟩ := grant_first hj.ok hp hall hne hL
      obtain ⟨n, hn, e, e1, _⟩ := hj.at_ ha
      have hlast : lastN ins 6 = n := lastN_at e1 hn fun t ht htk => by
        cases hb : ins.getD t false with
        | false => rfl
        | true =>
          rw [hj.ins t htk] at hb
          cases hg : s.get t with
          | none => rw [hg] at hb; cases hb
          | some b =>
            obtain ⟨hbm, hbt⟩ := get_mem hg
            have := hmin b hbm
            unfold keyS at this
            rw [if_pos hj.sh.proto, if_pos hj.sh.proto, hj.sh.pri (hj.ok.tk a ha), hj.sh.pri (hj.ok.tk b hbm)] at this
            omega
      have hsm : SameLs s (holdS s a.task) := ⟨rfl, rfl, rfl, rfl, rfl⟩
      have hok := hj.ok.grant
      rw [eg] at hok ⊢
      rw [hlast]
      refine ⟨⟨hj.sh.same hsm, hok, hj.len, fun t ht => ?_, fun t ht => ?_, by omega⟩, fun hx => by omega⟩
      · rw [get_hold, hj.ins t ht]; cases s.get t <;> rfl
      · unfold holdsS
        rw [get_hold]
        cases hg : s.get t with
        | none =>
          have : ¬ (t : Int) = (n : Int) := fun e3 => get_none.1 hg a ha (by omega)
          simp [this]
        | some b =>
          obtain ⟨hbm, hbt⟩ := get_mem hg
          show (holdF a.task b).holds = _
          unfold holdF
          by_cases e3 : b.task = a.task
          · rw [if_pos e3]
            have : (t : Int) = (n : Int) := by omega
            simp [this]
          · rw [if_neg e3, hne b hbm]
            have : ¬ (t : Int) = (n : Int) := by omega
            simp [this]
  · rw [if_neg h0]
    obtain ⟨n, rfl⟩ : ∃ n : Nat, h = (n : Int) := ⟨h.toNat, by omega⟩
    have hr := hj.hr
    have hh := hj.hh n (by omega)
    rw [show decide ((n : Int) = (n : Int)) = true by simp] at hh
    unfold holdsS at hh
    cases hx : s.get n with
    | none => rw [hx] at hh; cases hh
    | some a =>
      rw [hx] at hh
      rw [grant_held hj.ok hp hall (get_mem hx).1 hh]
      exact ⟨hj, fun hz => absurd hz h0⟩
theorem AgI.boost (hi : AgI s ins h) {t : Nat} (ht : t < 6) (hne : ¬ (t : Int) = h) : boostS s t = 0 := by
  have := hi.j.hh t ht
  unfold holdsS at this
  unfold boostS
  cases hx : s.get t with
  | none => rfl
  | some a =>
    rw [hx] at this
    dsimp only at this ⊢
    rw [this]
    simp [hne]
end
end Go.Proofs.YtlmdiechnidghaaGreat

namespace Go.Proofs.YtlmdiechnidghaaGreat
open Go.ChangeShapes Go.WideShapes Go.ChangeAt Go.RowKit Go.Conc
set_option linter.unusedVariables false
set_option linter.unusedSimpArgs false
theorem crowd_ls {S : SetR} {p c : Int} (h : CrowdS S p c) (hp : 1 ≤ p ∧ p ≤ 3) (hc : 1 ≤ c ∧ c ≤ 3) : lsOf S = ⟨p, [6, 5, 4, 3, 2, 1], [0, 0, 0, 0, 0, 0], [c, 1], [0, 0], [], 0⟩ ∧ LsOk (lsOf S) := by
  have hok := h.okS hp hc
  have hls : lsOf S = lsNew S := by unfold lsOf; rw [if_pos hok]
  refine ⟨?_, by rw [hls]; exact lsNew_ok (Good.of hok)⟩
  rw [hls]
  obtain ⟨p1, p2, p3, pl, p4⟩ := h
  have q1 : S.tasks.map TaskR.prio = [6, 5, 4, 3, 2, 1] := by
    refine List.ext_getElem (by simp [pl]) fun i h1 h2 => ?_
    have hi : i < S.tasks.length := by simpa using h1
    obtain ⟨a, c, e⟩ := p4 i hi
    have e2 : S.tasks[i] = S.tasks.getD i default := by simp [List.getD, hi]
    rw [List.getElem_map, e2, e]
    have : i = 0 ∨ i = 1 ∨ i = 2 ∨ i = 3 ∨ i = 4 ∨ i = 5 := by omega
    rcases this with rfl | rfl | rfl | rfl | rfl | rfl <;> rfl
  have q2 : S.tasks.map TaskR.cl = [0, 0, 0, 0, 0, 0] := by
    refine List.ext_getElem (by simp [pl]) fun i h1 h2 => ?_
    have hi : i < S.tasks.length := by simpa using h1
    obtain ⟨a, c, e⟩ := p4 i hi
    have e2 : S.tasks[i] = S.tasks.getD i default := by simp [List.getD, hi]
    rw [List.getElem_map, e2, e]
    have : i = 0 ∨ i = 1 ∨ i = 2 ∨ i = 3 ∨ i = 4 ∨ i = 5 := by omega
    rcases this with rfl | rfl | rfl | rfl | rfl | rfl <;> rfl
  unfold lsNew
  rw [p1, p2, p3, q1, q2]
theorem ag_start {S : SetR} {c : Int} (h : CrowdS S 2 c) (hc : 1 ≤ c ∧ c ≤ 3) : AgI (lsOf S) [false, false, false, false, false, false] (-1) ∧ (lsOf S).count = 0 := by
  obtain ⟨e, ho⟩ := crowd_ls h (by decide) hc
  rw [e] at ho ⊢
  refine ⟨⟨⟨⟨rfl, rfl, rfl⟩, ho, rfl, fun t ht => ?_, fun t ht => ?_, by decide⟩, fun _ t ht => ?_⟩, rfl⟩
  · have : t = 0 ∨ t = 1 ∨ t = 2 ∨ t = 3 ∨ t = 4 ∨ t = 5 := by omega
    rcases this with rfl | rfl | rfl | rfl | rfl | rfl <;> rfl
  · have : t = 0 ∨ t = 1 ∨ t = 2 ∨ t = 3 ∨ t = 4 ∨ t = 5 := by omega
    rcases this with rfl | rfl | rfl | rfl | rfl | rfl <;> rfl
  · have : t = 0 ∨ t = 1 ∨ t = 2 ∨ t = 3 ∨ t = 4 ∨ t = 5 := by omega
    rcases this with rfl | rfl | rfl | rfl | rfl | rfl <;> rfl
theorem lastN_skip {ins : List Bool} {k : Nat} (h : ins.getD k false = false) : lastN ins (k + 1) = lastN ins k := by
  show (if ins.getD k false = true then (k : Int) else lastN ins k) = _
  rw [if_neg (by rw [h]; decide)]
def bools (l : List Bool) : Array Value := (l.map Value.bool).toArray
theorem bools_put (l : List Bool) (i : Nat) (v : Bool) : (bools l).setIfInBounds i (.bool v) = bools (l.set i v) := by simp [bools]
theorem bools_at {w : World} {g : Nat} {T : TypeId} {l : List Bool} (h : Bk w g T (bools l)) {i : Nat} (hi : i < l.length) : w.cell? ⟨g, i, none⟩ = some (.bool (l.getD i false)) := by
  rw [h.cell i]
  simp [bools, List.getD, hi]
end Go.Proofs.YtlmdiechnidghaaGreat
set_option maxHeartbeats 8000000
set_option maxRecDepth 100000
namespace Go.Proofs.YtlmdiechnidghaaGreat.lockAgents
open Go.ChangeShapes Go.WideShapes Go.ChangeAt Go.RowKit
open Go.ChangeMaps (open_string shut_string)
set_option linter.unusedVariables false

/-- THE WALK: the Go text returns true, and writes nothing that was there. -/
theorem walk (a0 : Option Addr) (len0 cap0 : Nat) (z0 : List Int) (w : World) (w0 : IsRow .u8 w a0 len0 cap0 z0) :
    Calls Tryz.prog 6 #[.slice a0 len0 cap0] w fun e w' => e = .returned (.bool true) ∧ Below w.heap.size w w' := by
  obtain ⟨r1, r2, r3, r4⟩ := w0.row
  obtain ⟨us, hus⟩ : ∃ l, z0.take len0 = l := ⟨_, rfl⟩
  rw [hus] at r1 r2 r4
  subst r2
  have HU := hidp r1
  have HUb : Hid (∀ k, k < us.length → 0 ≤ us.getD k 0 ∧ us.getD k 0 ≤ 255) := hidp (fun k hk => u8_bd r4 k hk)
  have m1 : us.length ≤ maxLen := r3
  unfold maxLen at m1
  have hb := Below.refl w.heap.size w
  clear w0 r1 r4 hus
  by_cases h30 : 30 < us.length
  · go_enter Tryz.func6, Tryz.ntmps6
    go_wp2_with fail
    refine (known23_any _).mono ?_
    rintro e u1 ⟨rfl, hb2⟩
    replace hb := hb.trans (hb2.mono hb.size)
    clear hb2
    go_wp2_with fail
    go_ret
    exact ⟨rfl, hb⟩
  go_enter Tryz.func6, Tryz.ntmps6
  go_wp2_with fail
  refine (known23_any _).mono ?_
  rintro e u1 ⟨rfl, hb2⟩
  replace hb := hb.trans (hb2.mono hb.size)
  clear hb2
  have HB1 := hidp hb
  clear hb
  go_wp2_with fail
  refine (crowd23_any 2 1 u1 (by decide) (by decide)).mono ?_
  rintro e u2 ⟨⟨S, rfl, hs, hS⟩, hb2⟩
  have CN := li_new u1 u2 S hs hb2
  obtain ⟨i0, c0⟩ := ag_start hS (by decide)
  have HI0 := hidp i0
  have HC0 := hidp c0
  clear hs hS hb2 i0 c0
  go_wp2_with fail
  refine CN.mono ?_
  rintro e u3 ⟨bl, F, rfl, l0, _, _, _⟩
  have HB3 := hidp (HB1.out.trans (l0.below.mono HB1.out.size))
  have hal := (Below.refl u3.heap.size u3).alloc (Nat.le_refl _) (.cells #[.bool false, .bool false, .bool false, .bool false, .bool false, .bool false] 49)
  have L0 := hidp (l0.over hal)
  have B0 : Hid (Bk (u3.alloc (.cells #[.bool false, .bool false, .bool false, .bool false, .bool false, .bool false] 49)) u3.heap.size 49 (bools [false, false, false, false, false, false])) := hidp (Bk.new u3 49 #[.bool false, .bool false, .bool false, .bool false, .bool false, .bool false])
  have AP0 : Hid (u3.heap.size ∉ bl :: F) := hidp (fun hm => by have := l0.lt _ hm; omega)
  have HBa := hidp (HB3.out.trans (hal.mono HB3.out.size))
  have HW1 : Hid (w.heap.size ≤ u1.heap.size) := hidp HB1.out.size
  have HIB : Hid (w.heap.size ≤ u3.heap.size) := hidp HB3.out.size
  have HIB2 : Hid (u1.heap.size ≤ u3.heap.size) := hidp l0.below.size
  clear CN l0 hal
  go_wp2
  obtain ⟨ib, hib⟩ : ∃ ib, u3.heap.size = ib := ⟨_, rfl⟩
  rw [hib] at B0 AP0 HIB HIB2 ⊢
  clear hib
  go_loopg [5, 6] us.length (fun g hv iv wr => ∃ (i : Nat) (s : Ls) (F : List Nat) (ins : List Bool) (h : Int), i + g = us.length ∧ iv = .int .i64 i ∧ hv = .int .i64 h ∧ Hid (AgI s ins h) ∧ Hid (s.count ≤ 7 * (i : Int)) ∧ Hid (LxI u1 wr bl s F) ∧ Hid (Bk wr ib 49 (bools ins)) ∧ Hid (ib ∉ bl :: F) ∧ Hid (Below w.heap.size w wr))
  case atStart => exact ⟨0, lsOf S, F, _, -1, by omega, rfl, rfl, HI0, hidp (by rw [HC0.out]; decide), L0, B0, AP0, HBa⟩
  case round =>
    clear HI0 HC0 L0 B0 AP0 HBa HB3
    obtain ⟨i, s, F, ins, h, hi, rfl, rfl, HI0, HC, L, B, AP, HB⟩ := hrel
    have Hi := hidp hi
    by_cases hlt : i < us.length
    · obtain ⟨gu, ou, hAU, hcu⟩ := HU.out.resolve_left (by intro e; rw [e] at hlt; simp at hlt)
      subst hAU
      obtain ⟨x, Hx⟩ : ∃ x, Hid (us.getD i 0 = x) := ⟨_, rfl⟩
      have hx := HUb.out i hlt
      rw [Hx.out] at hx
      obtain ⟨x0, x1⟩ := hx
      have cu := (Keeps.of_below HB.out) _ _ (Hx.out ▸ hcu i hlt)
      obtain ⟨y6, hy6⟩ : ∃ y, x.tmod 6 = y := ⟨_, rfl⟩
      have y60 : 0 ≤ y6 := by rw [← hy6]; exact Int.tmod_nonneg _ x0
      have y61 : y6 < 6 := by rw [← hy6]; exact Int.tmod_lt_of_pos _ (by decide)
      obtain ⟨t, rfl⟩ : ∃ t : Nat, y6 = (t : Int) := ⟨y6.toNat, by omega⟩
      have ht6 : t < 6 := by omega
      obtain ⟨y5, hy5⟩ : ∃ y, x.tmod 5 = y := ⟨_, rfl⟩
      have y50 : 0 ≤ y5 := by rw [← hy5]; exact Int.tmod_nonneg _ x0
      have y51 : y5 < 5 := by rw [← hy5]; exact Int.tmod_lt_of_pos _ (by decide)
      obtain ⟨q6, hq6⟩ : ∃ y, x.tdiv 6 = y := ⟨_, rfl⟩
      have q60 : 0 ≤ q6 := by rw [← hq6, Int.tdiv_eq_ediv_of_nonneg x0]; omega
      have q61 : q6 ≤ 42 := by rw [← hq6, Int.tdiv_eq_ediv_of_nonneg x0]; omega
      obtain ⟨r, hr⟩ : ∃ y, q6.tmod 2 = y := ⟨_, rfl⟩
      have r0 : 0 ≤ r := by rw [← hr]; exact Int.tmod_nonneg _ q60
      have r1 : r < 2 := by rw [← hr]; exact Int.tmod_lt_of_pos _ (by decide)
      have d3 : decide (us.length ≤ i) = false := decide_eq_false (by omega)
      have d6 : decide (6 ≤ t) = false := decide_eq_false (by omega)
      have hi30 : i < 30 := by omega
      have jI : (i : Int) < (us.length : Int) := by omega
      have hc0 := HC.out
      clear hcu hi
      by_cases hA : y5 = 0 ∧ 0 ≤ h
      · obtain ⟨rfl, h0⟩ := hA
        obtain ⟨e1, j1⟩ := HI0.out.leave h0
        have CL := li_leave L.out h
        rw [e1] at CL
        have hr6 := HI0.out.j.hr
        obtain ⟨hn, rfl⟩ : ∃ hn : Nat, h = (hn : Int) := ⟨h.toNat, by omega⟩
        rw [Int.toNat_natCast] at j1
        have HJ := hidp j1
        have hn6 : hn < 6 := by omega
        have dn6 : decide (6 ≤ hn) = false := decide_eq_false (by omega)
        have cb : wr.cell? ⟨ib, hn, none⟩ = some (.bool (ins.getD hn false)) := bools_at B.out (by rw [HI0.out.j.len]; omega)
        clear j1 e1 hr6
        go_wp2_with fail
        refine CL.mono ?_
        rintro e wx ⟨rfl, F2, l2, st2⟩
        have AP2a : ib ∉ bl :: F2 := fun hm => by
          rcases List.mem_cons.1 hm with h | h
          · exact AP.out (h ▸ by simp)
          · rcases st2.fps _ h with h | h
            · exact AP.out (List.mem_cons_of_mem _ h)
            · have := B.out.lt; omega
        have b2 := B.out.turned st2.turned AP.out
        have cb2 := bools_at b2 (i := hn) (by rw [HI0.out.j.len]; omega)
        have fz := b2.frozen hn
        have HBx := hidp (HB.out.trans (st2.turned.below HB.out.size (fun q hq => by
          rcases List.mem_cons.1 hq with rfl | hq
          · have := L.out.base; have := HW1.out; omega
          · have := L.out.news q hq; have := HW1.out; omega)))
        have tz : Turned [ib] wx (wx.setCell ⟨ib, hn, none⟩ (.bool false)) := (Turned.refl [ib] wx).setCell (.inl (by simp)) _
        have B2 : Hid (Bk (wx.setCell ⟨ib, hn, none⟩ (.bool false)) ib 49 (bools (ins.set hn false))) := hidp (by have := b2.put hn (.bool false); rw [bools_put] at this; exact this)
        have L2 := hidp (l2.turned tz (fun q hq hm => by rw [List.mem_singleton] at hm; subst hm; exact AP2a hq) (fun q hq => by rw [List.mem_singleton] at hq; subst hq; have := HIB2.out; omega))
        have HB2 := hidp (HBx.out.trans (tz.below HBx.out.size (fun q hq => by rw [List.mem_singleton] at hq; subst hq; exact HIB.out)))
        have AP2 := hidp AP2a
        have HC2 : Hid ((leaveS s hn).count ≤ 7 * (i : Int) + 1) := hidp (by have := HC.out; show s.count ≤ _; omega)
        obtain ⟨s2, hs2⟩ : ∃ s2, leaveS s hn = s2 := ⟨_, rfl⟩
        obtain ⟨ins2, hi2⟩ : ∃ ins2, ins.set hn false = ins2 := ⟨_, rfl⟩
        rw [hs2] at HJ L2 HC2
        rw [hi2] at HJ B2
        clear hs2 hi2 CL l2 st2 b2 tz AP2a cb
        obtain ⟨wz, hwz⟩ : ∃ wz, wx.setCell ⟨ib, hn, none⟩ (.bool false) = wz := ⟨_, rfl⟩
        rw [hwz] at B2 L2 HB2
        go_wp2_with fail
        try rw [hwz]
        clear hwz
        have CG := li_grant L2.out (by have := HC2.out; omega)
        go_wp2_with fail
        refine CG.mono ?_
        rintro e w3 ⟨A, n, c, F3, rfl, _, l3, s3, _⟩
        have HI := hidp HJ.out.grant
        have HC3 : Hid ((grantS s2).count ≤ 7 * ((i + 1 : Nat) : Int)) := hidp (by have := HC2.out; have := (grant_count HJ.out.ok).1; omega)
        have B3 := hidp (B2.out.turned s3.turned AP2.out)
        have AP3 : Hid (ib ∉ bl :: F3) := hidp (fun hm => by
          rcases List.mem_cons.1 hm with h | h
          · exact AP2.out (h ▸ by simp)
          · rcases s3.fps _ h with h | h
            · exact AP2.out (List.mem_cons_of_mem _ h)
            · have := B2.out.lt; omega)
        have HB3 := hidp (HB2.out.trans (s3.turned.below HB2.out.size (fun q hq => by
          rcases List.mem_cons.1 hq with rfl | hq
          · have := L2.out.base; have := HW1.out; omega
          · have := L2.out.news q hq; have := HW1.out; omega)))
        have L3 := hidp l3
        clear CG l3 s3
        have HN := hidp (show (-1 : Int) < 0 by decide)
        go_wp2
        go_loopg [5, 8] 6 (fun g hv kv wr2 => ∃ k : Nat, k + g = 6 ∧ kv = .int .i64 k ∧ hv = .int .i64 (lastN ins2 k) ∧ w3 = wr2)
        case atStart => exact ⟨0, by omega, rfl, congrArg (Value.int .i64) rfl, rfl⟩
        case round =>
          obtain ⟨k, hk, rfl, rfl, rfl⟩ := hrel
          by_cases hk6 : k < 6
          · obtain ⟨v, hv⟩ : ∃ v, ins2.getD k false = v := ⟨_, rfl⟩
            have ck : w3.cell? ⟨ib, k, none⟩ = some (.bool v) := by rw [← hv]; exact bools_at B3.out (by have := HJ.out.len; omega)
            have Hv := hidp hv
            clear hv
            have d3 : decide (6 ≤ k) = false := decide_eq_false (by omega)
            cases v with
            | true =>
              have Hl : Hid (lastN ins2 (k + 1) = (k : Int)) := hidp (by unfold lastN; rw [if_pos Hv.out])
              go_wp2
              go_roundg (6 - k - 1)
              case measure => omega
              case rel => exact ⟨k + 1, by omega, by go_num, congrArg (Value.int .i64) Hl.out.symm, rfl⟩
            | false =>
              have Hl : Hid (lastN ins2 (k + 1) = lastN ins2 k) := hidp (lastN_skip Hv.out)
              go_wp2
              go_roundg (6 - k - 1)
              case measure => omega
              case rel => exact ⟨k + 1, by omega, by go_num, congrArg (Value.int .i64) Hl.out.symm, rfl⟩
          · obtain rfl : k = 6 := by omega
            obtain ⟨h3, HH3⟩ : ∃ h3, Hid (nextH ins2 (-1) = h3) := ⟨_, hidp rfl⟩
            have e6 : lastN ins2 6 = h3 := by rw [← HH3.out]; unfold nextH; rw [if_pos HN.out]
            rw [e6]
            clear e6 hk
            go_wp2
            go_loopg [9] 6 (fun g kv wr2 => ∃ k : Nat, k + g = 6 ∧ kv = .int .i64 k ∧ w3 = wr2)
            case atStart => exact ⟨0, by omega, rfl, rfl⟩
            case round =>
              obtain ⟨k, hk, rfl, rfl⟩ := hrel
              by_cases hk6 : k < 6
              · have CH := li_holds L3.out (k : Int)
                have CB := li_boost L3.out (k : Int)
                have hh := HI.out.j.hh k hk6
                rw [HH3.out] at hh
                rw [hh] at CH
                by_cases he : (k : Int) = h3
                · have hb := hidp he
                  rw [show decide ((k : Int) = h3) = true by simp [he]] at CH
                  have e1 : ((k : Int) == h3) = true := by simp [he]
                  have e2 : ((k : Int) != h3) = false := by simp [he]
                  obtain ⟨bo, hbo⟩ : ∃ bo, boostS (grantS s2) k = bo := ⟨_, rfl⟩
                  rw [hbo] at CB
                  clear he hbo hh
                  by_cases hz : bo = 0
                  · subst hz
                    go_wp2_with (first | (go_at_call 21; refine CH.mono ?_; rintro e u ⟨rfl, rfl⟩) | (go_at_call 26; refine CB.mono ?_; rintro e u ⟨rfl, rfl⟩))
                    go_roundg (gk - 1)
                    case measure => omega
                    case rel => exact ⟨k + 1, by omega, by go_num, rfl⟩
                  · have e3 : (bo != 0) = true := by simpa using hz
                    clear hz
                    go_wp2_with (first | (go_at_call 21; refine CH.mono ?_; rintro e u ⟨rfl, rfl⟩) | (go_at_call 26; refine CB.mono ?_; rintro e u ⟨rfl, rfl⟩))
                    go_roundg (gk - 1)
                    case measure => omega
                    case rel => exact ⟨k + 1, by omega, by go_num, rfl⟩
                · have e1 : ((k : Int) == h3) = false := by simpa using he
                  rw [show decide ((k : Int) = h3) = false by simp [he]] at CH
                  have hbz := HI.out.boost hk6 (by rw [HH3.out]; exact he)
                  rw [hbz] at CB
                  clear he hh hbz
                  go_wp2_with (first | (go_at_call 21; refine CH.mono ?_; rintro e u ⟨rfl, rfl⟩) | (go_at_call 26; refine CB.mono ?_; rintro e u ⟨rfl, rfl⟩))
                  go_roundg (gk - 1)
                  case measure => omega
                  case rel => exact ⟨k + 1, by omega, by go_num, rfl⟩
              · obtain rfl : k = 6 := by omega
                go_wp2
                go_roundg (us.length - i - 1)
                case measure => have := Hi.out; omega
                case rel => exact ⟨i + 1, grantS s2, F3, ins2, h3, by have := Hi.out; omega, by go_num, rfl, by rw [← HH3.out]; exact HI, HC3, L3, B3, AP3, HB3⟩
      · have hins : wr.cell? ⟨ib, t, none⟩ = some (.bool (ins.getD t false)) := bools_at B.out (by rw [HI0.out.j.len]; omega)
        have hsp : (y5 = 0 ∧ ¬ 0 ≤ h) ∨ ¬ y5 = 0 := by
          by_cases e : y5 = 0
          · exact .inl ⟨e, fun h0 => hA ⟨e, h0⟩⟩
          · exact .inr e
        cases hit : ins.getD t false with
        | true =>
          rw [hit] at hins
          have HJ := hidp HI0.out.j
          have HC2 : Hid (s.count ≤ 7 * (i : Int) + 1) := hidp (by have := HC.out; omega)
          have L2 := L
          have B2 := B
          have AP2 := AP
          have HB2 := HB
          clear hA hit
          rcases hsp with ⟨rfl, hh0⟩ | z5
          · go_wp2_with fail
            have CG := li_grant L2.out (by have := HC2.out; omega)
            go_wp2_with fail
            refine CG.mono ?_
            rintro e w3 ⟨A, n, c, F3, rfl, _, l3, s3, _⟩
            have HI := hidp HJ.out.grant
            have HC3 : Hid ((grantS s).count ≤ 7 * ((i + 1 : Nat) : Int)) := hidp (by have := HC2.out; have := (grant_count HJ.out.ok).1; omega)
            have B3 := hidp (B2.out.turned s3.turned AP2.out)
            have AP3 : Hid (ib ∉ bl :: F3) := hidp (fun hm => by
              rcases List.mem_cons.1 hm with h | h
              · exact AP2.out (h ▸ by simp)
              · rcases s3.fps _ h with h | h
                · exact AP2.out (List.mem_cons_of_mem _ h)
                · have := B2.out.lt; omega)
            have HB3 := hidp (HB2.out.trans (s3.turned.below HB2.out.size (fun q hq => by
              rcases List.mem_cons.1 hq with rfl | hq
              · have := L2.out.base; have := HW1.out; omega
              · have := L2.out.news q hq; have := HW1.out; omega)))
            have L3 := hidp l3
            clear CG l3 s3
            have HN := hidp (show h < 0 by omega)
            have hneg := HN.out
            clear hh0
            go_wp2
            go_loopg [5, 8] 6 (fun g hv kv wr2 => ∃ k : Nat, k + g = 6 ∧ kv = .int .i64 k ∧ hv = .int .i64 (lastN ins k) ∧ w3 = wr2)
            case atStart => exact ⟨0, by omega, rfl, congrArg (Value.int .i64) (by have := HJ.out.hr; have := HN.out; show h = -1; omega), rfl⟩
            case round =>
              obtain ⟨k, hk, rfl, rfl, rfl⟩ := hrel
              by_cases hk6 : k < 6
              · obtain ⟨v, hv⟩ : ∃ v, ins.getD k false = v := ⟨_, rfl⟩
                have ck : w3.cell? ⟨ib, k, none⟩ = some (.bool v) := by rw [← hv]; exact bools_at B3.out (by have := HJ.out.len; omega)
                have Hv := hidp hv
                clear hv
                have d3 : decide (6 ≤ k) = false := decide_eq_false (by omega)
                cases v with
                | true =>
                  have Hl : Hid (lastN ins (k + 1) = (k : Int)) := hidp (by unfold lastN; rw [if_pos Hv.out])
                  go_wp2
                  go_roundg (6 - k - 1)
                  case measure => omega
                  case rel => exact ⟨k + 1, by omega, by go_num, congrArg (Value.int .i64) Hl.out.symm, rfl⟩
                | false =>
                  have Hl : Hid (lastN ins (k + 1) = lastN ins k) := hidp (lastN_skip Hv.out)
                  go_wp2
                  go_roundg (6 - k - 1)
                  case measure => omega
                  case rel => exact ⟨k + 1, by omega, by go_num, congrArg (Value.int .i64) Hl.out.symm, rfl⟩
              · obtain rfl : k = 6 := by omega
                obtain ⟨h3, HH3⟩ : ∃ h3, Hid (nextH ins h = h3) := ⟨_, hidp rfl⟩
                have e6 : lastN ins 6 = h3 := by rw [← HH3.out]; unfold nextH; rw [if_pos HN.out]
                rw [e6]
                clear e6 hneg hk
                go_wp2
                go_loopg [9] 6 (fun g kv wr2 => ∃ k : Nat, k + g = 6 ∧ kv = .int .i64 k ∧ w3 = wr2)
                case atStart => exact ⟨0, by omega, rfl, rfl⟩
                case round =>
                  obtain ⟨k, hk, rfl, rfl⟩ := hrel
                  by_cases hk6 : k < 6
                  · have CH := li_holds L3.out (k : Int)
                    have CB := li_boost L3.out (k : Int)
                    have hh := HI.out.j.hh k hk6
                    rw [HH3.out] at hh
                    rw [hh] at CH
                    by_cases he : (k : Int) = h3
                    · have hb := hidp he
                      rw [show decide ((k : Int) = h3) = true by simp [he]] at CH
                      have e1 : ((k : Int) == h3) = true := by simp [he]
                      have e2 : ((k : Int) != h3) = false := by simp [he]
                      obtain ⟨bo, hbo⟩ : ∃ bo, boostS (grantS s) k = bo := ⟨_, rfl⟩
                      rw [hbo] at CB
                      clear he hbo hh
                      by_cases hz : bo = 0
                      · subst hz
                        go_wp2_with (first | (go_at_call 21; refine CH.mono ?_; rintro e u ⟨rfl, rfl⟩) | (go_at_call 26; refine CB.mono ?_; rintro e u ⟨rfl, rfl⟩))
                        go_roundg (gk - 1)
                        case measure => omega
                        case rel => exact ⟨k + 1, by omega, by go_num, rfl⟩
                      · have e3 : (bo != 0) = true := by simpa using hz
                        clear hz
                        go_wp2_with (first | (go_at_call 21; refine CH.mono ?_; rintro e u ⟨rfl, rfl⟩) | (go_at_call 26; refine CB.mono ?_; rintro e u ⟨rfl, rfl⟩))
                        go_roundg (gk - 1)
                        case measure => omega
                        case rel => exact ⟨k + 1, by omega, by go_num, rfl⟩
                    · have e1 : ((k : Int) == h3) = false := by simpa using he
                      rw [show decide ((k : Int) = h3) = false by simp [he]] at CH
                      have hbz := HI.out.boost hk6 (by rw [HH3.out]; exact he)
                      rw [hbz] at CB
                      clear he hh hbz
                      go_wp2_with (first | (go_at_call 21; refine CH.mono ?_; rintro e u ⟨rfl, rfl⟩) | (go_at_call 26; refine CB.mono ?_; rintro e u ⟨rfl, rfl⟩))
                      go_roundg (gk - 1)
                      case measure => omega
                      case rel => exact ⟨k + 1, by omega, by go_num, rfl⟩
                  · obtain rfl : k = 6 := by omega
                    go_wp2
                    go_roundg (us.length - i - 1)
                    case measure => have := Hi.out; omega
                    case rel => exact ⟨i + 1, grantS s, F3, ins, h3, by have := Hi.out; omega, by go_num, rfl, by rw [← HH3.out]; exact HI, HC3, L3, B3, AP3, HB3⟩
          · have z5' : (y5 == 0) = false := by simpa using z5
            clear z5
            go_wp2_with fail
            have CG := li_grant L2.out (by have := HC2.out; omega)
            go_wp2_with fail
            refine CG.mono ?_
            rintro e w3 ⟨A, n, c, F3, rfl, _, l3, s3, _⟩
            have HI := hidp HJ.out.grant
            have HC3 : Hid ((grantS s).count ≤ 7 * ((i + 1 : Nat) : Int)) := hidp (by have := HC2.out; have := (grant_count HJ.out.ok).1; omega)
            have B3 := hidp (B2.out.turned s3.turned AP2.out)
            have AP3 : Hid (ib ∉ bl :: F3) := hidp (fun hm => by
              rcases List.mem_cons.1 hm with h | h
              · exact AP2.out (h ▸ by simp)
              · rcases s3.fps _ h with h | h
                · exact AP2.out (List.mem_cons_of_mem _ h)
                · have := B2.out.lt; omega)
            have HB3 := hidp (HB2.out.trans (s3.turned.below HB2.out.size (fun q hq => by
              rcases List.mem_cons.1 hq with rfl | hq
              · have := L2.out.base; have := HW1.out; omega
              · have := L2.out.news q hq; have := HW1.out; omega)))
            have L3 := hidp l3
            clear CG l3 s3
            by_cases hneg : h < 0
            · have HN := hidp hneg
              clear hneg
              have hneg := HN.out
              go_wp2
              go_loopg [5, 8] 6 (fun g hv kv wr2 => ∃ k : Nat, k + g = 6 ∧ kv = .int .i64 k ∧ hv = .int .i64 (lastN ins k) ∧ w3 = wr2)
              case atStart => exact ⟨0, by omega, rfl, congrArg (Value.int .i64) (by have := HJ.out.hr; have := HN.out; show h = -1; omega), rfl⟩
              case round =>
                obtain ⟨k, hk, rfl, rfl, rfl⟩ := hrel
                by_cases hk6 : k < 6
                · obtain ⟨v, hv⟩ : ∃ v, ins.getD k false = v := ⟨_, rfl⟩
                  have ck : w3.cell? ⟨ib, k, none⟩ = some (.bool v) := by rw [← hv]; exact bools_at B3.out (by have := HJ.out.len; omega)
                  have Hv := hidp hv
                  clear hv
                  have d3 : decide (6 ≤ k) = false := decide_eq_false (by omega)
                  cases v with
                  | true =>
                    have Hl : Hid (lastN ins (k + 1) = (k : Int)) := hidp (by unfold lastN; rw [if_pos Hv.out])
                    go_wp2
                    go_roundg (6 - k - 1)
                    case measure => omega
                    case rel => exact ⟨k + 1, by omega, by go_num, congrArg (Value.int .i64) Hl.out.symm, rfl⟩
                  | false =>
                    have Hl : Hid (lastN ins (k + 1) = lastN ins k) := hidp (lastN_skip Hv.out)
                    go_wp2
                    go_roundg (6 - k - 1)
                    case measure => omega
                    case rel => exact ⟨k + 1, by omega, by go_num, congrArg (Value.int .i64) Hl.out.symm, rfl⟩
                · obtain rfl : k = 6 := by omega
                  obtain ⟨h3, HH3⟩ : ∃ h3, Hid (nextH ins h = h3) := ⟨_, hidp rfl⟩
                  have e6 : lastN ins 6 = h3 := by rw [← HH3.out]; unfold nextH; rw [if_pos HN.out]
                  rw [e6]
                  clear e6 hneg hk
                  go_wp2
                  go_loopg [9] 6 (fun g kv wr2 => ∃ k : Nat, k + g = 6 ∧ kv = .int .i64 k ∧ w3 = wr2)
                  case atStart => exact ⟨0, by omega, rfl, rfl⟩
                  case round =>
                    obtain ⟨k, hk, rfl, rfl⟩ := hrel
                    by_cases hk6 : k < 6
                    · have CH := li_holds L3.out (k : Int)
                      have CB := li_boost L3.out (k : Int)
                      have hh := HI.out.j.hh k hk6
                      rw [HH3.out] at hh
                      rw [hh] at CH
                      by_cases he : (k : Int) = h3
                      · have hb := hidp he
                        rw [show decide ((k : Int) = h3) = true by simp [he]] at CH
                        have e1 : ((k : Int) == h3) = true := by simp [he]
                        have e2 : ((k : Int) != h3) = false := by simp [he]
                        obtain ⟨bo, hbo⟩ : ∃ bo, boostS (grantS s) k = bo := ⟨_, rfl⟩
                        rw [hbo] at CB
                        clear he hbo hh
                        by_cases hz : bo = 0
                        · subst hz
                          go_wp2_with (first | (go_at_call 21; refine CH.mono ?_; rintro e u ⟨rfl, rfl⟩) | (go_at_call 26; refine CB.mono ?_; rintro e u ⟨rfl, rfl⟩))
                          go_roundg (gk - 1)
                          case measure => omega
                          case rel => exact ⟨k + 1, by omega, by go_num, rfl⟩
                        · have e3 : (bo != 0) = true := by simpa using hz
                          clear hz
                          go_wp2_with (first | (go_at_call 21; refine CH.mono ?_; rintro e u ⟨rfl, rfl⟩) | (go_at_call 26; refine CB.mono ?_; rintro e u ⟨rfl, rfl⟩))
                          go_roundg (gk - 1)
                          case measure => omega
                          case rel => exact ⟨k + 1, by omega, by go_num, rfl⟩
                      · have e1 : ((k : Int) == h3) = false := by simpa using he
                        rw [show decide ((k : Int) = h3) = false by simp [he]] at CH
                        have hbz := HI.out.boost hk6 (by rw [HH3.out]; exact he)
                        rw [hbz] at CB
                        clear he hh hbz
                        go_wp2_with (first | (go_at_call 21; refine CH.mono ?_; rintro e u ⟨rfl, rfl⟩) | (go_at_call 26; refine CB.mono ?_; rintro e u ⟨rfl, rfl⟩))
                        go_roundg (gk - 1)
                        case measure => omega
                        case rel => exact ⟨k + 1, by omega, by go_num, rfl⟩
                    · obtain rfl : k = 6 := by omega
                      go_wp2
                      go_roundg (us.length - i - 1)
                      case measure => have := Hi.out; omega
                      case rel => exact ⟨i + 1, grantS s, F3, ins, h3, by have := Hi.out; omega, by go_num, rfl, by rw [← HH3.out]; exact HI, HC3, L3, B3, AP3, HB3⟩
            · obtain ⟨h3, HH3⟩ : ∃ h3, Hid (nextH ins h = h3) := ⟨_, hidp rfl⟩
              have e6 : h3 = h := by rw [← HH3.out]; unfold nextH; rw [if_neg hneg]
              subst e6
              have hneg2 : decide (h3 < 0) = false := decide_eq_false hneg
              have hneg3 : 0 ≤ h3 := by omega
              clear hneg
              go_wp2
              go_loopg [9] 6 (fun g kv wr2 => ∃ k : Nat, k + g = 6 ∧ kv = .int .i64 k ∧ w3 = wr2)
              case atStart => exact ⟨0, by omega, rfl, rfl⟩
              case round =>
                obtain ⟨k, hk, rfl, rfl⟩ := hrel
                by_cases hk6 : k < 6
                · have CH := li_holds L3.out (k : Int)
                  have CB := li_boost L3.out (k : Int)
                  have hh := HI.out.j.hh k hk6
                  rw [HH3.out] at hh
                  rw [hh] at CH
                  by_cases he : (k : Int) = h3
                  · have hb := hidp he
                    rw [show decide ((k : Int) = h3) = true by simp [he]] at CH
                    have e1 : ((k : Int) == h3) = true := by simp [he]
                    have e2 : ((k : Int) != h3) = false := by simp [he]
                    obtain ⟨bo, hbo⟩ : ∃ bo, boostS (grantS s) k = bo := ⟨_, rfl⟩
                    rw [hbo] at CB
                    clear he hbo hh
                    by_cases hz : bo = 0
                    · subst hz
                      go_wp2_with (first | (go_at_call 21; refine CH.mono ?_; rintro e u ⟨rfl, rfl⟩) | (go_at_call 26; refine CB.mono ?_; rintro e u ⟨rfl, rfl⟩))
                      go_roundg (gk - 1)
                      case measure => omega
                      case rel => exact ⟨k + 1, by omega, by go_num, rfl⟩
                    · have e3 : (bo != 0) = true := by simpa using hz
                      clear hz
                      go_wp2_with (first | (go_at_call 21; refine CH.mono ?_; rintro e u ⟨rfl, rfl⟩) | (go_at_call 26; refine CB.mono ?_; rintro e u ⟨rfl, rfl⟩))
                      go_roundg (gk - 1)
                      case measure => omega
                      case rel => exact ⟨k + 1, by omega, by go_num, rfl⟩
                  · have e1 : ((k : Int) == h3) = false := by simpa using he
                    rw [show decide ((k : Int) = h3) = false by simp [he]] at CH
                    have hbz := HI.out.boost hk6 (by rw [HH3.out]; exact he)
                    rw [hbz] at CB
                    clear he hh hbz
                    go_wp2_with (first | (go_at_call 21; refine CH.mono ?_; rintro e u ⟨rfl, rfl⟩) | (go_at_call 26; refine CB.mono ?_; rintro e u ⟨rfl, rfl⟩))
                    go_roundg (gk - 1)
                    case measure => omega
                    case rel => exact ⟨k + 1, by omega, by go_num, rfl⟩
                · obtain rfl : k = 6 := by omega
                  go_wp2
                  go_roundg (us.length - i - 1)
                  case measure => have := Hi.out; omega
                  case rel => exact ⟨i + 1, grantS s, F3, ins, h3, by have := Hi.out; omega, by go_num, rfl, by rw [← HH3.out]; exact HI, HC3, L3, B3, AP3, HB3⟩
        | false =>
          rw [hit] at hins
          obtain ⟨e1, j1⟩ := HI0.out.ask ht6 hit ⟨r0, r1⟩
          have CL := li_ask L.out (t := (t : Int)) (r := r) (by unfold I64; omega) (by have := HC.out; omega) (.inr (.inl HI0.out.j.sh.proto))
          rw [e1] at CL
          have HJ0 := hidp j1
          have hcnt := hidp (ask_count s t r).1
          clear hA hit j1 e1
          rcases hsp with ⟨rfl, hh0⟩ | z5
          · go_wp2_with fail
            refine CL.mono ?_
            rintro e wx ⟨rfl, F2, l2, st2⟩
            have AP2a : ib ∉ bl :: F2 := fun hm => by
              rcases List.mem_cons.1 hm with h | h
              · exact AP.out (h ▸ by simp)
              · rcases st2.fps _ h with h | h
                · exact AP.out (List.mem_cons_of_mem _ h)
                · have := B.out.lt; omega
            have b2 := B.out.turned st2.turned AP.out
            have cb2 := bools_at b2 (i := t) (by rw [HI0.out.j.len]; omega)
            have fz := b2.frozen t
            have HBx := hidp (HB.out.trans (st2.turned.below HB.out.size (fun q hq => by
              rcases List.mem_cons.1 hq with rfl | hq
              · have := L.out.base; have := HW1.out; omega
              · have := L.out.news q hq; have := HW1.out; omega)))
            have tz : Turned [ib] wx (wx.setCell ⟨ib, t, none⟩ (.bool true)) := (Turned.refl [ib] wx).setCell (.inl (by simp)) _
            have B2 : Hid (Bk (wx.setCell ⟨ib, t, none⟩ (.bool true)) ib 49 (bools (ins.set t true))) := hidp (by have := b2.put t (.bool true); rw [bools_put] at this; exact this)
            have L2 := hidp (l2.turned tz (fun q hq hm => by rw [List.mem_singleton] at hm; subst hm; exact AP2a hq) (fun q hq => by rw [List.mem_singleton] at hq; subst hq; have := HIB2.out; omega))
            have HB2 := hidp (HBx.out.trans (tz.below HBx.out.size (fun q hq => by rw [List.mem_singleton] at hq; subst hq; exact HIB.out)))
            have AP2 := hidp AP2a
            have HC2 : Hid ((askS s t r).count ≤ 7 * (i : Int) + 1) := hidp (by have := HC.out; have := hcnt.out; omega)
            have HJ := HJ0
            obtain ⟨s2, hs2⟩ : ∃ s2, askS s t r = s2 := ⟨_, rfl⟩
            obtain ⟨ins2, hi2⟩ : ∃ ins2, ins.set t true = ins2 := ⟨_, rfl⟩
            obtain ⟨h2, hh2⟩ : ∃ h2, h = h2 := ⟨_, rfl⟩
            subst hh2
            rw [hs2] at HJ L2 HC2
            rw [hi2] at HJ B2
            clear hs2 hi2 CL l2 st2 b2 tz AP2a
            obtain ⟨wz, hwz⟩ : ∃ wz, wx.setCell ⟨ib, t, none⟩ (.bool true) = wz := ⟨_, rfl⟩
            rw [hwz] at B2 L2 HB2
            go_wp2_with fail
            try rw [hwz]
            clear hwz
            have CG := li_grant L2.out (by have := HC2.out; omega)
            go_wp2_with fail
            refine CG.mono ?_
            rintro e w3 ⟨A, n, c, F3, rfl, _, l3, s3, _⟩
            have HI := hidp HJ.out.grant
            have HC3 : Hid ((grantS s2).count ≤ 7 * ((i + 1 : Nat) : Int)) := hidp (by have := HC2.out; have := (grant_count HJ.out.ok).1; omega)
            have B3 := hidp (B2.out.turned s3.turned AP2.out)
            have AP3 : Hid (ib ∉ bl :: F3) := hidp (fun hm => by
              rcases List.mem_cons.1 hm with h | h
              · exact AP2.out (h ▸ by simp)
              · rcases s3.fps _ h with h | h
                · exact AP2.out (List.mem_cons_of_mem _ h)
                · have := B2.out.lt; omega)
            have HB3 := hidp (HB2.out.trans (s3.turned.below HB2.out.size (fun q hq => by
              rcases List.mem_cons.1 hq with rfl | hq
              · have := L2.out.base; have := HW1.out; omega
              · have := L2.out.news q hq; have := HW1.out; omega)))
            have L3 := hidp l3
            clear CG l3 s3
            have HN := hidp (show h < 0 by omega)
            have hneg := HN.out
            clear hh0
            go_wp2
            go_loopg [5, 8] 6 (fun g hv kv wr2 => ∃ k : Nat, k + g = 6 ∧ kv = .int .i64 k ∧ hv = .int .i64 (lastN ins2 k) ∧ w3 = wr2)
            case atStart => exact ⟨0, by omega, rfl, congrArg (Value.int .i64) (by have := HJ.out.hr; have := HN.out; show h = -1; omega), rfl⟩
            case round =>
              obtain ⟨k, hk, rfl, rfl, rfl⟩ := hrel
              by_cases hk6 : k < 6
              · obtain ⟨v, hv⟩ : ∃ v, ins2.getD k false = v := ⟨_, rfl⟩
                have ck : w3.cell? ⟨ib, k, none⟩ = some (.bool v) := by rw [← hv]; exact bools_at B3.out (by have := HJ.out.len; omega)
                have Hv := hidp hv
                clear hv
                have d3 : decide (6 ≤ k) = false := decide_eq_false (by omega)
                cases v with
                | true =>
                  have Hl : Hid (lastN ins2 (k + 1) = (k : Int)) := hidp (by unfold lastN; rw [if_pos Hv.out])
                  go_wp2
                  go_roundg (6 - k - 1)
                  case measure => omega
                  case rel => exact ⟨k + 1, by omega, by go_num, congrArg (Value.int .i64) Hl.out.symm, rfl⟩
                | false =>
                  have Hl : Hid (lastN ins2 (k + 1) = lastN ins2 k) := hidp (lastN_skip Hv.out)
                  go_wp2
                  go_roundg (6 - k - 1)
                  case measure => omega
                  case rel => exact ⟨k + 1, by omega, by go_num, congrArg (Value.int .i64) Hl.out.symm, rfl⟩
              · obtain rfl : k = 6 := by omega
                obtain ⟨h3, HH3⟩ : ∃ h3, Hid (nextH ins2 h = h3) := ⟨_, hidp rfl⟩
                have e6 : lastN ins2 6 = h3 := by rw [← HH3.out]; unfold nextH; rw [if_pos HN.out]
                rw [e6]
                clear e6 hneg hk
                go_wp2
                go_loopg [9] 6 (fun g kv wr2 => ∃ k : Nat, k + g = 6 ∧ kv = .int .i64 k ∧ w3 = wr2)
                case atStart => exact ⟨0, by omega, rfl, rfl⟩
                case round =>
                  obtain ⟨k, hk, rfl, rfl⟩ := hrel
                  by_cases hk6 : k < 6
                  · have CH := li_holds L3.out (k : Int)
                    have CB := li_boost L3.out (k : Int)
                    have hh := HI.out.j.hh k hk6
                    rw [HH3.out] at hh
                    rw [hh] at CH
                    by_cases he : (k : Int) = h3
                    · have hb := hidp he
                      rw [show decide ((k : Int) = h3) = true by simp [he]] at CH
                      have e1 : ((k : Int) == h3) = true := by simp [he]
                      have e2 : ((k : Int) != h3) = false := by simp [he]
                      obtain ⟨bo, hbo⟩ : ∃ bo, boostS (grantS s2) k = bo := ⟨_, rfl⟩
                      rw [hbo] at CB
                      clear he hbo hh
                      by_cases hz : bo = 0
                      · subst hz
                        go_wp2_with (first | (go_at_call 21; refine CH.mono ?_; rintro e u ⟨rfl, rfl⟩) | (go_at_call 26; refine CB.mono ?_; rintro e u ⟨rfl, rfl⟩))
                        go_roundg (gk - 1)
                        case measure => omega
                        case rel => exact ⟨k + 1, by omega, by go_num, rfl⟩
                      · have e3 : (bo != 0) = true := by simpa using hz
                        clear hz
                        go_wp2_with (first | (go_at_call 21; refine CH.mono ?_; rintro e u ⟨rfl, rfl⟩) | (go_at_call 26; refine CB.mono ?_; rintro e u ⟨rfl, rfl⟩))
                        go_roundg (gk - 1)
                        case measure => omega
                        case rel => exact ⟨k + 1, by omega, by go_num, rfl⟩
                    · have e1 : ((k : Int) == h3) = false := by simpa using he
                      rw [show decide ((k : Int) = h3) = false by simp [he]] at CH
                      have hbz := HI.out.boost hk6 (by rw [HH3.out]; exact he)
                      rw [hbz] at CB
                      clear he hh hbz
                      go_wp2_with (first | (go_at_call 21; refine CH.mono ?_; rintro e u ⟨rfl, rfl⟩) | (go_at_call 26; refine CB.mono ?_; rintro e u ⟨rfl, rfl⟩))
                      go_roundg (gk - 1)
                      case measure => omega
                      case rel => exact ⟨k + 1, by omega, by go_num, rfl⟩
                  · obtain rfl : k = 6 := by omega
                    go_wp2
                    go_roundg (us.length - i - 1)
                    case measure => have := Hi.out; omega
                    case rel => exact ⟨i + 1, grantS s2, F3, ins2, h3, by have := Hi.out; omega, by go_num, rfl, by rw [← HH3.out]; exact HI, HC3, L3, B3, AP3, HB3⟩
          · have z5' : (y5 == 0) = false := by simpa using z5
            clear z5
            go_wp2_with fail
            refine CL.mono ?_
            rintro e wx ⟨rfl, F2, l2, st2⟩
            have AP2a : ib ∉ bl :: F2 := fun hm => by
              rcases List.mem_cons.1 hm with h | h
              · exact AP.out (h ▸ by simp)
              · rcases st2.fps _ h with h | h
                · exact AP.out (List.mem_cons_of_mem _ h)
                · have := B.out.lt; omega
            have b2 := B.out.turned st2.turned AP.out
            have cb2 := bools_at b2 (i := t) (by rw [HI0.out.j.len]; omega)
            have fz := b2.frozen t
            have HBx := hidp (HB.out.trans (st2.turned.below HB.out.size (fun q hq => by
              rcases List.mem_cons.1 hq with rfl | hq
              · have := L.out.base; have := HW1.out; omega
              · have := L.out.news q hq; have := HW1.out; omega)))
            have tz : Turned [ib] wx (wx.setCell ⟨ib, t, none⟩ (.bool true)) := (Turned.refl [ib] wx).setCell (.inl (by simp)) _
            have B2 : Hid (Bk (wx.setCell ⟨ib, t, none⟩ (.bool true)) ib 49 (bools (ins.set t true))) := hidp (by have := b2.put t (.bool true); rw [bools_put] at this; exact this)
            have L2 := hidp (l2.turned tz (fun q hq hm => by rw [List.mem_singleton] at hm; subst hm; exact AP2a hq) (fun q hq => by rw [List.mem_singleton] at hq; subst hq; have := HIB2.out; omega))
            have HB2 := hidp (HBx.out.trans (tz.below HBx.out.size (fun q hq => by rw [List.mem_singleton] at hq; subst hq; exact HIB.out)))
            have AP2 := hidp AP2a
            have HC2 : Hid ((askS s t r).count ≤ 7 * (i : Int) + 1) := hidp (by have := HC.out; have := hcnt.out; omega)
            have HJ := HJ0
            obtain ⟨s2, hs2⟩ : ∃ s2, askS s t r = s2 := ⟨_, rfl⟩
            obtain ⟨ins2, hi2⟩ : ∃ ins2, ins.set t true = ins2 := ⟨_, rfl⟩
            obtain ⟨h2, hh2⟩ : ∃ h2, h = h2 := ⟨_, rfl⟩
            subst hh2
            rw [hs2] at HJ L2 HC2
            rw [hi2] at HJ B2
            clear hs2 hi2 CL l2 st2 b2 tz AP2a
            obtain ⟨wz, hwz⟩ : ∃ wz, wx.setCell ⟨ib, t, none⟩ (.bool true) = wz := ⟨_, rfl⟩
            rw [hwz] at B2 L2 HB2
            go_wp2_with fail
            try rw [hwz]
            clear hwz
            have CG := li_grant L2.out (by have := HC2.out; omega)
            go_wp2_with fail
            refine CG.mono ?_
            rintro e w3 ⟨A, n, c, F3, rfl, _, l3, s3, _⟩
            have HI := hidp HJ.out.grant
            have HC3 : Hid ((grantS s2).count ≤ 7 * ((i + 1 : Nat) : Int)) := hidp (by have := HC2.out; have := (grant_count HJ.out.ok).1; omega)
            have B3 := hidp (B2.out.turned s3.turned AP2.out)
            have AP3 : Hid (ib ∉ bl :: F3) := hidp (fun hm => by
              rcases List.mem_cons.1 hm with h | h
              · exact AP2.out (h ▸ by simp)
              · rcases s3.fps _ h with h | h
                · exact AP2.out (List.mem_cons_of_mem _ h)
                · have := B2.out.lt; omega)
            have HB3 := hidp (HB2.out.trans (s3.turned.below HB2.out.size (fun q hq => by
              rcases List.mem_cons.1 hq with rfl | hq
              · have := L2.out.base; have := HW1.out; omega
              · have := L2.out.news q hq; have := HW1.out; omega)))
            have L3 := hidp l3
            clear CG l3 s3
            by_cases hneg : h < 0
            · have HN := hidp hneg
              clear hneg
              have hneg := HN.out
              go_wp2
              go_loopg [5, 8] 6 (fun g hv kv wr2 => ∃ k : Nat, k + g = 6 ∧ kv = .int .i64 k ∧ hv = .int .i64 (lastN ins2 k) ∧ w3 = wr2)
              case atStart => exact ⟨0, by omega, rfl, congrArg (Value.int .i64) (by have := HJ.out.hr; have := HN.out; show h = -1; omega), rfl⟩
              case round =>
                obtain ⟨k, hk, rfl, rfl, rfl⟩ := hrel
                by_cases hk6 : k < 6
                · obtain ⟨v, hv⟩ : ∃ v, ins2.getD k false = v := ⟨_, rfl⟩
                  have ck : w3.cell? ⟨ib, k, none⟩ = some (.bool v) := by rw [← hv]; exact bools_at B3.out (by have := HJ.out.len; omega)
                  have Hv := hidp hv
                  clear hv
                  have d3 : decide (6 ≤ k) = false := decide_eq_false (by omega)
                  cases v with
                  | true =>
                    have Hl : Hid (lastN ins2 (k + 1) = (k : Int)) := hidp (by unfold lastN; rw [if_pos Hv.out])
                    go_wp2
                    go_roundg (6 - k - 1)
                    case measure => omega
                    case rel => exact ⟨k + 1, by omega, by go_num, congrArg (Value.int .i64) Hl.out.symm, rfl⟩
                  | false =>
                    have Hl : Hid (lastN ins2 (k + 1) = lastN ins2 k) := hidp (lastN_skip Hv.out)
                    go_wp2
                    go_roundg (6 - k - 1)
                    case measure => omega
                    case rel => exact ⟨k + 1, by omega, by go_num, congrArg (Value.int .i64) Hl.out.symm, rfl⟩
                · obtain rfl : k = 6 := by omega
                  obtain ⟨h3, HH3⟩ : ∃ h3, Hid (nextH ins2 h = h3) := ⟨_, hidp rfl⟩
                  have e6 : lastN ins2 6 = h3 := by rw [← HH3.out]; unfold nextH; rw [if_pos HN.out]
                  rw [e6]
                  clear e6 hneg hk
                  go_wp2
                  go_loopg [9] 6 (fun g kv wr2 => ∃ k : Nat, k + g = 6 ∧ kv = .int .i64 k ∧ w3 = wr2)
                  case atStart => exact ⟨0, by omega, rfl, rfl⟩
                  case round =>
                    obtain ⟨k, hk, rfl, rfl⟩ := hrel
                    by_cases hk6 : k < 6
                    · have CH := li_holds L3.out (k : Int)
                      have CB := li_boost L3.out (k : Int)
                      have hh := HI.out.j.hh k hk6
                      rw [HH3.out] at hh
                      rw [hh] at CH
                      by_cases he : (k : Int) = h3
                      · have hb := hidp he
                        rw [show decide ((k : Int) = h3) = true by simp [he]] at CH
                        have e1 : ((k : Int) == h3) = true := by simp [he]
                        have e2 : ((k : Int) != h3) = false := by simp [he]
                        obtain ⟨bo, hbo⟩ : ∃ bo, boostS (grantS s2) k = bo := ⟨_, rfl⟩
                        rw [hbo] at CB
                        clear he hbo hh
                        by_cases hz : bo = 0
                        · subst hz
                          go_wp2_with (first | (go_at_call 21; refine CH.mono ?_; rintro e u ⟨rfl, rfl⟩) | (go_at_call 26; refine CB.mono ?_; rintro e u ⟨rfl, rfl⟩))
                          go_roundg (gk - 1)
                          case measure => omega
                          case rel => exact ⟨k + 1, by omega, by go_num, rfl⟩
                        · have e3 : (bo != 0) = true := by simpa using hz
                          clear hz
                          go_wp2_with (first | (go_at_call 21; refine CH.mono ?_; rintro e u ⟨rfl, rfl⟩) | (go_at_call 26; refine CB.mono ?_; rintro e u ⟨rfl, rfl⟩))
                          go_roundg (gk - 1)
                          case measure => omega
                          case rel => exact ⟨k + 1, by omega, by go_num, rfl⟩
                      · have e1 : ((k : Int) == h3) = false := by simpa using he
                        rw [show decide ((k : Int) = h3) = false by simp [he]] at CH
                        have hbz := HI.out.boost hk6 (by rw [HH3.out]; exact he)
                        rw [hbz] at CB
                        clear he hh hbz
                        go_wp2_with (first | (go_at_call 21; refine CH.mono ?_; rintro e u ⟨rfl, rfl⟩) | (go_at_call 26; refine CB.mono ?_; rintro e u ⟨rfl, rfl⟩))
                        go_roundg (gk - 1)
                        case measure => omega
                        case rel => exact ⟨k + 1, by omega, by go_num, rfl⟩
                    · obtain rfl : k = 6 := by omega
                      go_wp2
                      go_roundg (us.length - i - 1)
                      case measure => have := Hi.out; omega
                      case rel => exact ⟨i + 1, grantS s2, F3, ins2, h3, by have := Hi.out; omega, by go_num, rfl, by rw [← HH3.out]; exact HI, HC3, L3, B3, AP3, HB3⟩
            · obtain ⟨h3, HH3⟩ : ∃ h3, Hid (nextH ins2 h = h3) := ⟨_, hidp rfl⟩
              have e6 : h3 = h := by rw [← HH3.out]; unfold nextH; rw [if_neg hneg]
              subst e6
              have hneg2 : decide (h3 < 0) = false := decide_eq_false hneg
              have hneg3 : 0 ≤ h3 := by omega
              clear hneg
              go_wp2
              go_loopg [9] 6 (fun g kv wr2 => ∃ k : Nat, k + g = 6 ∧ kv = .int .i64 k ∧ w3 = wr2)
              case atStart => exact ⟨0, by omega, rfl, rfl⟩
              case round =>
                obtain ⟨k, hk, rfl, rfl⟩ := hrel
                by_cases hk6 : k < 6
                · have CH := li_holds L3.out (k : Int)
                  have CB := li_boost L3.out (k : Int)
                  have hh := HI.out.j.hh k hk6
                  rw [HH3.out] at hh
                  rw [hh] at CH
                  by_cases he : (k : Int) = h3
                  · have hb := hidp he
                    rw [show decide ((k : Int) = h3) = true by simp [he]] at CH
                    have e1 : ((k : Int) == h3) = true := by simp [he]
                    have e2 : ((k : Int) != h3) = false := by simp [he]
                    obtain ⟨bo, hbo⟩ : ∃ bo, boostS (grantS s2) k = bo := ⟨_, rfl⟩
                    rw [hbo] at CB
                    clear he hbo hh
                    by_cases hz : bo = 0
                    · subst hz
                      go_wp2_with (first | (go_at_call 21; refine CH.mono ?_; rintro e u ⟨rfl, rfl⟩) | (go_at_call 26; refine CB.mono ?_; rintro e u ⟨rfl, rfl⟩))
                      go_roundg (gk - 1)
                      case measure => omega
                      case rel => exact ⟨k + 1, by omega, by go_num, rfl⟩
                    · have e3 : (bo != 0) = true := by simpa using hz
                      clear hz
                      go_wp2_with (first | (go_at_call 21; refine CH.mono ?_; rintro e u ⟨rfl, rfl⟩) | (go_at_call 26; refine CB.mono ?_; rintro e u ⟨rfl, rfl⟩))
                      go_roundg (gk - 1)
                      case measure => omega
                      case rel => exact ⟨k + 1, by omega, by go_num, rfl⟩
                  · have e1 : ((k : Int) == h3) = false := by simpa using he
                    rw [show decide ((k : Int) = h3) = false by simp [he]] at CH
                    have hbz := HI.out.boost hk6 (by rw [HH3.out]; exact he)
                    rw [hbz] at CB
                    clear he hh hbz
                    go_wp2_with (first | (go_at_call 21; refine CH.mono ?_; rintro e u ⟨rfl, rfl⟩) | (go_at_call 26; refine CB.mono ?_; rintro e u ⟨rfl, rfl⟩))
                    go_roundg (gk - 1)
                    case measure => omega
                    case rel => exact ⟨k + 1, by omega, by go_num, rfl⟩
                · obtain rfl : k = 6 := by omega
                  go_wp2
                  go_roundg (us.length - i - 1)
                  case measure => have := Hi.out; omega
                  case rel => exact ⟨i + 1, grantS s2, F3, ins2, h3, by have := Hi.out; omega, by go_num, rfl, by rw [← HH3.out]; exact HI, HC3, L3, B3, AP3, HB3⟩
    · obtain rfl : i = us.length := by omega
      go_wp2
      go_ret
      exact ⟨rfl, HB.out⟩

theorem own : ownKnob Tryz.prog.godebug = none := by kernel_rfl
theorem laidOut : laidOutB Tryz.prog = true := by kernel_rfl

/-! THE ROW's STEP -/
set_option maxRecDepth 100000 in
theorem lifted (os : Os) (started : os.Started) (H : Type) (enc : TypeId × Value → H) :
    ReturnsInHanded {} Tryz.checked os 6 .any (Rows.lockAgentsSpec.pre6 enc Tryz.prog Tryz.f6 Rows.lockAgentsRow.domain false) (Rows.lockAgentsSpec.post enc Tryz.prog Tryz.f6 false true false false) := by
  refine returnsInHanded_of_change (C := Tryz.checked) own started (by kernel_rfl) Tryz.func6
    (ChangeSpec.witness6 (enc := enc) (C := Tryz.checked) false ⟨#[], #[.slice none 0 0], []⟩ 8 (by kernel_rfl) (by kernel_rfl) (by kernel_rfl) (by kernel_rfl)) ?_
  intro W base args ds gs before hval0 hW hcnd _
  have hval : ∀ (j : Nat) t v, Tryz.f6.params[j]? = some t → args[j]? = some v → Value.okWide Tryz.prog W .any base t v := hval0
  have hW' := hW
  obtain ⟨p, q, hA0, hV, rfl, hfz, hnd⟩ := hW
  have hA : DataW.TrodAll enc Tryz.prog W 0 (fun _ => true) true Tryz.f6.params.toList args.toList ds p := hA0
  rw [Tryz.params6] at hA hval
  obtain ⟨v0, vs0, d0, ds0, p0, q0, hargs, rfl, rfl, h0, r0⟩ := trodAll_cons hA
  obtain ⟨rfl, rfl, rfl⟩ := trodAll_nil r0
  obtain rfl : args = #[v0] := by cases args; simp_all
  obtain ⟨rfl, rfl⟩ := trodVars_none hV
  obtain ⟨a0, len0, cap0, rfl⟩ := okWide_slice Tryz.underlying47 (hval 0 47 v0 rfl rfl)
  have k0 := h0
  have lt0 : ∀ x ∈ p0, x.block < W.heap.size := by obtain ⟨m, hm⟩ := k0; exact DataW.trod_lt m _ _ _ hm
  obtain ⟨z0, w0⟩ : ∃ zs, IsRow .u8 W a0 len0 cap0 zs := by
    obtain ⟨fuel, hf⟩ := h0
    rcases open_ints Tryz.underlying47 Tryz.underlying5 (by kernel_rfl) hf with ⟨hcs, _⟩ | ⟨x, l, c, zs, hcs, _, hl, hm, hz, _, hcell, hwz⟩
    · simp [Value.cells] at hcs
      obtain ⟨rfl, rfl, rfl⟩ := hcs
      exact ⟨[], .inl ⟨rfl, rfl, rfl, rfl⟩⟩
    · simp [Value.cells] at hcs
      obtain ⟨rfl, rfl, rfl⟩ := hcs
      exact ⟨zs, .inr ⟨_, rfl, hl, hm, by simpa using hz, hcell, hwz⟩⟩
  clear hA0 hval0
  refine (walk a0 len0 cap0 z0 W w0).mono fun e W' ⟨he, bel⟩ => ?_
  subst he
  exact ⟨_, rfl, _, _, _, [], _, [], hW', trodAll_mk1 (shut_bool Tryz.underlying4 _), (trodAll_cons_mk (Below.trod laidOut (by kernel_rfl) (of_decide_eq_true (by kernel_rfl)) k0 bel lt0) trodAll_mk0), rfl, bel.frame _, fun h => by cases h⟩

theorem over : Rows.lockAgentsRow.holds Tryz.pinned (OpenSpec.ofChange Rows.lockAgentsSpec) :=
  OpenClaim.holds_of_wide 6 Tryz.f6 rfl rfl rfl rfl rfl rfl rfl ⟨rfl, rfl, rfl, rfl, rfl⟩ rfl rfl rfl rfl rfl (by kernel_rfl) Tryz.func6 (by kernel_rfl)
    (of_decide_eq_true (by kernel_rfl)) (by unfold Func.isWrapper; first | (rw [if_pos (by decide +kernel)]; kernel_rfl) | (rw [if_neg (by decide +kernel)]; exact ⟨rfl, rfl⟩))
    (fun os started H enc _ => lifted os started H enc)

/-- THE STATEMENT -/
theorem proved : Rows.LockAgentsSaid := over
#print axioms proved
end Go.Proofs.YtlmdiechnidghaaGreat.lockAgents

