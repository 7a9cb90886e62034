/- LockFair: in one line who asked first holds first, whoever it is. No condition. -/
import Derived.Test.YtlmdiechnidghaaGreatLkJM
import Derived.Test.YtlmdiechnidghaaGreatLkVM
import Derived.Test.YtlmdiechnidghaaGreatCrowd23M
import Derived.Deep.AppendSrc
namespace Go.Proofs.YtlmdiechnidghaaGreat
open Go.ChangeShapes Go.WideShapes Go.ChangeAt Go.RowKit Go.Conc
set_option linter.unusedVariables false
set_option linter.unusedSimpArgs false
theorem let_not {s : Ls} (ho : LsOk s) (hp : s.proto ≠ 3) : letS s = s := by unfold letS; rw [newS_nil ho hp]; rfl
theorem fold_held (xs : List AL) : ∀ (s : Ls) (l : List Int), (∀ a ∈ xs, heldS s a.res = true) → xs.foldl try1 (s, l) = (s, l) := by
  induction xs with
  | nil => exact fun s l _ => rfl
  | cons a xs ih =>
    intro s l h
    rw [List.foldl_cons]
    have e : try1 (s, l) a = (s, l) := by unfold try1; rw [if_pos (h a (by simp))]
    rw [e]
    exact ih s l fun b hb => h b (List.mem_cons_of_mem _ hb)
theorem candS_mem {s : Ls} {a : AL} : a ∈ candS s ↔ a ∈ waitG s := (List.mergeSort_perm _ _).mem_iff
/-- one key for all that ask: somebody holds, nobody is granted; else the one ahead -/
theorem grant_held {s : Ls} (ho : LsOk s) (hp : s.proto ≠ 3) (hall : ∀ a ∈ s.L, ∀ b ∈ s.L, sameK s a.res b.res = true) {b : AL} (hb : b ∈ s.L) (hh : b.holds = true) : grantS s = s := by
  unfold grantS grantP
  rw [let_not ho hp, fold_held]
  exact fun a ha => heldS_true.2 ⟨b, hb, hh, hall b hb a (mem_waitG.1 (candS_mem.1 ha)).1⟩
theorem grant_none {s : Ls} (ho : LsOk s) (hp : s.proto ≠ 3) (h : s.L = []) : grantS s = s := by
  have : candS s = [] := by unfold candS waitG; rw [h]; simp
  unfold grantS grantP
  rw [let_not ho hp, this]; rfl
theorem grant_first {s : Ls} (ho : LsOk s) (hp : s.proto ≠ 3) (hall : ∀ a ∈ s.L, ∀ b ∈ s.L, sameK s a.res b.res = true) (hn : ∀ a ∈ s.L, a.holds = false) (hne : s.L ≠ []) :
    ∃ a ∈ s.L, grantS s = holdS s a.task ∧ ∀ b ∈ s.L, keyS s a ≤ keyS s b := by
  have hw : ∀ a, a ∈ waitG s ↔ a ∈ s.L := fun a => by rw [mem_waitG]; exact ⟨fun h => h.1, fun h => ⟨h, hn a h, ho.tok hp a h⟩⟩
  have hs : (candS s).Pairwise (fun a b => decide (keyS s a ≤ keyS s b) = true) := List.pairwise_mergeSort (le := fun a b => decide (keyS s a ≤ keyS s b)) (fun a b c h1 h2 => by simp at *; omega) (fun a b => by simp; omega) (waitG s)
  cases hc : candS s with
  | nil =>
    obtain ⟨x, hx⟩ := List.exists_mem_of_ne_nil _ hne
    have := candS_mem.2 ((hw x).2 hx)
    rw [hc] at this; simp at this
  | cons a xs =>
    rw [hc] at hs
    have ha : a ∈ s.L := (hw a).1 (candS_mem.1 (by rw [hc]; simp))
    have hax : ∀ b ∈ xs, b ∈ s.L := fun b hb => (hw b).1 (candS_mem.1 (by rw [hc]; exact List.mem_cons_of_mem _ hb))
    have h0 : heldS s a.res = false := by
      cases e : heldS s a.res with
      | false => rfl
      | true =>
        obtain ⟨b, hb, h1, _⟩ := heldS_true.1 e
        rw [hn b hb] at h1; cases h1
    refine ⟨a, ha, ?_, fun b hb => ?_⟩
    · unfold grantS grantP
      rw [let_not ho hp, hc, List.foldl_cons]
      have e : try1 (s, []) a = (holdS s a.task, [] ++ [a.task]) := by unfold try1; rw [if_neg (by rw [h0]; decide)]
      rw [e, fold_held]
      intro b hb
      rw [heldS_hold ho ha, hall a ha b (hax b hb)]
      simp
    · rcases List.mem_cons.1 (show b ∈ a :: xs from hc ▸ candS_mem.2 ((hw b).2 hb)) with rfl | hb
      · exact Int.le_refl _
      · have := (List.pairwise_cons.1 hs).1 b hb
        simpa using this
structure AgShape (s : Ls) : Prop where
  proto : s.proto = 2
  prio : s.prio = [6, 5, 4, 3, 2, 1]
  homes : s.homes = [0, 0]
theorem AgShape.same {s s' : Ls} (h : AgShape s) (hs : SameLs s s') : AgShape s' := ⟨hs.proto.trans h.proto, hs.prio.trans h.prio, hs.homes.trans h.homes⟩
/-- ahead of a grant -/
structure AgJ (s : Ls) (ins : List Bool) (h : Int) : Prop where
  sh : AgShape s
  ok : LsOk s
  len : ins.length = 6
  ins : ∀ t : Nat, t < 6 → ins.getD t false = (s.get t).isSome
  hh : ∀ t : Nat, t < 6 → holdsS s t = decide ((t : Int) = h)
  hr : -1 ≤ h ∧ h < 6
def lastN (ins : List Bool) : Nat → Int
  | 0 => -1
  | k + 1 => if ins.getD k false = true then (k : Int) else lastN ins k
theorem lastN_bd (ins : List Bool) : ∀ k, -1 ≤ lastN ins k ∧ lastN ins k < k
  | 0 => by simp [lastN]
  | k + 1 => by
    have := lastN_bd ins k
    unfold lastN
    split <;> omega
theorem lastN_none {ins : List Bool} : ∀ {k : Nat}, (∀ t : Nat, t < k → ins.getD t false = false) → lastN ins k = -1
  | 0, _ => rfl
  | k + 1, h => by
    unfold lastN
    rw [if_neg (by rw [h k (by omega)]; decide)]
    exact lastN_none fun t ht => h t (by omega)
theorem lastN_at {ins : List Bool} {n : Nat} (h1 : ins.getD n false = true) : ∀ {k : Nat}, n < k → (∀ t : Nat, n < t → t < k → ins.getD t false = false) → lastN ins k = n
  | 0, h, _ => absurd h (by omega)
  | k + 1, h, h2 => by
    unfold lastN
    by_cases e : k = n
    · subst e; rw [if_pos h1]
    · rw [if_neg (by rw [h2 k (by omega) (by omega)]; decide)]
      exact lastN_at h1 (by omega) fun t ht hk => h2 t ht (by omega)
/-- the holder behind a grant -/
def nextH (ins : List Bool) (h : Int) : Int := if h < 0 then lastN ins 6 else h
structure AgI (s : Ls) (ins : List Bool) (h : Int) : Prop where
  j : AgJ s ins h
  hn : h < 0 → ∀ t : Nat, t < 6 → ins.getD t false = false
section
variable {s : Ls} {ins : List Bool} {h : Int}
theorem AgShape.all (hs : AgShape s) (ho : LsOk s) : ∀ a ∈ s.L, ∀ b ∈ s.L, sameK s a.res b.res = true := fun a ha b hb => by
  have h1 := ho.rs a ha
  have h2 := ho.rs b hb
  unfold Ls.hasR at h1 h2
  unfold sameK Ls.home
  rw [hs.homes] at *
  simp only [List.length_cons, List.length_nil] at h1 h2
  have e : ∀ r : Int, 0 ≤ r ∧ r < 2 → [(0 : Int), 0].getD r.toNat 0 = 0 := fun r hr => by
    have : r = 0 ∨ r = 1 := by omega
    rcases this with rfl | rfl <;> rfl
  rw [e _ (by omega), e _ (by omega), hs.proto]
  simp
theorem AgShape.pri (hs : AgShape s) {t : Int} (ht : s.has t) : s.pri t = 6 - t := by
  unfold Ls.has at ht
  unfold Ls.pri
  rw [hs.prio] at *
  simp only [List.length_cons, List.length_nil] at ht
  have : t = 0 ∨ t = 1 ∨ t = 2 ∨ t = 3 ∨ t = 4 ∨ t = 5 := by omega
  rcases this with rfl | rfl | rfl | rfl | rfl | rfl <;> rfl
theorem AgShape.has (hs : AgShape s) (t : Int) : s.has t ↔ 0 ≤ t ∧ t < 6 := by unfold Ls.has; rw [hs.prio]; simp
theorem AgJ.at_ (hj : AgJ s ins h) {a : AL} (ha : a ∈ s.L) : ∃ n : Nat, n < 6 ∧ a.task = (n : Int) ∧ ins.getD n false = true ∧ a.holds = decide (a.task = h) := by
  have h1 := (hj.sh.has _).1 (hj.ok.tk a ha)
  refine ⟨a.task.toNat, by omega, by omega, ?_, ?_⟩
  · rw [hj.ins _ (by omega), show ((a.task.toNat : Nat) : Int) = a.task by omega, hj.ok.get_of ha]; rfl
  · have := hj.hh a.task.toNat (by omega)
    rw [show ((a.task.toNat : Nat) : Int) = a.task by omega] at this
    unfold holdsS at this
    rw [hj.ok.get_of ha] at this
    exact this
theorem AgI.leave (hi : AgI s ins h) (h0 : 0 ≤ h) : leaveC s h = 0 ∧ AgJ (leaveS s h) (ins.set h.toNat false) (-1) := by
  obtain ⟨n, rfl⟩ : ∃ n : Nat, h = (n : Int) := ⟨h.toNat, by omega⟩
  have hr := hi.j.hr
  have hh := hi.j.hh n (by omega)
  rw [show decide ((n : Int) = (n : Int)) = true by simp] at hh
  have hg : (s.get n).isSome = true := by
    unfold holdsS at hh
    cases hx : s.get n with
    | none => rw [hx] at hh; cases hh
    | some a => rfl
  refine ⟨by unfold leaveC; rw [if_pos hg], hi.j.sh.same (same_leave s n), hi.j.ok.leave n, by rw [List.length_set]; exact hi.j.len, fun t ht => ?_, fun t ht => ?_, by omega⟩
  · rw [Int.toNat_natCast, getD_set' (by rw [hi.j.len]; omega), get_leave]
    by_cases e : t = n
    · subst e; simp
    · rw [if_neg e, if_neg (by omega)]; exact hi.j.ins t ht
  · unfold holdsS
    rw [get_leave]
    by_cases e : t = n
    · subst e; simp
    · rw [if_neg (by omega)]
      have := hi.j.hh t ht
      unfold holdsS at this
      rw [this]
      have e1 : ¬ (t : Int) = (n : Int) := by omega
      have e2 : ¬ (t : Int) = -1 := by omega
      simp [e1, e2]
theorem AgI.ask (hi : AgI s ins h) {t : Nat} (ht : t < 6) (hn : ins.getD t false = false) {r : Int} (hr : 0 ≤ r ∧ r < 2) : askC s t r = 0 ∧ AgJ (askS s t r) (ins.set t true) h := by
  have hg : s.get t = none := by
    have := hi.j.ins t ht
    rw [hn] at this
    cases hx : s.get t with
    | none => rfl
    | some a => rw [hx] at this; cases this
  have h1 : s.has t := (hi.j.sh.has _).2 (by omega)
  have h2 : s.hasR r := by unfold Ls.hasR; rw [hi.j.sh.homes]; simp; omega
  have hc : askC s t r = 0 := by unfold askC; rw [if_neg (by simpa using h1), if_neg (by simpa using h2), hg]; rfl
  have he : askS s t r = askN s t r := by unfold askS; rw [if_pos hc]
  have hs : SameLs s (askN s t r) := by unfold askN; split <;> exact ⟨rfl, rfl, rfl, rfl, rfl⟩
  have hp := hi.j.sh.proto
  have hL : (askN s t r).L = s.L ++ [⟨t, r, s.count + 1, false⟩] := by unfold askN; rw [if_neg (by omega)]
  have hget : ∀ u : Int, (askN s t r).get u = if u = t then some ⟨t, r, s.count + 1, false⟩ else s.get u := fun u => by
    have := get_app s ⟨t, r, s.count + 1, false⟩ u hg
    unfold Ls.get at *
    rw [hL]; exact this
  rw [he]
  have hht : ¬ (t : Int) = h := fun e => by
    have := hi.j.hh t ht
    unfold holdsS at this
    rw [hg] at this
    simp [e] at this
  refine ⟨hc, hi.j.sh.same hs, hi.j.ok.ask h1 h2 hg, by rw [List.length_set]; exact hi.j.len, fun u hu => ?_, fun u hu => ?_, hi.j.hr⟩
  · rw [getD_set' (by rw [hi.j.len]; omega), hget]
    by_cases e : u = t
    · subst e; simp
    · rw [if_neg e, if_neg (by omega)]; exact hi.j.ins u hu
  · unfold holdsS
    rw [hget]
    by_cases e : u = t
    · subst e; simp [hht]
    · rw [if_neg (by omega)]; exact hi.j.hh u hu
theorem AgJ.grant (hj : AgJ s ins h) : AgI (grantS s) ins (nextH ins h) := by
  have hp : s.proto ≠ 3 := by rw [hj.sh.proto]; decide
  have hall := hj.sh.all hj.ok
  unfold nextH
  by_cases h0 : h < 0
  · rw [if_pos h0]
    have hne : ∀ a ∈ s.L, a.holds = false := fun a ha => by
      obtain ⟨n, hn, e, _, e2⟩ := hj.at_ ha
      rw [e2]
      have : ¬ a.task = h := by omega
      simp [this]
    by_cases hL : s.L = []
    · have hz : ∀ t : Nat, t < 6 → ins.getD t false = false := fun t ht => by
        rw [hj.ins t ht]; unfold Ls.get; rw [hL]; rfl
      rw [grant_none hj.ok hp hL, lastN_none hz]
      have : h = -1 := by have := hj.hr; omega
      rw [← this]
      exact ⟨hj, fun _ => hz⟩
    · obtain ⟨a, ha, eg, hmin⟩ := grant_first hj.ok hp hall hne hL
      obtain ⟨n, hn, e, e1, _⟩ := hj.at_ ha
      have hlast : lastN ins 6 = n := lastN_at e1 hn fun t ht htk => by
        cases hb : ins.getD t false with
        | false => rfl
        | true =>
          rw [hj.ins t htk] at hb
          cases hg : s.get t with
          | none => rw [hg] at hb; cases hb
          | some b =>
            obtain ⟨hbm, hbt⟩ := get_mem hg
            have := hmin b hbm
            unfold keyS at this
            rw [if_pos hj.sh.proto, if_pos hj.sh.proto, hj.sh.pri (hj.ok.tk a ha), hj.sh.pri (hj.ok.tk b hbm)] at this
            omega
      have hsm : SameLs s (holdS s a.task) := ⟨rfl, rfl, rfl, rfl, rfl⟩
      have hok := hj.ok.grant
      rw [eg] at hok ⊢
      rw [hlast]
      refine ⟨⟨hj.sh.same hsm, hok, hj.len, fun t ht => ?_, fun t ht => ?_, by omega⟩, fun hx => by omega⟩
      · rw [get_hold, hj.ins t ht]; cases s.get t <;> rfl
      · unfold holdsS
        rw [get_hold]
        cases hg : s.get t with
        | none =>
          have : ¬ (t : Int) = (n : Int) := fun e3 => get_none.1 hg a ha (by omega)
          simp [this]
        | some b =>
          obtain ⟨hbm, hbt⟩ := get_mem hg
          show (holdF a.task b).holds = _
          unfold holdF
          by_cases e3 : b.task = a.task
          · rw [if_pos e3]
            have : (t : Int) = (n : Int) := by omega
            simp [this]
          · rw [if_neg e3, hne b hbm]
            have : ¬ (t : Int) = (n : Int) := by omega
            simp [this]
  · rw [if_neg h0]
    obtain ⟨n, rfl⟩ : ∃ n : Nat, h = (n : Int) := ⟨h.toNat, by omega⟩
    have hr := hj.hr
    have hh := hj.hh n (by omega)
    rw [show decide ((n : Int) = (n : Int)) = true by simp] at hh
    unfold holdsS at hh
    cases hx : s.get n with
    | none => rw [hx] at hh; cases hh
    | some a =>
      rw [hx] at hh
      rw [grant_held hj.ok hp hall (get_mem hx).1 hh]
      exact ⟨hj, fun hz => absurd hz h0⟩
theorem AgI.boost (hi : AgI s ins h) {t : Nat} (ht : t < 6) (hne : ¬ (t : Int) = h) : boostS s t = 0 := by
  have := hi.j.hh t ht
  unfold holdsS at this
  unfold boostS
  cases hx : s.get t with
  | none => rfl
  | some a =>
    rw [hx] at this
    dsimp only at this ⊢
    rw [this]
    simp [hne]
end
end Go.Proofs.YtlmdiechnidghaaGreat

namespace Go.Proofs.YtlmdiechnidghaaGreat
open Go.ChangeShapes Go.WideShapes Go.ChangeAt Go.RowKit Go.Conc
set_option linter.unusedVariables false
set_option linter.unusedSimpArgs false
structure FaShape (s : Ls) : Prop where
  proto : s.proto = 1
  prio : s.prio = [6, 5, 4, 3, 2, 1]
  homes : s.homes = [0, 0]
theorem FaShape.same {s s' : Ls} (h : FaShape s) (hs : SameLs s s') : FaShape s' := ⟨hs.proto.trans h.proto, hs.prio.trans h.prio, hs.homes.trans h.homes⟩
theorem FaShape.has {s : Ls} (hs : FaShape s) (t : Int) : s.has t ↔ 0 ≤ t ∧ t < 6 := by unfold Ls.has; rw [hs.prio]; simp
/-- the line ahead of a grant: behind the first nobody holds -/
structure FaJ (s : Ls) : Prop where
  sh : FaShape s
  ok : LsOk s
  res : ∀ a ∈ s.L, a.res = 0
  inc : s.L.Pairwise (fun a b => a.place < b.place)
  tl : ∀ a ∈ s.L.tail, a.holds = false
structure FaI (s : Ls) : Prop where
  j : FaJ s
  hd : ∀ a l, s.L = a :: l → a.holds = true
section
variable {s : Ls}
theorem FaJ.all (h : FaJ s) : ∀ a ∈ s.L, ∀ b ∈ s.L, sameK s a.res b.res = true := fun a ha b hb => by rw [h.res a ha, h.res b hb]; exact sameK_refl _ _
theorem FaJ.grant (h : FaJ s) : FaI (grantS s) ∧ (grantS s).L.map AL.task = s.L.map AL.task ∧ (grantS s).count = s.count ∧ ∀ t, ((grantS s).get t).isSome = (s.get t).isSome := by
  have hp : s.proto ≠ 3 := by rw [h.sh.proto]; decide
  have hp2 : s.proto ≠ 2 := by rw [h.sh.proto]; decide
  cases hL : s.L with
  | nil =>
    rw [grant_none h.ok hp hL]
    exact ⟨⟨h, fun a l e => by rw [hL] at e; cases e⟩, by rw [hL], rfl, fun t => rfl⟩
  | cons a l =>
    have ham : a ∈ s.L := by rw [hL]; simp
    cases hh : a.holds with
    | true =>
      rw [grant_held h.ok hp h.all ham hh]
      exact ⟨⟨h, fun b l2 e => by rw [hL] at e; obtain ⟨rfl, _⟩ := List.cons.inj e; exact hh⟩, by rw [hL], rfl, fun t => rfl⟩
    | false =>
      have hno : ∀ b ∈ s.L, b.holds = false := fun b hb => by
        rw [hL] at hb
        rcases List.mem_cons.1 hb with rfl | hb
        · exact hh
        · exact h.tl b (by rw [hL]; exact hb)
      obtain ⟨b, hb, eg, hmin⟩ := grant_first h.ok hp h.all hno (by rw [hL]; simp)
      have hba : b = a := by
        have h1 := hmin a ham
        unfold keyS at h1
        rw [if_neg hp2, if_neg hp2] at h1
        rw [hL] at hb
        rcases List.mem_cons.1 hb with rfl | hb2
        · rfl
        · have h2 := h.inc
          rw [hL] at h2
          have := (List.pairwise_cons.1 h2).1 b hb2
          omega
      subst hba
      have hsm : SameLs s (holdS s b.task) := ⟨rfl, rfl, rfl, rfl, rfl⟩
      have hok := h.ok.grant
      rw [eg] at hok ⊢
      have hnd := h.ok.nd
      rw [hL, List.map_cons, List.nodup_cons] at hnd
      have hLb : (holdS s b.task).L = { b with holds := true } :: l := by
        show s.L.map (holdF b.task) = _
        rw [hL, List.map_cons]
        have e1 : holdF b.task b = { b with holds := true } := by unfold holdF; rw [if_pos rfl]
        have e2 : l.map (holdF b.task) = l := (List.map_congr_left fun x hx => by
          unfold holdF
          rw [if_neg (fun e : x.task = b.task => hnd.1 (by rw [← e]; exact List.mem_map_of_mem hx))]).trans (List.map_id' _)
        rw [e1, e2]
      refine ⟨⟨⟨h.sh.same hsm, hok, fun x hx => ?_, ?_, fun x hx => ?_⟩, fun x l2 e => ?_⟩, by rw [hLb]; rfl, rfl, fun t => by rw [get_hold]; cases s.get t <;> rfl⟩
      · rw [hLb] at hx
        rcases List.mem_cons.1 hx with rfl | hx
        · exact h.res b ham
        · exact h.res x (by rw [hL]; simp [hx])
      · have h2 := h.inc
        rw [hL] at h2
        rw [hLb]
        exact List.pairwise_cons.2 ⟨fun y hy => (List.pairwise_cons.1 h2).1 y hy, (List.pairwise_cons.1 h2).2⟩
      · rw [hLb] at hx
        exact hno x (by rw [hL]; simp at hx; simp [hx])
      · rw [hLb] at e
        obtain ⟨rfl, _⟩ := List.cons.inj e
        rfl
theorem FaI.ask (h : FaI s) {t : Nat} (ht : t < 6) (hn : s.get t = none) : askC s t 0 = 0 ∧ FaJ (askS s t 0) ∧ (askS s t 0).L.map AL.task = s.L.map AL.task ++ [(t : Int)] ∧ ∀ u : Int, ((askS s t 0).get u).isSome = if u = t then true else (s.get u).isSome := by
  have h1 : s.has t := (h.j.sh.has _).2 (by omega)
  have h2 : s.hasR 0 := by unfold Ls.hasR; rw [h.j.sh.homes]; simp
  have hc : askC s t 0 = 0 := by unfold askC; rw [if_neg (by simpa using h1), if_neg (by simpa using h2), hn]; rfl
  have he : askS s t 0 = askN s t 0 := by unfold askS; rw [if_pos hc]
  have hs : SameLs s (askN s t 0) := by unfold askN; split <;> exact ⟨rfl, rfl, rfl, rfl, rfl⟩
  have hp := h.j.sh.proto
  have hL : (askN s t 0).L = s.L ++ [⟨t, 0, s.count + 1, false⟩] := by unfold askN; rw [if_neg (by omega)]
  rw [he]
  refine ⟨hc, ⟨h.j.sh.same hs, h.j.ok.ask h1 h2 hn, fun a ha => ?_, ?_, fun a ha => ?_⟩, by rw [hL, List.map_append]; rfl, fun u => ?_⟩
  · rw [hL] at ha
    rcases List.mem_append.1 ha with h3 | h3
    · exact h.j.res a h3
    · simp at h3; subst h3; rfl
  · rw [hL, List.pairwise_append]
    refine ⟨h.j.inc, by simp, fun a ha b hb => ?_⟩
    simp at hb
    subst hb
    have := (h.j.ok.pl a ha).2
    dsimp only; omega
  · rw [hL] at ha
    cases hl : s.L with
    | nil => rw [hl] at ha; simp at ha
    | cons x l =>
      rw [hl] at ha
      simp only [List.cons_append, List.tail_cons, List.mem_append, List.mem_singleton] at ha
      rcases ha with h3 | rfl
      · exact h.j.tl a (by rw [hl]; exact h3)
      · rfl
  · have := get_app s ⟨t, 0, s.count + 1, false⟩ u hn
    show (((askN s t 0).L).find? _).isSome = _
    rw [hL, this]
    split <;> rfl
theorem FaI.leave (h : FaI s) {a : AL} {l : List AL} (hL : s.L = a :: l) : leaveC s a.task = 0 ∧ FaJ (leaveS s a.task) ∧ (leaveS s a.task).L = l ∧ ∀ u : Int, ((leaveS s a.task).get u).isSome = if u = a.task then false else (s.get u).isSome := by
  have ham : a ∈ s.L := by rw [hL]; simp
  have hg := h.j.ok.get_of ham
  have hnd := h.j.ok.nd
  rw [hL, List.map_cons, List.nodup_cons] at hnd
  have hl : (leaveS s a.task).L = l := by
    show s.L.filter _ = _
    rw [hL, List.filter_cons_of_neg (by simp), List.filter_eq_self.2]
    intro x hx
    have : x.task ≠ a.task := fun e => hnd.1 (by rw [← e]; exact List.mem_map_of_mem hx)
    simpa using this
  have htl : ∀ x ∈ l, x.holds = false := fun x hx => h.j.tl x (by rw [hL]; exact hx)
  refine ⟨by unfold leaveC; rw [hg]; rfl, ⟨h.j.sh.same (same_leave s _), h.j.ok.leave _, fun x hx => h.j.res x (by rw [hl] at hx; rw [hL]; simp [hx]), ?_, fun x hx => ?_⟩, hl, fun u => ?_⟩
  · have h2 := h.j.inc
    rw [hL] at h2
    rw [hl]; exact (List.pairwise_cons.1 h2).2
  · rw [hl] at hx
    exact htl x (List.mem_of_mem_tail hx)
  · rw [get_leave]; split <;> rfl
/-- who holds: the first -/
theorem holder_first (h : FaI s) : holderV s 0 = match s.L with | a :: _ => .tuple #[.int .i64 a.task, .bool true] | [] => .tuple #[.int .i64 0, .bool false] := by
  unfold holderV holderS
  cases hL : s.L with
  | nil => rfl
  | cons a l =>
    have h1 := h.hd a l hL
    have h2 := h.j.res a (by rw [hL]; simp)
    rw [List.find?_cons_of_pos (by simp [h1, h2])]
    rfl
theorem wait_len (h : FaI s) : (waitS s).length = s.L.length - 1 := by
  have hp : (waitS s).Perm ((s.L.filter fun a => !a.holds).map AL.task) := by
    have hn1 : (waitS s).Nodup := by
      unfold waitS
      have h1 : ((List.range s.prio.length).filter fun i => match s.get (i : Nat) with | some a => !a.holds | none => false).Nodup := List.nodup_range.sublist List.filter_sublist
      unfold List.Nodup at h1 ⊢
      rw [List.pairwise_map]
      exact h1.imp fun hab e => hab (by omega)
    refine (List.perm_ext_iff_of_nodup hn1 (h.j.ok.nd.sublist (List.filter_sublist.map _))).2 fun t => ?_
    unfold waitS
    rw [List.mem_map, List.mem_map]
    constructor
    · rintro ⟨i, hi, rfl⟩
      obtain ⟨hi1, hi2⟩ := List.mem_filter.1 hi
      cases hg : s.get (i : Nat) with
      | none => rw [hg] at hi2; cases hi2
      | some a =>
        rw [hg] at hi2
        obtain ⟨h1, h2⟩ := get_mem hg
        exact ⟨a, List.mem_filter.2 ⟨h1, hi2⟩, h2⟩
    · rintro ⟨a, ha, rfl⟩
      obtain ⟨h1, h2⟩ := List.mem_filter.1 ha
      have h3 := h.j.ok.tk a h1
      unfold Ls.has at h3
      have e : ((a.task.toNat : Nat) : Int) = a.task := by omega
      refine ⟨a.task.toNat, List.mem_filter.2 ⟨by rw [List.mem_range]; omega, ?_⟩, e⟩
      rw [e, h.j.ok.get_of h1]; exact h2
  rw [hp.length_eq, List.length_map]
  cases hL : s.L with
  | nil => rfl
  | cons a l =>
    have h1 := h.hd a l hL
    rw [List.filter_cons_of_neg (by simp [h1]), List.filter_eq_self.2]
    · simp
    · intro x hx
      have := h.j.tl x (by rw [hL]; exact hx)
      simp [this]
end
end Go.Proofs.YtlmdiechnidghaaGreat

namespace Go.Proofs.YtlmdiechnidghaaGreat
open Go.ChangeShapes Go.WideShapes Go.ChangeAt Go.RowKit Go.Conc
set_option linter.unusedVariables false
set_option linter.unusedSimpArgs false
structure OffI (B : Nat) (w : World) (A : Option Addr) (n c : Nat) (zs : List Int) : Prop where
  len : n = zs.length
  le : n ≤ c
  base : ∀ k ∈ fp A, B ≤ k ∧ k < w.heap.size
  nil : A = none → c = 0
  row : c = 0 ∨ ∃ g d cs, A = some ⟨g, d, none⟩ ∧ Bk w g 3 cs ∧ d + c ≤ cs.size ∧ ∀ j, j < n → cs[d + j]? = some (.int .i64 (zs.getD j 0))
section
variable {B n c : Nat} {w w' : World} {A : Option Addr} {zs : List Int}
theorem OffI.nothing (B : Nat) (w : World) : OffI B w none 0 0 [] := ⟨rfl, Nat.le_refl _, by simp [fp], fun _ => rfl, .inl rfl⟩
theorem OffI.turned {F : List Nat} (h : OffI B w A n c zs) (ht : Turned F w w') (hF : ∀ k ∈ fp A, k ∉ F) : OffI B w' A n c zs := by
  refine ⟨h.len, h.le, fun k hk => ⟨(h.base k hk).1, Nat.lt_of_lt_of_le (h.base k hk).2 ht.size⟩, h.nil, ?_⟩
  rcases h.row with h1 | ⟨g, d, cs, rfl, hb, hs, hc⟩
  · exact .inl h1
  · exact .inr ⟨g, d, cs, rfl, hb.turned ht (hF g (by simp [fp])), hs, hc⟩
theorem OffI.over (h : OffI B w A n c zs) (hb : Below w.heap.size w w') : OffI B w' A n c zs := h.turned (Turned.of_below hb []) (by simp)
theorem OffI.cell (h : OffI B w A n c zs) {j : Nat} (hj : j < n) : ∃ g d, A = some ⟨g, d, none⟩ ∧ w.cell? ⟨g, d + j, none⟩ = some (.int .i64 (zs.getD j 0)) := by
  rcases h.row with h1 | ⟨g, d, cs, rfl, hb, hs, hc⟩
  · have := h.le; omega
  · exact ⟨g, d, rfl, (hb.cell _).trans (hc j hj)⟩
/-- without its first -/
theorem OffI.tail {g d : Nat} {x : Int} (h : OffI B w (some ⟨g, d, none⟩) n c (x :: zs)) : OffI B w (if c = 1 then some ⟨g, d, none⟩ else some ⟨g, d + 1, none⟩) (n - 1) (c - 1) zs := by
  have hl := h.len
  have hle := h.le
  simp at hl
  refine ⟨by omega, by omega, fun k hk => h.base k (by split at hk <;> exact hk), fun e => (by split at e <;> cases e), ?_⟩
  by_cases e : c = 1
  · left; omega
  · rw [if_neg e]
    rcases h.row with h1 | ⟨g', d', cs, he, hb, hs, hc⟩
    · omega
    · injection he with he
      injection he with e1 e2
      subst e1; subst e2
      refine .inr ⟨g, d + 1, cs, rfl, hb, by omega, fun j hj => ?_⟩
      have := hc (j + 1) (by omega)
      rw [show d + (j + 1) = d + 1 + j by omega] at this
      rw [this]
      simp [List.getD]
/-- what an append makes of it -/
structure OffApp (B : Nat) (w : World) (A A' : Option Addr) (n c' : Nat) (zs : List Int) (w' : World) : Prop where
  off : OffI B w' A' n c' zs
  turned : Turned (fp A) w w'
  fps : ∀ k ∈ fp A', k ∈ fp A ∨ w.heap.size ≤ k
theorem run_off (w : World) (h : OffI B w A n c zs) (hB : B ≤ w.heap.size) (hn : n ≤ 1000) (ty : TypeId) (g0 : Nat) (x : Int) (hx : w.cell? ⟨g0, 0, none⟩ = some (.int .i64 x)) :
    ∃ A' c' w', (Builtin.append_ #[22, 22] ty #[.slice A n c, .slice (some ⟨g0, 0, none⟩) 1 1]).run Tryz.prog w = .ok (.slice A' (n + 1) c') w' ∧ OffApp B w A A' (n + 1) c' (zs ++ [x]) w' := by
  obtain ⟨i0, hi0, hz0, hz1, hz2⟩ := info_parts infoInt
  have hsrc : Src Tryz.prog i0.size 22 (.slice (some ⟨g0, 0, none⟩) 1 1) 1 [.int .i64 x] w := by
    rw [hz1]
    refine Src.ofSlice w Tryz.underlying22 ⟨g0, 0, none⟩ 1 1 [.int .i64 x] rfl (fun j u hj => ?_) (by simp; rfl)
    match j, hj with
    | 0, hj => simp at hj; subst hj; simpa [Addr.add] using hx
  have hl := h.len
  by_cases hr : n + 1 ≤ c
  · obtain ⟨g, d, cs, rfl, hb, hs, hc⟩ := h.row.resolve_left (by omega)
    have hcell : d + n < cs.size := by omega
    have hrun := run_append_room_src (P := Tryz.prog) w 22 22 ty 3 i0 Tryz.underlying22 hi0 g d n c (.slice (some ⟨g0, 0, none⟩) 1 1) 1 [.int .i64 x] hsrc hr
      (fun j hj => by
        have : j = 0 := by simpa using hj
        subst this
        rw [hz1, Nat.mul_one, Nat.add_zero, hb.cell, Array.getElem?_eq_getElem hcell]; rfl)
      (fun j hj => hb.frozen _)
    rw [hz1, Nat.mul_one] at hrun
    refine ⟨some ⟨g, d, none⟩, c, w.setCell ⟨g, d + n, none⟩ (.int .i64 x), hrun, ⟨by simp [hl], hr, fun k hk => ?_, fun e => (by cases e), ?_⟩, (Turned.refl _ w).setCell (.inl (by simp [fp])) _, fun k hk => .inl hk⟩
    · have := h.base k hk
      simpa [World.setCell] using this
    · refine .inr ⟨g, d, _, rfl, hb.put (d + n) (.int .i64 x), by simpa using hs, fun j hj => ?_⟩
      rw [Array.getElem?_setIfInBounds]
      by_cases e : j = n
      · subst e
        rw [if_pos rfl, if_pos hcell, hl]
        simp [List.getD]
      · rw [if_neg (by omega), hc j (by omega)]
        simp [List.getD, List.getElem?_append_left (show j < zs.length by omega)]
  · have hcn : c = n := by have := h.le; omega
    subst hcn
    have hold : (Builtin.firstCells i0.size c (.slice A c c)).run Tryz.prog w.drew = .ok ((zs.map (Value.int .i64)).toArray) w.drew := by
      rw [hz1]
      rcases h.row with h1 | ⟨g, d, cs, rfl, hb, hs, hc⟩
      · subst h1
        have : zs = [] := List.eq_nil_of_length_eq_zero hl.symm
        subst this
        cases A with
        | none => exact run_firstCells_none w.drew 1 0 0 0
        | some a => exact run_firstCells_some w.drew 1 0 a 0 0 [] rfl (by simp)
      · refine run_firstCells_some w.drew 1 c ⟨g, d, none⟩ c c _ (by simp [hl]) (fun j u hj => ?_)
        have hjl : j < zs.length := by have := (List.getElem?_eq_some_iff.1 hj).1; simpa using this
        have := (hb.cell (d + j)).trans (hc j (by omega))
        rw [List.getElem?_map, List.getElem?_eq_getElem hjl] at hj
        simp at hj
        subst hj
        have e : zs.getD j 0 = zs[j] := by simp [List.getD, hjl]
        rw [e] at this
        have ha : (⟨g, d, none⟩ : Addr).add j = ⟨g, d + j, none⟩ := by
          unfold Addr.add
          by_cases e0 : j = 0
          · subst e0; simp
          · simp [e0]
        rw [ha]; exact this
    have hfit : Builtin.nextslicecap (c + 1) c * i0.bytes ≤ 281474976710656 := by
      have := nextslicecap_le (need := c + 1) (old := c) (by omega)
      rw [hz2]
      omega
    have hrun := run_append_grow_src (P := Tryz.prog) w 22 22 ty 3 i0 (.int .i64 0) Tryz.underlying22 hi0 hz0 A c c _ hold (.slice (some ⟨g0, 0, none⟩) 1 1) 1 [.int .i64 x] hsrc (by omega) (by omega) hfit
    have hge := grownCap_ge w (c + 1) c 3
    refine ⟨_, _, _, hrun, ⟨by simp [hl], hge, fun k hk => ?_, fun e => (by cases e), ?_⟩, ((Turned.refl (fp A) w).drew).alloc _, fun k hk => ?_⟩
    · simp [fp] at hk
      subst hk
      exact ⟨hB, by simp⟩
    · refine .inr ⟨w.heap.size, 0, _, rfl, Bk.new w.drew 3 _, ?_, fun j hj => ?_⟩
      · rw [Array.size_append, size_zeroCells, show (Value.int .i64 0).cells.size = 1 from rfl]
        simp; omega
      · rw [Nat.zero_add, Array.getElem?_append_left (by simp; omega)]
        simp only [List.getElem?_toArray]
        by_cases e : j = c
        · subst e
          rw [List.getElem?_append_right (by simp; omega)]
          simp [hl, List.getD]
        · rw [List.getElem?_append_left (by simp; omega)]
          have hjl : j < zs.length := by omega
          simp [List.getD, hjl, List.getElem?_append_left hjl]
    · simp [fp] at hk
      right; omega
theorem wpList_off {ops : Array Oper} {rest : List Oper} {o : Oper} {a : Act} {Q : Exit → Act → World → Prop} (hgd : o.guard = none) (s y : Operand)
    (ho : o.op = .call { callee := .builtin .append, args := #[s, y], argTypes := #[22, 22] })
    (hsv : a.eval s = .slice A n c) (h : OffI B w A n c zs) (hB : B ≤ w.heap.size) (hn : n ≤ 1000) (g0 : Nat) (x : Int) (hy : a.eval y = .slice (some ⟨g0, 0, none⟩) 1 1) (hx : w.cell? ⟨g0, 0, none⟩ = some (.int .i64 x))
    (hk : ∀ A' c' w', OffApp B w A A' (n + 1) c' (zs ++ [x]) w' → wpList Tryz.prog ops Q rest (a.put o.dst (.slice A' (n + 1) c')) w') : wpList Tryz.prog ops Q (o :: rest) a w := by
  refine wpList_plain hgd fun _ hK => ?_
  obtain ⟨A', c', w', hrun, h2⟩ := run_off w h hB hn o.type g0 x hx
  unfold Oper.wp execOp
  simp only [ho, resolve, invoke, builtin, Sem.run_bind, Sem.run_pure, Result.andThen_ok, List.map_toArray, List.map_cons, List.map_nil, hsv, hy, hrun]
  exact hK _ _ (hk A' c' w' h2)
end
end Go.Proofs.YtlmdiechnidghaaGreat

namespace Go.Proofs.YtlmdiechnidghaaGreat
open Go.ChangeShapes Go.WideShapes Go.ChangeAt Go.RowKit Go.Conc
set_option linter.unusedVariables false
set_option linter.unusedSimpArgs false
theorem crowd_lsF {S : SetR} {p c : Int} (h : CrowdS S p c) (hp : 1 ≤ p ∧ p ≤ 3) (hc : 1 ≤ c ∧ c ≤ 3) : lsOf S = ⟨p, [6, 5, 4, 3, 2, 1], [0, 0, 0, 0, 0, 0], [c, 1], [0, 0], [], 0⟩ ∧ LsOk (lsOf S) := by
  have hok := h.okS hp hc
  have hls : lsOf S = lsNew S := by unfold lsOf; rw [if_pos hok]
  refine ⟨?_, by rw [hls]; exact lsNew_ok (Good.of hok)⟩
  rw [hls]
  obtain ⟨p1, p2, p3, pl, p4⟩ := h
  have q1 : S.tasks.map TaskR.prio = [6, 5, 4, 3, 2, 1] := by
    refine List.ext_getElem (by simp [pl]) fun i h1 h2 => ?_
    have hi : i < S.tasks.length := by simpa using h1
    obtain ⟨a, c, e⟩ := p4 i hi
    have e2 : S.tasks[i] = S.tasks.getD i default := by simp [List.getD, hi]
    rw [List.getElem_map, e2, e]
    have : i = 0 ∨ i = 1 ∨ i = 2 ∨ i = 3 ∨ i = 4 ∨ i = 5 := by omega
    rcases this with rfl | rfl | rfl | rfl | rfl | rfl <;> rfl
  have q2 : S.tasks.map TaskR.cl = [0, 0, 0, 0, 0, 0] := by
    refine List.ext_getElem (by simp [pl]) fun i h1 h2 => ?_
    have hi : i < S.tasks.length := by simpa using h1
    obtain ⟨a, c, e⟩ := p4 i hi
    have e2 : S.tasks[i] = S.tasks.getD i default := by simp [List.getD, hi]
    rw [List.getElem_map, e2, e]
    have : i = 0 ∨ i = 1 ∨ i = 2 ∨ i = 3 ∨ i = 4 ∨ i = 5 := by omega
    rcases this with rfl | rfl | rfl | rfl | rfl | rfl <;> rfl
  unfold lsNew
  rw [p1, p2, p3, q1, q2]
theorem fa_start {S : SetR} {c : Int} (h : CrowdS S 1 c) (hc : 1 ≤ c ∧ c ≤ 3) : FaI (lsOf S) ∧ (lsOf S).count = 0 ∧ (lsOf S).L = [] ∧ ∀ t : Nat, t < 6 → [false, false, false, false, false, false].getD t false = ((lsOf S).get t).isSome := by
  obtain ⟨e, ho⟩ := crowd_lsF h (by decide) hc
  rw [e] at ho ⊢
  refine ⟨⟨⟨⟨rfl, rfl, rfl⟩, ho, by simp, by simp, by simp⟩, fun a l e => by cases e⟩, rfl, rfl, fun t ht => ?_⟩
  have : t = 0 ∨ t = 1 ∨ t = 2 ∨ t = 3 ∨ t = 4 ∨ t = 5 := by omega
  rcases this with rfl | rfl | rfl | rfl | rfl | rfl <;> rfl
def boolsF (l : List Bool) : Array Value := (l.map Value.bool).toArray
theorem boolsF_put (l : List Bool) (i : Nat) (v : Bool) : (boolsF l).setIfInBounds i (.bool v) = boolsF (l.set i v) := by simp [boolsF]
theorem boolsF_at {w : World} {g : Nat} {T : TypeId} {l : List Bool} (h : Bk w g T (boolsF l)) {i : Nat} (hi : i < l.length) : w.cell? ⟨g, i, none⟩ = some (.bool (l.getD i false)) := by
  rw [h.cell i]
  simp [boolsF, List.getD, hi]
end Go.Proofs.YtlmdiechnidghaaGreat
set_option maxHeartbeats 8000000
set_option maxRecDepth 100000
namespace Go.Proofs.YtlmdiechnidghaaGreat.lockFair
open Go.ChangeShapes Go.WideShapes Go.ChangeAt Go.RowKit
open Go.ChangeMaps (open_string shut_string)
set_option linter.unusedVariables false

/-- THE WALK: the Go text returns true, and writes nothing that was there. -/
theorem walk (a0 : Option Addr) (len0 cap0 : Nat) (z0 : List Int) (w : World) (w0 : IsRow .u8 w a0 len0 cap0 z0) :
    Calls Tryz.prog 5 #[.slice a0 len0 cap0] w fun e w' => e = .returned (.bool true) ∧ Below w.heap.size w w' := by
  obtain ⟨r1, r2, r3, r4⟩ := w0.row
  obtain ⟨us, hus⟩ : ∃ l, z0.take len0 = l := ⟨_, rfl⟩
  rw [hus] at r1 r2 r4
  subst r2
  have HU := hidp r1
  have HUb : Hid (∀ k, k < us.length → 0 ≤ us.getD k 0 ∧ us.getD k 0 ≤ 255) := hidp (fun k hk => u8_bd r4 k hk)
  have m1 : us.length ≤ maxLen := r3
  unfold maxLen at m1
  have hb := Below.refl w.heap.size w
  clear w0 r1 r4 hus
  by_cases h30 : 30 < us.length
  · go_enter Tryz.func5, Tryz.ntmps5
    go_wp2_with fail
    refine (known23_any _).mono ?_
    rintro e u1 ⟨rfl, hb2⟩
    replace hb := hb.trans (hb2.mono hb.size)
    clear hb2
    go_wp2_with fail
    go_ret
    exact ⟨rfl, hb⟩
  go_enter Tryz.func5, Tryz.ntmps5
  go_wp2_with fail
  refine (known23_any _).mono ?_
  rintro e u1 ⟨rfl, hb2⟩
  replace hb := hb.trans (hb2.mono hb.size)
  clear hb2
  have HB1 := hidp hb
  clear hb
  go_wp2_with fail
  refine (crowd23_any 1 1 u1 (by decide) (by decide)).mono ?_
  rintro e u2 ⟨⟨S, rfl, hs, hS⟩, hb2⟩
  have CN := li_new u1 u2 S hs hb2
  obtain ⟨i1, c0, l00, f0⟩ := fa_start hS (by decide)
  have HI0 := hidp i1
  have HC0 := hidp c0
  have HL0 := hidp l00
  have HF0 := hidp f0
  clear hs hS hb2 i1 c0 l00 f0
  go_wp2_with fail
  refine CN.mono ?_
  rintro e u3 ⟨bl, F, rfl, l0, _, _, _⟩
  have HB3 := hidp (HB1.out.trans (l0.below.mono HB1.out.size))
  have hal := (Below.refl u3.heap.size u3).alloc (Nat.le_refl _) (.cells #[.bool false, .bool false, .bool false, .bool false, .bool false, .bool false] 49)
  have L0 := hidp (l0.over hal)
  have B0 : Hid (Bk (u3.alloc (.cells #[.bool false, .bool false, .bool false, .bool false, .bool false, .bool false] 49)) u3.heap.size 49 (boolsF [false, false, false, false, false, false])) := hidp (Bk.new u3 49 #[.bool false, .bool false, .bool false, .bool false, .bool false, .bool false])
  have AI0 : Hid (u3.heap.size ∉ bl :: F) := hidp (fun hm => by have := l0.lt _ hm; omega)
  have HBa := hidp (HB3.out.trans (hal.mono HB3.out.size))
  have HW1 : Hid (w.heap.size ≤ u1.heap.size) := hidp HB1.out.size
  have HIB : Hid (u1.heap.size ≤ u3.heap.size) := hidp l0.below.size
  clear CN l0 hal
  go_wp2
  obtain ⟨ib, hib⟩ : ∃ ib, u3.heap.size = ib := ⟨_, rfl⟩
  rw [hib] at B0 AI0 HIB ⊢
  clear hib
  go_loopg [4, 6] us.length (fun g av iv wr => ∃ (i : Nat) (s : Ls) (F : List Nat) (A : Option Addr) (ins : List Bool) (n cc : Nat), i + g = us.length ∧ iv = .int .i64 i ∧ av = .slice A n cc ∧ Hid (FaI s) ∧ Hid (s.count ≤ (i : Int)) ∧ Hid (LxI u1 wr bl s F) ∧ Hid (OffI u1.heap.size wr A n cc (s.L.map AL.task)) ∧ Hid (∀ q ∈ bl :: F, q ∉ fp A) ∧ Hid (Bk wr ib 49 (boolsF ins)) ∧ Hid (ins.length = 6 ∧ ∀ t : Nat, t < 6 → ins.getD t false = (s.get t).isSome) ∧ Hid (ib ∉ bl :: F) ∧ Hid (ib ∉ fp A) ∧ Hid (Below w.heap.size w wr))
  case atStart => exact ⟨0, lsOf S, F, none, _, 0, 0, by omega, rfl, rfl, HI0, hidp (by rw [HC0.out]; decide), L0, hidp (by rw [HL0.out]; exact OffI.nothing _ _), hidp (by simp [fp]), B0, hidp ⟨rfl, HF0.out⟩, AI0, hidp (by simp [fp]), HBa⟩
  case round =>
    clear HI0 HC0 L0 B0 AI0 HBa HL0 HF0
    obtain ⟨i, s, F, A, ins, n, cc, hi, rfl, rfl, HI0, HC, L, O, AP, B, FI, AI, AJ, HB⟩ := hrel
    have Hi := hidp hi
    by_cases hlt : i < us.length
    · obtain ⟨gu, ou, hAU, hcu⟩ := HU.out.resolve_left (by intro e; rw [e] at hlt; simp at hlt)
      subst hAU
      obtain ⟨x, Hx⟩ : ∃ x, Hid (us.getD i 0 = x) := ⟨_, rfl⟩
      have hx := HUb.out i hlt
      rw [Hx.out] at hx
      obtain ⟨x0, x1⟩ := hx
      have cu := (Keeps.of_below HB.out) _ _ (Hx.out ▸ hcu i hlt)
      obtain ⟨y6, hy6⟩ : ∃ y, x.tmod 6 = y := ⟨_, rfl⟩
      have y60 : 0 ≤ y6 := by rw [← hy6]; exact Int.tmod_nonneg _ x0
      have y61 : y6 < 6 := by rw [← hy6]; exact Int.tmod_lt_of_pos _ (by decide)
      obtain ⟨t, rfl⟩ : ∃ t : Nat, y6 = (t : Int) := ⟨y6.toNat, by omega⟩
      have ht6 : t < 6 := by omega
      obtain ⟨y7, hy7⟩ : ∃ y, x.tmod 7 = y := ⟨_, rfl⟩
      have y70 : 0 ≤ y7 := by rw [← hy7]; exact Int.tmod_nonneg _ x0
      have d3 : decide (us.length ≤ i) = false := decide_eq_false (by omega)
      have d6 : decide (6 ≤ t) = false := decide_eq_false (by omega)
      have hi30 : i < 30 := by omega
      have jI : (i : Int) < (us.length : Int) := by omega
      have hnl : n = s.L.length := by have := O.out.len; simpa using this
      have hn6 : n ≤ 6 := by have := tasks_le HI0.out.j.ok; have := HI0.out.j.ok.n6; omega
      have Hnl := hidp hnl
      have hncc : n ≤ cc := O.out.le
      clear hcu hi hnl
      by_cases hA : y7 = 0 ∧ 0 < n
      · obtain ⟨rfl, h0⟩ := hA
        obtain ⟨a, l, hL⟩ : ∃ a l, s.L = a :: l := List.exists_cons_of_ne_nil (fun e => by have := Hnl.out; rw [e] at this; simp at this; omega)
        obtain ⟨e1, j1, hL2, hgt⟩ := HI0.out.leave hL
        obtain ⟨g, d, hg, ck⟩ := O.out.cell (j := 0) h0
        have e0 : (s.L.map AL.task).getD 0 0 = a.task := by rw [hL]; rfl
        rw [e0, Nat.add_zero] at ck
        have hta0 := (HI0.out.j.sh.has _).1 (HI0.out.j.ok.tk a (by rw [hL]; simp))
        have CL := li_leave L.out a.task
        rw [e1] at CL
        have HJ := hidp j1
        have HL2 : Hid (s.L.map AL.task = a.task :: (leaveS s a.task).L.map AL.task) := hidp (by rw [hL2, hL]; rfl)
        have HGT := hidp hgt
        obtain ⟨tn, htn⟩ : ∃ tn : Nat, a.task = (tn : Int) := ⟨a.task.toNat, by omega⟩
        rw [htn] at CL ck HJ HL2 HGT
        have tn6 : tn < 6 := by omega
        have dt6 : decide (6 ≤ tn) = false := decide_eq_false (by omega)
        have dn0 : decide (n ≤ 0) = false := decide_eq_false (by omega)
        have n1I : (1 : Int) ≤ (n : Int) := by omega
        have n0I : (0 : Int) < (n : Int) := by omega
        have n0D : decide ((0 : Int) < (n : Int)) = true := decide_eq_true n0I
        have HG := hidp hg
        clear e0 hta0 e1 j1 hL2 hgt hL htn
        subst hg
        go_wp2_with fail
        refine CL.mono ?_
        rintro e wx ⟨rfl, F2, l2, st2⟩
        have AI2a : ib ∉ bl :: F2 := fun hm => by
          rcases List.mem_cons.1 hm with h | h
          · exact AI.out (h ▸ by simp)
          · rcases st2.fps _ h with h | h
            · exact AI.out (List.mem_cons_of_mem _ h)
            · have := B.out.lt; omega
        have b2 := B.out.turned st2.turned AI.out
        have cb2 := boolsF_at b2 (i := tn) (by rw [FI.out.1]; omega)
        have fz := b2.frozen tn
        have o2 := O.out.turned st2.turned (fun k hk hm => AP.out k hm hk)
        have ap2 : ∀ q ∈ bl :: F2, q ∉ fp (some ⟨g, d, none⟩) := fun q hq => by
          rcases List.mem_cons.1 hq with rfl | hq
          · exact AP.out _ (by simp)
          · rcases st2.fps q hq with h | h
            · exact AP.out q (List.mem_cons_of_mem _ h)
            · intro hm
              have := (O.out.base q hm).2
              omega
        obtain ⟨g2, d2, hg2, ck2⟩ := o2.cell (j := 0) h0
        have hgd : g2 = g ∧ d2 = d := by injection hg2 with hg2; injection hg2 with h1 h2; exact ⟨h1.symm, h2.symm⟩
        obtain ⟨rfl, rfl⟩ := hgd
        rw [HL2.out, List.getD_cons_zero, Nat.add_zero] at ck2
        have HBx := hidp (HB.out.trans (st2.turned.below HB.out.size (fun q hq => by
          rcases List.mem_cons.1 hq with rfl | hq
          · have := L.out.base; have := HW1.out; omega
          · have := L.out.news q hq; have := HW1.out; omega)))
        have tz : Turned [ib] wx (wx.setCell ⟨ib, tn, none⟩ (.bool false)) := (Turned.refl [ib] wx).setCell (.inl (by simp)) _
        have B2 : Hid (Bk (wx.setCell ⟨ib, tn, none⟩ (.bool false)) ib 49 (boolsF (ins.set tn false))) := hidp (by have := b2.put tn (.bool false); rw [boolsF_put] at this; exact this)
        have L2 := hidp (l2.turned tz (fun q hq hm => by rw [List.mem_singleton] at hm; subst hm; exact AI2a hq) (fun q hq => by rw [List.mem_singleton] at hq; subst hq; exact HIB.out))
        have HB2 := hidp (HBx.out.trans (tz.below HBx.out.size (fun q hq => by rw [List.mem_singleton] at hq; subst hq; have := HIB.out; have := HW1.out; omega)))
        have o3 := o2.turned tz (fun k hk hm => by rw [List.mem_singleton] at hm; subst hm; exact AJ.out hk)
        rw [HL2.out] at o3
        have o4 := o3.tail
        obtain ⟨A2, hA2⟩ : ∃ A2, (if cc = 1 then (some ⟨g2, d2, none⟩ : Option Addr) else some ⟨g2, d2 + 1, none⟩) = A2 := ⟨_, rfl⟩
        have hfA : fp A2 = fp (some ⟨g2, d2, none⟩) := by rw [← hA2]; split <;> rfl
        rw [hA2] at o4
        obtain ⟨n2, hn2'⟩ : ∃ n2, n - 1 = n2 := ⟨_, rfl⟩
        obtain ⟨k2, hk2'⟩ : ∃ k2, cc - 1 = k2 := ⟨_, rfl⟩
        rw [hn2', hk2'] at o4
        have O2 := hidp o4
        have AI2 := hidp AI2a
        have AJ2 : Hid (ib ∉ fp A2) := hidp (by rw [hfA]; exact AJ.out)
        have AP2 : Hid (∀ q ∈ bl :: F2, q ∉ fp A2) := hidp (by rw [hfA]; exact ap2)
        have FI2 : Hid ((ins.set tn false).length = 6 ∧ ∀ t : Nat, t < 6 → (ins.set tn false).getD t false = ((leaveS s (tn : Int)).get t).isSome) := hidp ⟨by rw [List.length_set]; exact FI.out.1, fun t ht => by
          rw [getD_set' (by rw [FI.out.1]; omega), HGT.out]
          by_cases e : t = tn
          · subst e; simp
          · rw [if_neg e, if_neg (by omega)]; exact FI.out.2 t ht⟩
        have HC2 : Hid ((leaveS s (tn : Int)).count ≤ ((i + 1 : Nat) : Int)) := hidp (by have := HC.out; show s.count ≤ _; omega)
        obtain ⟨s2, hs2⟩ : ∃ s2, leaveS s (tn : Int) = s2 := ⟨_, rfl⟩
        obtain ⟨ins2, hi2⟩ : ∃ ins2, ins.set tn false = ins2 := ⟨_, rfl⟩
        rw [hs2] at HJ L2 HC2 O2 FI2
        rw [hi2] at B2 FI2
        have hcut : 1 ≤ n := h0
        have hcut2 : 1 ≤ cc := by omega
        clear hs2 hi2 CL l2 st2 b2 tz AI2a o2 o3 o4 ap2 hfA hg2 ck
        obtain ⟨wz, hwz⟩ : ∃ wz, wx.setCell ⟨ib, tn, none⟩ (.bool false) = wz := ⟨_, rfl⟩
        rw [hwz] at B2 L2 HB2 O2
        go_wp2_with fail
        try rw [hwz]
        clear hwz
        have CG := li_grant L2.out (by have := HC2.out; omega)
        obtain ⟨hgi, htk, hct, hgt⟩ := HJ.out.grant
        have HI := hidp hgi
        have HTK := hidp htk
        have HC3 : Hid ((grantS s2).count ≤ ((i + 1 : Nat) : Int)) := hidp (by rw [hct]; exact HC2.out)
        have FI3 : Hid (ins2.length = 6 ∧ ∀ t : Nat, t < 6 → ins2.getD t false = ((grantS s2).get t).isSome) := hidp ⟨FI2.out.1, fun t ht => by rw [hgt]; exact FI2.out.2 t ht⟩
        clear hgi htk hct hgt
        go_wp2_with fail
        refine CG.mono ?_
        rintro e w3 ⟨A9, n9, c9, F3, rfl, _, l3, s3, _⟩
        have HB3 := hidp (HB2.out.trans (s3.turned.below HB2.out.size (fun q hq => by
          rcases List.mem_cons.1 hq with rfl | hq
          · have := L2.out.base; have := HW1.out; omega
          · have := L2.out.news q hq; have := HW1.out; omega)))
        have O3 := hidp (O2.out.turned s3.turned (fun k hk hm => AP2.out k hm hk))
        have B3 := hidp (B2.out.turned s3.turned AI2.out)
        have AP3 : Hid (∀ q ∈ bl :: F3, q ∉ fp A2) := hidp (fun q hq => by
          rcases List.mem_cons.1 hq with rfl | hq
          · exact AP2.out _ (by simp)
          · rcases s3.fps q hq with h | h
            · exact AP2.out q (List.mem_cons_of_mem _ h)
            · intro hm
              have := (O2.out.base q hm).2
              omega)
        have AI3 : Hid (ib ∉ bl :: F3) := hidp (fun hm => by
          rcases List.mem_cons.1 hm with h | h
          · exact AI2.out (h ▸ by simp)
          · rcases s3.fps _ h with h | h
            · exact AI2.out (List.mem_cons_of_mem _ h)
            · have := B2.out.lt; omega)
        obtain ⟨s4, hs4⟩ : ∃ s4, grantS s2 = s4 := ⟨_, rfl⟩
        rw [hs4] at l3 HI HC3 HTK FI3
        have O4a : Hid (OffI u1.heap.size w3 A2 n2 k2 (s4.L.map AL.task)) := hidp (by rw [HTK.out]; exact O3.out)
        have hn2 : Hid (n2 = s4.L.length) := hidp (by have := O4a.out.len; simpa using this)
        have CH := li_holder l3 0
        rw [holder_first HI.out] at CH
        have L3 := hidp l3
        clear CG l3 s3 hs4
        cases hL : s4.L with
        | nil =>
          rw [hL] at CH
          dsimp only at CH
          have h0 : n2 = 0 := by have := hn2.out; rw [hL] at this; simpa using this
          have hz : Hid (s4.L.length - 1 = 0) := hidp (by rw [hL]; rfl)
          have HN0 : Hid (n2 = 0) := hidp h0
          have hnI : ¬ (0 : Int) < (n2 : Int) := by omega
          have hnD : decide ((0 : Int) < (n2 : Int)) = false := decide_eq_false hnI
          have hmx : max (0 : Int) ((n2 : Int) - 1) = 0 := by omega
          have hmx2 : (if (0 : Int) < (n2 : Int) - 1 then (n2 : Int) - 1 else 0) = 0 := by split <;> omega
          have wn1 : IntKind.i64.wrap ((n2 : Int) - 1) = (n2 : Int) - 1 := IntWalk.i64_in _ (by omega)
          clear hL h0
          go_wp2_with fail
          refine CH.mono ?_
          rintro e w4 ⟨rfl, hb4⟩
          have L4 := hidp (L3.out.over hb4)
          have O4 := hidp (O4a.out.over hb4)
          have B4 := hidp (B3.out.turned (Turned.of_below hb4 []) (by simp))
          have HB4 := hidp (HB3.out.trans (hb4.mono HB3.out.size))
          clear CH hb4
          have CW := li_waiting L4.out
          have hwl := wait_len HI.out
          go_wp2_with (first | (go_at_call 25; refine CW.mono ?_; rintro e w5 ⟨A7, n7, c7, rfl, o7, hb7⟩; have e7 : n7 = s4.L.length - 1 := (by rw [← hwl]; exact o7.2.1); rw [hz.out] at e7; subst e7; have HB7 := hidp hb7; clear o7 hb7))
          have L5 := hidp (L4.out.over HB7.out)
          have O5 := hidp (O4.out.over HB7.out)
          have B5 := hidp (B4.out.turned (Turned.of_below HB7.out []) (by simp))
          have HB5 := hidp (HB4.out.trans (HB7.out.mono HB4.out.size))
          go_roundg (us.length - i - 1)
          case measure => have := Hi.out; omega
          case rel =>
            have O5' : Hid (OffI u1.heap.size w5 A2 0 k2 (s4.L.map AL.task)) := hidp (by have := O5.out; rw [HN0.out] at this; exact this)
            first
              | exact ⟨i + 1, s4, F3, _, ins2, _, k2, by have := Hi.out; omega, by go_num, rfl, HI, HC3, L5, O5', AP3, B5, FI3, AI3, AJ2, HB5⟩
              | exact ⟨i + 1, s4, F3, _, ins2, _, k2, by have := Hi.out; omega, by go_num, rfl, HI, HC3, L5, O5, AP3, B5, FI3, AI3, AJ2, HB5⟩
        | cons a l =>
          rw [hL] at CH
          dsimp only at CH
          have h0 : 0 < n2 := by have := hn2.out; rw [hL] at this; simp at this; omega
          have hz : Hid (s4.L.length - 1 = n2 - 1) := hidp (by rw [hn2.out])
          have hn6 : n2 ≤ 6 := by have := hn2.out; have := tasks_le HI.out.j.ok; have := HI.out.j.ok.n6; omega
          have hnI : (0 : Int) < (n2 : Int) := by omega
          have hnD : decide ((0 : Int) < (n2 : Int)) = true := decide_eq_true hnI
          have hmx : max (0 : Int) ((n2 : Int) - 1) = ((n2 - 1 : Nat) : Int) := by omega
          have hmx2 : (if (0 : Int) < (n2 : Int) - 1 then (n2 : Int) - 1 else 0) = ((n2 - 1 : Nat) : Int) := by split <;> omega
          have wn1 : IntKind.i64.wrap ((n2 : Int) - 1) = (n2 : Int) - 1 := IntWalk.i64_in _ (by omega)
          have ecast : ((n2 - 1 : Nat) : Int) = (n2 : Int) - 1 := by omega
          obtain ⟨g4, d4, hA4, ck0⟩ := O4a.out.cell (j := 0) (by omega)
          have e0 : (s4.L.map AL.task).getD 0 0 = a.task := by rw [hL]; rfl
          rw [e0, Nat.add_zero] at ck0
          obtain ⟨ta, hta⟩ : ∃ ta, a.task = ta := ⟨_, rfl⟩
          rw [hta] at ck0 CH
          have dn0 : decide (n2 ≤ 0) = false := decide_eq_false (by omega)
          clear hL hta e0
          have HA4 := hidp hA4
          subst hA4
          go_wp2_with fail
          refine CH.mono ?_
          rintro e w4 ⟨rfl, hb4⟩
          have L4 := hidp (L3.out.over hb4)
          have O4 := hidp (O4a.out.over hb4)
          have B4 := hidp (B3.out.turned (Turned.of_below hb4 []) (by simp))
          have HB4 := hidp (HB3.out.trans (hb4.mono HB3.out.size))
          have ck := Keeps.of_below hb4 _ _ ck0
          clear CH hb4 ck0
          have CW := li_waiting L4.out
          have hwl := wait_len HI.out
          go_wp2_with (first | (go_at_call 25; refine CW.mono ?_; rintro e w5 ⟨A7, n7, c7, rfl, o7, hb7⟩; have e7 : n7 = s4.L.length - 1 := (by rw [← hwl]; exact o7.2.1); rw [hz.out] at e7; subst e7; have HB7 := hidp hb7; clear o7 hb7))
          have L5 := hidp (L4.out.over HB7.out)
          have O5 := hidp (O4.out.over HB7.out)
          have B5 := hidp (B4.out.turned (Turned.of_below HB7.out []) (by simp))
          have HB5 := hidp (HB4.out.trans (HB7.out.mono HB4.out.size))
          go_roundg (us.length - i - 1)
          case measure => have := Hi.out; omega
          case rel => exact ⟨i + 1, s4, F3, _, ins2, _, k2, by have := Hi.out; omega, by go_num, rfl, HI, HC3, L5, O5, AP3, B5, FI3, AI3, AJ2, HB5⟩
      · have hsp : (y7 = 0 ∧ ¬ 0 < n) ∨ ¬ y7 = 0 := by
          by_cases e : y7 = 0
          · exact .inl ⟨e, fun h0 => hA ⟨e, h0⟩⟩
          · exact .inr e
        have hins : wr.cell? ⟨ib, t, none⟩ = some (.bool (ins.getD t false)) := boolsF_at B.out (by rw [FI.out.1]; omega)
        have hdr := (Below.refl wr.heap.size wr).drew
        have Ld := hidp (L.out.over hdr)
        have Od := hidp (O.out.over hdr)
        have Bd := hidp (B.out.turned (Turned.of_below hdr []) (by simp))
        have HBd := hidp (HB.out.trans (hdr.mono HB.out.size))
        clear hA hdr
        cases hit : ins.getD t false with
        | true =>
          rw [hit] at hins
          have hsm : (s.get t).isSome = true := by rw [← FI.out.2 t ht6]; exact hit
          have ec : askC s t 0 = 17 := by
            have h1 := (HI0.out.j.sh.has (t : Int)).2 (by omega)
            have h2 : s.hasR 0 := by unfold Ls.hasR; rw [HI0.out.j.sh.homes]; simp
            unfold askC; rw [if_neg (by simpa using h1), if_neg (by simpa using h2), if_pos hsm]
          have CL := li_ask_no Ld.out (t := (t : Int)) (r := 0) (by rw [ec]; decide)
          rw [ec] at CL
          have hs : wr.drew.cell? ⟨ib, t, none⟩ = some (.bool true) := hins
          have HJ := hidp HI0.out.j
          have HC2 : Hid (s.count ≤ ((i + 1 : Nat) : Int)) := hidp (by have := HC.out; omega)
          have L2 := Ld
          have O2 := Od
          have B2 := Bd
          have AP2 := AP
          have AI2 := AI
          have AJ2 := AJ
          have FI2 := FI
          have HB2 := HBd
          clear hit hsm ec
          rcases hsp with ⟨rfl, hh0⟩ | z7
          · have hn0 : ¬ (0 : Int) < (n : Int) := by omega
            have hn1 : decide ((0 : Int) < (n : Int)) = false := decide_eq_false hn0
            clear hh0
            go_wp2_with fail
            go_region_held3 (fun w' => w'.cell? ⟨ib, t, none⟩ = some (.bool true)) (exact hs)
              (first
                | (go_at_call 12; refine CL.mono ?_; rintro e u ⟨rfl, rfl⟩))
            clear hn1
            have CG := li_grant L2.out (by have := HC2.out; omega)
            obtain ⟨hgi, htk, hct, hgt⟩ := HJ.out.grant
            have HI := hidp hgi
            have HTK := hidp htk
            have HC3 : Hid ((grantS s).count ≤ ((i + 1 : Nat) : Int)) := hidp (by rw [hct]; exact HC2.out)
            have FI3 : Hid (ins.length = 6 ∧ ∀ t : Nat, t < 6 → ins.getD t false = ((grantS s).get t).isSome) := hidp ⟨FI2.out.1, fun t ht => by rw [hgt]; exact FI2.out.2 t ht⟩
            clear hgi htk hct hgt
            go_wp2_with fail
            refine CG.mono ?_
            rintro e w3 ⟨A9, n9, c9, F3, rfl, _, l3, s3, _⟩
            have HB3 := hidp (HB2.out.trans (s3.turned.below HB2.out.size (fun q hq => by
              rcases List.mem_cons.1 hq with rfl | hq
              · have := L2.out.base; have := HW1.out; omega
              · have := L2.out.news q hq; have := HW1.out; omega)))
            have O3 := hidp (O2.out.turned s3.turned (fun k hk hm => AP2.out k hm hk))
            have B3 := hidp (B2.out.turned s3.turned AI2.out)
            have AP3 : Hid (∀ q ∈ bl :: F3, q ∉ fp A) := hidp (fun q hq => by
              rcases List.mem_cons.1 hq with rfl | hq
              · exact AP2.out _ (by simp)
              · rcases s3.fps q hq with h | h
                · exact AP2.out q (List.mem_cons_of_mem _ h)
                · intro hm
                  have := (O2.out.base q hm).2
                  omega)
            have AI3 : Hid (ib ∉ bl :: F3) := hidp (fun hm => by
              rcases List.mem_cons.1 hm with h | h
              · exact AI2.out (h ▸ by simp)
              · rcases s3.fps _ h with h | h
                · exact AI2.out (List.mem_cons_of_mem _ h)
                · have := B2.out.lt; omega)
            obtain ⟨s4, hs4⟩ : ∃ s4, grantS s = s4 := ⟨_, rfl⟩
            rw [hs4] at l3 HI HC3 HTK FI3
            have O4a : Hid (OffI u1.heap.size w3 A n cc (s4.L.map AL.task)) := hidp (by rw [HTK.out]; exact O3.out)
            have hn2 : Hid (n = s4.L.length) := hidp (by have := O4a.out.len; simpa using this)
            have CH := li_holder l3 0
            rw [holder_first HI.out] at CH
            have L3 := hidp l3
            clear CG l3 s3 hs4
            cases hL : s4.L with
            | nil =>
              rw [hL] at CH
              dsimp only at CH
              have h0 : n = 0 := by have := hn2.out; rw [hL] at this; simpa using this
              have hz : Hid (s4.L.length - 1 = 0) := hidp (by rw [hL]; rfl)
              have HN0 : Hid (n = 0) := hidp h0
              have hnI : ¬ (0 : Int) < (n : Int) := by omega
              have hnD : decide ((0 : Int) < (n : Int)) = false := decide_eq_false hnI
              have hmx : max (0 : Int) ((n : Int) - 1) = 0 := by omega
              have hmx2 : (if (0 : Int) < (n : Int) - 1 then (n : Int) - 1 else 0) = 0 := by split <;> omega
              have wn1 : IntKind.i64.wrap ((n : Int) - 1) = (n : Int) - 1 := IntWalk.i64_in _ (by omega)
              clear hL h0
              go_wp2_with fail
              refine CH.mono ?_
              rintro e w4 ⟨rfl, hb4⟩
              have L4 := hidp (L3.out.over hb4)
              have O4 := hidp (O4a.out.over hb4)
              have B4 := hidp (B3.out.turned (Turned.of_below hb4 []) (by simp))
              have HB4 := hidp (HB3.out.trans (hb4.mono HB3.out.size))
              clear CH hb4
              have CW := li_waiting L4.out
              have hwl := wait_len HI.out
              go_wp2_with (first | (go_at_call 25; refine CW.mono ?_; rintro e w5 ⟨A7, n7, c7, rfl, o7, hb7⟩; have e7 : n7 = s4.L.length - 1 := (by rw [← hwl]; exact o7.2.1); rw [hz.out] at e7; subst e7; have HB7 := hidp hb7; clear o7 hb7))
              have L5 := hidp (L4.out.over HB7.out)
              have O5 := hidp (O4.out.over HB7.out)
              have B5 := hidp (B4.out.turned (Turned.of_below HB7.out []) (by simp))
              have HB5 := hidp (HB4.out.trans (HB7.out.mono HB4.out.size))
              go_roundg (us.length - i - 1)
              case measure => have := Hi.out; omega
              case rel =>
                have O5' : Hid (OffI u1.heap.size w5 A 0 cc (s4.L.map AL.task)) := hidp (by have := O5.out; rw [HN0.out] at this; exact this)
                first
                  | exact ⟨i + 1, s4, F3, _, ins, _, cc, by have := Hi.out; omega, by go_num, rfl, HI, HC3, L5, O5', AP3, B5, FI3, AI3, AJ2, HB5⟩
                  | exact ⟨i + 1, s4, F3, _, ins, _, cc, by have := Hi.out; omega, by go_num, rfl, HI, HC3, L5, O5, AP3, B5, FI3, AI3, AJ2, HB5⟩
            | cons a l =>
              exfalso
              have h8 := hn2.out
              rw [hL] at h8
              simp at h8
              omega
          · have z7' : (y7 == 0) = false := by simpa using z7
            clear z7
            go_wp2_with fail
            go_region_held3 (fun w' => w'.cell? ⟨ib, t, none⟩ = some (.bool true)) (exact hs)
              (first
                | (go_at_call 12; refine CL.mono ?_; rintro e u ⟨rfl, rfl⟩))
            have CG := li_grant L2.out (by have := HC2.out; omega)
            obtain ⟨hgi, htk, hct, hgt⟩ := HJ.out.grant
            have HI := hidp hgi
            have HTK := hidp htk
            have HC3 : Hid ((grantS s).count ≤ ((i + 1 : Nat) : Int)) := hidp (by rw [hct]; exact HC2.out)
            have FI3 : Hid (ins.length = 6 ∧ ∀ t : Nat, t < 6 → ins.getD t false = ((grantS s).get t).isSome) := hidp ⟨FI2.out.1, fun t ht => by rw [hgt]; exact FI2.out.2 t ht⟩
            clear hgi htk hct hgt
            go_wp2_with fail
            refine CG.mono ?_
            rintro e w3 ⟨A9, n9, c9, F3, rfl, _, l3, s3, _⟩
            have HB3 := hidp (HB2.out.trans (s3.turned.below HB2.out.size (fun q hq => by
              rcases List.mem_cons.1 hq with rfl | hq
              · have := L2.out.base; have := HW1.out; omega
              · have := L2.out.news q hq; have := HW1.out; omega)))
            have O3 := hidp (O2.out.turned s3.turned (fun k hk hm => AP2.out k hm hk))
            have B3 := hidp (B2.out.turned s3.turned AI2.out)
            have AP3 : Hid (∀ q ∈ bl :: F3, q ∉ fp A) := hidp (fun q hq => by
              rcases List.mem_cons.1 hq with rfl | hq
              · exact AP2.out _ (by simp)
              · rcases s3.fps q hq with h | h
                · exact AP2.out q (List.mem_cons_of_mem _ h)
                · intro hm
                  have := (O2.out.base q hm).2
                  omega)
            have AI3 : Hid (ib ∉ bl :: F3) := hidp (fun hm => by
              rcases List.mem_cons.1 hm with h | h
              · exact AI2.out (h ▸ by simp)
              · rcases s3.fps _ h with h | h
                · exact AI2.out (List.mem_cons_of_mem _ h)
                · have := B2.out.lt; omega)
            obtain ⟨s4, hs4⟩ : ∃ s4, grantS s = s4 := ⟨_, rfl⟩
            rw [hs4] at l3 HI HC3 HTK FI3
            have O4a : Hid (OffI u1.heap.size w3 A n cc (s4.L.map AL.task)) := hidp (by rw [HTK.out]; exact O3.out)
            have hn2 : Hid (n = s4.L.length) := hidp (by have := O4a.out.len; simpa using this)
            have CH := li_holder l3 0
            rw [holder_first HI.out] at CH
            have L3 := hidp l3
            clear CG l3 s3 hs4
            cases hL : s4.L with
            | nil =>
              rw [hL] at CH
              dsimp only at CH
              have h0 : n = 0 := by have := hn2.out; rw [hL] at this; simpa using this
              have hz : Hid (s4.L.length - 1 = 0) := hidp (by rw [hL]; rfl)
              have HN0 : Hid (n = 0) := hidp h0
              have hnI : ¬ (0 : Int) < (n : Int) := by omega
              have hnD : decide ((0 : Int) < (n : Int)) = false := decide_eq_false hnI
              have hmx : max (0 : Int) ((n : Int) - 1) = 0 := by omega
              have hmx2 : (if (0 : Int) < (n : Int) - 1 then (n : Int) - 1 else 0) = 0 := by split <;> omega
              have wn1 : IntKind.i64.wrap ((n : Int) - 1) = (n : Int) - 1 := IntWalk.i64_in _ (by omega)
              clear hL h0
              go_wp2_with fail
              refine CH.mono ?_
              rintro e w4 ⟨rfl, hb4⟩
              have L4 := hidp (L3.out.over hb4)
              have O4 := hidp (O4a.out.over hb4)
              have B4 := hidp (B3.out.turned (Turned.of_below hb4 []) (by simp))
              have HB4 := hidp (HB3.out.trans (hb4.mono HB3.out.size))
              clear CH hb4
              have CW := li_waiting L4.out
              have hwl := wait_len HI.out
              go_wp2_with (first | (go_at_call 25; refine CW.mono ?_; rintro e w5 ⟨A7, n7, c7, rfl, o7, hb7⟩; have e7 : n7 = s4.L.length - 1 := (by rw [← hwl]; exact o7.2.1); rw [hz.out] at e7; subst e7; have HB7 := hidp hb7; clear o7 hb7))
              have L5 := hidp (L4.out.over HB7.out)
              have O5 := hidp (O4.out.over HB7.out)
              have B5 := hidp (B4.out.turned (Turned.of_below HB7.out []) (by simp))
              have HB5 := hidp (HB4.out.trans (HB7.out.mono HB4.out.size))
              go_roundg (us.length - i - 1)
              case measure => have := Hi.out; omega
              case rel =>
                have O5' : Hid (OffI u1.heap.size w5 A 0 cc (s4.L.map AL.task)) := hidp (by have := O5.out; rw [HN0.out] at this; exact this)
                first
                  | exact ⟨i + 1, s4, F3, _, ins, _, cc, by have := Hi.out; omega, by go_num, rfl, HI, HC3, L5, O5', AP3, B5, FI3, AI3, AJ2, HB5⟩
                  | exact ⟨i + 1, s4, F3, _, ins, _, cc, by have := Hi.out; omega, by go_num, rfl, HI, HC3, L5, O5, AP3, B5, FI3, AI3, AJ2, HB5⟩
            | cons a l =>
              rw [hL] at CH
              dsimp only at CH
              have h0 : 0 < n := by have := hn2.out; rw [hL] at this; simp at this; omega
              have hz : Hid (s4.L.length - 1 = n - 1) := hidp (by rw [hn2.out])
              have hn6 : n ≤ 6 := by have := hn2.out; have := tasks_le HI.out.j.ok; have := HI.out.j.ok.n6; omega
              have hnI : (0 : Int) < (n : Int) := by omega
              have hnD : decide ((0 : Int) < (n : Int)) = true := decide_eq_true hnI
              have hmx : max (0 : Int) ((n : Int) - 1) = ((n - 1 : Nat) : Int) := by omega
              have hmx2 : (if (0 : Int) < (n : Int) - 1 then (n : Int) - 1 else 0) = ((n - 1 : Nat) : Int) := by split <;> omega
              have wn1 : IntKind.i64.wrap ((n : Int) - 1) = (n : Int) - 1 := IntWalk.i64_in _ (by omega)
              have ecast : ((n - 1 : Nat) : Int) = (n : Int) - 1 := by omega
              obtain ⟨g4, d4, hA4, ck0⟩ := O4a.out.cell (j := 0) (by omega)
              have e0 : (s4.L.map AL.task).getD 0 0 = a.task := by rw [hL]; rfl
              rw [e0, Nat.add_zero] at ck0
              obtain ⟨ta, hta⟩ : ∃ ta, a.task = ta := ⟨_, rfl⟩
              rw [hta] at ck0 CH
              have dn0 : decide (n ≤ 0) = false := decide_eq_false (by omega)
              clear hL hta e0
              have HA4 := hidp hA4
              subst hA4
              go_wp2_with fail
              refine CH.mono ?_
              rintro e w4 ⟨rfl, hb4⟩
              have L4 := hidp (L3.out.over hb4)
              have O4 := hidp (O4a.out.over hb4)
              have B4 := hidp (B3.out.turned (Turned.of_below hb4 []) (by simp))
              have HB4 := hidp (HB3.out.trans (hb4.mono HB3.out.size))
              have ck := Keeps.of_below hb4 _ _ ck0
              clear CH hb4 ck0
              have CW := li_waiting L4.out
              have hwl := wait_len HI.out
              go_wp2_with (first | (go_at_call 25; refine CW.mono ?_; rintro e w5 ⟨A7, n7, c7, rfl, o7, hb7⟩; have e7 : n7 = s4.L.length - 1 := (by rw [← hwl]; exact o7.2.1); rw [hz.out] at e7; subst e7; have HB7 := hidp hb7; clear o7 hb7))
              have L5 := hidp (L4.out.over HB7.out)
              have O5 := hidp (O4.out.over HB7.out)
              have B5 := hidp (B4.out.turned (Turned.of_below HB7.out []) (by simp))
              have HB5 := hidp (HB4.out.trans (HB7.out.mono HB4.out.size))
              go_roundg (us.length - i - 1)
              case measure => have := Hi.out; omega
              case rel => exact ⟨i + 1, s4, F3, _, ins, _, cc, by have := Hi.out; omega, by go_num, rfl, HI, HC3, L5, O5, AP3, B5, FI3, AI3, AJ2, HB5⟩
        | false =>
          rw [hit] at hins
          have hnn : s.get t = none := by
            have h1 := FI.out.2 t ht6
            rw [hit] at h1
            cases hg : s.get (t : Int) with
            | none => rfl
            | some b => rw [hg] at h1; cases h1
          obtain ⟨e1, j1, htk, hgt⟩ := HI0.out.ask ht6 hnn
          have CL := li_ask Ld.out (t := (t : Int)) (r := 0) (by decide) (by have := HC.out; omega) (.inl HI0.out.j.sh.proto)
          rw [e1] at CL
          have hs : wr.drew.cell? ⟨ib, t, none⟩ = some (.bool false) := hins
          have HJ := hidp j1
          have HTk := hidp htk
          have HGT := hidp hgt
          have hcs := hidp (ask_count s t 0).1
          clear hit hnn e1 j1 htk hgt
          rcases hsp with ⟨rfl, hh0⟩ | z7
          · have hn0 : ¬ (0 : Int) < (n : Int) := by omega
            have hn1 : decide ((0 : Int) < (n : Int)) = false := decide_eq_false hn0
            clear hh0
            go_wp2_with fail
            go_region_held3 (fun w' => w'.cell? ⟨ib, t, none⟩ = some (.bool false)) (exact hs)
              (first
                | (go_at_call 12; refine CL.mono ?_; rintro e wx ⟨rfl, F2, l2, st2⟩; have b2 := Bd.out.turned st2.turned AI.out; have hs : wx.cell? ⟨ib, t, none⟩ = some (.bool false) := st2.turned.cell hs AI.out))
            have hsx := hs
            have fz := b2.frozen t
            have AI2a : ib ∉ bl :: F2 := fun hm => by
              rcases List.mem_cons.1 hm with h | h
              · exact AI.out (h ▸ by simp)
              · rcases st2.fps _ h with h | h
                · exact AI.out (List.mem_cons_of_mem _ h)
                · have := Bd.out.lt; omega
            have o2 := Od.out.turned st2.turned (fun k hk hm => AP.out k hm hk)
            have ap2 : ∀ q ∈ bl :: F2, q ∉ fp A := fun q hq => by
              rcases List.mem_cons.1 hq with rfl | hq
              · exact AP.out _ (by simp)
              · rcases st2.fps q hq with h | h
                · exact AP.out q (List.mem_cons_of_mem _ h)
                · intro hm
                  have := (Od.out.base q hm).2
                  omega
            have HBx := hidp (HBd.out.trans (st2.turned.below HBd.out.size (fun q hq => by
              rcases List.mem_cons.1 hq with rfl | hq
              · have := L.out.base; have := HW1.out; omega
              · have := L.out.news q hq; have := HW1.out; omega)))
            have tz : Turned [ib] wx (wx.setCell ⟨ib, t, none⟩ (.bool true)) := (Turned.refl [ib] wx).setCell (.inl (by simp)) _
            have B2a := hidp (show Bk (wx.setCell ⟨ib, t, none⟩ (.bool true)) ib 49 (boolsF (ins.set t true)) from (by have := b2.put t (.bool true); rw [boolsF_put] at this; exact this))
            have L2a := hidp (l2.turned tz (fun q hq hm => by rw [List.mem_singleton] at hm; subst hm; exact AI2a hq) (fun q hq => by rw [List.mem_singleton] at hq; subst hq; exact HIB.out))
            have HB2a := hidp (HBx.out.trans (tz.below HBx.out.size (fun q hq => by rw [List.mem_singleton] at hq; subst hq; have := HIB.out; have := HW1.out; omega)))
            have O2a := hidp (o2.turned tz (fun k hk hm => by rw [List.mem_singleton] at hm; subst hm; exact AJ.out hk))
            have AI2 := hidp AI2a
            have APa := hidp ap2
            obtain ⟨wz, hwz⟩ : ∃ wz, wx.setCell ⟨ib, t, none⟩ (.bool true) = wz := ⟨_, rfl⟩
            rw [hwz] at B2a L2a HB2a O2a
            have hal := (Below.refl wz.heap.size wz).alloc (Nat.le_refl _) (.cells #[.int .i64 (t : Int)] 3)
            have O2b := O2a.out.over hal
            have L2b := hidp (L2a.out.over hal)
            have B2b := hidp (B2a.out.turned (Turned.of_below hal []) (by simp))
            have HB2b := hidp (HB2a.out.trans (hal.mono HB2a.out.size))
            have hx0 : (wz.alloc (.cells #[.int .i64 (t : Int)] 3)).cell? ⟨wz.heap.size, 0, none⟩ = some (.int .i64 (t : Int)) := (Bk.new wz 3 #[.int .i64 (t : Int)]).cell 0
            have Hx0 := hidp hx0
            have Hsz : Hid (u1.heap.size ≤ (wz.alloc (.cells #[.int .i64 (t : Int)] 3)).heap.size) := hidp L2b.out.below.size
            have hnm : n ≤ 1000 := by omega
            clear CL l2 st2 b2 tz AI2a o2 ap2 hal hx0 hs hsx
            go_wp2_with (at_builtin; go_loud (refine wpList_off rfl (.tmp 66) (.tmp 68) rfl rfl O2b Hsz.out hnm _ (t : Int) rfl Hx0.out ?_; intro A2 k2 w7 happ; have L2 := hidp (L2b.out.turned happ.turned (fun q hq hm => APa.out q hq hm) (fun q hq => (O2b.base q hq).1)); have B2 := hidp (B2b.out.turned happ.turned AJ.out); have HB2 := hidp (HB2b.out.trans (happ.turned.below HB2b.out.size (fun q hq => by have := (O2b.base q hq).1; have := HW1.out; omega))); have AP2 : Hid (∀ q ∈ bl :: F2, q ∉ fp A2) := hidp (fun q hq hm => by
              rcases happ.fps q hm with h1 | h1
              · exact APa.out q hq h1
              · have h1 : (wz.alloc (.cells #[.int .i64 (t : Int)] 3)).heap.size ≤ q := h1
                have := L2a.out.lt q hq; simp at h1; omega); have AJ2 : Hid (ib ∉ fp A2) := hidp (fun hm => by
              rcases happ.fps ib hm with h1 | h1
              · exact AJ.out h1
              · have h1 : (wz.alloc (.cells #[.int .i64 (t : Int)] 3)).heap.size ≤ ib := h1
                have := B2a.out.lt; simp at h1; omega); have O2 : Hid (OffI u1.heap.size w7 A2 (n + 1) k2 ((askS s t 0).L.map AL.task)) := hidp (by rw [HTk.out]; exact happ.off); clear happ O2b))
            have FI2 : Hid ((ins.set t true).length = 6 ∧ ∀ u : Nat, u < 6 → (ins.set t true).getD u false = ((askS s t 0).get u).isSome) := hidp ⟨by rw [List.length_set]; exact FI.out.1, fun u hu => by
              rw [getD_set' (by rw [FI.out.1]; omega), HGT.out]
              by_cases e : u = t
              · subst e; simp
              · rw [if_neg e, if_neg (by omega)]; exact FI.out.2 u hu⟩
            have HC2 : Hid ((askS s t 0).count ≤ ((i + 1 : Nat) : Int)) := hidp (by have := HC.out; have := hcs.out; omega)
            obtain ⟨n2, hn2'⟩ : ∃ n2, n + 1 = n2 := ⟨_, rfl⟩
            obtain ⟨s2, hs2⟩ : ∃ s2, askS s t 0 = s2 := ⟨_, rfl⟩
            obtain ⟨ins2, hi2⟩ : ∃ ins2, ins.set t true = ins2 := ⟨_, rfl⟩
            rw [hs2] at HJ L2 O2 HC2 FI2
            rw [hi2] at B2 FI2
            rw [hn2'] at O2
            try rw [hn2']
            clear hs2 hi2 hn2' hwz
            have CG := li_grant L2.out (by have := HC2.out; omega)
            obtain ⟨hgi, htk, hct, hgt⟩ := HJ.out.grant
            have HI := hidp hgi
            have HTK := hidp htk
            have HC3 : Hid ((grantS s2).count ≤ ((i + 1 : Nat) : Int)) := hidp (by rw [hct]; exact HC2.out)
            have FI3 : Hid (ins2.length = 6 ∧ ∀ t : Nat, t < 6 → ins2.getD t false = ((grantS s2).get t).isSome) := hidp ⟨FI2.out.1, fun t ht => by rw [hgt]; exact FI2.out.2 t ht⟩
            clear hgi htk hct hgt
            go_wp2_with fail
            refine CG.mono ?_
            rintro e w3 ⟨A9, n9, c9, F3, rfl, _, l3, s3, _⟩
            have HB3 := hidp (HB2.out.trans (s3.turned.below HB2.out.size (fun q hq => by
              rcases List.mem_cons.1 hq with rfl | hq
              · have := L2.out.base; have := HW1.out; omega
              · have := L2.out.news q hq; have := HW1.out; omega)))
            have O3 := hidp (O2.out.turned s3.turned (fun k hk hm => AP2.out k hm hk))
            have B3 := hidp (B2.out.turned s3.turned AI2.out)
            have AP3 : Hid (∀ q ∈ bl :: F3, q ∉ fp A2) := hidp (fun q hq => by
              rcases List.mem_cons.1 hq with rfl | hq
              · exact AP2.out _ (by simp)
              · rcases s3.fps q hq with h | h
                · exact AP2.out q (List.mem_cons_of_mem _ h)
                · intro hm
                  have := (O2.out.base q hm).2
                  omega)
            have AI3 : Hid (ib ∉ bl :: F3) := hidp (fun hm => by
              rcases List.mem_cons.1 hm with h | h
              · exact AI2.out (h ▸ by simp)
              · rcases s3.fps _ h with h | h
                · exact AI2.out (List.mem_cons_of_mem _ h)
                · have := B2.out.lt; omega)
            obtain ⟨s4, hs4⟩ : ∃ s4, grantS s2 = s4 := ⟨_, rfl⟩
            rw [hs4] at l3 HI HC3 HTK FI3
            have O4a : Hid (OffI u1.heap.size w3 A2 n2 k2 (s4.L.map AL.task)) := hidp (by rw [HTK.out]; exact O3.out)
            have hn2 : Hid (n2 = s4.L.length) := hidp (by have := O4a.out.len; simpa using this)
            have CH := li_holder l3 0
            rw [holder_first HI.out] at CH
            have L3 := hidp l3
            clear CG l3 s3 hs4
            cases hL : s4.L with
            | nil =>
              rw [hL] at CH
              dsimp only at CH
              have h0 : n2 = 0 := by have := hn2.out; rw [hL] at this; simpa using this
              have hz : Hid (s4.L.length - 1 = 0) := hidp (by rw [hL]; rfl)
              have HN0 : Hid (n2 = 0) := hidp h0
              have hnI : ¬ (0 : Int) < (n2 : Int) := by omega
              have hnD : decide ((0 : Int) < (n2 : Int)) = false := decide_eq_false hnI
              have hmx : max (0 : Int) ((n2 : Int) - 1) = 0 := by omega
              have hmx2 : (if (0 : Int) < (n2 : Int) - 1 then (n2 : Int) - 1 else 0) = 0 := by split <;> omega
              have wn1 : IntKind.i64.wrap ((n2 : Int) - 1) = (n2 : Int) - 1 := IntWalk.i64_in _ (by omega)
              clear hL h0
              go_wp2_with fail
              refine CH.mono ?_
              rintro e w4 ⟨rfl, hb4⟩
              have L4 := hidp (L3.out.over hb4)
              have O4 := hidp (O4a.out.over hb4)
              have B4 := hidp (B3.out.turned (Turned.of_below hb4 []) (by simp))
              have HB4 := hidp (HB3.out.trans (hb4.mono HB3.out.size))
              clear CH hb4
              have CW := li_waiting L4.out
              have hwl := wait_len HI.out
              go_wp2_with (first | (go_at_call 25; refine CW.mono ?_; rintro e w5 ⟨A7, n7, c7, rfl, o7, hb7⟩; have e7 : n7 = s4.L.length - 1 := (by rw [← hwl]; exact o7.2.1); rw [hz.out] at e7; subst e7; have HB7 := hidp hb7; clear o7 hb7))
              have L5 := hidp (L4.out.over HB7.out)
              have O5 := hidp (O4.out.over HB7.out)
              have B5 := hidp (B4.out.turned (Turned.of_below HB7.out []) (by simp))
              have HB5 := hidp (HB4.out.trans (HB7.out.mono HB4.out.size))
              go_roundg (us.length - i - 1)
              case measure => have := Hi.out; omega
              case rel =>
                have O5' : Hid (OffI u1.heap.size w5 A2 0 k2 (s4.L.map AL.task)) := hidp (by have := O5.out; rw [HN0.out] at this; exact this)
                first
                  | exact ⟨i + 1, s4, F3, _, ins2, _, k2, by have := Hi.out; omega, by go_num, rfl, HI, HC3, L5, O5', AP3, B5, FI3, AI3, AJ2, HB5⟩
                  | exact ⟨i + 1, s4, F3, _, ins2, _, k2, by have := Hi.out; omega, by go_num, rfl, HI, HC3, L5, O5, AP3, B5, FI3, AI3, AJ2, HB5⟩
            | cons a l =>
              rw [hL] at CH
              dsimp only at CH
              have h0 : 0 < n2 := by have := hn2.out; rw [hL] at this; simp at this; omega
              have hz : Hid (s4.L.length - 1 = n2 - 1) := hidp (by rw [hn2.out])
              have hn6 : n2 ≤ 6 := by have := hn2.out; have := tasks_le HI.out.j.ok; have := HI.out.j.ok.n6; omega
              have hnI : (0 : Int) < (n2 : Int) := by omega
              have hnD : decide ((0 : Int) < (n2 : Int)) = true := decide_eq_true hnI
              have hmx : max (0 : Int) ((n2 : Int) - 1) = ((n2 - 1 : Nat) : Int) := by omega
              have hmx2 : (if (0 : Int) < (n2 : Int) - 1 then (n2 : Int) - 1 else 0) = ((n2 - 1 : Nat) : Int) := by split <;> omega
              have wn1 : IntKind.i64.wrap ((n2 : Int) - 1) = (n2 : Int) - 1 := IntWalk.i64_in _ (by omega)
              have ecast : ((n2 - 1 : Nat) : Int) = (n2 : Int) - 1 := by omega
              obtain ⟨g4, d4, hA4, ck0⟩ := O4a.out.cell (j := 0) (by omega)
              have e0 : (s4.L.map AL.task).getD 0 0 = a.task := by rw [hL]; rfl
              rw [e0, Nat.add_zero] at ck0
              obtain ⟨ta, hta⟩ : ∃ ta, a.task = ta := ⟨_, rfl⟩
              rw [hta] at ck0 CH
              have dn0 : decide (n2 ≤ 0) = false := decide_eq_false (by omega)
              clear hL hta e0
              have HA4 := hidp hA4
              subst hA4
              go_wp2_with fail
              refine CH.mono ?_
              rintro e w4 ⟨rfl, hb4⟩
              have L4 := hidp (L3.out.over hb4)
              have O4 := hidp (O4a.out.over hb4)
              have B4 := hidp (B3.out.turned (Turned.of_below hb4 []) (by simp))
              have HB4 := hidp (HB3.out.trans (hb4.mono HB3.out.size))
              have ck := Keeps.of_below hb4 _ _ ck0
              clear CH hb4 ck0
              have CW := li_waiting L4.out
              have hwl := wait_len HI.out
              go_wp2_with (first | (go_at_call 25; refine CW.mono ?_; rintro e w5 ⟨A7, n7, c7, rfl, o7, hb7⟩; have e7 : n7 = s4.L.length - 1 := (by rw [← hwl]; exact o7.2.1); rw [hz.out] at e7; subst e7; have HB7 := hidp hb7; clear o7 hb7))
              have L5 := hidp (L4.out.over HB7.out)
              have O5 := hidp (O4.out.over HB7.out)
              have B5 := hidp (B4.out.turned (Turned.of_below HB7.out []) (by simp))
              have HB5 := hidp (HB4.out.trans (HB7.out.mono HB4.out.size))
              go_roundg (us.length - i - 1)
              case measure => have := Hi.out; omega
              case rel => exact ⟨i + 1, s4, F3, _, ins2, _, k2, by have := Hi.out; omega, by go_num, rfl, HI, HC3, L5, O5, AP3, B5, FI3, AI3, AJ2, HB5⟩
          · have z7' : (y7 == 0) = false := by simpa using z7
            clear z7
            go_wp2_with fail
            go_region_held3 (fun w' => w'.cell? ⟨ib, t, none⟩ = some (.bool false)) (exact hs)
              (first
                | (go_at_call 12; refine CL.mono ?_; rintro e wx ⟨rfl, F2, l2, st2⟩; have b2 := Bd.out.turned st2.turned AI.out; have hs : wx.cell? ⟨ib, t, none⟩ = some (.bool false) := st2.turned.cell hs AI.out))
            have hsx := hs
            have fz := b2.frozen t
            have AI2a : ib ∉ bl :: F2 := fun hm => by
              rcases List.mem_cons.1 hm with h | h
              · exact AI.out (h ▸ by simp)
              · rcases st2.fps _ h with h | h
                · exact AI.out (List.mem_cons_of_mem _ h)
                · have := Bd.out.lt; omega
            have o2 := Od.out.turned st2.turned (fun k hk hm => AP.out k hm hk)
            have ap2 : ∀ q ∈ bl :: F2, q ∉ fp A := fun q hq => by
              rcases List.mem_cons.1 hq with rfl | hq
              · exact AP.out _ (by simp)
              · rcases st2.fps q hq with h | h
                · exact AP.out q (List.mem_cons_of_mem _ h)
                · intro hm
                  have := (Od.out.base q hm).2
                  omega
            have HBx := hidp (HBd.out.trans (st2.turned.below HBd.out.size (fun q hq => by
              rcases List.mem_cons.1 hq with rfl | hq
              · have := L.out.base; have := HW1.out; omega
              · have := L.out.news q hq; have := HW1.out; omega)))
            have tz : Turned [ib] wx (wx.setCell ⟨ib, t, none⟩ (.bool true)) := (Turned.refl [ib] wx).setCell (.inl (by simp)) _
            have B2a := hidp (show Bk (wx.setCell ⟨ib, t, none⟩ (.bool true)) ib 49 (boolsF (ins.set t true)) from (by have := b2.put t (.bool true); rw [boolsF_put] at this; exact this))
            have L2a := hidp (l2.turned tz (fun q hq hm => by rw [List.mem_singleton] at hm; subst hm; exact AI2a hq) (fun q hq => by rw [List.mem_singleton] at hq; subst hq; exact HIB.out))
            have HB2a := hidp (HBx.out.trans (tz.below HBx.out.size (fun q hq => by rw [List.mem_singleton] at hq; subst hq; have := HIB.out; have := HW1.out; omega)))
            have O2a := hidp (o2.turned tz (fun k hk hm => by rw [List.mem_singleton] at hm; subst hm; exact AJ.out hk))
            have AI2 := hidp AI2a
            have APa := hidp ap2
            obtain ⟨wz, hwz⟩ : ∃ wz, wx.setCell ⟨ib, t, none⟩ (.bool true) = wz := ⟨_, rfl⟩
            rw [hwz] at B2a L2a HB2a O2a
            have hal := (Below.refl wz.heap.size wz).alloc (Nat.le_refl _) (.cells #[.int .i64 (t : Int)] 3)
            have O2b := O2a.out.over hal
            have L2b := hidp (L2a.out.over hal)
            have B2b := hidp (B2a.out.turned (Turned.of_below hal []) (by simp))
            have HB2b := hidp (HB2a.out.trans (hal.mono HB2a.out.size))
            have hx0 : (wz.alloc (.cells #[.int .i64 (t : Int)] 3)).cell? ⟨wz.heap.size, 0, none⟩ = some (.int .i64 (t : Int)) := (Bk.new wz 3 #[.int .i64 (t : Int)]).cell 0
            have Hx0 := hidp hx0
            have Hsz : Hid (u1.heap.size ≤ (wz.alloc (.cells #[.int .i64 (t : Int)] 3)).heap.size) := hidp L2b.out.below.size
            have hnm : n ≤ 1000 := by omega
            clear CL l2 st2 b2 tz AI2a o2 ap2 hal hx0 hs hsx
            go_wp2_with (at_builtin; go_loud (refine wpList_off rfl (.tmp 66) (.tmp 68) rfl rfl O2b Hsz.out hnm _ (t : Int) rfl Hx0.out ?_; intro A2 k2 w7 happ; have L2 := hidp (L2b.out.turned happ.turned (fun q hq hm => APa.out q hq hm) (fun q hq => (O2b.base q hq).1)); have B2 := hidp (B2b.out.turned happ.turned AJ.out); have HB2 := hidp (HB2b.out.trans (happ.turned.below HB2b.out.size (fun q hq => by have := (O2b.base q hq).1; have := HW1.out; omega))); have AP2 : Hid (∀ q ∈ bl :: F2, q ∉ fp A2) := hidp (fun q hq hm => by
              rcases happ.fps q hm with h1 | h1
              · exact APa.out q hq h1
              · have h1 : (wz.alloc (.cells #[.int .i64 (t : Int)] 3)).heap.size ≤ q := h1
                have := L2a.out.lt q hq; simp at h1; omega); have AJ2 : Hid (ib ∉ fp A2) := hidp (fun hm => by
              rcases happ.fps ib hm with h1 | h1
              · exact AJ.out h1
              · have h1 : (wz.alloc (.cells #[.int .i64 (t : Int)] 3)).heap.size ≤ ib := h1
                have := B2a.out.lt; simp at h1; omega); have O2 : Hid (OffI u1.heap.size w7 A2 (n + 1) k2 ((askS s t 0).L.map AL.task)) := hidp (by rw [HTk.out]; exact happ.off); clear happ O2b))
            have FI2 : Hid ((ins.set t true).length = 6 ∧ ∀ u : Nat, u < 6 → (ins.set t true).getD u false = ((askS s t 0).get u).isSome) := hidp ⟨by rw [List.length_set]; exact FI.out.1, fun u hu => by
              rw [getD_set' (by rw [FI.out.1]; omega), HGT.out]
              by_cases e : u = t
              · subst e; simp
              · rw [if_neg e, if_neg (by omega)]; exact FI.out.2 u hu⟩
            have HC2 : Hid ((askS s t 0).count ≤ ((i + 1 : Nat) : Int)) := hidp (by have := HC.out; have := hcs.out; omega)
            obtain ⟨n2, hn2'⟩ : ∃ n2, n + 1 = n2 := ⟨_, rfl⟩
            obtain ⟨s2, hs2⟩ : ∃ s2, askS s t 0 = s2 := ⟨_, rfl⟩
            obtain ⟨ins2, hi2⟩ : ∃ ins2, ins.set t true = ins2 := ⟨_, rfl⟩
            rw [hs2] at HJ L2 O2 HC2 FI2
            rw [hi2] at B2 FI2
            rw [hn2'] at O2
            try rw [hn2']
            clear hs2 hi2 hn2' hwz
            have CG := li_grant L2.out (by have := HC2.out; omega)
            obtain ⟨hgi, htk, hct, hgt⟩ := HJ.out.grant
            have HI := hidp hgi
            have HTK := hidp htk
            have HC3 : Hid ((grantS s2).count ≤ ((i + 1 : Nat) : Int)) := hidp (by rw [hct]; exact HC2.out)
            have FI3 : Hid (ins2.length = 6 ∧ ∀ t : Nat, t < 6 → ins2.getD t false = ((grantS s2).get t).isSome) := hidp ⟨FI2.out.1, fun t ht => by rw [hgt]; exact FI2.out.2 t ht⟩
            clear hgi htk hct hgt
            go_wp2_with fail
            refine CG.mono ?_
            rintro e w3 ⟨A9, n9, c9, F3, rfl, _, l3, s3, _⟩
            have HB3 := hidp (HB2.out.trans (s3.turned.below HB2.out.size (fun q hq => by
              rcases List.mem_cons.1 hq with rfl | hq
              · have := L2.out.base; have := HW1.out; omega
              · have := L2.out.news q hq; have := HW1.out; omega)))
            have O3 := hidp (O2.out.turned s3.turned (fun k hk hm => AP2.out k hm hk))
            have B3 := hidp (B2.out.turned s3.turned AI2.out)
            have AP3 : Hid (∀ q ∈ bl :: F3, q ∉ fp A2) := hidp (fun q hq => by
              rcases List.mem_cons.1 hq with rfl | hq
              · exact AP2.out _ (by simp)
              · rcases s3.fps q hq with h | h
                · exact AP2.out q (List.mem_cons_of_mem _ h)
                · intro hm
                  have := (O2.out.base q hm).2
                  omega)
            have AI3 : Hid (ib ∉ bl :: F3) := hidp (fun hm => by
              rcases List.mem_cons.1 hm with h | h
              · exact AI2.out (h ▸ by simp)
              · rcases s3.fps _ h with h | h
                · exact AI2.out (List.mem_cons_of_mem _ h)
                · have := B2.out.lt; omega)
            obtain ⟨s4, hs4⟩ : ∃ s4, grantS s2 = s4 := ⟨_, rfl⟩
            rw [hs4] at l3 HI HC3 HTK FI3
            have O4a : Hid (OffI u1.heap.size w3 A2 n2 k2 (s4.L.map AL.task)) := hidp (by rw [HTK.out]; exact O3.out)
            have hn2 : Hid (n2 = s4.L.length) := hidp (by have := O4a.out.len; simpa using this)
            have CH := li_holder l3 0
            rw [holder_first HI.out] at CH
            have L3 := hidp l3
            clear CG l3 s3 hs4
            cases hL : s4.L with
            | nil =>
              rw [hL] at CH
              dsimp only at CH
              have h0 : n2 = 0 := by have := hn2.out; rw [hL] at this; simpa using this
              have hz : Hid (s4.L.length - 1 = 0) := hidp (by rw [hL]; rfl)
              have HN0 : Hid (n2 = 0) := hidp h0
              have hnI : ¬ (0 : Int) < (n2 : Int) := by omega
              have hnD : decide ((0 : Int) < (n2 : Int)) = false := decide_eq_false hnI
              have hmx : max (0 : Int) ((n2 : Int) - 1) = 0 := by omega
              have hmx2 : (if (0 : Int) < (n2 : Int) - 1 then (n2 : Int) - 1 else 0) = 0 := by split <;> omega
              have wn1 : IntKind.i64.wrap ((n2 : Int) - 1) = (n2 : Int) - 1 := IntWalk.i64_in _ (by omega)
              clear hL h0
              go_wp2_with fail
              refine CH.mono ?_
              rintro e w4 ⟨rfl, hb4⟩
              have L4 := hidp (L3.out.over hb4)
              have O4 := hidp (O4a.out.over hb4)
              have B4 := hidp (B3.out.turned (Turned.of_below hb4 []) (by simp))
              have HB4 := hidp (HB3.out.trans (hb4.mono HB3.out.size))
              clear CH hb4
              have CW := li_waiting L4.out
              have hwl := wait_len HI.out
              go_wp2_with (first | (go_at_call 25; refine CW.mono ?_; rintro e w5 ⟨A7, n7, c7, rfl, o7, hb7⟩; have e7 : n7 = s4.L.length - 1 := (by rw [← hwl]; exact o7.2.1); rw [hz.out] at e7; subst e7; have HB7 := hidp hb7; clear o7 hb7))
              have L5 := hidp (L4.out.over HB7.out)
              have O5 := hidp (O4.out.over HB7.out)
              have B5 := hidp (B4.out.turned (Turned.of_below HB7.out []) (by simp))
              have HB5 := hidp (HB4.out.trans (HB7.out.mono HB4.out.size))
              go_roundg (us.length - i - 1)
              case measure => have := Hi.out; omega
              case rel =>
                have O5' : Hid (OffI u1.heap.size w5 A2 0 k2 (s4.L.map AL.task)) := hidp (by have := O5.out; rw [HN0.out] at this; exact this)
                first
                  | exact ⟨i + 1, s4, F3, _, ins2, _, k2, by have := Hi.out; omega, by go_num, rfl, HI, HC3, L5, O5', AP3, B5, FI3, AI3, AJ2, HB5⟩
                  | exact ⟨i + 1, s4, F3, _, ins2, _, k2, by have := Hi.out; omega, by go_num, rfl, HI, HC3, L5, O5, AP3, B5, FI3, AI3, AJ2, HB5⟩
            | cons a l =>
              rw [hL] at CH
              dsimp only at CH
              have h0 : 0 < n2 := by have := hn2.out; rw [hL] at this; simp at this; omega
              have hz : Hid (s4.L.length - 1 = n2 - 1) := hidp (by rw [hn2.out])
              have hn6 : n2 ≤ 6 := by have := hn2.out; have := tasks_le HI.out.j.ok; have := HI.out.j.ok.n6; omega
              have hnI : (0 : Int) < (n2 : Int) := by omega
              have hnD : decide ((0 : Int) < (n2 : Int)) = true := decide_eq_true hnI
              have hmx : max (0 : Int) ((n2 : Int) - 1) = ((n2 - 1 : Nat) : Int) := by omega
              have hmx2 : (if (0 : Int) < (n2 : Int) - 1 then (n2 : Int) - 1 else 0) = ((n2 - 1 : Nat) : Int) := by split <;> omega
              have wn1 : IntKind.i64.wrap ((n2 : Int) - 1) = (n2 : Int) - 1 := IntWalk.i64_in _ (by omega)
              have ecast : ((n2 - 1 : Nat) : Int) = (n2 : Int) - 1 := by omega
              obtain ⟨g4, d4, hA4, ck0⟩ := O4a.out.cell (j := 0) (by omega)
              have e0 : (s4.L.map AL.task).getD 0 0 = a.task := by rw [hL]; rfl
              rw [e0, Nat.add_zero] at ck0
              obtain ⟨ta, hta⟩ : ∃ ta, a.task = ta := ⟨_, rfl⟩
              rw [hta] at ck0 CH
              have dn0 : decide (n2 ≤ 0) = false := decide_eq_false (by omega)
              clear hL hta e0
              have HA4 := hidp hA4
              subst hA4
              go_wp2_with fail
              refine CH.mono ?_
              rintro e w4 ⟨rfl, hb4⟩
              have L4 := hidp (L3.out.over hb4)
              have O4 := hidp (O4a.out.over hb4)
              have B4 := hidp (B3.out.turned (Turned.of_below hb4 []) (by simp))
              have HB4 := hidp (HB3.out.trans (hb4.mono HB3.out.size))
              have ck := Keeps.of_below hb4 _ _ ck0
              clear CH hb4 ck0
              have CW := li_waiting L4.out
              have hwl := wait_len HI.out
              go_wp2_with (first | (go_at_call 25; refine CW.mono ?_; rintro e w5 ⟨A7, n7, c7, rfl, o7, hb7⟩; have e7 : n7 = s4.L.length - 1 := (by rw [← hwl]; exact o7.2.1); rw [hz.out] at e7; subst e7; have HB7 := hidp hb7; clear o7 hb7))
              have L5 := hidp (L4.out.over HB7.out)
              have O5 := hidp (O4.out.over HB7.out)
              have B5 := hidp (B4.out.turned (Turned.of_below HB7.out []) (by simp))
              have HB5 := hidp (HB4.out.trans (HB7.out.mono HB4.out.size))
              go_roundg (us.length - i - 1)
              case measure => have := Hi.out; omega
              case rel => exact ⟨i + 1, s4, F3, _, ins2, _, k2, by have := Hi.out; omega, by go_num, rfl, HI, HC3, L5, O5, AP3, B5, FI3, AI3, AJ2, HB5⟩
    · obtain rfl : i = us.length := by omega
      go_wp2
      go_ret
      exact ⟨rfl, HB.out⟩

theorem own : ownKnob Tryz.prog.godebug = none := by kernel_rfl
theorem laidOut : laidOutB Tryz.prog = true := by kernel_rfl

/-! THE ROW's STEP -/
set_option maxRecDepth 100000 in
theorem lifted (os : Os) (started : os.Started) (H : Type) (enc : TypeId × Value → H) :
    ReturnsInHanded {} Tryz.checked os 5 .any (Rows.lockFairSpec.pre6 enc Tryz.prog Tryz.f5 Rows.lockFairRow.domain false) (Rows.lockFairSpec.post enc Tryz.prog Tryz.f5 false true false false) := by
  refine returnsInHanded_of_change (C := Tryz.checked) own started (by kernel_rfl) Tryz.func5
    (ChangeSpec.witness6 (enc := enc) (C := Tryz.checked) false ⟨#[], #[.slice none 0 0], []⟩ 8 (by kernel_rfl) (by kernel_rfl) (by kernel_rfl) (by kernel_rfl)) ?_
  intro W base args ds gs before hval0 hW hcnd _
  have hval : ∀ (j : Nat) t v, Tryz.f5.params[j]? = some t → args[j]? = some v → Value.okWide Tryz.prog W .any base t v := hval0
  have hW' := hW
  obtain ⟨p, q, hA0, hV, rfl, hfz, hnd⟩ := hW
  have hA : DataW.TrodAll enc Tryz.prog W 0 (fun _ => true) true Tryz.f5.params.toList args.toList ds p := hA0
  rw [Tryz.params5] at hA hval
  obtain ⟨v0, vs0, d0, ds0, p0, q0, hargs, rfl, rfl, h0, r0⟩ := trodAll_cons hA
  obtain ⟨rfl, rfl, rfl⟩ := trodAll_nil r0
  obtain rfl : args = #[v0] := by cases args; simp_all
  obtain ⟨rfl, rfl⟩ := trodVars_none hV
  obtain ⟨a0, len0, cap0, rfl⟩ := okWide_slice Tryz.underlying47 (hval 0 47 v0 rfl rfl)
  have k0 := h0
  have lt0 : ∀ x ∈ p0, x.block < W.heap.size := by obtain ⟨m, hm⟩ := k0; exact DataW.trod_lt m _ _ _ hm
  obtain ⟨z0, w0⟩ : ∃ zs, IsRow .u8 W a0 len0 cap0 zs := by
    obtain ⟨fuel, hf⟩ := h0
    rcases open_ints Tryz.underlying47 Tryz.underlying5 (by kernel_rfl) hf with ⟨hcs, _⟩ | ⟨x, l, c, zs, hcs, _, hl, hm, hz, _, hcell, hwz⟩
    · simp [Value.cells] at hcs
      obtain ⟨rfl, rfl, rfl⟩ := hcs
      exact ⟨[], .inl ⟨rfl, rfl, rfl, rfl⟩⟩
    · simp [Value.cells] at hcs
      obtain ⟨rfl, rfl, rfl⟩ := hcs
      exact ⟨zs, .inr ⟨_, rfl, hl, hm, by simpa using hz, hcell, hwz⟩⟩
  clear hA0 hval0
  refine (walk a0 len0 cap0 z0 W w0).mono fun e W' ⟨he, bel⟩ => ?_
  subst he
  exact ⟨_, rfl, _, _, _, [], _, [], hW', trodAll_mk1 (shut_bool Tryz.underlying4 _), (trodAll_cons_mk (Below.trod laidOut (by kernel_rfl) (of_decide_eq_true (by kernel_rfl)) k0 bel lt0) trodAll_mk0), rfl, bel.frame _, fun h => by cases h⟩

theorem over : Rows.lockFairRow.holds Tryz.pinned (OpenSpec.ofChange Rows.lockFairSpec) :=
  OpenClaim.holds_of_wide 5 Tryz.f5 rfl rfl rfl rfl rfl rfl rfl ⟨rfl, rfl, rfl, rfl, rfl⟩ rfl rfl rfl rfl rfl (by kernel_rfl) Tryz.func5 (by kernel_rfl)
    (of_decide_eq_true (by kernel_rfl)) (by unfold Func.isWrapper; first | (rw [if_pos (by decide +kernel)]; kernel_rfl) | (rw [if_neg (by decide +kernel)]; exact ⟨rfl, rfl⟩))
    (fun os started H enc _ => lifted os started H enc)

/-- THE STATEMENT -/
theorem proved : Rows.LockFairSaid := over
#print axioms proved
end Go.Proofs.YtlmdiechnidghaaGreat.lockFair

