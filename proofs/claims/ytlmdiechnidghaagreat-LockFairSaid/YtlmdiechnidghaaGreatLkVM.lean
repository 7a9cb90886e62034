/- lock: the locks of a law: made by it, in a block of their own. -/
import Derived.Test.YtlmdiechnidghaaGreatLkJM
namespace Go.Proofs.YtlmdiechnidghaaGreat
open Go.ChangeShapes Go.WideShapes Go.ChangeAt Go.RowKit
set_option linter.unusedVariables false
set_option linter.unusedSimpArgs false
/-- an ask: whose, for what; its place (0: not let in yet); whether it holds -/
structure AL where
  task : Int
  res : Int
  place : Int
  holds : Bool
/-- the locks as the document tells them: asks in the order in which they came -/
structure Ls where
  proto : Int
  prio : List Int
  cl : List Int
  cores : List Int
  homes : List Int
  L : List AL
  count : Int
def Ls.get (s : Ls) (t : Int) : Option AL := s.L.find? fun a => a.task == t
def Ls.home (s : Ls) (r : Int) : Int := s.homes.getD r.toNat 0
def Ls.cls (s : Ls) (t : Int) : Int := s.cl.getD t.toNat 0
def Ls.pri (s : Ls) (t : Int) : Int := s.prio.getD t.toNat 0
def Ls.has (s : Ls) (t : Int) : Prop := 0 ≤ t ∧ t < (s.prio.length : Int)
def Ls.hasR (s : Ls) (r : Int) : Prop := 0 ≤ r ∧ r < (s.homes.length : Int)
instance (s : Ls) (t : Int) : Decidable (s.has t) := inferInstanceAs (Decidable (_ ∧ _))
instance (s : Ls) (t : Int) : Decidable (s.hasR t) := inferInstanceAs (Decidable (_ ∧ _))
/-- one key opens both -/
def sameK (s : Ls) (r q : Int) : Bool := r == q || (s.proto == 2 && s.home r == s.home q)
def heldS (s : Ls) (r : Int) : Bool := s.L.any fun a => a.holds && sameK s a.res r
def keyS (s : Ls) (a : AL) : Int := if s.proto = 2 then s.pri a.task else a.place
def AL.waits (a : AL) : Bool := !a.holds && decide (0 < a.place)
def waitG (s : Ls) : List AL := s.L.filter AL.waits
def AL.outAt (s : Ls) (c : Int) (a : AL) : Bool := decide (a.place = 0) && s.cls a.task == c
def AL.inAt (s : Ls) (c : Int) (a : AL) : Bool := decide (0 < a.place) && s.cls a.task == c
def outsS (s : Ls) (c : Int) : List Int := (s.L.filter (AL.outAt s c)).map AL.task
def insS (s : Ls) (c : Int) : List Int := (s.L.filter (AL.inAt s c)).map AL.task
def holdF (t : Int) (a : AL) : AL := if a.task = t then { a with holds := true } else a
def placeF (t p : Int) (a : AL) : AL := if a.task = t then { a with place := p } else a
def holdS (s : Ls) (t : Int) : Ls := { s with L := s.L.map (holdF t) }
def placeS (s : Ls) (t : Int) : Ls := { s with L := s.L.map (placeF t (s.count + 1)), count := s.count + 1 }
def candS (s : Ls) : List AL := (waitG s).mergeSort fun a b => decide (keyS s a ≤ keyS s b)
def try1 (p : Ls × List Int) (a : AL) : Ls × List Int := if heldS p.1 a.res = true then p else (holdS p.1 a.task, p.2 ++ [a.task])
def numS (s : Ls) (c : Nat) : Nat := min (s.cores.getD c 0 - (insS s c).length).toNat (outsS s c).length
def newS (s : Ls) : List Int := ((List.range s.cores.length).flatMap fun c => (outsS s (c : Nat)).take (numS s c)).mergeSort fun x y => decide (x ≤ y)
def letS (s : Ls) : Ls := (newS s).foldl placeS s
def grantP (s : Ls) : Ls × List Int := (candS (letS s)).foldl try1 (letS s, [])
def grantL (s : Ls) : List Int := (grantP s).2.mergeSort fun x y => decide (x ≤ y)
def grantS (s : Ls) : Ls := (grantP s).1
def askN (s : Ls) (t r : Int) : Ls := if s.proto = 3 then { s with L := s.L ++ [⟨t, r, 0, false⟩] } else { s with L := s.L ++ [⟨t, r, s.count + 1, false⟩], count := s.count + 1 }
def askC (s : Ls) (t r : Int) : Int := if ¬ s.has t then 14 else if ¬ s.hasR r then 16 else if (s.get t).isSome then 17 else 0
def askS (s : Ls) (t r : Int) : Ls := if askC s t r = 0 then askN s t r else s
def leaveC (s : Ls) (t : Int) : Int := if (s.get t).isSome then 0 else 13
def leaveS (s : Ls) (t : Int) : Ls := { s with L := s.L.filter fun a => !(a.task == t) }
def holdsS (s : Ls) (t : Int) : Bool := match s.get t with | some a => a.holds | none => false
def boostS (s : Ls) (t : Int) : Int := match s.get t with | some a => if a.holds = true then (if s.proto = 2 then 1 else a.place) else 0 | none => 0

/-- such locks are there -/
structure LsOk (s : Ls) : Prop where
  n6 : s.prio.length ≤ 6
  ncl : s.cl.length = s.prio.length
  c3 : s.cores.length ≤ 3
  clo : ∀ t, s.has t → 0 ≤ s.cls t ∧ s.cls t < (s.cores.length : Int)
  nd : (s.L.map AL.task).Nodup
  tk : ∀ a ∈ s.L, s.has a.task
  rs : ∀ a ∈ s.L, s.hasR a.res
  pl : ∀ a ∈ s.L, 0 ≤ a.place ∧ a.place ≤ s.count
  pd : ∀ a ∈ s.L, ∀ b ∈ s.L, 0 < a.place → a.place = b.place → a.task = b.task
  pri : s.proto = 2 → ∀ t u, s.has t → s.has u → s.pri t = s.pri u → t = u
  tok : s.proto ≠ 3 → ∀ a ∈ s.L, 0 < a.place
  hp : ∀ a ∈ s.L, a.holds = true → 0 < a.place
  ex : ∀ a ∈ s.L, ∀ b ∈ s.L, a.holds = true → b.holds = true → sameK s a.res b.res = true → a.task = b.task
  c0 : 0 ≤ s.count

theorem get_mem {s : Ls} {t : Int} {a : AL} (h : s.get t = some a) : a ∈ s.L ∧ a.task = t := by
  unfold Ls.get at h
  exact ⟨List.mem_of_find?_eq_some h, by simpa using List.find?_some h⟩
theorem find_nd : ∀ {L : List AL} {a : AL}, (L.map AL.task).Nodup → a ∈ L → L.find? (fun x => x.task == a.task) = some a
  | [], a, _, h => by simp at h
  | x :: L, a, hn, h => by
    simp only [List.map_cons, List.nodup_cons] at hn
    rcases List.mem_cons.1 h with rfl | h
    · simp
    · have hne : x.task ≠ a.task := fun e => hn.1 (e ▸ List.mem_map_of_mem h)
      rw [List.find?_cons_of_neg (by simpa using hne)]
      exact find_nd hn.2 h
theorem LsOk.get_of {s : Ls} (h : LsOk s) {a : AL} (ha : a ∈ s.L) : s.get a.task = some a := find_nd h.nd ha
theorem get_none {s : Ls} {t : Int} : s.get t = none ↔ ∀ a ∈ s.L, a.task ≠ t := by
  unfold Ls.get
  rw [List.find?_eq_none]
  simp
theorem LsOk.uniq {s : Ls} (h : LsOk s) {a b : AL} (ha : a ∈ s.L) (hb : b ∈ s.L) (e : a.task = b.task) : a = b := by
  have h1 := h.get_of ha
  have h2 := h.get_of hb
  rw [e, h2] at h1
  exact (Option.some.inj h1).symm
theorem find_map {L : List AL} {f : AL → AL} (hf : ∀ a, (f a).task = a.task) (t : Int) : (L.map f).find? (fun a => a.task == t) = (L.find? (fun a => a.task == t)).map f := by
  rw [List.find?_map]
  have : ((fun a : AL => a.task == t) ∘ f) = fun a : AL => a.task == t := by funext a; simp [hf]
  rw [this]
theorem holdF_task (t : Int) (a : AL) : (holdF t a).task = a.task := by unfold holdF; split <;> rfl
theorem placeF_task (t p : Int) (a : AL) : (placeF t p a).task = a.task := by unfold placeF; split <;> rfl
theorem holdF_res (t : Int) (a : AL) : (holdF t a).res = a.res := by unfold holdF; split <;> rfl
theorem placeF_res (t p : Int) (a : AL) : (placeF t p a).res = a.res := by unfold placeF; split <;> rfl
theorem holdF_place (t : Int) (a : AL) : (holdF t a).place = a.place := by unfold holdF; split <;> rfl
theorem placeF_holds (t p : Int) (a : AL) : (placeF t p a).holds = a.holds := by unfold placeF; split <;> rfl
theorem tasks_map {L : List AL} {f : AL → AL} (hf : ∀ a, (f a).task = a.task) : (L.map f).map AL.task = L.map AL.task := by
  rw [List.map_map]
  exact List.map_congr_left fun a _ => hf a
theorem get_hold (s : Ls) (t u : Int) : (holdS s t).get u = (s.get u).map (holdF t) := find_map (holdF_task t) u
theorem get_place (s : Ls) (t u : Int) : (placeS s t).get u = (s.get u).map (placeF t (s.count + 1)) := find_map (placeF_task t _) u
theorem get_leave (s : Ls) (t u : Int) : (leaveS s t).get u = if u = t then none else s.get u := by
  unfold leaveS Ls.get
  rw [List.find?_filter]
  split
  · rename_i e
    subst e
    rw [List.find?_eq_none]
    simp
  · rename_i e
    congr 1
    funext a
    by_cases h : a.task = u
    · subst h; simp [e]
    · simp [h]
theorem get_app (s : Ls) (x : AL) (u : Int) (hn : s.get x.task = none) : (s.L ++ [x]).find? (fun a => a.task == u) = if u = x.task then some x else s.get u := by
  rw [List.find?_append]
  unfold Ls.get at *
  split
  · rename_i e
    subst e
    rw [hn]; simp
  · rename_i e
    have : ([x].find? fun a => a.task == u) = none := by simp; exact fun h => e h.symm
    rw [this]; simp

theorem sameK_symm (s : Ls) (r q : Int) : sameK s r q = sameK s q r := by
  unfold sameK
  have h1 : (r == q) = (q == r) := BEq.comm
  have h2 : (s.home r == s.home q) = (s.home q == s.home r) := BEq.comm
  rw [h1, h2]
theorem sameK_trans {s : Ls} {r q p : Int} (h : sameK s r q = true) (g : sameK s q p = true) : sameK s r p = true := by
  simp only [sameK, Bool.or_eq_true, Bool.and_eq_true, beq_iff_eq] at *
  rcases h with rfl | ⟨h1, h2⟩
  · exact g
  · rcases g with rfl | ⟨_, g2⟩
    · exact .inr ⟨h1, h2⟩
    · exact .inr ⟨h1, h2.trans g2⟩
theorem sameK_refl (s : Ls) (r : Int) : sameK s r r = true := by simp [sameK]
theorem heldS_true {s : Ls} {r : Int} : heldS s r = true ↔ ∃ a ∈ s.L, a.holds = true ∧ sameK s a.res r = true := by
  unfold heldS
  simp

theorem LsOk.ask {s : Ls} (h : LsOk s) {t r : Int} (ht : s.has t) (hr : s.hasR r) (hn : s.get t = none) : LsOk (askN s t r) := by
  have hnt := get_none.1 hn
  unfold askN
  split
  · rename_i hp
    have hm : ∀ a, a ∈ s.L ++ [⟨t, r, 0, false⟩] → a ∈ s.L ∨ a = ⟨t, r, 0, false⟩ := fun a ha => by simpa using ha
    refine ⟨h.n6, h.ncl, h.c3, h.clo, ?_, ?_, ?_, ?_, ?_, h.pri, fun hx => absurd hp hx, ?_, ?_, h.c0⟩
    · show ((s.L ++ [_]).map AL.task).Nodup
      rw [List.map_append, List.nodup_append]
      exact ⟨h.nd, by simp, fun a ha b hb e => by
        obtain ⟨x, hx, rfl⟩ := List.mem_map.1 ha
        simp at hb
        exact hnt x hx (e.trans hb)⟩
    · intro a ha; rcases hm a ha with h1 | rfl
      · exact h.tk a h1
      · exact ht
    · intro a ha; rcases hm a ha with h1 | rfl
      · exact h.rs a h1
      · exact hr
    · intro a ha; rcases hm a ha with h1 | rfl
      · exact h.pl a h1
      · exact ⟨Int.le_refl _, h.c0⟩
    · intro a ha b hb h0 e
      rcases hm a ha with h1 | rfl
      · rcases hm b hb with h2 | rfl
        · exact h.pd a h1 b h2 h0 e
        · dsimp only at e; omega
      · dsimp only at h0; omega
    · intro a ha hh; rcases hm a ha with h1 | rfl
      · exact h.hp a h1 hh
      · cases hh
    · intro a ha b hb h1 h2
      rcases hm a ha with ha | rfl
      · rcases hm b hb with hb | rfl
        · exact h.ex a ha b hb h1 h2
        · cases h2
      · cases h1
  · rename_i hp
    have hc := h.c0
    have hm : ∀ a, a ∈ s.L ++ [⟨t, r, s.count + 1, false⟩] → a ∈ s.L ∨ a = ⟨t, r, s.count + 1, false⟩ := fun a ha => by simpa using ha
    refine ⟨h.n6, h.ncl, h.c3, h.clo, ?_, ?_, ?_, ?_, ?_, h.pri, ?_, ?_, ?_, by show 0 ≤ s.count + 1; omega⟩
    · show ((s.L ++ [_]).map AL.task).Nodup
      rw [List.map_append, List.nodup_append]
      exact ⟨h.nd, by simp, fun a ha b hb e => by
        obtain ⟨x, hx, rfl⟩ := List.mem_map.1 ha
        simp at hb
        exact hnt x hx (e.trans hb)⟩
    · intro a ha; rcases hm a ha with h1 | rfl
      · exact h.tk a h1
      · exact ht
    · intro a ha; rcases hm a ha with h1 | rfl
      · exact h.rs a h1
      · exact hr
    · intro a ha
      show 0 ≤ a.place ∧ a.place ≤ s.count + 1
      rcases hm a ha with h1 | rfl
      · have := h.pl a h1; omega
      · dsimp only; omega
    · intro a ha b hb h0 e
      rcases hm a ha with h1 | rfl
      · rcases hm b hb with h2 | rfl
        · exact h.pd a h1 b h2 h0 e
        · have := h.pl a h1; dsimp only at e; omega
      · rcases hm b hb with h2 | rfl
        · have := h.pl b h2; dsimp only at e; omega
        · rfl
    · intro _ a ha; rcases hm a ha with h1 | rfl
      · exact h.tok hp a h1
      · dsimp only; omega
    · intro a ha hh; rcases hm a ha with h1 | rfl
      · exact h.hp a h1 hh
      · cases hh
    · intro a ha b hb h1 h2
      rcases hm a ha with ha | rfl
      · rcases hm b hb with hb | rfl
        · exact h.ex a ha b hb h1 h2
        · cases h2
      · cases h1
theorem LsOk.leave {s : Ls} (h : LsOk s) (t : Int) : LsOk (leaveS s t) := by
  have hm : ∀ a, a ∈ (leaveS s t).L → a ∈ s.L := fun a ha => (List.mem_filter.1 ha).1
  exact ⟨h.n6, h.ncl, h.c3, h.clo, h.nd.sublist (List.filter_sublist.map _), fun a ha => h.tk a (hm a ha), fun a ha => h.rs a (hm a ha), fun a ha => h.pl a (hm a ha), fun a ha b hb => h.pd a (hm a ha) b (hm b hb), h.pri,
    fun hp a ha => h.tok hp a (hm a ha), fun a ha => h.hp a (hm a ha), fun a ha b hb => h.ex a (hm a ha) b (hm b hb), h.c0⟩
theorem LsOk.place {s : Ls} (h : LsOk s) (t : Int) (hp3 : s.proto = 3) : LsOk (placeS s t) := by
  have hc := h.c0
  have hm : ∀ a, a ∈ (placeS s t).L → ∃ x ∈ s.L, a = placeF t (s.count + 1) x := fun a ha => by
    obtain ⟨x, hx, rfl⟩ := List.mem_map.1 ha
    exact ⟨x, hx, rfl⟩
  have hpp : ∀ x ∈ s.L, (x.task = t ∧ (placeF t (s.count + 1) x).place = s.count + 1) ∨ (x.task ≠ t ∧ (placeF t (s.count + 1) x).place = x.place) := fun x _ => by
    unfold placeF
    split
    · exact .inl ⟨by assumption, rfl⟩
    · exact .inr ⟨by assumption, rfl⟩
  refine ⟨h.n6, h.ncl, h.c3, h.clo, ?_, ?_, ?_, ?_, ?_, h.pri, fun hx => absurd hp3 hx, ?_, ?_, by show 0 ≤ s.count + 1; omega⟩
  · show ((s.L.map _).map AL.task).Nodup
    rw [tasks_map (placeF_task t _)]; exact h.nd
  · intro a ha; obtain ⟨x, hx, rfl⟩ := hm a ha; rw [placeF_task]; exact h.tk x hx
  · intro a ha; obtain ⟨x, hx, rfl⟩ := hm a ha; rw [placeF_res]; exact h.rs x hx
  · intro a ha
    obtain ⟨x, hx, rfl⟩ := hm a ha
    have := h.pl x hx
    show 0 ≤ (placeF t (s.count + 1) x).place ∧ (placeF t (s.count + 1) x).place ≤ s.count + 1
    rcases hpp x hx with ⟨_, e⟩ | ⟨_, e⟩ <;> rw [e] <;> omega
  · intro a ha b hb h0 e
    obtain ⟨x, hx, rfl⟩ := hm a ha
    obtain ⟨y, hy, rfl⟩ := hm b hb
    rw [placeF_task, placeF_task]
    have px := h.pl x hx
    have py := h.pl y hy
    rcases hpp x hx with ⟨e1, e2⟩ | ⟨e1, e2⟩ <;> rcases hpp y hy with ⟨f1, f2⟩ | ⟨f1, f2⟩ <;> rw [e2, f2] at e <;> rw [e2] at h0
    · exact e1.trans f1.symm
    · omega
    · omega
    · exact h.pd x hx y hy h0 e
  · intro a ha hh
    obtain ⟨x, hx, rfl⟩ := hm a ha
    rw [placeF_holds] at hh
    have := h.hp x hx hh
    rcases hpp x hx with ⟨e1, e2⟩ | ⟨e1, e2⟩ <;> rw [e2] <;> omega
  · intro a ha b hb h1 h2 hk
    obtain ⟨x, hx, rfl⟩ := hm a ha
    obtain ⟨y, hy, rfl⟩ := hm b hb
    rw [placeF_holds] at h1 h2
    rw [placeF_res, placeF_res] at hk
    rw [placeF_task, placeF_task]
    exact h.ex x hx y hy h1 h2 hk
theorem LsOk.hold {s : Ls} (h : LsOk s) {a : AL} (ha : a ∈ s.L) (hp0 : 0 < a.place) (hh : heldS s a.res = false) : LsOk (holdS s a.task) := by
  have hm : ∀ b, b ∈ (holdS s a.task).L → ∃ x ∈ s.L, b = holdF a.task x := fun b hb => by
    obtain ⟨x, hx, rfl⟩ := List.mem_map.1 hb
    exact ⟨x, hx, rfl⟩
  have hno : ∀ x ∈ s.L, x.holds = true → sameK s x.res a.res = false := fun x hx h1 => by
    cases e : sameK s x.res a.res with
    | false => rfl
    | true => have := heldS_true.2 ⟨x, hx, h1, e⟩; rw [hh] at this; cases this
  have hhh : ∀ x ∈ s.L, (holdF a.task x).holds = true → x.holds = true ∨ x = a := fun x hx h1 => by
    unfold holdF at h1
    split at h1
    · rename_i e; exact .inr (h.uniq hx ha e)
    · exact .inl h1
  refine ⟨h.n6, h.ncl, h.c3, h.clo, ?_, ?_, ?_, ?_, ?_, h.pri, ?_, ?_, ?_, h.c0⟩
  · show ((s.L.map _).map AL.task).Nodup
    rw [tasks_map (holdF_task _)]; exact h.nd
  · intro b hb; obtain ⟨x, hx, rfl⟩ := hm b hb; rw [holdF_task]; exact h.tk x hx
  · intro b hb; obtain ⟨x, hx, rfl⟩ := hm b hb; rw [holdF_res]; exact h.rs x hx
  · intro b hb; obtain ⟨x, hx, rfl⟩ := hm b hb; rw [holdF_place]; exact h.pl x hx
  · intro b hb c hc; obtain ⟨x, hx, rfl⟩ := hm b hb; obtain ⟨y, hy, rfl⟩ := hm c hc
    rw [holdF_place, holdF_place, holdF_task, holdF_task]; exact h.pd x hx y hy
  · intro hp b hb; obtain ⟨x, hx, rfl⟩ := hm b hb; rw [holdF_place]; exact h.tok hp x hx
  · intro b hb h1; obtain ⟨x, hx, rfl⟩ := hm b hb
    rw [holdF_place]
    rcases hhh x hx h1 with h2 | rfl
    · exact h.hp x hx h2
    · exact hp0
  · intro b hb c hc h1 h2 hk
    obtain ⟨x, hx, rfl⟩ := hm b hb; obtain ⟨y, hy, rfl⟩ := hm c hc
    rw [holdF_res, holdF_res] at hk
    rw [holdF_task, holdF_task]
    replace hk : sameK s x.res y.res = true := hk
    rcases hhh x hx h1 with e1 | rfl <;> rcases hhh y hy h2 with e2 | rfl
    · exact h.ex x hx y hy e1 e2 hk
    · rw [hno x hx e1] at hk; cases hk
    · rw [sameK_symm, hno y hy e2] at hk; cases hk
    · rfl
theorem waitG_place (s : Ls) {a : AL} (h : LsOk s) (ha : a ∈ s.L) (h0 : a.place = 0) : (waitG (placeS s a.task)).Perm (waitG s ++ [placeF a.task (s.count + 1) a]) := by
  obtain ⟨L1, L2, e⟩ := List.append_of_mem ha
  have hnd := h.nd
  rw [e, List.map_append, List.map_cons] at hnd
  have hn := List.nodup_append.1 hnd
  have h1 : ∀ x ∈ L1, x.task ≠ a.task := fun x hx => hn.2.2 _ (List.mem_map_of_mem hx) _ (by simp)
  have h2 : ∀ x ∈ L2, x.task ≠ a.task := fun x hx e => (List.nodup_cons.1 hn.2.1).1 (e ▸ List.mem_map_of_mem hx)
  have m1 : L1.map (placeF a.task (s.count + 1)) = L1 := (List.map_congr_left fun x hx => by unfold placeF; rw [if_neg (h1 x hx)]).trans (List.map_id' _)
  have m2 : L2.map (placeF a.task (s.count + 1)) = L2 := (List.map_congr_left fun x hx => by unfold placeF; rw [if_neg (h2 x hx)]).trans (List.map_id' _)
  have hh : a.holds = false := by
    cases hb : a.holds with
    | false => rfl
    | true => have := h.hp a ha hb; omega
  have hc := h.c0
  have w0 : a.waits = false := by simp [AL.waits, h0]
  have w1 : (placeF a.task (s.count + 1) a).waits = true := by
    unfold AL.waits
    rw [placeF_holds, hh]
    have : (placeF a.task (s.count + 1) a).place = s.count + 1 := by unfold placeF; rw [if_pos rfl]
    rw [this]
    simp; omega
  unfold waitG placeS
  dsimp only
  rw [e, List.map_append, List.map_cons, m1, m2, List.filter_append, List.filter_cons_of_pos w1, List.filter_append, List.filter_cons_of_neg (by simp [w0]), List.append_assoc]
  refine List.Perm.append_left _ ?_
  exact (List.perm_append_comm (l₁ := [placeF a.task (s.count + 1) a]) (l₂ := L2.filter AL.waits))
theorem waitG_hold (s : Ls) (t : Int) : waitG (holdS s t) = (waitG s).filter fun a => !(a.task == t) := by
  unfold waitG holdS
  dsimp only
  generalize s.L = L
  induction L with
  | nil => rfl
  | cons a L ih =>
    rw [List.map_cons, List.filter_cons, ih, List.filter_cons]
    by_cases e : a.task = t
    · have w0 : (holdF t a).waits = false := by unfold holdF AL.waits; rw [if_pos e]; rfl
      rw [w0, if_neg (by decide)]
      split
      · rw [List.filter_cons_of_neg (by simp [e])]
      · rfl
    · have w0 : holdF t a = a := by unfold holdF; rw [if_neg e]
      rw [w0]
      split
      · rw [List.filter_cons_of_pos (by simp [e])]
      · rfl
theorem waitG_leave (s : Ls) (t : Int) : waitG (leaveS s t) = (waitG s).filter fun a => !(a.task == t) := by
  unfold waitG leaveS
  dsimp only
  rw [List.filter_filter, List.filter_filter]
  congr 1
  funext a
  exact Bool.and_comm _ _
theorem waitG_ask (s : Ls) (t r : Int) (hc : 0 ≤ s.count) : waitG (askN s t r) = if s.proto = 3 then waitG s else waitG s ++ [⟨t, r, s.count + 1, false⟩] := by
  unfold waitG askN
  split
  · rw [List.filter_append, List.filter_cons_of_neg (by simp [AL.waits])]; simp
  · rw [List.filter_append, List.filter_cons_of_pos (by simp [AL.waits]; omega)]; simp
theorem heldS_ask (s : Ls) (t r q : Int) : heldS (askN s t r) q = heldS s q := by
  unfold heldS askN
  split <;> (rw [List.any_append]; simp [sameK, Ls.home])
theorem heldS_place (s : Ls) (t q : Int) : heldS (placeS s t) q = heldS s q := by
  unfold heldS placeS
  rw [List.any_map]
  congr 1
  funext a
  show ((placeF t (s.count + 1) a).holds && sameK _ (placeF t (s.count + 1) a).res q) = _
  rw [placeF_holds, placeF_res]; rfl
theorem heldS_hold {s : Ls} (h : LsOk s) {a : AL} (ha : a ∈ s.L) (q : Int) : heldS (holdS s a.task) q = (heldS s q || sameK s a.res q) := by
  rw [Bool.eq_iff_iff, Bool.or_eq_true, heldS_true, heldS_true]
  constructor
  · rintro ⟨b, hb, h1, h2⟩
    obtain ⟨x, hx, rfl⟩ := List.mem_map.1 hb
    rw [holdF_res] at h2
    unfold holdF at h1
    split at h1
    · rename_i e
      obtain rfl := h.uniq hx ha e
      exact .inr h2
    · exact .inl ⟨x, hx, h1, h2⟩
  · rintro (⟨x, hx, h1, h2⟩ | h2)
    · refine ⟨holdF a.task x, List.mem_map_of_mem hx, ?_, by rw [holdF_res]; exact h2⟩
      unfold holdF; split
      · rfl
      · exact h1
    · refine ⟨holdF a.task a, List.mem_map_of_mem ha, ?_, by rw [holdF_res]; exact h2⟩
      unfold holdF; rw [if_pos rfl]
theorem heldS_leave_waits {s : Ls} (h : LsOk s) {a : AL} (ha : a ∈ s.L) (hh : a.holds = false) (q : Int) : heldS (leaveS s a.task) q = heldS s q := by
  rw [Bool.eq_iff_iff, heldS_true, heldS_true]
  constructor
  · rintro ⟨b, hb, h1, h2⟩
    exact ⟨b, (List.mem_filter.1 hb).1, h1, h2⟩
  · rintro ⟨b, hb, h1, h2⟩
    refine ⟨b, List.mem_filter.2 ⟨hb, ?_⟩, h1, h2⟩
    by_cases e : b.task = a.task
    · obtain rfl := h.uniq hb ha e
      rw [hh] at h1; cases h1
    · simpa using e
theorem heldS_leave_holds {s : Ls} (h : LsOk s) {a : AL} (ha : a ∈ s.L) (hh : a.holds = true) (q : Int) : heldS (leaveS s a.task) q = (heldS s q && !sameK s a.res q) := by
  rw [Bool.eq_iff_iff, Bool.and_eq_true, heldS_true, heldS_true]
  constructor
  · rintro ⟨b, hb, h1, h2⟩
    have hb' := List.mem_filter.1 hb
    refine ⟨⟨b, hb'.1, h1, h2⟩, ?_⟩
    cases e : sameK s a.res q with
    | false => rfl
    | true =>
      have h3 : sameK s b.res a.res = true := sameK_trans h2 (by rw [sameK_symm]; exact e)
      have := h.ex b hb'.1 a ha h1 hh h3
      have h4 := hb'.2
      simp [this] at h4
  · rintro ⟨⟨b, hb, h1, h2⟩, h3⟩
    refine ⟨b, List.mem_filter.2 ⟨hb, ?_⟩, h1, h2⟩
    by_cases e : b.task = a.task
    · obtain rfl := h.uniq hb ha e
      rw [h2] at h3; cases h3
    · simpa using e

/-! outside and in -/
theorem outsS_ask (s : Ls) (t r : Int) (c : Int) (hc : 0 ≤ s.count) : outsS (askN s t r) c = if s.proto = 3 ∧ s.cls t = c then outsS s c ++ [t] else outsS s c := by
  unfold outsS askN
  by_cases hp : s.proto = 3
  · rw [if_pos hp]
    by_cases e : s.cls t = c
    · rw [if_pos ⟨hp, e⟩]
      show ((s.L ++ [(⟨t, r, 0, false⟩ : AL)]).filter (AL.outAt s c)).map AL.task = _
      rw [List.filter_append, List.filter_cons_of_pos (by simp [AL.outAt, e])]; simp
    · rw [if_neg (fun h => e h.2)]
      show ((s.L ++ [(⟨t, r, 0, false⟩ : AL)]).filter (AL.outAt s c)).map AL.task = _
      rw [List.filter_append, List.filter_cons_of_neg (by simp [AL.outAt, e])]; simp
  · rw [if_neg hp, if_neg (fun h => hp h.1)]
    show ((s.L ++ [(⟨t, r, s.count + 1, false⟩ : AL)]).filter (AL.outAt s c)).map AL.task = _
    rw [List.filter_append, List.filter_cons_of_neg (by simp [AL.outAt]; omega)]; simp
theorem insS_ask (s : Ls) (t r : Int) (c : Int) (hp : s.proto = 3) : insS (askN s t r) c = insS s c := by
  unfold insS askN
  rw [if_pos hp]
  show ((s.L ++ [(⟨t, r, 0, false⟩ : AL)]).filter (AL.inAt s c)).map AL.task = _
  rw [List.filter_append, List.filter_cons_of_neg (by simp [AL.inAt])]; simp
theorem outsS_leave (s : Ls) (t c : Int) : outsS (leaveS s t) c = (outsS s c).filter fun x => !(x == t) := by
  unfold outsS leaveS
  show ((s.L.filter _).filter (AL.outAt s c)).map AL.task = _
  rw [List.filter_filter, List.filter_map, List.filter_filter]
  congr 2
  funext a
  exact Bool.and_comm _ _
theorem insS_leave (s : Ls) (t c : Int) : insS (leaveS s t) c = (insS s c).filter fun x => !(x == t) := by
  unfold insS leaveS
  show ((s.L.filter _).filter (AL.inAt s c)).map AL.task = _
  rw [List.filter_filter, List.filter_map, List.filter_filter]
  congr 2
  funext a
  exact Bool.and_comm _ _
theorem outsS_hold (s : Ls) (t c : Int) : outsS (holdS s t) c = outsS s c := by
  unfold outsS holdS
  show ((s.L.map (holdF t)).filter (AL.outAt s c)).map AL.task = _
  rw [List.filter_map, List.map_map]
  have : (AL.outAt s c ∘ holdF t) = AL.outAt s c := by funext a; simp [AL.outAt, holdF_place, holdF_task]
  rw [this]
  exact List.map_congr_left fun a _ => holdF_task t a
theorem insS_hold (s : Ls) (t c : Int) : insS (holdS s t) c = insS s c := by
  unfold insS holdS
  show ((s.L.map (holdF t)).filter (AL.inAt s c)).map AL.task = _
  rw [List.filter_map, List.map_map]
  have : (AL.inAt s c ∘ holdF t) = AL.inAt s c := by funext a; simp [AL.inAt, holdF_place, holdF_task]
  rw [this]
  exact List.map_congr_left fun a _ => holdF_task t a
theorem outsS_place (s : Ls) (t c : Int) (hc : 0 ≤ s.count) : outsS (placeS s t) c = (outsS s c).filter fun x => !(x == t) := by
  unfold outsS placeS
  show ((s.L.map (placeF t (s.count + 1))).filter (AL.outAt s c)).map AL.task = _
  generalize s.L = L
  induction L with
  | nil => rfl
  | cons a L ih =>
    rw [List.map_cons]
    by_cases e : a.task = t
    · have w0 : AL.outAt s c (placeF t (s.count + 1) a) = false := by unfold placeF AL.outAt; rw [if_pos e]; simp; omega
      rw [List.filter_cons_of_neg (by simp [w0]), ih, List.filter_cons]
      split
      · rw [List.map_cons, List.filter_cons_of_neg (by simp [e])]
      · rfl
    · have w0 : placeF t (s.count + 1) a = a := by unfold placeF; rw [if_neg e]
      rw [w0, List.filter_cons, List.filter_cons]
      split
      · rw [List.map_cons, List.map_cons, ih, List.filter_cons_of_pos (by simp [e])]
      · exact ih
theorem insS_place {s : Ls} (h : LsOk s) {a : AL} (ha : a ∈ s.L) (h0 : a.place = 0) (c : Int) : (insS (placeS s a.task) c).Perm (insS s c ++ if s.cls a.task = c then [a.task] else []) := by
  obtain ⟨L1, L2, e⟩ := List.append_of_mem ha
  have hnd := h.nd
  rw [e, List.map_append, List.map_cons] at hnd
  have hn := List.nodup_append.1 hnd
  have h1 : ∀ x ∈ L1, x.task ≠ a.task := fun x hx => hn.2.2 _ (List.mem_map_of_mem hx) _ (by simp)
  have h2 : ∀ x ∈ L2, x.task ≠ a.task := fun x hx e => (List.nodup_cons.1 hn.2.1).1 (e ▸ List.mem_map_of_mem hx)
  have m1 : L1.map (placeF a.task (s.count + 1)) = L1 := (List.map_congr_left fun x hx => by unfold placeF; rw [if_neg (h1 x hx)]).trans (List.map_id' _)
  have m2 : L2.map (placeF a.task (s.count + 1)) = L2 := (List.map_congr_left fun x hx => by unfold placeF; rw [if_neg (h2 x hx)]).trans (List.map_id' _)
  have hc := h.c0
  have w0 : AL.inAt s c a = false := by simp [AL.inAt, h0]
  have pe : (placeF a.task (s.count + 1) a).place = s.count + 1 := by unfold placeF; rw [if_pos rfl]
  have w1 : AL.inAt s c (placeF a.task (s.count + 1) a) = (s.cls a.task == c) := by
    unfold AL.inAt
    rw [placeF_task, pe]
    simp; intro; omega
  unfold insS
  show ((s.L.map (placeF a.task (s.count + 1))).filter (AL.inAt s c)).map AL.task |>.Perm _
  rw [e, List.map_append, List.map_cons, m1, m2, List.filter_append, List.filter_append, List.filter_cons_of_neg (l := L2) (a := a) (by simp [w0]), List.map_append, List.map_append, List.append_assoc]
  refine List.Perm.append_left _ ?_
  rw [List.filter_cons, w1]
  by_cases ec : s.cls a.task = c
  · rw [if_pos (by simpa using ec), if_pos ec, List.map_cons, placeF_task]
    exact (List.perm_append_comm (l₁ := [a.task]) (l₂ := (L2.filter (AL.inAt s c)).map AL.task))
  · rw [if_neg (by simpa using ec), if_neg ec]; simp
/-! all of them placed -/
theorem mem_outsS {s : Ls} {c t : Int} : t ∈ outsS s c ↔ ∃ a ∈ s.L, a.task = t ∧ a.place = 0 ∧ s.cls t = c := by
  unfold outsS
  rw [List.mem_map]
  constructor
  · rintro ⟨a, ha, rfl⟩
    have := List.mem_filter.1 ha
    simp only [AL.outAt, Bool.and_eq_true, decide_eq_true_eq, beq_iff_eq] at this
    exact ⟨a, this.1, rfl, this.2.1, this.2.2⟩
  · rintro ⟨a, ha, rfl, h1, h2⟩
    exact ⟨a, List.mem_filter.2 ⟨ha, by simp [AL.outAt, h1, h2]⟩, rfl⟩
theorem outsS_nd {s : Ls} (h : LsOk s) (c : Int) : (outsS s c).Nodup := h.nd.sublist (List.filter_sublist.map _)
theorem insS_nd {s : Ls} (h : LsOk s) (c : Int) : (insS s c).Nodup := h.nd.sublist (List.filter_sublist.map _)
theorem both_nd {s : Ls} (h : LsOk s) (c : Int) : (insS s c ++ outsS s c).Nodup := by
  rw [List.nodup_append]
  refine ⟨insS_nd h c, outsS_nd h c, fun x hx y hy e => ?_⟩
  subst e
  obtain ⟨a, ha, rfl⟩ := List.mem_map.1 hx
  obtain ⟨b, hb, e1, h0, _⟩ := mem_outsS.1 hy
  have ha' := List.mem_filter.1 ha
  obtain rfl := h.uniq hb ha'.1 e1
  simp only [AL.inAt, Bool.and_eq_true, decide_eq_true_eq] at ha'
  omega
theorem mem_newS {s : Ls} {t : Int} : t ∈ newS s ↔ ∃ c : Nat, c < s.cores.length ∧ t ∈ (outsS s c).take (numS s c) := by
  unfold newS
  rw [(List.mergeSort_perm _ _).mem_iff, List.mem_flatMap]
  simp
theorem newS_out {s : Ls} {t : Int} (h : t ∈ newS s) : ∃ a ∈ s.L, a.task = t ∧ a.place = 0 := by
  obtain ⟨c, _, hm⟩ := mem_newS.1 h
  obtain ⟨a, ha, e, h0, _⟩ := mem_outsS.1 (List.mem_of_mem_take hm)
  exact ⟨a, ha, e, h0⟩
theorem flat_nd {s : Ls} (h : LsOk s) (f : Nat → Nat) : ∀ k : Nat, ((List.range k).flatMap fun c => (outsS s (c : Nat)).take (f c)).Nodup
  | 0 => by simp
  | k + 1 => by
    rw [List.range_succ, List.flatMap_append, List.nodup_append]
    refine ⟨flat_nd h f k, ?_, fun x hx y hy e => ?_⟩
    · simpa using (outsS_nd h k).sublist (List.take_sublist _ _)
    · subst e
      obtain ⟨c, hc, hm⟩ := List.mem_flatMap.1 hx
      rw [List.mem_range] at hc
      simp only [List.flatMap_cons, List.flatMap_nil, List.append_nil] at hy
      obtain ⟨a, ha, e, _, h1⟩ := mem_outsS.1 (List.mem_of_mem_take hm)
      obtain ⟨b, hb, e', _, h2⟩ := mem_outsS.1 (List.mem_of_mem_take hy)
      omega
theorem newS_nd {s : Ls} (h : LsOk s) : (newS s).Nodup := by
  unfold newS
  rw [(List.mergeSort_perm _ _).nodup_iff]
  exact flat_nd h _ _
theorem newS_nil {s : Ls} (h : LsOk s) (hp : s.proto ≠ 3) : newS s = [] := by
  rcases hn : newS s with _ | ⟨t, l⟩
  · rfl
  · obtain ⟨a, ha, _, h0⟩ := newS_out (s := s) (t := t) (by rw [hn]; simp)
    have := h.tok hp a ha
    omega
theorem placeS_out {s : Ls} {a : AL} (ha : a ∈ s.L) {t : Int} (hne : a.task ≠ t) : a ∈ (placeS s t).L := by
  have : placeF t (s.count + 1) a = a := by unfold placeF; rw [if_neg hne]
  have h2 := List.mem_map_of_mem (f := placeF t (s.count + 1)) ha
  rw [this] at h2
  exact h2
theorem fold_place {s : Ls} (xs : List Int) (h : LsOk s) (hp : xs = [] ∨ s.proto = 3) (hn : xs.Nodup) (hx : ∀ t ∈ xs, ∃ a ∈ s.L, a.task = t ∧ a.place = 0) :
    LsOk (xs.foldl placeS s) ∧ (∀ c, outsS (xs.foldl placeS s) c = (outsS s c).filter fun x => !xs.contains x) ∧ (∀ c, (insS (xs.foldl placeS s) c).Perm (insS s c ++ xs.filter fun x => s.cls x == c)) := by
  induction xs generalizing s with
  | nil =>
    refine ⟨h, fun c => ?_, fun c => ?_⟩
    · rw [List.filter_eq_self.2]; rfl
      simp
    · simp
  | cons t xs ih =>
    have hp3 : s.proto = 3 := hp.resolve_left (by simp)
    obtain ⟨ht, hn2⟩ := List.nodup_cons.1 hn
    obtain ⟨a, ha, e, h0⟩ := hx t (by simp)
    have h1 := h.place t hp3
    have hc := h.c0
    obtain ⟨i1, i2, i3⟩ := ih h1 (.inr hp3) hn2 fun u hu => by
      obtain ⟨b, hb, e2, h2⟩ := hx u (List.mem_cons_of_mem _ hu)
      have hne : b.task ≠ t := fun e3 => ht (by rw [← e3, e2]; exact hu)
      exact ⟨b, placeS_out hb hne, e2, h2⟩
    refine ⟨i1, fun c => ?_, fun c => ?_⟩
    · rw [List.foldl_cons, i2 c, outsS_place s t c hc, List.filter_filter]
      congr 1
      funext x
      rw [List.contains_cons, Bool.not_or, Bool.and_comm]
    · rw [List.foldl_cons]
      refine (i3 c).trans ?_
      subst e
      have := insS_place h ha h0 c
      have hcl : ∀ x, (placeS s a.task).cls x = s.cls x := fun x => rfl
      refine (this.append_right _).trans ?_
      rw [List.filter_cons, List.append_assoc]
      simp only [hcl]
      by_cases ec : s.cls a.task = c
      · rw [if_pos ec, if_pos (by simpa using ec)]; exact List.Perm.refl _
      · rw [if_neg ec, if_neg (by simpa using ec)]; exact List.Perm.refl _
theorem letS_all {s : Ls} (h : LsOk s) : LsOk (letS s) ∧ (∀ c, outsS (letS s) c = (outsS s c).filter fun x => !(newS s).contains x) ∧ (∀ c, (insS (letS s) c).Perm (insS s c ++ (newS s).filter fun x => s.cls x == c)) := by
  refine fold_place (newS s) h ?_ (newS_nd h) fun t ht => newS_out ht
  by_cases hp : s.proto = 3
  · exact .inr hp
  · exact .inl (newS_nil h hp)
theorem take_not {α : Type} [BEq α] [LawfulBEq α] {l : List α} (hn : l.Nodup) (k : Nat) : l.filter (fun x => !(l.take k).contains x) = l.drop k := by
  have hs := List.nodup_append.1 (by rw [List.take_append_drop]; exact hn : (l.take k ++ l.drop k).Nodup)
  have e : l.filter (fun x => !(l.take k).contains x) = (l.take k ++ l.drop k).filter (fun x => !(l.take k).contains x) := by rw [List.take_append_drop]
  rw [e, List.filter_append, List.filter_eq_nil_iff.2, List.filter_eq_self.2]
  · rfl
  · intro x hx
    simp only [Bool.not_eq_true', List.contains_eq_mem, decide_eq_false_iff_not]
    exact fun hm => hs.2.2 x hm x hx rfl
  · intro x hx
    simp only [Bool.not_eq_true', List.contains_eq_mem, decide_eq_false_iff_not, Classical.not_not]
    exact hx
theorem newS_at {s : Ls} {c : Nat} {x : Int} (hc : c < s.cores.length) (hx : s.cls x = (c : Int)) : x ∈ newS s ↔ x ∈ (outsS s c).take (numS s c) := by
  rw [mem_newS]
  constructor
  · rintro ⟨d, hd, hm⟩
    obtain ⟨_, _, _, _, e⟩ := mem_outsS.1 (List.mem_of_mem_take hm)
    obtain rfl : d = c := by omega
    exact hm
  · exact fun hm => ⟨c, hc, hm⟩
theorem outsS_let {s : Ls} (h : LsOk s) {c : Nat} (hc : c < s.cores.length) : outsS (letS s) c = (outsS s c).drop (numS s c) := by
  rw [(letS_all h).2.1, ← take_not (outsS_nd h c) (numS s c)]
  refine List.filter_congr fun x hx => ?_
  obtain ⟨_, _, _, _, e⟩ := mem_outsS.1 hx
  rw [List.contains_eq_mem, List.contains_eq_mem]
  congr 2
  exact propext (newS_at hc e)
theorem insS_let {s : Ls} (h : LsOk s) {c : Nat} (hc : c < s.cores.length) : (insS (letS s) c).Perm (insS s c ++ (outsS s c).take (numS s c)) := by
  refine ((letS_all h).2.2 c).trans (List.Perm.append_left _ ?_)
  rw [List.perm_ext_iff_of_nodup ((newS_nd h).filter _) ((outsS_nd h c).sublist (List.take_sublist _ _))]
  intro x
  rw [List.mem_filter]
  constructor
  · rintro ⟨h1, h2⟩
    exact (newS_at hc (by simpa using h2)).1 h1
  · intro hm
    obtain ⟨_, _, _, _, e⟩ := mem_outsS.1 (List.mem_of_mem_take hm)
    exact ⟨(newS_at hc e).2 hm, by simpa using e⟩

/-! granting -/
theorem mem_waitG {s : Ls} {a : AL} : a ∈ waitG s ↔ a ∈ s.L ∧ a.holds = false ∧ 0 < a.place := by
  unfold waitG
  rw [List.mem_filter]
  simp [AL.waits]
/-- an ask of these, whoever holds -/
def AskIn (s : Ls) (a : AL) : Prop := ∃ b ∈ s.L, b.task = a.task ∧ b.res = a.res ∧ b.place = a.place ∧ 0 < a.place
theorem AskIn.hold {s : Ls} {a : AL} (h : AskIn s a) (t : Int) : AskIn (holdS s t) a := by
  obtain ⟨b, hb, h1, h2, h3, h4⟩ := h
  exact ⟨holdF t b, List.mem_map_of_mem hb, by rw [holdF_task]; exact h1, by rw [holdF_res]; exact h2, by rw [holdF_place]; exact h3, h4⟩
theorem try1_ok {s : Ls} {l : List Int} {a : AL} (h : LsOk s) (ha : AskIn s a) : LsOk (try1 (s, l) a).1 ∧ ∀ b, AskIn s b → AskIn (try1 (s, l) a).1 b := by
  unfold try1
  split
  · exact ⟨h, fun _ hb => hb⟩
  · rename_i hh
    obtain ⟨b, hb, h1, h2, h3, h4⟩ := ha
    dsimp only at hh ⊢
    refine ⟨?_, fun c hc => hc.hold _⟩
    rw [← h1]
    exact h.hold hb (by omega) (by rw [h2]; simpa using hh)
theorem fold_try (xs : List AL) : ∀ {s : Ls} {l : List Int}, LsOk s → (∀ a ∈ xs, AskIn s a) → LsOk (xs.foldl try1 (s, l)).1 := by
  induction xs with
  | nil => exact fun h _ => h
  | cons a xs ih =>
    intro s l h hx
    obtain ⟨h1, h2⟩ := try1_ok (l := l) h (hx a (by simp))
    rw [List.foldl_cons]
    exact ih (s := (try1 (s, l) a).1) (l := (try1 (s, l) a).2) h1 fun b hb => h2 b (hx b (List.mem_cons_of_mem _ hb))
theorem candS_in {s : Ls} {a : AL} (h : a ∈ candS s) : AskIn s a := by
  unfold candS at h
  rw [(List.mergeSort_perm _ _).mem_iff, mem_waitG] at h
  exact ⟨a, h.1, rfl, rfl, rfl, h.2.2⟩
theorem LsOk.grant {s : Ls} (h : LsOk s) : LsOk (grantS s) := fold_try _ (letS_all h).1 fun _ ha => candS_in ha
theorem askC_zero {s : Ls} {t r : Int} (h : askC s t r = 0) : s.has t ∧ s.hasR r ∧ s.get t = none := by
  unfold askC at h
  by_cases h1 : s.has t
  · rw [if_neg (by simpa using h1)] at h
    by_cases h2 : s.hasR r
    · rw [if_neg (by simpa using h2)] at h
      by_cases h3 : (s.get t).isSome = true
      · rw [if_pos h3] at h; cases h
      · exact ⟨h1, h2, by simpa using h3⟩
    · rw [if_pos h2] at h; cases h
  · rw [if_pos h1] at h; cases h
theorem LsOk.asks {s : Ls} (h : LsOk s) (t r : Int) : LsOk (askS s t r) := by
  unfold askS
  by_cases e : askC s t r = 0
  · obtain ⟨h1, h2, h3⟩ := askC_zero e
    rw [if_pos e]; exact h.ask h1 h2 h3
  · rw [if_neg e]; exact h
/-- what stays as it is -/
structure SameLs (s s' : Ls) : Prop where
  proto : s'.proto = s.proto
  prio : s'.prio = s.prio
  cl : s'.cl = s.cl
  cores : s'.cores = s.cores
  homes : s'.homes = s.homes
theorem SameLs.refl (s : Ls) : SameLs s s := ⟨rfl, rfl, rfl, rfl, rfl⟩
theorem SameLs.trans {s t u : Ls} (h : SameLs s t) (g : SameLs t u) : SameLs s u := ⟨g.1.trans h.1, g.2.trans h.2, g.3.trans h.3, g.4.trans h.4, g.5.trans h.5⟩
theorem same_ask (s : Ls) (t r : Int) : SameLs s (askS s t r) := by
  unfold askS askN
  repeat' split
  all_goals exact ⟨rfl, rfl, rfl, rfl, rfl⟩
theorem same_leave (s : Ls) (t : Int) : SameLs s (leaveS s t) := ⟨rfl, rfl, rfl, rfl, rfl⟩
theorem same_place (xs : List Int) : ∀ s : Ls, SameLs s (xs.foldl placeS s) := by
  induction xs with
  | nil => exact fun s => SameLs.refl s
  | cons x xs ih => exact fun s => SameLs.trans (t := placeS s x) ⟨rfl, rfl, rfl, rfl, rfl⟩ (ih _)
theorem same_try (xs : List AL) : ∀ (s : Ls) (l : List Int), SameLs s (xs.foldl try1 (s, l)).1 := by
  induction xs with
  | nil => exact fun s _ => SameLs.refl s
  | cons x xs ih =>
    intro s l
    refine SameLs.trans (t := (try1 (s, l) x).1) ?_ (ih _ _)
    unfold try1
    split <;> exact ⟨rfl, rfl, rfl, rfl, rfl⟩
theorem same_grant (s : Ls) : SameLs s (grantS s) := SameLs.trans (t := letS s) (same_place _ s) (same_try _ _ _)
/-- how many places more: one for each ask (not Token: for each that is let in) -/
theorem count_fold (xs : List Int) : ∀ s : Ls, (xs.foldl placeS s).count = s.count + xs.length := by
  induction xs with
  | nil => intro s; simp
  | cons x xs ih => intro s; rw [List.foldl_cons, ih]; show s.count + 1 + _ = _; simp; omega
theorem count_try (xs : List AL) : ∀ (s : Ls) (l : List Int), (xs.foldl try1 (s, l)).1.count = s.count := by
  induction xs with
  | nil => exact fun s _ => rfl
  | cons x xs ih =>
    intro s l
    rw [List.foldl_cons]
    refine (ih (try1 (s, l) x).1 (try1 (s, l) x).2).trans ?_
    unfold try1
    split <;> rfl
theorem len_sub : ∀ {l m : List Int}, l.Nodup → (∀ x ∈ l, x ∈ m) → l.length ≤ m.length
  | [], _, _, _ => by simp
  | x :: l, m, hn, hs => by
    obtain ⟨h1, h2⟩ := List.nodup_cons.1 hn
    have hm := hs x (by simp)
    have := len_sub (m := m.erase x) h2 fun y hy => (List.mem_erase_of_ne (fun (e : y = x) => h1 (by rw [← e]; exact hy))).2 (hs y (List.mem_cons_of_mem _ hy))
    rw [List.length_erase_of_mem hm] at this
    have := List.length_pos_of_mem hm
    simp; omega
theorem tasks_le {s : Ls} (h : LsOk s) : s.L.length ≤ s.prio.length := by
  have := len_sub (m := (List.range s.prio.length).map fun n : Nat => (n : Int)) h.nd fun x hx => by
    obtain ⟨a, ha, rfl⟩ := List.mem_map.1 hx
    have h2 := h.tk a ha
    unfold Ls.has at h2
    exact List.mem_map.2 ⟨a.task.toNat, by rw [List.mem_range]; omega, by omega⟩
  simpa using this
theorem newS_len {s : Ls} (h : LsOk s) : (newS s).length ≤ 6 := by
  have h2 := len_sub (m := s.L.map AL.task) (newS_nd h) fun t ht => by
    obtain ⟨a, ha, e, _⟩ := newS_out ht
    exact e ▸ List.mem_map_of_mem ha
  have h3 := tasks_le h
  have h4 := h.n6
  simp at h2; omega
theorem grant_count {s : Ls} (h : LsOk s) : (grantS s).count ≤ s.count + 6 ∧ s.count ≤ (grantS s).count := by
  have e : (grantS s).count = s.count + (newS s).length := by
    unfold grantS grantP
    rw [count_try]
    exact count_fold _ _
  have := newS_len h
  omega
theorem ask_count (s : Ls) (t r : Int) : (askS s t r).count ≤ s.count + 1 ∧ s.count ≤ (askS s t r).count := by
  have e : (askN s t r).count = s.count ∨ (askN s t r).count = s.count + 1 := by
    unfold askN
    split
    · exact .inl rfl
    · exact .inr rfl
  unfold askS
  split <;> omega
end Go.Proofs.YtlmdiechnidghaaGreat

namespace Go.Proofs.YtlmdiechnidghaaGreat
open Go.ChangeShapes Go.WideShapes Go.ChangeAt Go.RowKit
set_option linter.unusedVariables false
set_option linter.unusedSimpArgs false
def askOf (s : Ls) (i : Int) : AskM := match s.get i with
  | none => ⟨s.pri i, s.cls i, false, false, 0, 0⟩
  | some a => ⟨s.pri i, s.cls i, true, a.holds, a.res, if s.proto = 2 then 0 else a.place⟩
def keE (e : EntM) : Int × Int := (e.key, e.id)
def keS (s : Ls) (a : AL) : Int × Int := (keyS s a, a.task)
structure LkR0 (m : LkM) (s : Ls) : Prop where
  proto : m.proto = s.proto
  alen : m.ask.length = s.prio.length
  klen : m.ks.length = s.homes.length
  ask : ∀ i, i < m.ask.length → m.ask.getD i default = askOf s i
  keys : ∀ r q, r < m.ks.length → q < m.ks.length → (m.ks.getD r 0 = m.ks.getD q 0 ↔ sameK s r q = true)
  fr : ∀ r, r < m.ks.length → m.fr (m.ks.getD r 0) = !heldS s r
  room : (s.prio.length : Int) ≤ m.R ∧ m.R ≤ 64
  P : m.P = s.count
  l : (m.l.map keE).Perm ((waitG s).map (keS s))
  places : s.proto ≠ 2 → m.places = s.count
  placesA : 0 ≤ m.places ∧ m.places ≤ s.count
structure LkRD (ds : List DrM) (s : Ls) : Prop where
  len : ds.length = s.cores.length
  at_ : ∀ c, c < ds.length → (ds.getD c default).cores = s.cores.getD c 0 ∧ (ds.getD c default).outs = outsS s c ∧ (s.proto = 3 → (ds.getD c default).ins.Perm (insS s c)) ∧ (s.proto ≠ 3 → (ds.getD c default).ins = [])
theorem getD_set' {α : Type} {l : List α} {n i : Nat} {x d : α} (hn : n < l.length) : (l.set n x).getD i d = if i = n then x else l.getD i d := by
  by_cases e : i = n
  · subst e; simp [List.getD, hn]
  · rw [if_neg e]; simp [List.getD, List.getElem?_set, Ne.symm e]
theorem LkR0.ids {m : LkM} {s : Ls} (h : LkR0 m s) : (m.l.map EntM.id).Perm ((waitG s).map AL.task) := by
  have := h.l.map Prod.snd
  simpa [List.map_map, Function.comp_def, keE, keS] using this
theorem LkR0.ids_nd {m : LkM} {s : Ls} (h : LkR0 m s) (ho : LsOk s) : (m.l.map EntM.id).Nodup := h.ids.nodup_iff.2 (ho.nd.sublist (List.filter_sublist.map _))
theorem LkR0.l_len {m : LkM} {s : Ls} (h : LkR0 m s) : m.l.length = (waitG s).length := by simpa using h.l.length_eq
theorem waitG_lt {s : Ls} (ho : LsOk s) {t : Int} (ht : s.has t) (hw : ∀ a ∈ waitG s, a.task ≠ t) : (waitG s).length < s.prio.length := by
  have h1 := len_sub (l := t :: (waitG s).map AL.task) (m := (List.range s.prio.length).map fun n : Nat => (n : Int)) ?_ ?_
  · simp at h1; omega
  · rw [List.nodup_cons]
    refine ⟨fun hm => ?_, ho.nd.sublist (List.filter_sublist.map _)⟩
    obtain ⟨a, ha, e⟩ := List.mem_map.1 hm
    exact hw a ha e
  · intro x hx
    have hx' : s.has x := by
      rcases List.mem_cons.1 hx with rfl | hx
      · exact ht
      · obtain ⟨a, ha, rfl⟩ := List.mem_map.1 hx
        exact ho.tk a (mem_waitG.1 ha).1
    unfold Ls.has at hx'
    exact List.mem_map.2 ⟨x.toNat, by rw [List.mem_range]; omega, by omega⟩
/-- what a row without id is -/
theorem dropL_perm {l : List EntM} {id : Int} (hn : (l.map EntM.id).Nodup) : ((dropL l id).map keE).Perm ((l.map keE).filter fun p => !(p.2 == id)) := by
  unfold dropL
  cases hb : bestE l id l.length with
  | none =>
    have h1 := bestE_none l.length hb
    rw [List.filter_eq_self.2]
    intro p hp
    obtain ⟨e, he, rfl⟩ := List.mem_map.1 hp
    obtain ⟨i, hi, rfl⟩ := List.getElem_of_mem he
    have := h1 i hi
    rw [atE_get hi] at this
    simpa [keE] using this
  | some f =>
    have hf := bestE_lt _ hb
    have h1 := bestE_id _ _ hb
    have hp := remove_perm_at hf
    have h2 := (hp.map keE).filter (fun p => !(p.2 == id))
    rw [List.map_cons, List.filter_cons_of_neg (by show ¬ (!((atE l f).id == id)) = true; rw [h1]; simp)] at h2
    have hnn : ((atE l f :: removeL l f).map EntM.id).Nodup := (hp.map EntM.id).nodup_iff.2 hn
    rw [List.map_cons, List.nodup_cons] at hnn
    rw [List.filter_eq_self.2] at h2
    · exact h2
    · intro p hp2
      obtain ⟨e, he, rfl⟩ := List.mem_map.1 hp2
      have : e.id ≠ id := fun e2 => hnn.1 (by rw [h1, ← e2]; exact List.mem_map_of_mem he)
      simpa [keE] using this
theorem keyS_same {s s' : Ls} (h : SameLs s s') (a : AL) : keyS s' a = keyS s a := by unfold keyS Ls.pri; rw [h.proto, h.prio]
theorem keS_same {s s' : Ls} (h : SameLs s s') : keS s' = keS s := by funext a; unfold keS; rw [keyS_same h]
theorem sameK_same {s s' : Ls} (h : SameLs s s') (r q : Int) : sameK s' r q = sameK s r q := by unfold sameK Ls.home; rw [h.proto, h.homes]
theorem ent_filter (s : Ls) (t : Int) (L : List AL) : (L.map (keS s)).filter (fun p => !(p.2 == t)) = (L.filter fun a => !(a.task == t)).map (keS s) := by
  rw [List.filter_map]; rfl
section
variable {m : LkM} {s : Ls}
theorem LkR0.asked (h : LkR0 m s) {n : Nat} (hn : n < m.ask.length) : (m.ask.getD n default).asked = (s.get n).isSome := by
  rw [h.ask n hn]
  unfold askOf
  cases s.get n <;> rfl
theorem LkR0.has (h : LkR0 m s) (n : Nat) : n < m.ask.length ↔ s.has n := by unfold Ls.has; rw [h.alen]; omega
/-- fair, token: a place behind all; what is waited for is there -/
theorem LkR0.placed (h : LkR0 m s) (ho : LsOk s) {a : AL} (ha : a ∈ s.L) (h0 : a.place = 0) (hp : s.proto ≠ 2) (A : Option Addr) (c : Nat) : LkR0 (placeM m a.task.toNat A c) (placeS s a.task) := by
  have hs : SameLs s (placeS s a.task) := ⟨rfl, rfl, rfl, rfl, rfl⟩
  have ht := ho.tk a ha
  have hn : a.task.toNat < m.ask.length := (h.has _).2 (by unfold Ls.has at *; omega)
  have hpl := h.places hp
  have ec : ((a.task.toNat : Nat) : Int) = a.task := by unfold Ls.has at ht; omega
  have hwn : a.waits = false := by simp [AL.waits, h0]
  have hc := ho.c0
  refine ⟨h.proto, ?_, h.klen, fun i hi => ?_, h.keys, fun r hr => ?_, h.room, ?_, ?_, fun _ => ?_, ?_⟩
  · show (m.ask.set _ _).length = _
    rw [List.length_set]; exact h.alen
  · have hi' : i < m.ask.length := by have : i < (m.ask.set _ _).length := hi; rwa [List.length_set] at this
    show (m.ask.set a.task.toNat _).getD i default = _
    rw [getD_set' hn]
    have e1 := h.ask _ hi'
    have en := h.ask _ hn
    unfold askOf at e1 en ⊢
    rw [get_place]
    split
    · rename_i e
      subst e
      rw [ec, ho.get_of ha] at en ⊢
      rw [en]
      have : placeF a.task (s.count + 1) a = { a with place := s.count + 1 } := by unfold placeF; rw [if_pos rfl]
      simp only [Option.map_some, this]
      rw [if_neg (show (placeS s a.task).proto ≠ 2 from hp), hpl]
      rfl
    · rename_i e
      rw [e1]
      cases hg : s.get i with
      | none => rfl
      | some b =>
        obtain ⟨_, hb⟩ := get_mem hg
        have : placeF a.task (s.count + 1) b = b := by unfold placeF; rw [if_neg (by omega)]
        simp only [Option.map_some, this]
        rfl
  · rw [heldS_place]; exact h.fr r hr
  · show m.P + 1 = s.count + 1
    rw [h.P]
  · have hlen : m.l.length < (m.l ++ [(⟨m.places + 1, m.P, a.task.toNat⟩ : EntM)]).length := by simp
    refine ((riseL_perm _ _ hlen).map keE).trans ?_
    rw [List.map_append]
    refine (h.l.append_right _).trans ?_
    refine List.Perm.trans ?_ (((waitG_place s ho ha h0).map _).symm)
    rw [keS_same hs, List.map_append]
    have : [(⟨m.places + 1, m.P, a.task.toNat⟩ : EntM)].map keE = [placeF a.task (s.count + 1) a].map (keS s) := by
      have e2 : placeF a.task (s.count + 1) a = { a with place := s.count + 1 } := by unfold placeF; rw [if_pos rfl]
      rw [e2]
      simp only [List.map_cons, List.map_nil, keE, keS, keyS, if_neg hp, hpl, ec]
    rw [this]
  · show m.places + 1 = s.count + 1
    rw [hpl]
  · show 0 ≤ m.places + 1 ∧ m.places + 1 ≤ s.count + 1
    have := h.placesA; omega
theorem askOf_app {s s' : Ls} (hs : SameLs s s') {x : AL} (hL : s'.L = s.L ++ [x]) (hn : s.get x.task = none) (i : Int) : askOf s' i = if i = x.task then ⟨s.pri i, s.cls i, true, x.holds, x.res, if s.proto = 2 then 0 else x.place⟩ else askOf s i := by
  have hg : s'.get i = if i = x.task then some x else s.get i := by
    have := get_app s x i hn
    unfold Ls.get at *
    rw [hL]; exact this
  unfold askOf
  rw [hg]
  have e1 : s'.pri i = s.pri i := by unfold Ls.pri; rw [hs.prio]
  have e2 : s'.cls i = s.cls i := by unfold Ls.cls; rw [hs.cl]
  rw [e1, e2, hs.proto]
  by_cases e : i = x.task
  · rw [if_pos e, if_pos e]
  · rw [if_neg e, if_neg e]
theorem askOf_none {s : Ls} {i : Int} (h : s.get i = none) : askOf s i = ⟨s.pri i, s.cls i, false, false, 0, 0⟩ := by unfold askOf; rw [h]
theorem LkR0.askFair (h : LkR0 m s) (ho : LsOk s) {n : Nat} {r : Int} (hn : n < m.ask.length) (hr : s.hasR r) (hg : s.get n = none) (hp2 : s.proto ≠ 2) (hp3 : s.proto ≠ 3) (A : Option Addr) (c : Nat) : LkR0 (placeM (askM m n r) n A c) (askN s n r) := by
  have hs : SameLs s (askN s n r) := by unfold askN; split <;> exact ⟨rfl, rfl, rfl, rfl, rfl⟩
  have eL : (askN s n r).L = s.L ++ [⟨n, r, s.count + 1, false⟩] := by unfold askN; rw [if_neg hp3]
  have eC : (askN s n r).count = s.count + 1 := by unfold askN; rw [if_neg hp3]
  have hpl := h.places hp2
  have hc := ho.c0
  have e0 := h.ask n hn
  rw [askOf_none hg] at e0
  have hlA : (askM m n r).ask.length = m.ask.length := askM_len n r
  refine ⟨h.proto.trans hs.proto.symm, ?_, h.klen.trans (by rw [hs.homes]), fun i hi => ?_, fun a b ha hb => by rw [sameK_same hs]; exact h.keys a b ha hb, fun q hq => ?_, by rw [hs.prio]; exact h.room, ?_, ?_, fun _ => ?_, ?_⟩
  · show ((m.ask.set _ _).set _ _).length = _
    rw [List.length_set, List.length_set, hs.prio]; exact h.alen
  · have hi' : i < m.ask.length := by have : i < ((m.ask.set _ _).set _ _).length := hi; rwa [List.length_set, List.length_set] at this
    rw [askOf_app hs eL hg]
    show ((m.ask.set n { m.ask.getD n default with asked := true, res := r }).set n { (m.ask.set n { m.ask.getD n default with asked := true, res := r }).getD n default with place := m.places + 1 }).getD i default = _
    rw [getD_set' (by rw [List.length_set]; exact hn), getD_set' hn, getD_set' hn, if_pos rfl, e0]
    by_cases e : i = n
    · subst e
      rw [if_pos rfl, if_pos rfl, if_neg hp2, hpl]
    · rw [if_neg e, if_neg e, if_neg (show ¬ (i : Int) = n by omega)]
      exact h.ask i hi'
  · rw [heldS_ask]; exact h.fr q hq
  · rw [eC]; show m.P + 1 = _; rw [h.P]
  · have hlen : m.l.length < (m.l ++ [(⟨m.places + 1, m.P, n⟩ : EntM)]).length := by simp
    refine ((riseL_perm _ _ hlen).map keE).trans ?_
    rw [waitG_ask s _ _ hc, if_neg hp3, keS_same hs, List.map_append, List.map_append]
    have : [(⟨m.places + 1, m.P, n⟩ : EntM)].map keE = [(⟨n, r, s.count + 1, false⟩ : AL)].map (keS s) := by
      simp only [List.map_cons, List.map_nil, keE, keS, keyS, if_neg hp2, hpl]
    rw [this]
    exact h.l.append_right _
  · rw [eC]; show m.places + 1 = s.count + 1; rw [hpl]
  · rw [eC]; show 0 ≤ m.places + 1 ∧ m.places + 1 ≤ s.count + 1
    have := h.placesA; omega
theorem LkR0.askAgent (h : LkR0 m s) (ho : LsOk s) {n : Nat} {r : Int} (hn : n < m.ask.length) (hr : s.hasR r) (hg : s.get n = none) (hp2 : s.proto = 2) (A : Option Addr) (c : Nat) : LkR0 ((askM m n r).putR (m.P + 1) (riseL (m.l ++ [⟨(m.ask.getD n default).prio, m.P, n⟩]) m.l.length) A c) (askN s n r) := by
  have hp3 : s.proto ≠ 3 := by omega
  have hs : SameLs s (askN s n r) := by unfold askN; split <;> exact ⟨rfl, rfl, rfl, rfl, rfl⟩
  have eL : (askN s n r).L = s.L ++ [⟨n, r, s.count + 1, false⟩] := by unfold askN; rw [if_neg hp3]
  have eC : (askN s n r).count = s.count + 1 := by unfold askN; rw [if_neg hp3]
  have hc := ho.c0
  have e0 := h.ask n hn
  rw [askOf_none hg] at e0
  refine ⟨h.proto.trans hs.proto.symm, ?_, h.klen.trans (by rw [hs.homes]), fun i hi => ?_, fun a b ha hb => by rw [sameK_same hs]; exact h.keys a b ha hb, fun q hq => ?_, by rw [hs.prio]; exact h.room, ?_, ?_, fun hx => absurd (hs.proto.trans hp2) hx, ?_⟩
  · show (m.ask.set _ _).length = _
    rw [List.length_set, hs.prio]; exact h.alen
  · have hi' : i < m.ask.length := by have : i < (m.ask.set _ _).length := hi; rwa [List.length_set] at this
    rw [askOf_app hs eL hg]
    show (m.ask.set n { m.ask.getD n default with asked := true, res := r }).getD i default = _
    rw [getD_set' hn, e0]
    by_cases e : i = n
    · subst e
      rw [if_pos rfl, if_pos rfl, if_pos hp2]
    · rw [if_neg e, if_neg (show ¬ (i : Int) = n by omega)]
      exact h.ask i hi'
  · rw [heldS_ask]; exact h.fr q hq
  · rw [eC]; show m.P + 1 = _; rw [h.P]
  · have hlen : m.l.length < (m.l ++ [(⟨(m.ask.getD n default).prio, m.P, n⟩ : EntM)]).length := by simp
    refine ((riseL_perm _ _ hlen).map keE).trans ?_
    rw [waitG_ask s _ _ hc, if_neg hp3, keS_same hs, List.map_append, List.map_append]
    have : [(⟨(m.ask.getD n default).prio, m.P, n⟩ : EntM)].map keE = [(⟨n, r, s.count + 1, false⟩ : AL)].map (keS s) := by
      rw [e0]
      simp only [List.map_cons, List.map_nil, keE, keS, keyS, if_pos hp2]
    rw [this]
    exact h.l.append_right _
  · rw [eC]; show 0 ≤ m.places ∧ m.places ≤ s.count + 1
    have := h.placesA; omega
theorem LkR0.askToken (h : LkR0 m s) (ho : LsOk s) {n k : Nat} {r : Int} (hn : n < m.ask.length) (hr : s.hasR r) (hg : s.get n = none) (hp3 : s.proto = 3) (d : DrM) (F : List Nat) : LkR0 ((askM m n r).putD k d F) (askN s n r) := by
  have hp2 : s.proto ≠ 2 := by omega
  have hs : SameLs s (askN s n r) := by unfold askN; split <;> exact ⟨rfl, rfl, rfl, rfl, rfl⟩
  have eL : (askN s n r).L = s.L ++ [⟨n, r, 0, false⟩] := by unfold askN; rw [if_pos hp3]
  have eC : (askN s n r).count = s.count := by unfold askN; rw [if_pos hp3]
  have hc := ho.c0
  have e0 := h.ask n hn
  rw [askOf_none hg] at e0
  refine ⟨h.proto.trans hs.proto.symm, ?_, h.klen.trans (by rw [hs.homes]), fun i hi => ?_, fun a b ha hb => by rw [sameK_same hs]; exact h.keys a b ha hb, fun q hq => ?_, by rw [hs.prio]; exact h.room, by rw [eC]; exact h.P, ?_, fun _ => by rw [eC]; exact h.places hp2, by rw [eC]; exact h.placesA⟩
  · show (m.ask.set _ _).length = _
    rw [List.length_set, hs.prio]; exact h.alen
  · have hi' : i < m.ask.length := by have : i < (m.ask.set _ _).length := hi; rwa [List.length_set] at this
    rw [askOf_app hs eL hg]
    show (m.ask.set n { m.ask.getD n default with asked := true, res := r }).getD i default = _
    rw [getD_set' hn, e0]
    by_cases e : i = n
    · subst e
      rw [if_pos rfl, if_pos rfl, if_neg hp2]
    · rw [if_neg e, if_neg (show ¬ (i : Int) = n by omega)]
      exact h.ask i hi'
  · rw [heldS_ask]; exact h.fr q hq
  · rw [waitG_ask s _ _ hc, if_pos hp3, keS_same hs]
    exact h.l
/-- a task has gone; it waited, or it held and gave its key back -/
theorem LkR0.gone (h : LkR0 m s) (ho : LsOk s) {a : AL} (ha : a ∈ s.L) (k : Nat) (F : List Nat) {m1 : LkM} (hm1 : m1 = if a.holds = true then m.putK (m.ks.getD a.res.toNat 0) true else m) : LkR0 (goneM m1 a.task.toNat k F) (leaveS s a.task) := by
  have hs : SameLs s (leaveS s a.task) := ⟨rfl, rfl, rfl, rfl, rfl⟩
  have ht := ho.tk a ha
  have hn : a.task.toNat < m.ask.length := (h.has _).2 (by unfold Ls.has at *; omega)
  have ec : ((a.task.toNat : Nat) : Int) = a.task := by unfold Ls.has at ht; omega
  have en := h.ask _ hn
  rw [ec] at en
  unfold askOf at en
  rw [ho.get_of ha] at en
  have e1 : m1.proto = m.proto ∧ m1.ask = m.ask ∧ m1.ks = m.ks ∧ m1.R = m.R ∧ m1.P = m.P ∧ m1.l = m.l ∧ m1.places = m.places := by
    subst hm1; split <;> exact ⟨rfl, rfl, rfl, rfl, rfl, rfl, rfl⟩
  obtain ⟨q1, q2, q3, q4, q5, q6, q7⟩ := e1
  refine ⟨q1.trans h.proto, ?_, ?_, fun i hi => ?_, ?_, fun r hr => ?_, ?_, q5.trans h.P, ?_, fun hp => q7.trans (h.places hp), ?_⟩
  · show (m1.ask.set _ _).length = _
    rw [List.length_set, q2]; exact h.alen
  · show m1.ks.length = _
    rw [q3]; exact h.klen
  · have hi' : i < m.ask.length := by have : i < (m1.ask.set _ _).length := hi; rwa [List.length_set, q2] at this
    show (m1.ask.set a.task.toNat _).getD i default = _
    rw [q2, getD_set' hn]
    have e1 := h.ask _ hi'
    unfold askOf at e1 ⊢
    rw [get_leave]
    split
    · rename_i e
      subst e
      rw [ec, if_pos rfl, en]
      rfl
    · rename_i e
      rw [if_neg (by omega), e1]
      rfl
  · intro r q hr hq
    have hr' : r < m.ks.length := by have : r < m1.ks.length := hr; rwa [q3] at this
    have hq' : q < m.ks.length := by have : q < m1.ks.length := hq; rwa [q3] at this
    show (m1.ks.getD r 0 = m1.ks.getD q 0 ↔ _)
    rw [q3]
    exact h.keys r q hr' hq'
  · have hr' : r < m.ks.length := by have : r < m1.ks.length := hr; rwa [q3] at this
    show m1.fr (m1.ks.getD r 0) = _
    rw [q3]
    have hra := ho.rs a ha
    have hal : a.res.toNat < m.ks.length := by rw [h.klen]; unfold Ls.hasR at hra; omega
    have eca : ((a.res.toNat : Nat) : Int) = a.res := by unfold Ls.hasR at hra; omega
    by_cases hh : a.holds = true
    · rw [if_pos hh] at hm1
      rw [hm1, heldS_leave_holds ho ha hh]
      show (if m.ks.getD r 0 = m.ks.getD a.res.toNat 0 then true else m.fr (m.ks.getD r 0)) = _
      have hk := h.keys r _ hr' hal
      rw [eca] at hk
      by_cases ek : m.ks.getD r 0 = m.ks.getD a.res.toNat 0
      · rw [if_pos ek]
        have := hk.1 ek
        rw [sameK_symm] at this
        rw [this]; simp
      · rw [if_neg ek, h.fr r hr']
        have : sameK s a.res r = false := by
          cases e : sameK s a.res r with
          | false => rfl
          | true => exact absurd (hk.2 (by rw [sameK_symm]; exact e)) ek
        rw [this]; simp
    · rw [if_neg hh] at hm1
      rw [hm1, heldS_leave_waits ho ha (by simpa using hh)]
      exact h.fr r hr'
  · show _ ≤ m1.R ∧ m1.R ≤ _
    rw [q4]; exact h.room
  · show ((dropL m1.l _).map keE).Perm _
    rw [q6, ec, waitG_leave, keS_same hs]
    refine (dropL_perm (h.ids_nd ho)).trans ?_
    rw [← ent_filter]
    exact h.l.filter _
  · show 0 ≤ m1.places ∧ m1.places ≤ _
    rw [q7]; exact h.placesA
/-- a task takes its key -/
theorem LkR0.take (h : LkR0 m s) (ho : LsOk s) {a : AL} (ha : a ∈ s.L) : LkR0 (takeM m a.task.toNat) (holdS s a.task) := by
  have hs : SameLs s (holdS s a.task) := ⟨rfl, rfl, rfl, rfl, rfl⟩
  have ht := ho.tk a ha
  have hn : a.task.toNat < m.ask.length := (h.has _).2 (by unfold Ls.has at *; omega)
  have ec : ((a.task.toNat : Nat) : Int) = a.task := by unfold Ls.has at ht; omega
  have en := h.ask _ hn
  rw [ec] at en
  unfold askOf at en
  rw [ho.get_of ha] at en
  have hra := ho.rs a ha
  have hal : a.res.toNat < m.ks.length := by rw [h.klen]; unfold Ls.hasR at hra; omega
  have eca : ((a.res.toNat : Nat) : Int) = a.res := by unfold Ls.hasR at hra; omega
  refine ⟨h.proto, ?_, h.klen, fun i hi => ?_, h.keys, fun r hr => ?_, h.room, h.P, ?_, h.places, h.placesA⟩
  · show (m.ask.set _ _).length = _
    rw [List.length_set]; exact h.alen
  · have hi' : i < m.ask.length := by have : i < (m.ask.set _ _).length := hi; rwa [List.length_set] at this
    show (m.ask.set a.task.toNat { m.ask.getD a.task.toNat default with holds := true }).getD i default = _
    rw [getD_set' hn]
    have e1 := h.ask _ hi'
    unfold askOf at e1 ⊢
    rw [get_hold]
    split
    · rename_i e
      subst e
      rw [ec, ho.get_of ha, en]
      have : holdF a.task a = { a with holds := true } := by unfold holdF; rw [if_pos rfl]
      simp only [Option.map_some, this]
      rfl
    · rename_i e
      rw [e1]
      cases hg : s.get i with
      | none => rfl
      | some b =>
        obtain ⟨_, hb⟩ := get_mem hg
        have : holdF a.task b = b := by unfold holdF; rw [if_neg (by omega)]
        simp only [Option.map_some, this]
        rfl
  · show (if m.ks.getD r 0 = keyOf m a.task.toNat then false else m.fr (m.ks.getD r 0)) = _
    have ek : keyOf m a.task.toNat = m.ks.getD a.res.toNat 0 := by unfold keyOf; rw [en]
    rw [ek, heldS_hold ho ha]
    have hk := h.keys r _ hr hal
    rw [eca] at hk
    by_cases e : m.ks.getD r 0 = m.ks.getD a.res.toNat 0
    · rw [if_pos e]
      have := hk.1 e
      rw [sameK_symm] at this
      rw [this]; simp
    · rw [if_neg e, h.fr r hr]
      have : sameK s a.res r = false := by
        cases e2 : sameK s a.res r with
        | false => rfl
        | true => exact absurd (hk.2 (by rw [sameK_symm]; exact e2)) e
      rw [this]; simp
  · show ((dropL m.l _).map keE).Perm _
    rw [ec, waitG_hold, keS_same hs]
    refine (dropL_perm (h.ids_nd ho)).trans ?_
    rw [← ent_filter]
    exact h.l.filter _
end
end Go.Proofs.YtlmdiechnidghaaGreat

namespace Go.Proofs.YtlmdiechnidghaaGreat
open Go.ChangeShapes Go.WideShapes Go.ChangeAt Go.RowKit
set_option linter.unusedVariables false
set_option linter.unusedSimpArgs false
theorem filter_one {l : List Int} {t : Int} (h : t ∉ l) : (l.filter fun x => !(x == t)) = l := List.filter_eq_self.2 fun x hx => by
  have : x ≠ t := fun e => h (e ▸ hx)
  simpa using this
theorem dropI_filter {l : List Int} (h : l.Nodup) (t : Int) : dropI l t = l.filter fun x => !(x == t) := by
  unfold dropI plK plN
  by_cases hm : t ∈ l
  · rw [if_pos (by simpa using hm), if_pos hm]
    induction l with
    | nil => simp at hm
    | cons x l ih =>
      obtain ⟨h1, h2⟩ := List.nodup_cons.1 h
      by_cases e : x = t
      · subst e
        rw [List.idxOf_cons_self, List.eraseIdx_cons_zero, List.filter_cons_of_neg (by simp), filter_one h1]
      · have hm2 : t ∈ l := by
          rcases List.mem_cons.1 hm with h3 | h3
          · exact absurd h3.symm e
          · exact h3
        have e2 : (x :: l).idxOf t = l.idxOf t + 1 := by
          have e3 : (x == t) = false := by simpa using e
          rw [List.idxOf_cons, e3]; rfl
        rw [e2, List.eraseIdx_cons_succ, List.filter_cons_of_pos (by simpa using e), ih h2 hm2]
  · rw [if_neg (by simpa using hm), filter_one hm]
section
variable {ds : List DrM} {s : Ls}
theorem LkRD.askOther (h : LkRD ds s) (ho : LsOk s) (hp : s.proto ≠ 3) (t r : Int) : LkRD ds (askN s t r) := by
  have hs : SameLs s (askN s t r) := by unfold askN; split <;> exact ⟨rfl, rfl, rfl, rfl, rfl⟩
  refine ⟨h.len.trans (by rw [hs.cores]), fun c hc => ?_⟩
  obtain ⟨h1, h2, h3, h4⟩ := h.at_ c hc
  rw [hs.cores, hs.proto, outsS_ask s t r c ho.c0, if_neg (fun h => hp h.1)]
  exact ⟨h1, h2, fun hx => absurd hx hp, h4⟩
theorem LkRD.askToken (h : LkRD ds s) (ho : LsOk s) (hp : s.proto = 3) {t : Int} {k : Nat} (hk : k < ds.length) (hc : s.cls t = (k : Int)) (r : Int) : LkRD (ds.set k { ds.getD k default with outs := (ds.getD k default).outs ++ [t] }) (askN s t r) := by
  have hs : SameLs s (askN s t r) := by unfold askN; split <;> exact ⟨rfl, rfl, rfl, rfl, rfl⟩
  refine ⟨by rw [List.length_set, hs.cores]; exact h.len, fun c hc' => ?_⟩
  rw [List.length_set] at hc'
  obtain ⟨h1, h2, h3, h4⟩ := h.at_ c hc'
  rw [hs.cores, hs.proto, outsS_ask s t r c ho.c0, insS_ask s t r c hp, getD_set' hk]
  by_cases e : c = k
  · subst e
    rw [if_pos rfl, if_pos ⟨hp, hc⟩]
    exact ⟨h1, by show _ ++ _ = _; rw [h2], h3, fun hx => absurd hp hx⟩
  · rw [if_neg e, if_neg (fun hx => e (by have := hx.2; omega))]
    exact ⟨h1, h2, h3, h4⟩
theorem LkRD.leave (h : LkRD ds s) (ho : LsOk s) {a : AL} (ha : a ∈ s.L) {k : Nat} (hk : k < ds.length) (hc : s.cls a.task = (k : Int)) : LkRD (ds.set k (leaveD (ds.getD k default) a.task)) (leaveS s a.task) := by
  refine ⟨by rw [List.length_set]; exact h.len, fun c hc' => ?_⟩
  rw [List.length_set] at hc'
  obtain ⟨h1, h2, h3, h4⟩ := h.at_ c hc'
  rw [outsS_leave, insS_leave, getD_set' hk]
  by_cases e : c = k
  · subst e
    rw [if_pos rfl]
    refine ⟨h1, ?_, fun hp => ?_, fun hp => ?_⟩
    · show dropI _ _ = _
      rw [h2, dropI_filter (outsS_nd ho c)]
    · exact (h3 hp).filter _
    · show besides _ _ = _
      unfold besides
      rw [h4 hp]; rfl
  · rw [if_neg e]
    have n1 : a.task ∉ outsS s c := fun hm => by
      obtain ⟨_, _, e1, _, e2⟩ := mem_outsS.1 hm
      omega
    have n2 : a.task ∉ insS s c := fun hm => by
      obtain ⟨b, hb, e1⟩ := List.mem_map.1 hm
      have := (List.mem_filter.1 hb).2
      simp only [AL.inAt, Bool.and_eq_true, beq_iff_eq] at this
      rw [e1] at this
      omega
    rw [filter_one n1, filter_one n2]
    exact ⟨h1, h2, h3, h4⟩
theorem LkRD.hold (h : LkRD ds s) (t : Int) : LkRD ds (holdS s t) := by
  refine ⟨h.len, fun c hc => ?_⟩
  obtain ⟨h1, h2, h3, h4⟩ := h.at_ c hc
  rw [outsS_hold, insS_hold]
  exact ⟨h1, h2, h3, h4⟩
theorem entDs_all (ds : List DrM) : entDs ds ds.length = ds.map entF := by simp [entDs]
theorem LkRD.num (h : LkRD ds s) (ho : LsOk s) {c : Nat} (hc : c < ds.length) : enterN (ds.getD c default) = numS s c := by
  obtain ⟨h1, h2, h3, h4⟩ := h.at_ c hc
  unfold enterN numS
  rw [h1, h2]
  by_cases hp : s.proto = 3
  · rw [(h3 hp).length_eq]
  · have : outsS s c = [] := by
      rcases hz : outsS s c with _ | ⟨x, l⟩
      · rfl
      · obtain ⟨a, ha, _, h0, _⟩ := mem_outsS.1 (show x ∈ outsS s c by rw [hz]; simp)
        have := ho.tok hp a ha
        omega
    rw [this]; simp
theorem LkRD.let_ (h : LkRD ds s) (ho : LsOk s) : LkRD (entDs ds ds.length) (letS s) := by
  have hs : SameLs s (letS s) := same_place _ s
  rw [entDs_all]
  refine ⟨by rw [List.length_map, hs.cores]; exact h.len, fun c hc => ?_⟩
  rw [List.length_map] at hc
  obtain ⟨h1, h2, h3, h4⟩ := h.at_ c hc
  have e : (ds.map entF).getD c default = entF (ds.getD c default) := by simp [List.getD, hc]
  have hcc : c < s.cores.length := by rw [← h.len]; exact hc
  have hnum := h.num ho hc
  rw [e, hs.cores, hs.proto]
  unfold entF
  rw [hnum]
  refine ⟨h1, ?_, fun hp => ?_, fun hp => ?_⟩
  · show List.drop _ _ = _
    rw [h2, outsS_let ho hcc]
  · show List.Perm (_ ++ List.take _ _) _
    rw [h2]
    exact ((h3 hp).append_right _).trans (insS_let ho hcc).symm
  · show _ ++ List.take _ _ = _
    have : outsS s c = [] := by
      rcases hz : outsS s c with _ | ⟨x, l⟩
      · rfl
      · obtain ⟨a, ha, _, h0, _⟩ := mem_outsS.1 (show x ∈ outsS s c by rw [hz]; simp)
        have := ho.tok hp a ha
        omega
    rw [h2, this, h4 hp]; simp
theorem map_range (l : List DrM) : (List.range l.length).map (fun c => l.getD c default) = l := by
  refine List.ext_getElem (by simp) fun i h1 h2 => ?_
  simp [List.getD, h2]
theorem flat_range {β : Type} (l : List DrM) (f : DrM → List β) : l.flatMap f = (List.range l.length).flatMap fun c => f (l.getD c default) := by
  conv => lhs; rw [← map_range l]
  rw [List.flatMap_map]
theorem LkRD.news (h : LkRD ds s) (ho : LsOk s) : sortI (entL ds ds.length) = newS s := by
  unfold sortI newS entL
  rw [List.take_length, flat_range, h.len]
  congr 1
  rw [List.flatMap_def, List.flatMap_def]
  congr 1
  refine List.map_congr_left fun c hc => ?_
  rw [List.mem_range, ← h.len] at hc
  rw [h.num ho hc, (h.at_ c hc).2.1]
end
/-- all of these placed -/
theorem fold_PlR (xs : List Int) : ∀ {m m' : LkM} {s : Ls}, PlR m xs m' → LkR0 m s → LsOk s → (xs = [] ∨ s.proto = 3) → xs.Nodup → (∀ t ∈ xs, ∃ a ∈ s.L, a.task = t ∧ a.place = 0) → LkR0 m' (xs.foldl placeS s) ∧ m'.ds = m.ds := by
  induction xs with
  | nil =>
    intro m m' s hp h ho _ _ _
    have e : m' = m := hp
    subst e
    exact ⟨h, rfl⟩
  | cons x xs ih =>
    intro m m' s hp h ho h3 hn hx
    obtain ⟨A, c, hp2⟩ := hp
    have hp3 : s.proto = 3 := h3.resolve_left (by simp)
    obtain ⟨ht, hn2⟩ := List.nodup_cons.1 hn
    obtain ⟨a, ha, e, h0⟩ := hx x (by simp)
    subst e
    have h1 := h.placed ho ha h0 (by omega) A c
    obtain ⟨i1, i2⟩ := ih hp2 h1 (ho.place _ hp3) (.inr hp3) hn2 fun u hu => by
      obtain ⟨b, hb, e2, h2⟩ := hx u (List.mem_cons_of_mem _ hu)
      have hne : b.task ≠ a.task := fun e3 => ht (by rw [← e3, e2]; exact hu)
      exact ⟨b, placeS_out hb hne, e2, h2⟩
    exact ⟨i1, i2.trans rfl⟩
/-- what is to be granted comes in the row's order -/
theorem cand_ids {m : LkM} {s : Ls} (h : LkR0 m s) (ho : LsOk s) {S : List EntM} (hp : S.Perm m.l) (hs : SortedE S) : S.map EntM.id = (candS s).map AL.task := by
  have hpk : (S.map keE).Perm ((candS s).map (keS s)) := ((hp.map keE).trans h.l).trans ((List.mergeSort_perm _ _).symm.map _)
  have h1 : (S.map keE).Pairwise (fun p q => p.1 ≤ q.1) := by
    rw [List.pairwise_map, List.pairwise_iff_getElem]
    intro i j hi hj hij
    have := hs i j hij hj
    rw [atE_get hi, atE_get hj] at this
    unfold lessE at this
    rw [Bool.or_eq_false_iff] at this
    have := of_decide_eq_false this.1
    show S[i].key ≤ S[j].key
    omega
  have h2 : ((candS s).map (keS s)).Pairwise (fun p q => p.1 ≤ q.1) := by
    rw [List.pairwise_map]
    have := List.pairwise_mergeSort (le := fun a b => decide (keyS s a ≤ keyS s b)) (fun a b c h1 h2 => by simp at *; omega) (fun a b => by simp; omega) (waitG s)
    exact this.imp fun h => by simpa [keS] using h
  have hc : ∀ a, a ∈ candS s ↔ a ∈ waitG s := fun a => (List.mergeSort_perm _ _).mem_iff
  have e : S.map keE = (candS s).map (keS s) := by
    refine List.Perm.eq_of_pairwise (le := fun p q => p.1 ≤ q.1) ?_ h1 h2 hpk
    intro p q hp hq h3 h4
    obtain ⟨a, ha, rfl⟩ := List.mem_map.1 (hpk.mem_iff.1 hp)
    obtain ⟨b, hb, rfl⟩ := List.mem_map.1 hq
    rw [hc, mem_waitG] at ha hb
    have hk : keyS s a = keyS s b := by simp only [keS] at h3 h4; omega
    have ht : a.task = b.task := by
      unfold keyS at hk
      split at hk
      · rename_i hp2
        exact ho.pri hp2 _ _ (ho.tk a ha.1) (ho.tk b hb.1) hk
      · exact ho.pd a ha.1 b hb.1 ha.2.2 hk
    rw [ho.uniq ha.1 hb.1 ht]
  have := congrArg (List.map Prod.snd) e
  simpa [List.map_map, Function.comp_def, keE, keS] using this
theorem grant_fold (al : List AL) : ∀ {m : LkM} {s : Ls} {out : List Int}, LkR0 m s → LsOk s → (∀ a ∈ al, AskIn s a) → LkR0 ((al.map AL.task).foldl grant1 (m, out)).1 (al.foldl try1 (s, out)).1 ∧ ((al.map AL.task).foldl grant1 (m, out)).2 = (al.foldl try1 (s, out)).2 ∧ ((al.map AL.task).foldl grant1 (m, out)).1.ds = m.ds := by
  induction al with
  | nil => exact fun h _ _ => ⟨h, rfl, rfl⟩
  | cons a al ih =>
    intro m s out h ho hx
    obtain ⟨b, hb, h1, h2, h3, h4⟩ := hx a (by simp)
    have ht := ho.tk b hb
    have hn : b.task.toNat < m.ask.length := (h.has _).2 (by unfold Ls.has at *; omega)
    have ec : ((b.task.toNat : Nat) : Int) = b.task := by unfold Ls.has at ht; omega
    have hra := ho.rs b hb
    have hal : b.res.toNat < m.ks.length := by rw [h.klen]; unfold Ls.hasR at hra; omega
    have eca : ((b.res.toNat : Nat) : Int) = b.res := by unfold Ls.hasR at hra; omega
    have ek : keyOf m a.task.toNat = m.ks.getD b.res.toNat 0 := by
      have en := h.ask _ hn
      rw [ec] at en
      unfold askOf at en
      rw [ho.get_of hb] at en
      unfold keyOf
      rw [← h1, en]
    have hf : m.fr (m.ks.getD b.res.toNat 0) = !heldS s a.res := by
      have := h.fr _ hal
      rw [eca] at this
      rw [this, h2]
    rw [List.map_cons, List.foldl_cons, List.foldl_cons]
    have hq := try1_ok (l := out) ho (hx a (by simp))
    by_cases hh : heldS s a.res = true
    · have e1 : try1 (s, out) a = (s, out) := by unfold try1; rw [if_pos hh]
      have e2 : grant1 (m, out) a.task = (m, out) := by unfold grant1; rw [ek, hf, hh]; rfl
      rw [e1, e2]
      exact ih h ho fun c hc => hx c (List.mem_cons_of_mem _ hc)
    · have e1 : try1 (s, out) a = (holdS s a.task, out ++ [a.task]) := by unfold try1; rw [if_neg hh]
      have e2 : grant1 (m, out) a.task = (takeM m a.task.toNat, out ++ [a.task]) := by unfold grant1; rw [ek, hf]; simp [hh]
      rw [e1] at hq
      rw [e1, e2]
      have ht := h.take ho hb
      rw [h1] at ht
      exact ih ht hq.1 fun c hc => hq.2 c (hx c (List.mem_cons_of_mem _ hc))
end Go.Proofs.YtlmdiechnidghaaGreat

namespace Go.Proofs.YtlmdiechnidghaaGreat
open Go.ChangeShapes Go.WideShapes Go.ChangeAt Go.RowKit
set_option linter.unusedVariables false

theorem firstT_neg {l : List Bool} (h : firstT l = -1) : ∀ j, j < l.length → l.getD j false = false := by
  intro j hj
  unfold firstT at h
  split at h
  · omega
  · rename_i hm
    cases hb : l.getD j false with
    | false => rfl
    | true =>
      rw [List.getD_eq_getElem?_getD, List.getElem?_eq_getElem hj] at hb
      simp at hb
      exact absurd (hb ▸ List.getElem_mem hj) hm
theorem firstT_pos {l : List Bool} (h : firstT l ≠ -1) : ∃ k, k < l.length ∧ firstT l = k ∧ l.getD k false = true := by
  unfold firstT at h ⊢
  split at h
  · rename_i hm
    have h2 : l.findIdx id < l.length := List.findIdx_lt_length.2 ⟨true, hm, rfl⟩
    refine ⟨l.findIdx id, h2, by rw [if_pos hm], ?_⟩
    rw [List.getD_eq_getElem?_getD, List.getElem?_eq_getElem h2]
    have h3 : id l[l.findIdx id] = true := List.findIdx_getElem (w := h2)
    simpa using h3
  · exact absurd rfl h
theorem okS_iff (s : SetR) : okS s = true ↔ frameV s = 0 ∧ ∀ k, k < s.tasks.length → taskE s k = 0 := by
  unfold okS chkE
  constructor
  · intro h
    by_cases hf : frameV s = 0
    · refine ⟨hf, ?_⟩
      rw [if_neg (by simp [hf])] at h
      by_cases hb : badAt s = -1
      · intro k hk
        have := firstT_neg hb k (by simpa using hk)
        simpa [List.getD, hk] using this
      · rw [if_neg hb] at h
        obtain ⟨k, hk, e, g⟩ := firstT_pos hb
        simp at hk
        simp [List.getD, hk] at g
        have e2 : (badAt s).toNat = k := by unfold badAt; rw [e]; simp
        rw [e2] at h
        exact absurd (by simpa using h) g
    · rw [if_pos hf] at h
      exact absurd (by simpa using h) hf
  · rintro ⟨hf, h⟩
    rw [if_neg (by simp [hf]), if_pos (bad_none h)]
    rfl
theorem taskE_ok {s : SetR} {k : Nat} (h : taskE s k = 0) : formB (s.tasks.getD k default) = true ∧ inB (s.tasks.getD k default).cl 0 ((s.cores.length : Int) - 1) = true ∧ takenB (s.tasks.take k) (s.tasks.getD k default) = false ∧ partsB (s.tasks.getD k default).parts s.homes.length = true := by
  unfold taskE at h
  by_cases h1 : formB (s.tasks.getD k default) = false
  · rw [if_pos h1] at h; omega
  rw [if_neg h1] at h
  by_cases h2 : inB (s.tasks.getD k default).cl 0 ((s.cores.length : Int) - 1) = false
  · rw [if_pos h2] at h; omega
  rw [if_neg h2] at h
  by_cases h3 : takenB (s.tasks.take k) (s.tasks.getD k default) = true
  · rw [if_pos h3] at h; omega
  rw [if_neg h3] at h
  by_cases h4 : partsB (s.tasks.getD k default).parts s.homes.length = false
  · rw [if_pos h4] at h; omega
  exact ⟨by simpa using h1, by simpa using h2, by simpa using h3, by simpa using h4⟩
theorem allB_at {zs : List Int} {lo hi : Int} (h : allB zs lo hi = true) : ∀ z ∈ zs, lo ≤ z ∧ z ≤ hi := by
  intro z hz
  exact inB_true.1 (List.all_eq_true.1 h z hz)
/-- a part that may be, among so many resources -/
def PartGood (p : PartM) (res : Int) : Prop := (p.kind = 1 ∨ p.kind = 2 ∨ p.kind = 3) ∧ 1 ≤ p.len ∧ p.len ≤ 60 ∧ (p.kind = 3 → 0 ≤ p.res ∧ p.res < res)
theorem partB_good {p : PartM} {res : Int} (h : partB p res = true) : PartGood p res := by
  unfold partB at h
  unfold PartGood
  by_cases h3 : p.kind = 3
  · rw [if_pos h3, Bool.and_eq_true] at h
    have h1 := inB_true.1 h.1
    have h2 := inB_true.1 h.2
    exact ⟨.inr (.inr h3), h1.1, h1.2, fun _ => by omega⟩
  · rw [if_neg h3] at h
    by_cases h12 : p.kind = 1 ∨ p.kind = 2
    · rw [if_pos h12, Bool.and_eq_true] at h
      have h1 := inB_true.1 h.1
      exact ⟨by omega, h1.1, h1.2, fun e => absurd e h3⟩
    · rw [if_neg h12] at h; cases h
/-- the parts of a task that may be -/
structure PartsGood (ps : List PartM) (res : Int) : Prop where
  len : 1 ≤ ps.length ∧ ps.length ≤ 6
  good : ∀ p ∈ ps, PartGood p res
theorem partsB_good {ps : List PartM} {res : Int} (h : partsB ps res = true) : PartsGood ps res := by
  unfold partsB at h
  rw [Bool.and_eq_true] at h
  have h1 := inB_true.1 h.1
  exact ⟨by omega, fun p hp => partB_good (List.all_eq_true.1 h.2 p hp)⟩
/-- a set that may be -/
structure Good (s : SetR) : Prop where
  proto : 1 ≤ s.proto ∧ s.proto ≤ 3
  ncores : 1 ≤ s.cores.length ∧ s.cores.length ≤ 3
  cores : ∀ n ∈ s.cores, 1 ≤ n ∧ n ≤ 3
  nhomes : s.homes.length ≤ 4
  homes : ∀ n ∈ s.homes, 0 ≤ n ∧ n ≤ (s.cores.length : Int) - 1
  ntasks : 1 ≤ s.tasks.length ∧ s.tasks.length ≤ 6
  parts : ∀ t ∈ s.tasks, PartsGood t.parts s.homes.length
  place : ∀ t ∈ s.tasks, 0 ≤ t.cl ∧ t.cl ≤ (s.cores.length : Int) - 1
  form : ∀ t ∈ s.tasks, formB t = true
  apart : ∀ k, k < s.tasks.length → takenB (s.tasks.take k) (s.tasks.getD k default) = false
theorem mem_getD {α : Type} [Inhabited α] {l : List α} {x : α} (h : x ∈ l) : ∃ k, k < l.length ∧ l.getD k default = x := by
  obtain ⟨k, hk, e⟩ := List.mem_iff_getElem.1 h
  exact ⟨k, hk, by simp [List.getD, hk, e]⟩
theorem getD_mem {α : Type} [Inhabited α] {l : List α} {k : Nat} (h : k < l.length) : l.getD k default ∈ l := by
  simp [List.getD, h]
theorem Good.of {s : SetR} (h : okS s = true) : Good s := by
  obtain ⟨hf, ht⟩ := (okS_iff s).1 h
  obtain ⟨f1, f2, f3, f4, f5, f6, f7⟩ := frameV_ok hf
  have g2 := inB_true.1 f2
  refine ⟨inB_true.1 f1, by omega, allB_at f3, f4, allB_at f5, ⟨f6, f7⟩, fun t hm => ?_, fun t hm => ?_, fun t hm => ?_, fun k hk => ?_⟩
  · obtain ⟨k, hk, rfl⟩ := mem_getD hm
    exact partsB_good (taskE_ok (ht k hk)).2.2.2
  · obtain ⟨k, hk, rfl⟩ := mem_getD hm
    exact inB_true.1 (taskE_ok (ht k hk)).2.1
  · obtain ⟨k, hk, rfl⟩ := mem_getD hm
    exact (taskE_ok (ht k hk)).1
  · exact (taskE_ok (ht k hk)).2.2.1

/-- the Lens of the parts of a kind -/
def sumK (k : Int) : List PartM → Int
  | [] => 0
  | p :: ps => (if p.kind = k then p.len else 0) + sumK k ps
theorem sumK_append (k : Int) (a b : List PartM) : sumK k (a ++ b) = sumK k a + sumK k b := by
  induction a with
  | nil => simp [sumK]
  | cons p a ih => simp only [List.cons_append, sumK, ih]; omega
theorem take_snocD {α : Type} [Inhabited α] (l : List α) (k : Nat) (h : k < l.length) : l.take (k + 1) = l.take k ++ [l.getD k default] := by
  rw [List.take_succ_eq_append_getElem h]; simp [List.getD, h]
theorem sumK_snoc (k : Int) (ps : List PartM) (n : Nat) (h : n < ps.length) : sumK k (ps.take (n + 1)) = sumK k (ps.take n) + if (ps.getD n default).kind = k then (ps.getD n default).len else 0 := by
  rw [take_snocD ps n h, sumK_append]; simp [sumK]
/-- Lens within their bounds -/
def LenOk (ps : List PartM) : Prop := ∀ p ∈ ps, 1 ≤ p.len ∧ p.len ≤ 60
theorem PartsGood.lens {ps : List PartM} {res : Int} (h : PartsGood ps res) : LenOk ps := fun p hp => ⟨(h.good p hp).2.1, (h.good p hp).2.2.1⟩
theorem LenOk.take {ps : List PartM} (h : LenOk ps) (n : Nat) : LenOk (ps.take n) := fun p hp => h p (List.mem_of_mem_take hp)
theorem sumK_bd (k : Int) {ps : List PartM} (h : LenOk ps) : 0 ≤ sumK k ps ∧ sumK k ps ≤ 60 * (ps.length : Int) := by
  induction ps with
  | nil => simp [sumK]
  | cons p ps ih =>
    have h1 := ih (fun q hq => h q (by simp [hq]))
    have h2 := h p (by simp)
    simp only [sumK, List.length_cons]
    split <;> omega
/-- the greatest Len of a Lock; 0: none -/
def maxL : List PartM → Int
  | [] => 0
  | p :: ps => max (if p.kind = 3 then p.len else 0) (maxL ps)
theorem maxL_nn (ps : List PartM) : 0 ≤ maxL ps := by
  induction ps with
  | nil => simp [maxL]
  | cons p a ih => simp only [maxL]; omega
theorem maxL_append (a b : List PartM) : maxL (a ++ b) = max (maxL a) (maxL b) := by
  induction a with
  | nil => have := maxL_nn b; simp [maxL]; omega
  | cons p a ih => simp only [List.cons_append, maxL, ih]; omega
theorem maxL_snoc (ps : List PartM) (n : Nat) (h : n < ps.length) : maxL (ps.take (n + 1)) = max (maxL (ps.take n)) (if (ps.getD n default).kind = 3 then (ps.getD n default).len else 0) := by
  rw [take_snocD ps n h, maxL_append]
  have := maxL_nn (ps.take n)
  simp only [maxL]; split <;> omega
theorem maxL_bd {ps : List PartM} (h : LenOk ps) : maxL ps ≤ 60 := by
  induction ps with
  | nil => simp [maxL]
  | cons p ps ih =>
    have h1 := ih (fun q hq => h q (by simp [hq]))
    have h2 := h p (by simp)
    simp only [maxL]
    split <;> omega
theorem maxL_le_sum {ps : List PartM} (h : LenOk ps) : maxL ps ≤ sumK 3 ps := by
  induction ps with
  | nil => simp [maxL, sumK]
  | cons p ps ih =>
    have h1 := ih (fun q hq => h q (by simp [hq]))
    have h2 := h p (by simp)
    have h3 := sumK_bd 3 (ps := ps) (fun q hq => h q (by simp [hq]))
    have h4 := maxL_nn ps
    simp only [maxL, sumK]
    split <;> omega
theorem sum_le_maxL {ps : List PartM} (h : LenOk ps) (h0 : maxL ps = 0) : sumK 3 ps = 0 := by
  induction ps with
  | nil => simp [sumK]
  | cons p ps ih =>
    have h2 := h p (by simp)
    have h4 := maxL_nn ps
    simp only [maxL] at h0
    have h1 := ih (fun q hq => h q (by simp [hq])) (by omega)
    simp only [sumK]
    split
    · rename_i e; rw [if_pos e] at h0; omega
    · omega
end Go.Proofs.YtlmdiechnidghaaGreat

namespace Go.Proofs.YtlmdiechnidghaaGreat
open Go.ChangeShapes Go.WideShapes Go.ChangeAt Go.RowKit Go.Conc
set_option linter.unusedVariables false
set_option linter.unusedSimpArgs false
/-- the plain locks of a set, of which nothing is asked for -/
def lsNew (s : SetR) : Ls := ⟨s.proto, s.tasks.map TaskR.prio, s.tasks.map TaskR.cl, s.cores, s.homes, [], 0⟩
def askNew (t : TaskR) : AskM := ⟨t.prio, t.cl, false, false, 0, 0⟩
structure NewM (m : LkM) (p : Int) (ks : List Nat) (al : List AskM) (cl : List Int) : Prop where
  proto : m.proto = p
  ks : m.ks = ks
  fr : ∀ c, m.fr c = true
  ask : m.ask = al
  ds : m.ds.length = cl.length ∧ ∀ c, c < m.ds.length → (m.ds.getD c default).cores = cl.getD c 0 ∧ (m.ds.getD c default).outs = [] ∧ (m.ds.getD c default).ins = []
  R : m.R = 6
  P : m.P = 0
  l : m.l = []
  pl : m.places = 0
theorem NewM.first (p : Int) (ks : List Nat) (Ak : Option Addr) (ck b : Nat) : NewM (LkM.new p ks Ak ck b) p ks [] [] := ⟨rfl, rfl, fun _ => rfl, rfl, ⟨rfl, fun c hc => absurd hc (by simp [LkM.new])⟩, rfl, rfl, rfl, rfl⟩
theorem NewM.addA {m : LkM} {p : Int} {ks : List Nat} {al : List AskM} {cl : List Int} (h : NewM m p ks al cl) (x : AskM) (A : Option Addr) (c : Nat) : NewM (m.addA x A c) p ks (al ++ [x]) cl :=
  ⟨h.proto, h.ks, h.fr, by show m.ask ++ [x] = _; rw [h.ask], h.ds, h.R, h.P, h.l, h.pl⟩
theorem NewM.addD {m : LkM} {p : Int} {ks : List Nat} {al : List AskM} {cl : List Int} (h : NewM m p ks al cl) (n : Int) (g l : Nat) (F : List Nat) (A : Option Addr) (c : Nat) : NewM (m.addD ⟨n, [], [], g, l⟩ F A c) p ks al (cl ++ [n]) := by
  refine ⟨h.proto, h.ks, h.fr, h.ask, ⟨?_, fun i hi => ?_⟩, h.R, h.P, h.l, h.pl⟩
  · show (m.ds ++ [_]).length = _
    rw [List.length_append, List.length_append, h.ds.1]; rfl
  · have hi : i < (m.ds ++ [(⟨n, [], [], g, l⟩ : DrM)]).length := hi
    rw [List.length_append, List.length_singleton] at hi
    show ((m.ds ++ [(⟨n, [], [], g, l⟩ : DrM)]).getD i default).cores = _ ∧ ((m.ds ++ [(⟨n, [], [], g, l⟩ : DrM)]).getD i default).outs = _ ∧ ((m.ds ++ [(⟨n, [], [], g, l⟩ : DrM)]).getD i default).ins = _
    rcases Nat.lt_succ_iff_lt_or_eq.1 hi with h1 | rfl
    · have e : (m.ds ++ [(⟨n, [], [], g, l⟩ : DrM)]).getD i default = m.ds.getD i default := by simp [List.getD, List.getElem?_append_left h1]
      have e2 : (cl ++ [n]).getD i 0 = cl.getD i 0 := by simp [List.getD, List.getElem?_append_left (show i < cl.length by rw [← h.ds.1]; exact h1)]
      rw [e, e2]
      exact h.ds.2 i h1
    · have e : (m.ds ++ [(⟨n, [], [], g, l⟩ : DrM)]).getD m.ds.length default = ⟨n, [], [], g, l⟩ := by simp [List.getD]
      have e2 : (cl ++ [n]).getD m.ds.length 0 = n := by rw [h.ds.1]; simp [List.getD]
      rw [e, e2]
      exact ⟨rfl, rfl, rfl⟩
theorem NewM.rel {m : LkM} {s : SetR} {ks : List Nat} (h : NewM m s.proto ks (s.tasks.map askNew) s.cores) (hk : KeysAre s.proto s.homes ks s.homes.length) (ht : s.tasks.length ≤ 6) : LkR0 m (lsNew s) ∧ LkRD m.ds (lsNew s) := by
  refine ⟨⟨h.proto, ?_, ?_, fun i hi => ?_, fun r q hr hq => ?_, fun r hr => ?_, ?_, h.P, ?_, fun _ => h.pl, ?_⟩, ⟨h.ds.1, fun c hc => ?_⟩⟩
  · rw [h.ask]; simp [lsNew]
  · rw [h.ks]; exact hk.1
  · rw [h.ask] at hi ⊢
    have hi' : i < s.tasks.length := by simpa using hi
    simp [askOf, Ls.get, lsNew, Ls.pri, Ls.cls, List.getD, hi', askNew]
  · rw [h.ks] at hr hq ⊢
    rw [hk.1] at hr hq
    rw [hk.2 r q hr hq]
    simp only [sameK, lsNew, Ls.home, Bool.or_eq_true, Bool.and_eq_true, beq_iff_eq, Int.toNat_natCast]
    constructor
    · rintro (rfl | h1)
      · exact .inl rfl
      · exact .inr h1
    · rintro (h1 | h1)
      · exact .inl (by omega)
      · exact .inr h1
  · rw [h.fr]; simp [heldS, lsNew]
  · rw [h.R]; simp [lsNew]; omega
  · rw [h.l]; simp [waitG, lsNew]
  · rw [h.pl]; exact ⟨Int.le_refl _, Int.le_refl _⟩
  · obtain ⟨h1, h2, h3⟩ := h.ds.2 c hc
    refine ⟨h1, ?_, fun _ => ?_, fun _ => h3⟩
    · rw [h2]; simp [outsS, lsNew]
    · rw [h3]; simp [insS, lsNew]
def NewP (s : SetR) (w : World) (e : Ending) (w' : World) : Prop := ∃ bl cs m, e = .returned (.pointer (some ⟨bl, 0, none⟩)) ∧ Lk w' bl 0 67 cs m ∧ w.heap.size ≤ bl ∧ (∀ k ∈ fpm m, w.heap.size ≤ k) ∧ Below w.heap.size w w' ∧ LkR0 m (lsNew s) ∧ LkRD m.ds (lsNew s)
def setB (s : SetR) : Array Value := #[.int .i64 s.proto, .slice s.ca s.cores.length s.cc, .slice s.ha s.homes.length s.hc, .slice s.ta s.tasks.length s.tc]
set_option maxHeartbeats 4000000 in
set_option maxRecDepth 100000 in
theorem lnew_any {w : World} (s : SetR) (hs : SetOk w s) (ho : okS s = true) : Calls Tryz.prog 10 #[.agg #[.int .i64 s.proto, .slice s.ca s.cores.length s.cc, .slice s.ha s.homes.length s.hc, .slice s.ta s.tasks.length s.tc]] w (NewP s w) := by
  have he : chkE s = 0 := by simpa [okS] using ho
  have hg := hidp (Good.of ho)
  have hb := (Below.refl w.heap.size w).alloc (Nat.le_refl _) (.cells #[.int .i64 s.proto, .slice s.ca s.cores.length s.cc, .slice s.ha s.homes.length s.hc, .slice s.ta s.tasks.length s.tc] 25)
  have HB := hidp hb
  have BK := hidp (Bk.new w 25 (setB s))
  have HS := hidp (hs.keep (Keeps.of_below hb))
  have HSW := hidp hs
  have CC := check_any s _ HS.out
  rw [he] at CC
  obtain ⟨ca0, hca⟩ : ∃ x, chkAt s = x := ⟨_, rfl⟩
  rw [hca] at CC
  obtain ⟨i0, hi0, hz0, hz1, hz2⟩ := info_parts infoAsk
  obtain ⟨j0, hj0, hy0, hy1, hy2⟩ := info_parts infoDoor
  clear hca hs hb ho he
  have h1 := hg.out.ncores.2
  have h2 := hg.out.nhomes
  have h3 := hg.out.ntasks.2
  have HFin : Hid (∀ (bl : Nat) (cs : Array Value) (m : LkM) (ks : List Nat) (w' : World), KeysAre s.proto s.homes ks s.homes.length → Lk w' bl 0 67 cs m → NewM m s.proto ks (s.tasks.map askNew) s.cores → w.heap.size ≤ bl → (∀ k ∈ fpm m, w.heap.size ≤ k) → Below w.heap.size w w' → NewP s w (.returned (.pointer (some ⟨bl, 0, none⟩))) w') :=
    hidp fun bl cs m ks w' hk hl hm hbl hf hbw => ⟨bl, cs, m, rfl, hl, hbl, hf, hbw, (hm.rel hk h3).1, (hm.rel hk h3).2⟩
  obtain ⟨S, hS⟩ : ∃ S, S = s := ⟨_, rfl⟩
  have HSS := hidp hS
  clear hS
  obtain ⟨proto, ca, cc, cores, ha, hc, homes, ta, tc, tasks⟩ := s
  dsimp only at *
  go_enter Tryz.func10, Tryz.ntmps10
  go_wp2_with fail
  refine CC.mono ?_
  rintro e w2 ⟨rfl, hb2⟩
  have HB2 := hidp (HB.out.trans (hb2.mono HB.out.size))
  have BK2 := hidp (BK.out.turned (Turned.of_below hb2 []) (by simp))
  have HS2 := hidp (HS.out.keep (Keeps.of_below hb2))
  have c0 : w2.cell? ⟨w.heap.size, 0, none⟩ = some (.int .i64 proto) := BK2.out.cell 0
  have c1 : w2.cell? ⟨w.heap.size, 1, none⟩ = some (.slice ca cores.length cc) := BK2.out.cell 1
  have c2 : w2.cell? ⟨w.heap.size, 2, none⟩ = some (.slice ha homes.length hc) := BK2.out.cell 2
  have c3 : w2.cell? ⟨w.heap.size, 3, none⟩ = some (.slice ta tasks.length tc) := BK2.out.cell 3
  have hs : w2.drew.cell? ⟨w.heap.size, 0, none⟩ = some (.int .i64 proto) ∧ w2.drew.cell? ⟨w.heap.size, 1, none⟩ = some (.slice ca cores.length cc) ∧ w2.drew.cell? ⟨w.heap.size, 2, none⟩ = some (.slice ha homes.length hc) ∧ w2.drew.cell? ⟨w.heap.size, 3, none⟩ = some (.slice ta tasks.length tc) := ⟨c0, c1, c2, c3⟩
  clear hb2 c0 c1 c2 c3
  go_wp2_with fail
  refine wp_region_held_drew (S := fun w' => w'.cell? ⟨w.heap.size, 0, none⟩ = some (.int .i64 proto) ∧ w'.cell? ⟨w.heap.size, 1, none⟩ = some (.slice ca cores.length cc) ∧ w'.cell? ⟨w.heap.size, 2, none⟩ = some (.slice ha homes.length hc) ∧ w'.cell? ⟨w.heap.size, 3, none⟩ = some (.slice ta tasks.length tc)) (by kernel_rfl) ?_ (fun hHeld => ?_)
  · exact hs
  refine wpAnyH_take (i := 0) (v := ?_) rfl (by kernel_rfl) (by kernel_rfl) (by kernel_rfl) (fun _ _ _ h => h) (Or.inl ⟨by rfl, ?_⟩) (by assumption) ?_
  rotate_left 1
  · ((intro w hSw; (try dsimp only at hSw); go_simp); (try with_reducible rfl))
  simp only [Act.put, List.setIfInBounds_toArray, List.set_cons_zero, List.set_cons_succ, List.getElem_toArray, List.getElem_cons_zero, List.getElem_cons_succ]
  refine wpAnyH_take (i := 1) (v := ?_) rfl (by kernel_rfl) (by kernel_rfl) (by kernel_rfl) (fun _ _ _ h => h) (Or.inl ⟨by rfl, ?_⟩) (by assumption) ?_
  rotate_left 1
  · ((intro w hSw; (try dsimp only at hSw); go_simp); (try with_reducible rfl))
  simp only [Act.put, List.setIfInBounds_toArray, List.set_cons_zero, List.set_cons_succ, List.getElem_toArray, List.getElem_cons_zero, List.getElem_cons_succ]
  refine wpAnyH_take (i := 2) (v := ?_) rfl (by kernel_rfl) (by kernel_rfl) (by kernel_rfl) (fun _ _ _ h => h) (Or.inl ⟨by rfl, ?_⟩) (by assumption) ?_
  rotate_left 1
  · ((intro w hSw; (try dsimp only at hSw); go_simp); (try with_reducible rfl))
  simp only [Act.put, List.setIfInBounds_toArray, List.set_cons_zero, List.set_cons_succ, List.getElem_toArray, List.getElem_cons_zero, List.getElem_cons_succ]
  refine wpAnyH_ready (rs := [3]) (by kernel_rfl) (by simp) ?_
  refine AllReadyH.cons rfl (fun K hK => ?_) AllReadyH.nil
  go_simp
  refine (keys_any ⟨proto, ca, cc, cores, ha, hc, homes, ta, tc, tasks⟩ (HS2.out.keep (Keeps.of_below (Below.refl _ _).drew)) h1 h2 (fun h hh => by have := hg.out.homes h hh; dsimp only at this ⊢; omega)).mono ?_
  rintro e v ⟨Ak, nk, ck, ks, rfl, hK, hKA, hbv⟩
  have HBV := hidp hbv
  have HK := hidp hK
  have HKA := hidp hKA
  have hd := (Below.refl w2.heap.size w2).drew
  have HDV := hidp (hd.trans hbv)
  have hsv : v.cell? ⟨w.heap.size, 0, none⟩ = some (.int .i64 proto) ∧ v.cell? ⟨w.heap.size, 1, none⟩ = some (.slice ca cores.length cc) ∧ v.cell? ⟨w.heap.size, 2, none⟩ = some (.slice ha homes.length hc) ∧ v.cell? ⟨w.heap.size, 3, none⟩ = some (.slice ta tasks.length tc) := ⟨Keeps.of_below hbv _ _ hs.1, Keeps.of_below hbv _ _ hs.2.1, Keeps.of_below hbv _ _ hs.2.2.1, Keeps.of_below hbv _ _ hs.2.2.2⟩
  clear hK hKA hbv hd hs hHeld
  refine hK.out _ _ ?_ (fun hHeld => ?_)
  · exact hsv
  clear hK K
  try simp only [Act.put, List.setIfInBounds_toArray, List.set_cons_zero, List.set_cons_succ, List.getElem_toArray, List.getElem_cons_zero, List.getElem_cons_succ]
  refine wpAnyH_ready (rs := [4]) (by kernel_rfl) (by simp) ?_
  refine AllReadyH.cons rfl (fun K hK => ?_) AllReadyH.nil
  go_simp
  have CR := rnew_any 6 v (by unfold I64; omega)
  have e6 : roomR 6 = 6 := by decide
  rw [e6] at CR
  refine CR.mono ?_
  rintro e v2 ⟨rfl, rfl⟩
  have kr := Keeps.alloc v (.cells #[.int .i64 6, .int .i64 0, .slice none 0 0] 65)
  have hsr : (v.alloc (.cells #[.int .i64 6, .int .i64 0, .slice none 0 0] 65)).cell? ⟨w.heap.size, 0, none⟩ = some (.int .i64 proto) ∧ (v.alloc (.cells #[.int .i64 6, .int .i64 0, .slice none 0 0] 65)).cell? ⟨w.heap.size, 1, none⟩ = some (.slice ca cores.length cc) ∧ (v.alloc (.cells #[.int .i64 6, .int .i64 0, .slice none 0 0] 65)).cell? ⟨w.heap.size, 2, none⟩ = some (.slice ha homes.length hc) ∧ (v.alloc (.cells #[.int .i64 6, .int .i64 0, .slice none 0 0] 65)).cell? ⟨w.heap.size, 3, none⟩ = some (.slice ta tasks.length tc) := ⟨kr _ _ hsv.1, kr _ _ hsv.2.1, kr _ _ hsv.2.2.1, kr _ _ hsv.2.2.2⟩
  have bkr := Bk.new v 65 #[.int .i64 6, .int .i64 0, .slice none 0 0]
  have r0 : (v.alloc (.cells #[.int .i64 6, .int .i64 0, .slice none 0 0] 65)).cell? ⟨v.heap.size, 0, none⟩ = some (.int .i64 6) := bkr.cell 0
  have r1 : (v.alloc (.cells #[.int .i64 6, .int .i64 0, .slice none 0 0] 65)).cell? ⟨v.heap.size, 1, none⟩ = some (.int .i64 0) := bkr.cell 1
  have r2 : (v.alloc (.cells #[.int .i64 6, .int .i64 0, .slice none 0 0] 65)).cell? ⟨v.heap.size, 2, none⟩ = some (.slice none 0 0) := bkr.cell 2
  clear bkr CR e6 hsv kr
  refine hK.out _ _ ?_ (fun hHeld => ?_)
  · exact hsr
  clear hK K
  try simp only [Act.put, List.setIfInBounds_toArray, List.set_cons_zero, List.set_cons_succ, List.getElem_toArray, List.getElem_cons_zero, List.getElem_cons_succ]
  refine wpAnyH_mono (S' := fun w' => (w'.cell? ⟨w.heap.size, 0, none⟩ = some (.int .i64 proto) ∧ w'.cell? ⟨w.heap.size, 1, none⟩ = some (.slice ca cores.length cc) ∧ w'.cell? ⟨w.heap.size, 2, none⟩ = some (.slice ha homes.length hc) ∧ w'.cell? ⟨w.heap.size, 3, none⟩ = some (.slice ta tasks.length tc)) ∧ w'.cell? ⟨v.heap.size, 0, none⟩ = some (.int .i64 6) ∧ w'.cell? ⟨v.heap.size, 1, none⟩ = some (.int .i64 0) ∧ w'.cell? ⟨v.heap.size, 2, none⟩ = some (.slice none 0 0)) (fun _ h => h.1) _ _ _ _ ?_
  have hHeld2 := And.intro hsr (And.intro r0 (And.intro r1 r2))
  refine wpAnyH_take (i := 5) (v := ?_) rfl (by kernel_rfl) (by kernel_rfl) (by kernel_rfl) (fun _ _ _ h => h) (Or.inl ⟨by rfl, ?_⟩) (by assumption) ?_
  rotate_left 1
  · ((intro w hSw; (try dsimp only at hSw); go_simp); (try with_reducible rfl))
  simp only [Act.put, List.setIfInBounds_toArray, List.set_cons_zero, List.set_cons_succ, List.getElem_toArray, List.getElem_cons_zero, List.getElem_cons_succ]
  refine wpAnyH_take (i := 6) (v := ?_) rfl (by kernel_rfl) (by kernel_rfl) (by kernel_rfl) (fun _ _ _ h => h) (Or.inl ⟨by rfl, ?_⟩) (by assumption) ?_
  rotate_left 1
  · ((intro w hSw; (try dsimp only at hSw); go_simp); (try with_reducible rfl))
  simp only [Act.put, List.setIfInBounds_toArray, List.set_cons_zero, List.set_cons_succ, List.getElem_toArray, List.getElem_cons_zero, List.getElem_cons_succ]
  refine wpAnyH_take (i := 7) (v := ?_) rfl (by kernel_rfl) (by kernel_rfl) (by kernel_rfl) (fun _ _ _ h => h) (Or.inl ⟨by rfl, ?_⟩) (by assumption) ?_
  rotate_left 1
  · ((intro w hSw; (try dsimp only at hSw); go_simp); (try with_reducible rfl))
  simp only [Act.put, List.setIfInBounds_toArray, List.set_cons_zero, List.set_cons_succ, List.getElem_toArray, List.getElem_cons_zero, List.getElem_cons_succ]
  refine wpAnyH_ready (rs := [8]) (by kernel_rfl) (by simp) ?_
  refine AllReadyH.cons rfl (fun K hK => ?_) AllReadyH.nil
  go_simp
  have kl := Keeps.alloc (v.alloc (.cells #[.int .i64 6, .int .i64 0, .slice none 0 0] 65)) (.cells #[.int .i64 proto, .slice none 0 0, .slice Ak nk ck, .slice none 0 0, .int .i64 6, .int .i64 0, .slice none 0 0, .int .i64 0] 67)
  have hs3 := And.intro (And.intro (kl _ _ hsr.1) (And.intro (kl _ _ hsr.2.1) (And.intro (kl _ _ hsr.2.2.1) (kl _ _ hsr.2.2.2)))) (And.intro (kl _ _ r0) (And.intro (kl _ _ r1) (kl _ _ r2)))
  refine hK.out _ _ ?_ (fun hHeld => ?_)
  · exact hs3
  clear hK K
  try simp only [Act.put, List.setIfInBounds_toArray, List.set_cons_zero, List.set_cons_succ, List.getElem_toArray, List.getElem_cons_zero, List.getElem_cons_succ]
  refine wpAnyH_take (i := 9) (v := ?_) rfl (by kernel_rfl) (by kernel_rfl) (by kernel_rfl) (fun _ _ _ h => h) (Or.inl ⟨by rfl, ?_⟩) (by assumption) ?_
  rotate_left 1
  · ((intro w hSw; (try dsimp only at hSw); go_simp); (try with_reducible rfl))
  simp only [Act.put, List.setIfInBounds_toArray, List.set_cons_zero, List.set_cons_succ, List.getElem_toArray, List.getElem_cons_zero, List.getElem_cons_succ]
  refine wpAnyH_done (by kernel_rfl) ?_ _
  have T3 := hidp ((((Below.refl v.heap.size v).alloc (Nat.le_refl _) (.cells #[.int .i64 6, .int .i64 0, .slice none 0 0] 65)).alloc (by simp) (.cells #[.int .i64 proto, .slice none 0 0, .slice Ak nk ck, .slice none 0 0, .int .i64 6, .int .i64 0, .slice none 0 0, .int .i64 0] 67)))
  have eb : (v.alloc (.cells #[.int .i64 6, .int .i64 0, .slice none 0 0] 65)).heap.size = v.heap.size + 1 := by simp
  have bkl := Bk.new (v.alloc (.cells #[.int .i64 6, .int .i64 0, .slice none 0 0] 65)) 67 #[.int .i64 proto, .slice none 0 0, .slice Ak nk ck, .slice none 0 0, .int .i64 6, .int .i64 0, .slice none 0 0, .int .i64 0]
  rw [eb] at bkl
  have BKL := hidp bkl
  obtain ⟨x, hx⟩ : ∃ x, (v.alloc (.cells #[.int .i64 6, .int .i64 0, .slice none 0 0] 65)).alloc (.cells #[.int .i64 proto, .slice none 0 0, .slice Ak nk ck, .slice none 0 0, .int .i64 6, .int .i64 0, .slice none 0 0, .int .i64 0] 67) = x := ⟨_, rfl⟩
  rw [hx] at T3 BKL hs3 ⊢
  obtain ⟨bl, hbl⟩ : ∃ bl, v.heap.size + 1 = bl := ⟨_, rfl⟩
  rw [hbl] at BKL ⊢
  have HBL := hidp hbl
  clear hx hbl bkl eb kl hsr r0 r1 r2 hHeld2
  have g3 := hs3.1.2.2.2
  have g1 := hs3.1.2.1
  have hkA : ∀ k ∈ fp Ak, w2.heap.size ≤ k ∧ k < v.heap.size := fun k hk => own_fp HK.out.own k hk
  have hkK : ∀ k ∈ ks, w2.heap.size ≤ k ∧ k < v.heap.size := fun k hk => ⟨(HK.out.keys k hk).2.1, (HK.out.keys k hk).1.lt⟩
  have hw2 := BK2.out.lt
  have hlk := hidp (Lk.first BKL.out (HK.out.over T3.out) (fun hm => by have := hkA _ hm; have := HBL.out; omega) (fun hm => by have := hkK _ hm; have := HBL.out; omega))
  have hbl0 : Hid (w.heap.size < bl) := hidp (by have := HBL.out; have := HDV.out.size; omega)
  have hfm : Hid (∀ k ∈ fpm (LkM.new proto ks Ak ck bl), w.heap.size < k) := hidp (fun k hk => by
    rcases mem_fpm.1 hk with h1 | h1 | h1 | h1 | h1 | ⟨i, hi, h1⟩
    · exact absurd h1 (by simp [LkM.new, fp])
    · have := hkA k h1; omega
    · have := hkK k h1; omega
    · exact absurd h1 (by simp [LkM.new, fp])
    · exact absurd h1 (by simp [LkM.new, fp])
    · exact absurd hi (by simp [LkM.new]))
  have HX := hidp (HB2.out.trans ((HDV.out.trans (T3.out.mono HDV.out.size)).mono HB2.out.size))
  have BKX := hidp (BK2.out.turned ((Turned.of_below (HDV.out.trans (T3.out.mono HDV.out.size)) [])) (by simp))
  have HSx2 := hidp HSW.out.tasks.at_
  have HSx3 := hidp HSW.out.cores.at_
  have HOk := hidp HSW.out.tasks.ok
  clear hkA hkK hw2 T3 hs3
  go_wp2
  go_loopg [31] tasks.length (fun g i wr => ∃ (k : Nat) (cs : Array Value) (m : LkM), k + g = tasks.length ∧ i = .int .i64 k ∧ Hid (Lk wr bl 0 67 cs m) ∧ Hid (NewM m proto ks ((tasks.take k).map askNew) []) ∧ Hid (∀ j ∈ fpm m, w.heap.size < j) ∧ Hid (Bk wr w.heap.size 25 (setB ⟨proto, ca, cc, cores, ha, hc, homes, ta, tc, tasks⟩)) ∧ Below w.heap.size w wr)
  case atStart => exact ⟨0, _, _, by omega, rfl, hlk, hidp (NewM.first _ _ _ _ _), hfm, BKX, HX.out⟩
  case round =>
    obtain ⟨k, cs, m, hk, rfl, L, NM, FM, BKr, hbw⟩ := hrel
    by_cases hlt : k < tasks.length
    · obtain ⟨g, off, hA, hcl⟩ := HSx2.out.resolve_left (by intro e; rw [e] at hlt; simp at hlt)
      subst hA
      obtain ⟨t, HT⟩ : ∃ t, Hid (tasks.getD k default = t) := ⟨_, rfl⟩
      have tcl := (HT.out ▸ hcl k hlt).keep (Keeps.of_below hbw)
      have hm : t ∈ tasks := HT.out ▸ getD_mem hlt
      have hpw : Hid (I64 t.prio ∧ I64 t.cl) := hidp ⟨(HOk.out t hm).prio, (HOk.out t hm).cl⟩
      have Hs : Hid ((tasks.take (k + 1)).map askNew = (tasks.take k).map askNew ++ [askNew t]) := hidp (by
        rw [take_snocD tasks k hlt, List.map_append, HT.out]; rfl)
      have hd3 : decide (tasks.length ≤ k) = false := decide_eq_false (by omega)
      clear hcl hm
      obtain ⟨d0, d1, d2, d3, d4, d5⟩ := tcl
      have HBW := hidp hbw
      have L1 := hidp (L.out.over ((Below.refl wr.heap.size wr).alloc (Nat.le_refl _) (.cells #[.string t.name, .int .i64 t.per, .int .i64 t.dl, .int .i64 t.prio, .int .i64 t.cl, .slice t.pa t.parts.length t.pc] 57)))
      have BT := hidp (Bk.new wr 57 #[.string t.name, .int .i64 t.per, .int .i64 t.dl, .int .i64 t.prio, .int .i64 t.cl, .slice t.pa t.parts.length t.pc])
      have BKr1 := hidp (BKr.out.alloc (.cells #[.string t.name, .int .i64 t.per, .int .i64 t.dl, .int .i64 t.prio, .int .i64 t.cl, .slice t.pa t.parts.length t.pc] 57))
      have B1 := hidp (hbw.alloc hbw.size (.cells #[.string t.name, .int .i64 t.per, .int .i64 t.dl, .int .i64 t.prio, .int .i64 t.cl, .slice t.pa t.parts.length t.pc] 57))
      have hlen : Hid (m.ask.length = k) := hidp (by rw [NM.out.ask]; simp; omega)
      have cA := (L1.out.blk.cell 1).trans L1.out.c1
      rw [hlen.out] at cA
      have hown := L1.out.askers
      rw [hlen.out] at hown
      obtain ⟨A, hAa⟩ : ∃ A, m.Aa = A := ⟨_, rfl⟩
      obtain ⟨c, hca⟩ : ∃ c, m.ca = c := ⟨_, rfl⟩
      rw [hAa, hca] at cA hown
      have HAa := hidp hAa
      have Hca := hidp hca
      have HO := hidp hown
      clear hbw hAa hca hown
      have hs : (wr.alloc (.cells #[.string t.name, .int .i64 t.per, .int .i64 t.dl, .int .i64 t.prio, .int .i64 t.cl, .slice t.pa t.parts.length t.pc] 57)).drew.cell? ⟨bl, 1, none⟩ = some (.slice A k c) ∧ (wr.alloc (.cells #[.string t.name, .int .i64 t.per, .int .i64 t.dl, .int .i64 t.prio, .int .i64 t.cl, .slice t.pa t.parts.length t.pc] 57)).drew.cell? ⟨wr.heap.size, 3, none⟩ = some (.int .i64 t.prio) ∧ (wr.alloc (.cells #[.string t.name, .int .i64 t.per, .int .i64 t.dl, .int .i64 t.prio, .int .i64 t.cl, .slice t.pa t.parts.length t.pc] 57)).drew.cell? ⟨wr.heap.size, 4, none⟩ = some (.int .i64 t.cl) := ⟨cA, BT.out.cell 3, BT.out.cell 4⟩
      clear cA
      go_wp2_with fail
      refine wp_region_c_drew 14 (S := fun w' => w'.cell? ⟨bl, 1, none⟩ = some (.slice A k c) ∧ w'.cell? ⟨wr.heap.size, 3, none⟩ = some (.int .i64 t.prio) ∧ w'.cell? ⟨wr.heap.size, 4, none⟩ = some (.int .i64 t.cl)) (by kernel_rfl) ?_ (fun hHeld => ?_)
      · exact hs
      have U1 := hidp ((Below.refl (wr.alloc (.cells #[.string t.name, .int .i64 t.per, .int .i64 t.dl, .int .i64 t.prio, .int .i64 t.cl, .slice t.pa t.parts.length t.pc] 57)).heap.size (wr.alloc (.cells #[.string t.name, .int .i64 t.per, .int .i64 t.dl, .int .i64 t.prio, .int .i64 t.cl, .slice t.pa t.parts.length t.pc] 57))).drew)
      have W1 := hidp (((Below.refl wr.heap.size wr).alloc (Nat.le_refl _) (.cells #[.string t.name, .int .i64 t.per, .int .i64 t.dl, .int .i64 t.prio, .int .i64 t.cl, .slice t.pa t.parts.length t.pc] 57)).drew)
      obtain ⟨u0, hu0⟩ : ∃ u0, wr.alloc (.cells #[.string t.name, .int .i64 t.per, .int .i64 t.dl, .int .i64 t.prio, .int .i64 t.cl, .slice t.pa t.parts.length t.pc] 57) = u0 := ⟨_, rfl⟩
      rw [hu0] at U1 W1 hs L1 BT BKr1 B1 HO ⊢
      obtain ⟨u, hu⟩ : ∃ u, u0.drew = u := ⟨_, rfl⟩
      rw [hu] at hs U1 W1 ⊢
      have hwu : Hid (wr.heap.size < u.heap.size) := hidp (by have := BT.out.lt; have := U1.out.size; omega)
      have BTu := hidp (BT.out.turned (Turned.of_below U1.out []) (by simp))
      have LU := hidp (L1.out.over U1.out)
      have hal := (Below.refl u.heap.size u).alloc (Nat.le_refl _) (.cells #[.int .i64 t.prio, .int .i64 t.cl, .bool false, .bool false, .int .i64 0, .int .i64 0] 72)
      have LU2 := hidp (LU.out.over hal)
      have ka := Keeps.of_below hal
      have hs1 : (u.alloc (.cells #[.int .i64 t.prio, .int .i64 t.cl, .bool false, .bool false, .int .i64 0, .int .i64 0] 72)).cell? ⟨bl, 1, none⟩ = some (.slice A k c) ∧ (u.alloc (.cells #[.int .i64 t.prio, .int .i64 t.cl, .bool false, .bool false, .int .i64 0, .int .i64 0] 72)).cell? ⟨wr.heap.size, 3, none⟩ = some (.int .i64 t.prio) ∧ (u.alloc (.cells #[.int .i64 t.prio, .int .i64 t.cl, .bool false, .bool false, .int .i64 0, .int .i64 0] 72)).cell? ⟨wr.heap.size, 4, none⟩ = some (.int .i64 t.cl) := ⟨ka _ _ hs.1, ka _ _ hs.2.1, ka _ _ hs.2.2⟩
      have oo := own_turned (own_turned HO.out.own (Turned.of_below U1.out []) (by simp)) (Turned.of_below hal []) (by simp)
      have S2 := hidp (new_lies u [.int .i64 t.prio, .int .i64 t.cl, .bool false, .bool false, .int .i64 0, .int .i64 0] 72)
      have O2 : Hid (∀ uu ∈ [Value.int .i64 t.prio, .int .i64 t.cl, .bool false, .bool false, .int .i64 0, .int .i64 0], uu.oneCell' = true) := hidp (by simp; exact ⟨rfl, rfl, rfl, rfl⟩)
      have N2 : Hid (k + 1 ≤ maxLen) := hidp (by unfold maxLen; omega)
      have T2 : Hid ((k + 1) * 40 ≤ 140737488355328) := hidp (by omega)
      have HAL := hidp hal
      clear hu hu0 hal ka
      refine wpAnyC_take (i := 0) (v := ?_) rfl rfl (by kernel_rfl) (by decide) (by kernel_rfl) (by kernel_rfl) (by kernel_rfl) (fun _ _ _ h => h) (Or.inl ⟨by rfl, ?_⟩) (by assumption) ?_
      rotate_left 1
      · ((intro w hSw; (try dsimp only at hSw); go_simp); (try with_reducible rfl))
      simp only [Act.put, List.setIfInBounds_toArray, List.set_cons_zero, List.set_cons_succ, List.getElem_toArray, List.getElem_cons_zero, List.getElem_cons_succ]
      refine wpAnyC_take (i := 1) (v := ?_) rfl rfl (by kernel_rfl) (by decide) (by kernel_rfl) (by kernel_rfl) (by kernel_rfl) (fun _ _ _ h => h) (Or.inl ⟨by rfl, ?_⟩) (by assumption) ?_
      rotate_left 1
      · ((intro w hSw; (try dsimp only at hSw); go_simp); (try with_reducible rfl))
      simp only [Act.put, List.setIfInBounds_toArray, List.set_cons_zero, List.set_cons_succ, List.getElem_toArray, List.getElem_cons_zero, List.getElem_cons_succ]
      refine wpAnyC_take (i := 2) (v := ?_) rfl rfl (by kernel_rfl) (by decide) (by kernel_rfl) (by kernel_rfl) (by kernel_rfl) (fun _ _ _ h => h) (Or.inl ⟨by rfl, ?_⟩) (by assumption) ?_
      rotate_left 1
      · ((intro w hSw; (try dsimp only at hSw); go_simp); (try with_reducible rfl))
      simp only [Act.put, List.setIfInBounds_toArray, List.set_cons_zero, List.set_cons_succ, List.getElem_toArray, List.getElem_cons_zero, List.getElem_cons_succ]
      refine wpAnyC_take (i := 3) (v := ?_) rfl rfl (by kernel_rfl) (by decide) (by kernel_rfl) (by kernel_rfl) (by kernel_rfl) (fun _ _ _ h => h) (Or.inl ⟨by rfl, ?_⟩) (by assumption) ?_
      rotate_left 1
      · ((intro w hSw; (try dsimp only at hSw); go_simp); (try with_reducible rfl))
      simp only [Act.put, List.setIfInBounds_toArray, List.set_cons_zero, List.set_cons_succ, List.getElem_toArray, List.getElem_cons_zero, List.getElem_cons_succ]
      refine wpAnyC_take (i := 4) (v := ?_) rfl rfl (by kernel_rfl) (by decide) (by kernel_rfl) (by kernel_rfl) (by kernel_rfl) (fun _ _ _ h => h) (Or.inl ⟨by rfl, ?_⟩) (by assumption) ?_
      rotate_left 1
      · ((intro w hSw; (try dsimp only at hSw); go_simp); (try with_reducible rfl))
      simp only [Act.put, List.setIfInBounds_toArray, List.set_cons_zero, List.set_cons_succ, List.getElem_toArray, List.getElem_cons_zero, List.getElem_cons_succ]
      refine wpAnyC_take (i := 5) (v := ?_) rfl rfl (by kernel_rfl) (by decide) (by kernel_rfl) (by kernel_rfl) (by kernel_rfl) (fun _ _ _ h => h) (Or.inl ⟨by rfl, ?_⟩) (by assumption) ?_
      rotate_left 1
      · ((intro w hSw; (try dsimp only at hSw); go_simp); (try with_reducible rfl))
      simp only [Act.put, List.setIfInBounds_toArray, List.set_cons_zero, List.set_cons_succ, List.getElem_toArray, List.getElem_cons_zero, List.getElem_cons_succ]
      refine wpAnyC_take (i := 6) (v := ?_) rfl rfl (by kernel_rfl) (by decide) (by kernel_rfl) (by kernel_rfl) (by kernel_rfl) (fun _ _ _ h => h) (Or.inl ⟨by rfl, ?_⟩) (by assumption) ?_
      rotate_left 1
      · ((intro w hSw; (try dsimp only at hSw); go_simp); (try with_reducible rfl))
      simp only [Act.put, List.setIfInBounds_toArray, List.set_cons_zero, List.set_cons_succ, List.getElem_toArray, List.getElem_cons_zero, List.getElem_cons_succ]
      refine wpAnyC_take (i := 7) (v := ?_) rfl rfl (by kernel_rfl) (by decide) (by kernel_rfl) (by kernel_rfl) (by kernel_rfl) (fun _ _ _ h => h) (Or.inl ⟨by rfl, ?_⟩) (by assumption) ?_
      rotate_left 1
      · ((intro w hSw; (try dsimp only at hSw); go_simp); (try with_reducible rfl))
      simp only [Act.put, List.setIfInBounds_toArray, List.set_cons_zero, List.set_cons_succ, List.getElem_toArray, List.getElem_cons_zero, List.getElem_cons_succ]
      refine wpAnyC_take (i := 8) (v := ?_) rfl rfl (by kernel_rfl) (by decide) (by kernel_rfl) (by kernel_rfl) (by kernel_rfl) (fun _ _ _ h => h) (Or.inl ⟨by rfl, ?_⟩) (by assumption) ?_
      rotate_left 1
      · ((intro w hSw; (try dsimp only at hSw); go_simp); (try with_reducible rfl))
      simp only [Act.put, List.setIfInBounds_toArray, List.set_cons_zero, List.set_cons_succ, List.getElem_toArray, List.getElem_cons_zero, List.getElem_cons_succ]
      refine wpAnyC_take (i := 9) (v := ?_) rfl rfl (by kernel_rfl) (by decide) (by kernel_rfl) (by kernel_rfl) (by kernel_rfl) (fun _ _ _ h => h) (Or.inl ⟨by rfl, ?_⟩) (by assumption) ?_
      rotate_left 1
      · ((intro w hSw; (try dsimp only at hSw); go_simp); (try with_reducible rfl))
      simp only [Act.put, List.setIfInBounds_toArray, List.set_cons_zero, List.set_cons_succ, List.getElem_toArray, List.getElem_cons_zero, List.getElem_cons_succ]
      refine wpAnyC_ready (rs := [10]) (by kernel_rfl) (by simp) ?_
      refine AllReadyC.cons rfl (fun K hK => ?_) AllReadyC.nil
      go_simp
      refine hK.out _ _ ?_ (fun hHeld => ?_)
      · exact hs1
      clear hK K
      try simp only [Act.put, List.setIfInBounds_toArray, List.set_cons_zero, List.set_cons_succ, List.getElem_toArray, List.getElem_cons_zero, List.getElem_cons_succ]
      refine wpAnyC_ready (rs := [11]) (by kernel_rfl) (by simp) ?_
      refine AllReadyC.cons rfl (fun K hK => ?_) AllReadyC.nil
      refine step_app2 _ rfl (.tmp 39) (.tmp 45) 60 rfl 0 72 i0 _ 6 40 Tryz.underlying60 hi0 hz0 hz1 hz2 rfl (by decide) A k c _ rfl oo _ _ 1 1 [.int .i64 t.prio, .int .i64 t.cl, .bool false, .bool false, .int .i64 0, .int .i64 0] rfl (by simp) rfl S2.out O2.out N2.out T2.out (Nat.zero_le _) ?_
      intro A' c' w5 happ
      have hblA : Hid (bl ∉ fp A) := hidp (fun hm => by have h5 := L.out.la bl (by rw [HAa.out]; exact hm); have := L.out.lb; omega)
      have bb := LU2.out.blk.turned happ.turned hblA.out
      have hwA : ∀ j ∈ fp A, j < wr.heap.size := fun j hj => by have := (own_fp L.out.askers.own j (by rw [HAa.out]; exact hj)).2; omega
      have htw : wr.heap.size ∉ fp A := fun hm => by have := hwA _ hm; omega
      have bt := (BTu.out.turned (Turned.of_below HAL.out []) (by simp)).turned happ.turned htw
      have cb : w5.cell? ⟨bl, 1, none⟩ = some (.slice A k c) := by
        have h7 := (bb.cell 1).trans LU2.out.c1
        rw [HAa.out, hlen.out, Hca.out] at h7
        exact h7
      have hs2 : w5.cell? ⟨bl, 1, none⟩ = some (.slice A k c) ∧ w5.cell? ⟨wr.heap.size, 3, none⟩ = some (.int .i64 t.prio) ∧ w5.cell? ⟨wr.heap.size, 4, none⟩ = some (.int .i64 t.cl) := ⟨cb, bt.cell 3, bt.cell 4⟩
      have fz := bb.frozen 1
      clear bb bt cb
      refine hK.out _ _ ?_ (fun hHeld => ?_)
      · exact hs2
      clear hK K
      try simp only [Act.put, List.setIfInBounds_toArray, List.set_cons_zero, List.set_cons_succ, List.getElem_toArray, List.getElem_cons_zero, List.getElem_cons_succ]
      refine wpAnyC_ready (rs := [12]) (by kernel_rfl) (by simp) ?_
      refine AllReadyC.cons rfl (fun K hK => ?_) AllReadyC.nil
      go_simp
      refine hK.out _ _ ?_ (fun hHeld => ?_)
      · exact hs2
      clear hK K
      try simp only [Act.put, List.setIfInBounds_toArray, List.set_cons_zero, List.set_cons_succ, List.getElem_toArray, List.getElem_cons_zero, List.getElem_cons_succ]
      refine wpAnyC_ready (rs := [13]) (by kernel_rfl) (by simp) ?_
      refine AllReadyC.cons rfl (fun K hK => ?_) AllReadyC.nil
      go_simp
      refine hK.out _ _ ?_ (fun hHeld => ?_)
      · exact hs2
      clear hK K
      try simp only [Act.put, List.setIfInBounds_toArray, List.set_cons_zero, List.set_cons_succ, List.getElem_toArray, List.getElem_cons_zero, List.getElem_cons_succ]
      refine wpAnyC_ready (rs := [14]) (by kernel_rfl) (by simp) ?_
      refine AllReadyC.last rfl (fun K hK => ?_)
      go_simp
      refine hK.out _ _ ?_
      clear hK K
      refine wpAnyC_done (by kernel_rfl) ?_ _
      have hap2 : App 0 72 6 (u.alloc (.cells #[.int .i64 t.prio, .int .i64 t.cl, .bool false, .bool false, .int .i64 0, .int .i64 0] 72)) m.Aa A' (m.ask.length + 1) c' (akc m.ask ++ akc [askNew t]) w5 := by rw [HAa.out, hlen.out]; exact happ
      have L5 := LU2.out.addA hap2 (x := askNew t) ⟨hpw.out.1, hpw.out.2, by show I64 0; unfold I64; omega, by show I64 0; unfold I64; omega⟩
      rw [hlen.out] at L5
      have HL5 := hidp L5
      have HN5 : Hid (NewM (m.addA (askNew t) A' c') proto ks ((tasks.take (k + 1)).map askNew) []) := hidp (by rw [Hs.out]; exact NM.out.addA _ _ _)
      have TT : Turned (bl :: fp A) wr (w5.setCell ⟨bl, 1, none⟩ (.slice A' (k + 1) c')) := (((Turned.of_below (W1.out.trans (HAL.out.mono W1.out.size)) (bl :: fp A)).trans happ.turned (fun i hi => .inl (List.mem_cons_of_mem _ hi)))).setCell (.inl (by simp)) _
      have hwb := BKr.out.lt
      have hnb : w.heap.size ∉ bl :: fp A := fun hm => by
        rcases List.mem_cons.1 hm with e | hm
        · have := hbl0.out; omega
        · have := FM.out _ (mem_fpm.2 (.inl (by rw [HAa.out]; exact hm))); omega
      have q1 := hidp (BKr.out.turned TT hnb)
      have q2 := HBW.out.trans (TT.below HBW.out.size (fun i hi => by
        rcases List.mem_cons.1 hi with rfl | hi
        · have := hbl0.out; omega
        · have := FM.out _ (mem_fpm.2 (.inl (by rw [HAa.out]; exact hi))); omega))
      have q3 : Hid (∀ j ∈ fpm (m.addA (askNew t) A' c'), w.heap.size < j) := hidp (fun j hj => by
        rcases fpm_addA hj with h1 | h1
        · rcases happ.fps j h1 with h2 | h2
          · exact FM.out _ (mem_fpm.2 (.inl (by rw [HAa.out]; exact h2)))
          · have := HAL.out.size; have := hwu.out; omega
        · exact FM.out j h1)
      clear TT hnb hap2 L5 happ hs2 hs hs1 oo fz hwA htw hHeld d0 d1 d2 d3 d4 d5
      go_wp2
      go_roundg (gk - 1)
      case measure => omega
      case rel => exact ⟨k + 1, _, _, by omega, by go_num, HL5, HN5, q3, q1, q2⟩
    · obtain rfl : k = tasks.length := by omega
      have NM1 : Hid (NewM m proto ks (tasks.map askNew) []) := hidp (by have := NM.out; rw [List.take_length] at this; exact this)
      have c1 : wr.cell? ⟨w.heap.size, 1, none⟩ = some (.slice ca cores.length cc) := BKr.out.cell 1
      have LK1 := L
      have FM1 := FM
      have BK1 := BKr
      have HBW1 := hidp hbw
      clear hbw
      go_wp2
      go_loopg [53] cores.length (fun g i wr => ∃ (k : Nat) (cs : Array Value) (m : LkM), k + g = cores.length ∧ i = .int .i64 k ∧ Hid (Lk wr bl 0 67 cs m) ∧ Hid (NewM m proto ks (tasks.map askNew) (cores.take k)) ∧ Hid (∀ j ∈ fpm m, w.heap.size < j) ∧ Below w.heap.size w wr)
      case atStart => exact ⟨0, _, _, by omega, rfl, LK1, NM1, FM1, HBW1.out⟩
      case round =>
        obtain ⟨j, csj, m2, hj, rfl, L2, NM2, FM2, hbj⟩ := hrel
        by_cases hlj : j < cores.length
        · obtain ⟨g', off', hA', hcl⟩ := HSx3.out.resolve_left (by intro e; rw [e] at hlj; simp at hlj)
          subst hA'
          obtain ⟨n, HN⟩ : ∃ n, Hid (cores.getD j 0 = n) := ⟨_, rfl⟩
          have cn := Keeps.of_below hbj _ _ (HN.out ▸ hcl j hlj)
          have hn : Hid (1 ≤ n ∧ n ≤ 3) := hidp (hg.out.cores n (by rw [← HN.out]; simp [List.getD, hlj]))
          have Hs : Hid (cores.take (j + 1) = cores.take j ++ [n]) := hidp (by
            rw [take_snoc cores j hlj, HN.out])
          have hd3 : decide (cores.length ≤ j) = false := decide_eq_false (by omega)
          have HBW := hidp hbj
          have hlen : Hid (m2.ds.length = j) := hidp (by rw [NM2.out.ds.1]; simp; omega)
          have cA := (L2.out.blk.cell 3).trans L2.out.c3
          rw [hlen.out] at cA
          obtain ⟨A, hAa⟩ : ∃ A, m2.Ad = A := ⟨_, rfl⟩
          obtain ⟨c, hca⟩ : ∃ c, m2.cd = c := ⟨_, rfl⟩
          rw [hAa, hca] at cA
          have HAa := hidp hAa
          have Hca := hidp hca
          have hs : wr.drew.cell? ⟨bl, 3, none⟩ = some (.slice A j c) := cA
          clear hcl hbj hAa hca cA
          go_wp2_with fail
          refine wp_region_c_drew 11 (S := fun w' => w'.cell? ⟨bl, 3, none⟩ = some (.slice A j c)) (by kernel_rfl) ?_ (fun hHeld => ?_)
          · exact hs
          have U1 := hidp ((Below.refl wr.heap.size wr).drew)
          obtain ⟨u, hu⟩ : ∃ u, wr.drew = u := ⟨_, rfl⟩
          rw [hu] at hs U1 ⊢
          clear hu
          refine wpAnyC_take (i := 0) (v := ?_) rfl rfl (by kernel_rfl) (by decide) (by kernel_rfl) (by kernel_rfl) (by kernel_rfl) (fun _ _ _ h => h) (Or.inl ⟨by rfl, ?_⟩) (by assumption) ?_
          rotate_left 1
          · ((intro w hSw; (try dsimp only at hSw); go_simp); (try with_reducible rfl))
          simp only [Act.put, List.setIfInBounds_toArray, List.set_cons_zero, List.set_cons_succ, List.getElem_toArray, List.getElem_cons_zero, List.getElem_cons_succ]
          refine wpAnyC_take (i := 1) (v := ?_) rfl rfl (by kernel_rfl) (by decide) (by kernel_rfl) (by kernel_rfl) (by kernel_rfl) (fun _ _ _ h => h) (Or.inl ⟨by rfl, ?_⟩) (by assumption) ?_
          rotate_left 1
          · ((intro w hSw; (try dsimp only at hSw); go_simp); (try with_reducible rfl))
          simp only [Act.put, List.setIfInBounds_toArray, List.set_cons_zero, List.set_cons_succ, List.getElem_toArray, List.getElem_cons_zero, List.getElem_cons_succ]
          refine wpAnyC_take (i := 2) (v := ?_) rfl rfl (by kernel_rfl) (by decide) (by kernel_rfl) (by kernel_rfl) (by kernel_rfl) (fun _ _ _ h => h) (Or.inl ⟨by rfl, ?_⟩) (by assumption) ?_
          rotate_left 1
          · ((intro w hSw; (try dsimp only at hSw); go_simp); (try with_reducible rfl))
          simp only [Act.put, List.setIfInBounds_toArray, List.set_cons_zero, List.set_cons_succ, List.getElem_toArray, List.getElem_cons_zero, List.getElem_cons_succ]
          refine wpAnyC_take (i := 3) (v := ?_) rfl rfl (by kernel_rfl) (by decide) (by kernel_rfl) (by kernel_rfl) (by kernel_rfl) (fun _ _ _ h => h) (Or.inl ⟨by rfl, ?_⟩) (by assumption) ?_
          rotate_left 1
          · ((intro w hSw; (try dsimp only at hSw); go_simp); (try with_reducible rfl))
          simp only [Act.put, List.setIfInBounds_toArray, List.set_cons_zero, List.set_cons_succ, List.getElem_toArray, List.getElem_cons_zero, List.getElem_cons_succ]
          refine wpAnyC_take (i := 4) (v := ?_) rfl rfl (by kernel_rfl) (by decide) (by kernel_rfl) (by kernel_rfl) (by kernel_rfl) (fun _ _ _ h => h) (Or.inl ⟨by rfl, ?_⟩) (by assumption) ?_
          rotate_left 1
          · ((intro w hSw; (try dsimp only at hSw); go_simp); (try with_reducible rfl))
          simp only [Act.put, List.setIfInBounds_toArray, List.set_cons_zero, List.set_cons_succ, List.getElem_toArray, List.getElem_cons_zero, List.getElem_cons_succ]
          refine wpAnyC_take (i := 5) (v := ?_) rfl rfl (by kernel_rfl) (by decide) (by kernel_rfl) (by kernel_rfl) (by kernel_rfl) (fun _ _ _ h => h) (Or.inl ⟨by rfl, ?_⟩) (by assumption) ?_
          rotate_left 1
          · ((intro w hSw; (try dsimp only at hSw); go_simp); (try with_reducible rfl))
          simp only [Act.put, List.setIfInBounds_toArray, List.set_cons_zero, List.set_cons_succ, List.getElem_toArray, List.getElem_cons_zero, List.getElem_cons_succ]
          refine wpAnyC_ready (rs := [6]) (by kernel_rfl) (by simp) ?_
          refine AllReadyC.cons rfl (fun K hK => ?_) AllReadyC.nil
          go_simp
          refine (newDoor_any n u hn.out).mono ?_
          rintro e v ⟨gd, ld, F, rfl, hD, hU⟩
          have hbv := hU.below
          have HFu : Hid (∀ i ∈ F, wr.heap.size ≤ i) := hidp (fun i hi => by have := hU.blocks i hi; have := U1.out.size; omega)
          have hal := (Below.refl v.heap.size v).alloc (Nat.le_refl _) (.cells #[.int .i64 n, .pointer (some ⟨gd, 0, none⟩), .pointer (some ⟨ld, 0, none⟩)] 76)
          have HUV := hidp (U1.out.trans (hbv.mono U1.out.size))
          have HUA := hidp (HUV.out.trans (hal.mono HUV.out.size))
          have LU := hidp (L2.out.over HUA.out)
          have HDr := hidp (hD.over hal)
          have hs1 : v.cell? ⟨bl, 3, none⟩ = some (.slice A j c) := Keeps.of_below hbv _ _ hs
          have hs3 : (v.alloc (.cells #[.int .i64 n, .pointer (some ⟨gd, 0, none⟩), .pointer (some ⟨ld, 0, none⟩)] 76)).cell? ⟨bl, 3, none⟩ = some (.slice A j c) := Keeps.of_below hal _ _ hs1
          have oo := LU.out.doors
          rw [hlen.out, HAa.out, Hca.out] at oo
          have S2 := hidp (new_lies v [.int .i64 n, .pointer (some ⟨gd, 0, none⟩), .pointer (some ⟨ld, 0, none⟩)] 76)
          have O2 : Hid (∀ uu ∈ [Value.int .i64 n, .pointer (some ⟨gd, 0, none⟩), .pointer (some ⟨ld, 0, none⟩)], uu.oneCell' = true) := hidp (by simp; exact ⟨rfl, rfl, rfl⟩)
          have N2 : Hid (j + 1 ≤ maxLen) := hidp (by unfold maxLen; omega)
          have T2 : Hid ((j + 1) * 24 ≤ 140737488355328) := hidp (by omega)
          have HAL := hidp hal
          clear hal hU hbv hD
          refine hK.out _ _ ?_ (fun hHeld => ?_)
          · exact hs1
          clear hK K
          try simp only [Act.put, List.setIfInBounds_toArray, List.set_cons_zero, List.set_cons_succ, List.getElem_toArray, List.getElem_cons_zero, List.getElem_cons_succ]
          refine wpAnyC_ready (rs := [7]) (by kernel_rfl) (by simp) ?_
          refine AllReadyC.cons rfl (fun K hK => ?_) AllReadyC.nil
          go_simp
          refine hK.out _ _ ?_ (fun hHeld => ?_)
          · exact hs3
          clear hK K
          try simp only [Act.put, List.setIfInBounds_toArray, List.set_cons_zero, List.set_cons_succ, List.getElem_toArray, List.getElem_cons_zero, List.getElem_cons_succ]
          refine wpAnyC_ready (rs := [8]) (by kernel_rfl) (by simp) ?_
          refine AllReadyC.cons rfl (fun K hK => ?_) AllReadyC.nil
          refine step_app2 _ rfl (.tmp 61) (.tmp 64) 62 rfl 0 76 j0 _ 3 24 Tryz.underlying62 hj0 hy0 hy1 hy2 rfl (by decide) A j c _ rfl oo _ _ 1 1 [.int .i64 n, .pointer (some ⟨gd, 0, none⟩), .pointer (some ⟨ld, 0, none⟩)] rfl (by simp) rfl S2.out O2.out N2.out T2.out (Nat.zero_le _) ?_
          intro A' c' w5 happ
          have hblA : Hid (bl ∉ fp A) := hidp (fun hm => by have h5 := L2.out.ld bl (by rw [HAa.out]; exact hm); have := L2.out.lb; omega)
          have bb := LU.out.blk.turned happ.turned hblA.out
          have hs2 : w5.cell? ⟨bl, 3, none⟩ = some (.slice A j c) := by
            have h7 := (bb.cell 3).trans LU.out.c3
            rw [HAa.out, hlen.out, Hca.out] at h7
            exact h7
          have fz := bb.frozen 3
          clear bb
          refine hK.out _ _ ?_ (fun hHeld => ?_)
          · exact hs2
          clear hK K
          try simp only [Act.put, List.setIfInBounds_toArray, List.set_cons_zero, List.set_cons_succ, List.getElem_toArray, List.getElem_cons_zero, List.getElem_cons_succ]
          refine wpAnyC_ready (rs := [9]) (by kernel_rfl) (by simp) ?_
          refine AllReadyC.cons rfl (fun K hK => ?_) AllReadyC.nil
          go_simp
          refine hK.out _ _ ?_ (fun hHeld => ?_)
          · exact hs2
          clear hK K
          try simp only [Act.put, List.setIfInBounds_toArray, List.set_cons_zero, List.set_cons_succ, List.getElem_toArray, List.getElem_cons_zero, List.getElem_cons_succ]
          refine wpAnyC_ready (rs := [10]) (by kernel_rfl) (by simp) ?_
          refine AllReadyC.cons rfl (fun K hK => ?_) AllReadyC.nil
          go_simp
          refine hK.out _ _ ?_ (fun hHeld => ?_)
          · exact hs2
          clear hK K
          try simp only [Act.put, List.setIfInBounds_toArray, List.set_cons_zero, List.set_cons_succ, List.getElem_toArray, List.getElem_cons_zero, List.getElem_cons_succ]
          refine wpAnyC_ready (rs := [11]) (by kernel_rfl) (by simp) ?_
          refine AllReadyC.last rfl (fun K hK => ?_)
          go_simp
          refine hK.out _ _ ?_
          clear hK K
          refine wpAnyC_done (by kernel_rfl) ?_ _
          have hap2 : App 0 76 3 (v.alloc (.cells #[.int .i64 n, .pointer (some ⟨gd, 0, none⟩), .pointer (some ⟨ld, 0, none⟩)] 76)) m2.Ad A' (m2.ds.length + 1) c' (drc m2.ds ++ drc [⟨n, [], [], gd, ld⟩]) w5 := by rw [HAa.out, hlen.out]; exact happ
          have L5 := LU.out.addD HDr.out (fun i hi => ⟨fun e => by have := HFu.out i hi; have := L2.out.blk.lt; omega, fun hm => by have := HFu.out i hi; have := L2.out.lt i hm; omega⟩) hap2
          rw [hlen.out] at L5
          have HL5 := hidp L5
          have HN5 : Hid (NewM (m2.addD ⟨n, [], [], gd, ld⟩ F A' c') proto ks (tasks.map askNew) (cores.take (j + 1))) := hidp (by rw [Hs.out]; exact NM2.out.addD _ _ _ _ _ _)
          have TT : Turned (bl :: fp A) wr (w5.setCell ⟨bl, 3, none⟩ (.slice A' (j + 1) c')) := (((Turned.of_below HUA.out (bl :: fp A)).trans happ.turned (fun i hi => .inl (List.mem_cons_of_mem _ hi)))).setCell (.inl (by simp)) _
          have q2 := HBW.out.trans (TT.below HBW.out.size (fun i hi => by
            rcases List.mem_cons.1 hi with rfl | hi
            · have := hbl0.out; omega
            · have := FM2.out _ (mem_fpm.2 (.inr (.inr (.inr (.inl (by rw [HAa.out]; exact hi)))))); omega))
          have q3 : Hid (∀ i ∈ fpm (m2.addD ⟨n, [], [], gd, ld⟩ F A' c'), w.heap.size < i) := hidp (fun i hi => by
            rcases fpm_addD hi with h1 | h1 | h1
            · rcases happ.fps i h1 with h2 | h2
              · exact FM2.out _ (mem_fpm.2 (.inr (.inr (.inr (.inl (by rw [HAa.out]; exact h2))))))
              · have h2 : (v.alloc (.cells #[.int .i64 n, .pointer (some ⟨gd, 0, none⟩), .pointer (some ⟨ld, 0, none⟩)] 76)).heap.size ≤ i := h2
                have := HUA.out.size; have := BK1.out.lt; have := HBW.out.size; have := hbl0.out; have := L2.out.blk.lt; omega
            · have := HFu.out i h1; have := L2.out.blk.lt; have := hbl0.out; omega
            · exact FM2.out i h1)
          clear TT hap2 L5 happ hs2 hs hs1 hs3 oo fz hHeld
          go_wp2
          go_roundg (gk - 1)
          case measure => omega
          case rel => exact ⟨j + 1, _, _, by omega, by go_num, HL5, HN5, q3, q2⟩
        · obtain rfl : j = cores.length := by omega
          go_wp2
          go_ret
          refine HFin.out bl csj m2 ks _ HKA.out L2.out ?_ (by have := hbl0.out; omega) (fun i hi => by have := FM2.out i hi; omega) hbj
          have := NM2.out
          rw [List.take_length] at this
          exact this
end Go.Proofs.YtlmdiechnidghaaGreat

namespace Go.Proofs.YtlmdiechnidghaaGreat
open Go.ChangeShapes Go.WideShapes Go.ChangeAt Go.RowKit Go.Conc
set_option linter.unusedVariables false
set_option linter.unusedSimpArgs false
structure LkRel (m : LkM) (s : Ls) : Prop where
  r0 : LkR0 m s
  rd : LkRD m.ds s
  ok : LsOk s
/-- these plain locks lie in the cells o to o + 7 of block b; F: what else is theirs -/
def Lx (w : World) (b o : Nat) (T : TypeId) (cs : Array Value) (s : Ls) (F : List Nat) : Prop := ∃ m, Lk w b o T cs m ∧ LkRel m s ∧ F = fpm m
def LxTo (w : World) (b o : Nat) (T : TypeId) (cs : Array Value) (F : List Nat) (w' : World) (s' : Ls) : Prop := ∃ cs' F', Lx w' b o T cs' s' F' ∧ FrL w b o 8 T cs F w' cs' F'
section
variable {w w' : World} {b o : Nat} {T : TypeId} {cs : Array Value} {m : LkM} {s s' : Ls} {F : List Nat}
theorem Lx.turned {G : List Nat} (h : Lx w b o T cs s F) (ht : Turned G w w') (hb : b ∉ G) (hF : ∀ k ∈ F, k ∉ G) : Lx w' b o T cs s F := by
  obtain ⟨m, h1, h2, rfl⟩ := h
  exact ⟨m, h1.turned ht hb hF, h2, rfl⟩
theorem Lx.over (h : Lx w b o T cs s F) (hb : Below w.heap.size w w') : Lx w' b o T cs s F := h.turned (Turned.of_below hb []) (by simp) (by simp)
theorem Lx.lt (h : Lx w b o T cs s F) : ∀ k ∈ F, k < w.heap.size := by
  obtain ⟨m, h1, h2, rfl⟩ := h
  exact h1.lt
theorem Lx.ok (h : Lx w b o T cs s F) : LsOk s := by
  obtain ⟨m, h1, h2, rfl⟩ := h
  exact h2.ok
theorem Lx.bk (h : Lx w b o T cs s F) : Bk w b T cs := by
  obtain ⟨m, h1, h2, rfl⟩ := h
  exact h1.blk
theorem Lx.apart (h : Lx w b o T cs s F) : b ∉ F := by
  obtain ⟨m, h1, h2, rfl⟩ := h
  intro hm
  have h0 := h1.lb
  rcases mem_fpm.1 hm with h3 | h3 | h3 | h3 | h3 | ⟨i, hi, h3⟩
  · have := h1.la b h3; omega
  · have := h1.lk b h3; omega
  · have := h1.lc b h3; omega
  · have := h1.ld b h3; omega
  · have := h1.lr b h3; omega
  · have := h1.lf i hi b h3; omega
theorem Lk.to {m1 : LkM} (h : LkTo w b o T cs m w' m1) (hr : LkRel m1 s') : LxTo w b o T cs (fpm m) w' s' := by
  obtain ⟨cs', h1, h2⟩ := h
  exact ⟨cs', fpm m1, ⟨m1, h1, hr, rfl⟩, h2⟩
theorem Lx.still (h : Lx w b o T cs s F) (hb : Below w.heap.size w w') : LxTo w b o T cs F w' s := ⟨cs, F, h.over hb, FrL.below hb⟩
theorem get_out (ho : LsOk s) {t : Int} (h : ¬ s.has t) : s.get t = none := get_none.2 fun a ha e => h (e ▸ ho.tk a ha)
theorem LkRel.holds (h : LkRel m s) (t : Int) : holdsB m t = holdsS s t := by
  unfold holdsB holdsS
  by_cases ht : s.has t
  · have hn : t.toNat < m.ask.length := (h.r0.has _).2 (by unfold Ls.has at *; omega)
    have ec : ((t.toNat : Nat) : Int) = t := by unfold Ls.has at ht; omega
    have h1 : thereB m t = true := by unfold thereB; unfold Ls.has at ht; have := h.r0.alen; simp; omega
    rw [h1, h.r0.ask _ hn, ec, Bool.true_and]
    unfold askOf
    cases s.get t <;> rfl
  · rw [get_out h.ok ht]
    have h1 : thereB m t = false := by
      unfold thereB
      unfold Ls.has at ht
      have := h.r0.alen
      simp; omega
    rw [h1]; rfl
theorem LkRel.boost (h : LkRel m s) (t : Int) : boostV m t = boostS s t := by
  unfold boostV
  rw [h.holds t]
  unfold holdsS boostS
  by_cases ht : s.has t
  · have hn : t.toNat < m.ask.length := (h.r0.has _).2 (by unfold Ls.has at *; omega)
    have ec : ((t.toNat : Nat) : Int) = t := by unfold Ls.has at ht; omega
    rw [h.r0.ask _ hn, ec, h.r0.proto]
    unfold askOf
    cases hg : s.get t with
    | none => rfl
    | some a =>
      dsimp only
      split
      · split <;> simp_all
      · rfl
  · rw [get_out h.ok ht]; rfl
def holderS (s : Ls) (r : Int) : Option Int := (s.L.find? fun a => a.holds && a.res == r).map AL.task
def holderV (s : Ls) (r : Int) : Value := match holderS s r with | some t => .tuple #[.int .i64 t, .bool true] | none => .tuple #[.int .i64 0, .bool false]
def waitS (s : Ls) : List Int := ((List.range s.prio.length).filter fun i => match s.get (i : Nat) with | some a => !a.holds | none => false).map fun i : Nat => (i : Int)
theorem LkRel.waits (h : LkRel m s) : waitW m.ask m.ask.length = waitS s := by
  unfold waitW waitS
  rw [h.r0.alen]
  congr 1
  refine List.filter_congr fun i hi => ?_
  rw [List.mem_range] at hi
  rw [h.r0.ask i (by rw [h.r0.alen]; exact hi)]
  unfold askOf
  cases s.get i <;> rfl
theorem LkRel.holder (h : LkRel m s) (r : Int) : holdV m.ask r = holderV s r := by
  have at_ : ∀ i, i < m.ask.length → (((m.ask.getD i default).holds && (m.ask.getD i default).res == r) = true ↔ ∃ a ∈ s.L, a.task = (i : Int) ∧ a.holds = true ∧ a.res = r) := fun i hi => by
    rw [h.r0.ask i hi]
    unfold askOf
    cases hg : s.get i with
    | none =>
      have := get_none.1 hg
      simp
      exact fun a ha e => absurd e (this a ha)
    | some a =>
      obtain ⟨ha, e⟩ := get_mem hg
      simp only [Bool.and_eq_true, beq_iff_eq]
      constructor
      · exact fun ⟨h1, h2⟩ => ⟨a, ha, e, h1, h2⟩
      · rintro ⟨b, hb, e2, h1, h2⟩
        obtain rfl := h.ok.uniq hb ha (e2.trans e.symm)
        exact ⟨h1, h2⟩
  unfold holderV holderS
  cases hf : s.L.find? fun a => a.holds && a.res == r with
  | none =>
    refine holdR_none fun j hj => ?_
    cases hx : ((m.ask.getD j default).holds && (m.ask.getD j default).res == r) with
    | false => rfl
    | true =>
      obtain ⟨a, ha, _, h1, h2⟩ := (at_ j hj).1 hx
      have := List.find?_eq_none.1 hf a ha
      simp [h1, h2] at this
  | some a =>
    have hm := List.mem_of_find?_eq_some hf
    have hp := List.find?_some hf
    simp only [Bool.and_eq_true, beq_iff_eq] at hp
    have ht := h.ok.tk a hm
    have hn : a.task.toNat < m.ask.length := (h.r0.has _).2 (by unfold Ls.has at *; omega)
    have ec : ((a.task.toNat : Nat) : Int) = a.task := by unfold Ls.has at ht; omega
    have h9 := holdR_hit (l := m.ask) (res := r) (k := a.task.toNat) hn (fun j hj => ?_) ((at_ _ hn).2 ⟨a, hm, ec.symm, hp.1, hp.2⟩)
    · rw [h9]
      simp only [Option.map_some, ec]
    · cases hx : ((m.ask.getD j default).holds && (m.ask.getD j default).res == r) with
      | false => rfl
      | true =>
        obtain ⟨b2, hb2, e, h1, h2⟩ := (at_ j (by omega)).1 hx
        have := h.ok.ex b2 hb2 a hm h1 hp.1 (by rw [h2, hp.2]; exact sameK_refl _ _)
        omega
theorem lx_holds (h : Lx w b o T cs s F) (t : Int) : Calls Tryz.prog 21 #[.pointer (some ⟨b, o, none⟩), .int .i64 t] w fun e w' => e = .returned (.bool (holdsS s t)) ∧ w = w' := by
  obtain ⟨m, h1, h2, rfl⟩ := h
  rw [← h2.holds]; exact lholds_any h1 t
theorem lx_boost (h : Lx w b o T cs s F) (t : Int) : Calls Tryz.prog 26 #[.pointer (some ⟨b, o, none⟩), .int .i64 t] w fun e w' => e = .returned (.int .i64 (boostS s t)) ∧ w = w' := by
  obtain ⟨m, h1, h2, rfl⟩ := h
  rw [← h2.boost]; exact lboost_any h1 t
theorem lx_holder (h : Lx w b o T cs s F) (r : Int) : Calls Tryz.prog 24 #[.pointer (some ⟨b, o, none⟩), .int .i64 r] w fun e w' => e = .returned (holderV s r) ∧ Below w.heap.size w w' := by
  obtain ⟨m, h1, h2, rfl⟩ := h
  rw [← h2.holder]; exact lholder_any h1 (by rw [h2.r0.alen]; exact h2.ok.n6) r
theorem lx_waiting (h : Lx w b o T cs s F) : Calls Tryz.prog 25 #[.pointer (some ⟨b, o, none⟩)] w fun e w' => ∃ A n c, e = .returned (.slice A n c) ∧ OwnInts w.heap.size w' A n c (waitS s) ∧ Below w.heap.size w w' := by
  obtain ⟨m, h1, h2, rfl⟩ := h
  rw [← h2.waits]; exact lwaiting_any h1 (by rw [h2.r0.alen]; exact h2.ok.n6)
theorem outs_lt (ho : LsOk s) {t : Int} (ht : s.has t) (hn : s.get t = none) (c : Int) : (outsS s c).length < s.prio.length := by
  have h1 := len_sub (l := t :: outsS s c) (m := (List.range s.prio.length).map fun n : Nat => (n : Int)) ?_ ?_
  · simp at h1; omega
  · rw [List.nodup_cons]
    refine ⟨fun hm => ?_, outsS_nd ho c⟩
    obtain ⟨a, ha, e, _⟩ := mem_outsS.1 hm
    exact get_none.1 hn a ha e
  · intro x hx
    have hx' : s.has x := by
      rcases List.mem_cons.1 hx with rfl | hx
      · exact ht
      · obtain ⟨a, ha, rfl, _⟩ := mem_outsS.1 hx
        exact ho.tk a ha
    unfold Ls.has at hx'
    exact List.mem_map.2 ⟨x.toNat, by rw [List.mem_range]; omega, by omega⟩
theorem outs_len (ho : LsOk s) (c : Int) : (outsS s c).length ≤ 6 := by
  have h1 := len_sub (m := s.L.map AL.task) (outsS_nd ho c) fun t ht => by
    obtain ⟨a, ha, e, _⟩ := mem_outsS.1 ht
    exact e ▸ List.mem_map_of_mem ha
  have := tasks_le ho
  have := ho.n6
  simp at h1; omega
theorem lx_ask (h : Lx w b o T cs s F) {t r : Int} (hr : I64 r) (hc : s.count < 800000) (hp : s.proto = 1 ∨ s.proto = 2 ∨ s.proto = 3 ∨ s.prio.length = 0) : Calls Tryz.prog 12 #[.pointer (some ⟨b, o, none⟩), .int .i64 t, .int .i64 r] w fun e w' => e = .returned (.int .i64 (askC s t r)) ∧ LxTo w b o T cs F w' (askS s t r) := by
  have hx := h
  obtain ⟨m, h1, h2, rfl⟩ := h
  have e1 : thereB m t = true ↔ s.has t := by
    unfold thereB Ls.has
    rw [h2.r0.alen]; simp
  by_cases ht : s.has t
  · have htb := e1.2 ht
    by_cases hrr : s.hasR r
    · have hr2 : 0 ≤ r ∧ r < (m.ks.length : Int) := by rw [h2.r0.klen]; exact hrr
      obtain ⟨n, rfl⟩ : ∃ n : Nat, t = (n : Int) := ⟨t.toNat, by unfold Ls.has at ht; omega⟩
      have hn : n < m.ask.length := (h2.r0.has n).2 ht
      have hak := h2.r0.asked hn
      cases hg : s.get n with
      | some a =>
        have ec : askC s n r = 17 := by unfold askC; rw [if_neg (by simpa using ht), if_neg (by simpa using hrr), hg]; rfl
        have es : askS s n r = s := by unfold askS; rw [if_neg (by rw [ec]; decide)]
        rw [ec, es]
        refine (lask_twice h1 hn hr2 (by rw [hak, hg]; rfl)).mono ?_
        rintro e w' ⟨rfl, rfl⟩
        exact ⟨rfl, hx.still (Below.refl _ _)⟩
      | none =>
        rw [hg] at hak
        have ec : askC s n r = 0 := by unfold askC; rw [if_neg (by simpa using ht), if_neg (by simpa using hrr), hg]; rfl
        have es : askS s n r = askN s n r := by unfold askS; rw [if_pos ec]
        rw [ec, es]
        have ok2 := h2.ok.ask ht hrr hg
        have n6 := h2.ok.n6
        have al := h2.r0.alen
        have hPe := h2.r0.P
        have hpl := h2.r0.placesA
        have c0 := h2.ok.c0
        have hroom : (m.l.length : Int) < m.R := by
          have := waitG_lt h2.ok ht (fun a ha => get_none.1 hg a (mem_waitG.1 ha).1)
          have := h2.r0.room.1
          rw [h2.r0.l_len]; omega
        rcases hp with hp | hp | hp | hp
        · refine (lask_fair h1 hn hr2 hr hak (h2.r0.proto.trans hp) hroom h2.r0.room.2 (by omega) (by omega)).mono ?_
          rintro e w' ⟨rfl, A, c, hto⟩
          exact ⟨rfl, Lk.to hto ⟨h2.r0.askFair h2.ok hn hrr hg (by omega) (by omega) A c, h2.rd.askOther h2.ok (by omega) n r, ok2⟩⟩
        · refine (lask_agent h1 hn hr2 hr hak (h2.r0.proto.trans hp) hroom h2.r0.room.2 (by omega)).mono ?_
          rintro e w' ⟨rfl, A, c, hto⟩
          exact ⟨rfl, Lk.to hto ⟨h2.r0.askAgent h2.ok hn hrr hg hp A c, h2.rd.askOther h2.ok (by omega) n r, ok2⟩⟩
        · have hcl := h2.ok.clo n ht
          obtain ⟨k, hk⟩ : ∃ k : Nat, s.cls n = (k : Int) := ⟨(s.cls n).toNat, by omega⟩
          have hkl : k < m.ds.length := by rw [h2.rd.len]; omega
          have hac : (m.ask.getD n default).cluster = (k : Int) := by rw [h2.r0.ask n hn, askOf_none hg]; exact hk
          have hol : (m.ds.getD k default).outs.length < 6 := by
            rw [(h2.rd.at_ k hkl).2.1]
            have := outs_lt h2.ok ht hg k
            omega
          refine (lask_token h1 hn hr2 hr hak (h2.r0.proto.trans hp) hac hkl hol (by unfold I64; omega)).mono ?_
          rintro e w' ⟨rfl, F2, hto⟩
          exact ⟨rfl, Lk.to hto ⟨h2.r0.askToken h2.ok hn hrr hg hp _ F2, h2.rd.askToken h2.ok hp hkl hk r, ok2⟩⟩
        · unfold Ls.has at ht; omega
    · have ec : askC s t r = 16 := by unfold askC; rw [if_neg (by simpa using ht), if_pos hrr]
      have es : askS s t r = s := by unfold askS; rw [if_neg (by rw [ec]; decide)]
      rw [ec, es]
      refine (lask_place h1 htb (by have := h2.r0.klen; unfold Ls.hasR at hrr; omega)).mono ?_
      rintro e w' ⟨rfl, rfl⟩
      exact ⟨rfl, hx.still (Below.refl _ _)⟩
  · have ec : askC s t r = 14 := by unfold askC; rw [if_pos ht]
    have es : askS s t r = s := by unfold askS; rw [if_neg (by rw [ec]; decide)]
    rw [ec, es]
    refine (lask_task h1 (by cases hb : thereB m t with | false => rfl | true => exact absurd (e1.1 hb) ht)).mono ?_
    rintro e w' ⟨rfl, rfl⟩
    exact ⟨rfl, hx.still (Below.refl _ _)⟩
theorem lx_leave (h : Lx w b o T cs s F) (t : Int) : Calls Tryz.prog 17 #[.pointer (some ⟨b, o, none⟩), .int .i64 t] w fun e w' => e = .returned (.int .i64 (leaveC s t)) ∧ LxTo w b o T cs F w' (leaveS s t) := by
  have hx := h
  obtain ⟨m, h1, h2, rfl⟩ := h
  cases hg : s.get t with
  | none =>
    have ec : leaveC s t = 13 := by unfold leaveC; rw [hg]; rfl
    have es : leaveS s t = s := by
      unfold leaveS
      rw [List.filter_eq_self.2 (fun a ha => by have := get_none.1 hg a ha; simpa using this)]
    rw [ec, es]
    refine (lleave_none h1 (t := t) ?_).mono ?_
    · by_cases ht : s.has t
      · have hn : t.toNat < m.ask.length := (h2.r0.has _).2 (by unfold Ls.has at *; omega)
        have ec : ((t.toNat : Nat) : Int) = t := by unfold Ls.has at ht; omega
        right
        rw [h2.r0.asked hn, ec, hg]; rfl
      · left
        unfold thereB
        unfold Ls.has at ht
        have := h2.r0.alen
        simp; omega
    · rintro e w' ⟨rfl, rfl⟩
      exact ⟨rfl, hx.still (Below.refl _ _)⟩
  | some a =>
    obtain ⟨ha, rfl⟩ := get_mem hg
    have ht := h2.ok.tk a ha
    have hn : a.task.toNat < m.ask.length := (h2.r0.has _).2 (by unfold Ls.has at *; omega)
    have et : ((a.task.toNat : Nat) : Int) = a.task := by unfold Ls.has at ht; omega
    have ec : leaveC s a.task = 0 := by unfold leaveC; rw [hg]; rfl
    rw [ec]
    have hak := h2.r0.ask _ hn
    rw [et] at hak
    unfold askOf at hak
    rw [hg] at hak
    have hcl := h2.ok.clo _ ht
    obtain ⟨k, hk⟩ : ∃ k : Nat, s.cls a.task = (k : Int) := ⟨(s.cls a.task).toNat, by omega⟩
    have hkl : k < m.ds.length := by rw [h2.rd.len]; omega
    have n6 := h2.ok.n6
    have al := h2.r0.alen
    have hl64 : m.l.length ≤ 64 := by
      rw [h2.r0.l_len]
      have h3 := List.length_filter_le AL.waits s.L
      have := tasks_le h2.ok
      unfold waitG
      omega
    have hrd : LkRD (m.ds.set k (leaveD (m.ds.getD k default) a.task)) (leaveS s a.task) := h2.rd.leave h2.ok ha hkl hk
    have hra := h2.ok.rs a ha
    cases hh : a.holds with
    | false =>
      have hc := lleave_waits h1 hn (by rw [hak]) (by rw [hak]; exact hh) (by rw [hak]; exact hk) hkl hl64 (by unfold I64; omega)
      rw [et] at hc
      refine hc.mono ?_
      rintro e w' ⟨rfl, F2, hto⟩
      refine ⟨rfl, Lk.to hto ⟨h2.r0.gone h2.ok ha k F2 (by simp [hh]), ?_, h2.ok.leave _⟩⟩
      show LkRD (m.ds.set k (leaveD (m.ds.getD k default) ((a.task.toNat : Nat) : Int))) _
      rw [et]; exact hrd
    | true =>
      have hrl : a.res.toNat < m.ks.length := by rw [h2.r0.klen]; unfold Ls.hasR at hra; omega
      have er : ((a.res.toNat : Nat) : Int) = a.res := by unfold Ls.hasR at hra; omega
      have hfr : m.fr (m.ks.getD a.res.toNat 0) = false := by
        rw [h2.r0.fr _ hrl, er]
        have : heldS s a.res = true := heldS_true.2 ⟨a, ha, hh, sameK_refl _ _⟩
        rw [this]; rfl
      have hc := lleave_holds h1 hn (by rw [hak]) (by rw [hak]; exact hh) (by rw [hak]; exact hk) hkl hl64 (by unfold I64; omega) (r := a.res.toNat) (by rw [hak]; exact er.symm) hrl hfr
      rw [et] at hc
      refine hc.mono ?_
      rintro e w' ⟨rfl, F2, hto⟩
      refine ⟨rfl, Lk.to hto ⟨h2.r0.gone h2.ok ha k F2 (by simp [hh]), ?_, h2.ok.leave _⟩⟩
      show LkRD (m.ds.set k (leaveD (m.ds.getD k default) ((a.task.toNat : Nat) : Int))) _
      rw [et]; exact hrd
end
end Go.Proofs.YtlmdiechnidghaaGreat

namespace Go.Proofs.YtlmdiechnidghaaGreat
open Go.ChangeShapes Go.WideShapes Go.ChangeAt Go.RowKit Go.Conc
set_option linter.unusedVariables false
set_option linter.unusedSimpArgs false
section
variable {w w' : World} {b o : Nat} {T : TypeId} {cs : Array Value} {m : LkM} {s s' : Ls} {F : List Nat}
set_option maxHeartbeats 4000000 in
set_option maxRecDepth 100000 in
/-- nobody stands at no door -/
theorem lenter_no (h : Lk w b o T cs m) (h0 : m.ds.length = 0) : Calls Tryz.prog 37 #[.pointer (some ⟨b, o, none⟩)] w fun e w' => e = .returned (.tuple #[]) ∧ LkTo w b o T cs m w' m := by
  have c3 := (h.blk.cell _).trans h.c3
  rw [h0] at c3
  have HL := hidp h
  have SO := sort_own_any (w := w) (B := w.heap.size) (A := none) (n := 0) (c := 0) (zs := []) ⟨World.ownsRow_nil _ _ _ _, rfl, Nat.le_refl _, by decide, fun _ => ⟨rfl, rfl⟩⟩ (by simp)
  clear h h0
  go_enter Tryz.func37, Tryz.ntmps37
  go_wp2
  go_loopg [2, 12] 0 (fun g a i wr => i = .int .i64 0 ∧ a = .slice none 0 0 ∧ wr = w)
  case atStart => exact ⟨rfl, rfl, rfl⟩
  case round =>
    obtain ⟨rfl, rfl, rfl⟩ := hrel
    go_wp2_with fail
    refine SO.mono ?_
    rintro e w2 ⟨rfl, ho, ht⟩
    have hto := hidp (LkTo.below HL.out (ht.below (Nat.le_refl _) (by simp [fp])))
    clear ho ht
    go_wp2_with fail
    go_loopg [25] 0 (fun g i wr => i = .int .i64 0 ∧ wr = w2)
    case atStart => exact ⟨rfl, rfl⟩
    case round =>
      obtain ⟨rfl, rfl⟩ := hrel
      go_wp2_with fail
      refine ⟨rfl, _, results_none rfl _ _ _, ?_⟩
      exact ⟨rfl, hto.out⟩
def GrG (s : Ls) (m1 : LkM) : Prop := LkR0 m1 (letS s) ∧ LkRD m1.ds (letS s)
theorem two_le (ho : LsOk s) : (waitG s).length + (newS s).length ≤ s.prio.length := by
  have h1 := len_sub (l := (waitG s).map AL.task ++ newS s) (m := (List.range s.prio.length).map fun n : Nat => (n : Int)) ?_ ?_
  · simp at h1; omega
  · rw [List.nodup_append]
    refine ⟨ho.nd.sublist (List.filter_sublist.map _), newS_nd ho, fun x hx y hy e => ?_⟩
    subst e
    obtain ⟨a, ha, rfl⟩ := List.mem_map.1 hx
    obtain ⟨b, hb, e, h0⟩ := newS_out hy
    obtain rfl := ho.uniq hb (mem_waitG.1 ha).1 e
    have := (mem_waitG.1 ha).2.2
    omega
  · intro x hx
    have hx' : s.has x := by
      rcases List.mem_append.1 hx with hx | hx
      · obtain ⟨a, ha, rfl⟩ := List.mem_map.1 hx
        exact ho.tk a (mem_waitG.1 ha).1
      · obtain ⟨a, ha, rfl, _⟩ := newS_out hx
        exact ho.tk a ha
    unfold Ls.has at hx'
    exact List.mem_map.2 ⟨x.toNat, by rw [List.mem_range]; omega, by omega⟩
theorem entL_len {ds : List DrM} (h : LkRD ds s) (ho : LsOk s) : (entL ds ds.length).length = (newS s).length := by rw [← h.news ho, sortI_len]
theorem lx_enter (h : Lk w b o T cs m) (h2 : LkRel m s) (hc : s.count < 800000) : Calls Tryz.prog 37 #[.pointer (some ⟨b, o, none⟩)] w fun e w' => e = .returned (.tuple #[]) ∧ ∃ m1, LkTo w b o T cs m w' m1 ∧ GrG s m1 := by
  have hlet := h2.rd.let_ h2.ok
  have hnw := h2.rd.news h2.ok
  by_cases h0 : m.ds.length = 0
  · refine (lenter_no h h0).mono ?_
    rintro e w' ⟨rfl, hto⟩
    have hds : m.ds = [] := List.eq_nil_of_length_eq_zero h0
    have hn0 : newS s = [] := by rw [← hnw, hds]; simp [entL, sortI]
    have el : letS s = s := by unfold letS; rw [hn0]; rfl
    exact ⟨rfl, m, hto, by unfold GrG; rw [el]; exact ⟨h2.r0, h2.rd⟩⟩
  · have n6 := h2.ok.n6
    have al := h2.r0.alen
    have hPe := h2.r0.P
    have hpl := h2.r0.placesA
    have c0 := h2.ok.c0
    have hrm := h2.r0.room
    have h3 := h2.ok.c3
    refine (lenter_any h (by omega) (by rw [h2.rd.len]; exact h3) (fun i hi => ?_) (fun i hi => ?_) (fun i hi x hx => ?_) hrm.2 (by omega) (by omega) ?_).mono ?_
    · obtain ⟨_, e2, e3, e4⟩ := h2.rd.at_ i hi
      rw [e2]
      by_cases hp : s.proto = 3
      · exact ((e3 hp).append_right _).nodup_iff.2 (both_nd h2.ok i)
      · rw [e4 hp]; exact outsS_nd h2.ok i
    · rw [(h2.rd.at_ i hi).2.1]; exact outs_len h2.ok i
    · rw [(h2.rd.at_ i hi).2.1] at hx
      obtain ⟨a, ha, rfl, _⟩ := mem_outsS.1 hx
      have := h2.ok.tk a ha
      unfold Ls.has at this
      rw [al]; exact this
    · rw [entL_len h2.rd h2.ok, h2.r0.l_len]
      have := two_le h2.ok
      omega
    · rintro e w' ⟨rfl, Fd, lab, m', hpl2, hto⟩
      rw [hnw] at hpl2
      have h0' : LkR0 ({ m with ds := entDs m.ds m.ds.length, Fd := Fd, lab := lab } : LkM) s := ⟨h2.r0.proto, h2.r0.alen, h2.r0.klen, h2.r0.ask, h2.r0.keys, h2.r0.fr, h2.r0.room, h2.r0.P, h2.r0.l, h2.r0.places, h2.r0.placesA⟩
      obtain ⟨q1, q2⟩ := fold_PlR (newS s) hpl2 h0' h2.ok (by
        by_cases hp : s.proto = 3
        · exact .inr hp
        · exact .inl (newS_nil h2.ok hp)) (newS_nd h2.ok) fun t ht => newS_out ht
      exact ⟨rfl, m', hto, q1, by rw [q2]; exact hlet⟩
theorem grant_ds (xs : List AL) : ∀ (ds : List DrM) (s : Ls) (l : List Int), LkRD ds s → LkRD ds (xs.foldl try1 (s, l)).1 := by
  induction xs with
  | nil => exact fun ds s l h => h
  | cons a xs ih =>
    intro ds s l h
    rw [List.foldl_cons]
    refine ih ds (try1 (s, l) a).1 (try1 (s, l) a).2 ?_
    unfold try1
    split
    · exact h
    · exact h.hold _
theorem lx_grant (h : Lx w b o T cs s F) (hc : s.count < 800000) : Calls Tryz.prog 15 #[.pointer (some ⟨b, o, none⟩)] w fun e w' => ∃ A n c cs' F', e = .returned (.slice A n c) ∧ OwnInts w.heap.size w' A n c (grantL s) ∧ Lx w' b o T cs' (grantS s) F' ∧ FrL w b o 8 T cs F w' cs' F' ∧ ∀ q ∈ F', q ∉ fp A := by
  obtain ⟨m, h1, h2, rfl⟩ := h
  have lok := (letS_all h2.ok).1
  have hsm : SameLs s (letS s) := same_place _ s
  refine (lgrant_any (G := GrG s) (lx_enter h1 h2 hc) (fun m1 hG => ⟨?_, fun e he => ?_, fun e he => ?_⟩) h1.blk.lt h1.lt).mono ?_
  · rw [hG.1.l_len]
    have h3 := List.length_filter_le AL.waits (letS s).L
    have := tasks_le lok
    have := lok.n6
    unfold waitG
    omega
  · have hm : e.id ∈ (waitG (letS s)).map AL.task := hG.1.ids.mem_iff.1 (List.mem_map_of_mem he)
    obtain ⟨a, ha, e2⟩ := List.mem_map.1 hm
    have := lok.tk a (mem_waitG.1 ha).1
    rw [e2] at this
    rw [hG.1.alen]; exact this
  · have hm : e.id ∈ (waitG (letS s)).map AL.task := hG.1.ids.mem_iff.1 (List.mem_map_of_mem he)
    obtain ⟨a, ha, e2⟩ := List.mem_map.1 hm
    have ham := (mem_waitG.1 ha).1
    have ht := lok.tk a ham
    rw [e2] at ht
    have hn : e.id.toNat < m1.ask.length := (hG.1.has _).2 (by unfold Ls.has at *; omega)
    have ec : ((e.id.toNat : Nat) : Int) = e.id := by unfold Ls.has at ht; omega
    have en := hG.1.ask _ hn
    rw [ec, ← e2] at en
    unfold askOf at en
    rw [lok.get_of ham] at en
    rw [← e2, en]
    have := lok.rs a ham
    rw [hG.1.klen]; exact this
  · rintro e w' ⟨m1, S, A, n, c, hG, hp, hs, rfl, hown, hto, hap⟩
    have eids := cand_ids hG.1 lok hp hs
    rw [eids] at hown hto hap
    obtain ⟨q1, q2, q3⟩ := grant_fold (candS (letS s)) (out := []) hG.1 lok (fun a ha => candS_in ha)
    obtain ⟨cs', L, FR⟩ := hto
    refine ⟨A, n, c, cs', _, rfl, ?_, ⟨_, L, ⟨q1, ?_, h2.ok.grant⟩, rfl⟩, FR, hap⟩
    · have e1 : grantL s = sortI (grantM m1 ((candS (letS s)).map AL.task)).2 := by
        unfold grantL grantP sortI grantM
        rw [q2]
      rw [e1]; exact hown
    · show LkRD (((candS (letS s)).map AL.task).foldl grant1 (m1, [])).1.ds _
      rw [q3]
      exact grant_ds _ _ _ _ hG.2
end
end Go.Proofs.YtlmdiechnidghaaGreat

namespace Go.Proofs.YtlmdiechnidghaaGreat
open Go.ChangeShapes Go.WideShapes Go.ChangeAt Go.RowKit Go.Conc
set_option linter.unusedVariables false
set_option linter.unusedSimpArgs false
def lsZero : Ls := ⟨0, [], [], [], [], [], 0⟩
def lsOf (s : SetR) : Ls := if okS s = true then lsNew s else lsZero
theorem lsZero_ok : LsOk lsZero := by
  have hh : ∀ t, ¬ lsZero.has t := fun t h => by unfold Ls.has lsZero at h; simp at h; omega
  refine ⟨by decide, rfl, by decide, fun t h => absurd h (hh t), by simp [lsZero], by simp [lsZero], by simp [lsZero], by simp [lsZero], by simp [lsZero], fun h => absurd h (by decide), by simp [lsZero], by simp [lsZero], by simp [lsZero], Int.le_refl _⟩
theorem lsNew_ok {s : SetR} (hg : Good s) : LsOk (lsNew s) := by
  refine ⟨by simpa [lsNew] using hg.ntasks.2, by simp [lsNew], hg.ncores.2, fun t h => ?_, by simp [lsNew], by simp [lsNew], by simp [lsNew], by simp [lsNew], by simp [lsNew], fun hp t u ht hu e => ?_, by simp [lsNew], by simp [lsNew], by simp [lsNew], Int.le_refl _⟩
  · unfold Ls.has lsNew at h
    simp only [List.length_map] at h
    have hl : t.toNat < s.tasks.length := by omega
    have e : (lsNew s).cls t = (s.tasks.getD t.toNat default).cl := by simp [lsNew, Ls.cls, List.getD, hl]
    have := hg.place _ (getD_mem hl)
    rw [e]
    show _ ∧ _ < (s.cores.length : Int)
    omega
  · unfold Ls.has lsNew at ht hu
    simp only [List.length_map] at ht hu
    have key : ∀ i j : Nat, j < s.tasks.length → i < j → (s.tasks.getD i default).prio ≠ (s.tasks.getD j default).prio := fun i j hj hij e => by
      have h1 := hg.apart j hj
      unfold takenB at h1
      rw [List.any_eq_false] at h1
      have hm : s.tasks.getD i default ∈ s.tasks.take j := by
        have : i < (s.tasks.take j).length := by simp; omega
        have h2 := getD_mem this
        have e2 : (s.tasks.take j).getD i default = s.tasks.getD i default := by simp [List.getD, List.getElem?_take, hij]
        rw [e2] at h2; exact h2
      have h3 := h1 _ hm
      unfold likeB at h3
      rw [e] at h3
      simp at h3
    have e1 : (lsNew s).pri t = (s.tasks.getD t.toNat default).prio := by simp [lsNew, Ls.pri, List.getD, show t.toNat < s.tasks.length by omega]
    have e2 : (lsNew s).pri u = (s.tasks.getD u.toNat default).prio := by simp [lsNew, Ls.pri, List.getD, show u.toNat < s.tasks.length by omega]
    rw [e1, e2] at e
    rcases Nat.lt_trichotomy t.toNat u.toNat with h1 | h1 | h1
    · exact absurd e (key _ _ (by omega) h1)
    · omega
    · exact absurd e.symm (key _ _ (by omega) h1)
def zeroM : LkM := ⟨0, [], [], fun _ => true, [], 0, 0, [], 0, none, 0, none, 0, none, 0, none, 0, fun _ => [], fun _ => 0⟩
theorem zero_lk {w : World} {b : Nat} (hb : Bk w b 67 #[.int .i64 0, .slice none 0 0, .slice none 0 0, .slice none 0 0, .int .i64 0, .int .i64 0, .slice none 0 0, .int .i64 0]) : Lx w b 0 67 #[.int .i64 0, .slice none 0 0, .slice none 0 0, .slice none 0 0, .int .i64 0, .int .i64 0, .slice none 0 0, .int .i64 0] lsZero [] := by
  refine ⟨zeroM, ⟨hb, rfl, rfl, rfl, rfl, rfl, ⟨hb, rfl, rfl, rfl, ⟨World.ownsRow_nil _ _ _ _, rfl, by decide, fun _ => ⟨rfl, rfl⟩⟩, by simp [zeroM, fp]⟩, OwnK.empty _ _, World.ownsRow_nil _ _ _ _, by simp [zeroM], World.ownsRow_nil _ _ _ _, fun i hi => absurd hi (by simp [zeroM]), by simp [zeroM], rfl, by simp [zeroM, fp], by simp [zeroM, fp], by simp [zeroM], by simp [zeroM, fp], by simp [zeroM, fp], fun i hi => absurd hi (by simp [zeroM])⟩, ⟨⟨rfl, rfl, rfl, fun i hi => absurd hi (by simp [zeroM]), fun r q hr => absurd hr (by simp [zeroM]), fun r hr => absurd hr (by simp [zeroM]), by decide, rfl, by simp [zeroM, waitG, lsZero], fun _ => rfl, by decide⟩, ⟨rfl, fun c hc => absurd hc (by simp [zeroM])⟩, lsZero_ok⟩, rfl⟩
def NewX (s : SetR) (w : World) (e : Ending) (w' : World) : Prop := ∃ bl cs F, e = .returned (.pointer (some ⟨bl, 0, none⟩)) ∧ Lx w' bl 0 67 cs (lsOf s) F ∧ w.heap.size ≤ bl ∧ (∀ k ∈ F, w.heap.size ≤ k) ∧ Below w.heap.size w w'
set_option maxHeartbeats 4000000 in
set_option maxRecDepth 100000 in
theorem lx_new {w : World} (s : SetR) (hs : SetOk w s) : Calls Tryz.prog 10 #[.agg #[.int .i64 s.proto, .slice s.ca s.cores.length s.cc, .slice s.ha s.homes.length s.hc, .slice s.ta s.tasks.length s.tc]] w (NewX s w) := by
  by_cases ho : okS s = true
  · refine (lnew_any s hs ho).mono ?_
    rintro e w' ⟨bl, cs, m, rfl, hl, h1, h2, h3, h4, h5⟩
    refine ⟨bl, cs, fpm m, rfl, ?_, h1, h2, h3⟩
    unfold lsOf
    rw [if_pos ho]
    exact ⟨m, hl, ⟨h4, h5, lsNew_ok (Good.of ho)⟩, rfl⟩
  · have hb := (Below.refl w.heap.size w).alloc (Nat.le_refl _) (.cells #[.int .i64 s.proto, .slice s.ca s.cores.length s.cc, .slice s.ha s.homes.length s.hc, .slice s.ta s.tasks.length s.tc] 25)
    have HB := hidp hb
    have HS := hidp (hs.keep (Keeps.of_below hb))
    have CC := check_any s _ HS.out
    have hne : ¬ chkE s = 0 := by simpa [okS] using ho
    have HE : Hid (lsOf s = lsZero) := hidp (by unfold lsOf; rw [if_neg ho])
    obtain ⟨x, hx⟩ : ∃ x, chkE s = x := ⟨_, rfl⟩
    obtain ⟨y, hy⟩ : ∃ y, chkAt s = y := ⟨_, rfl⟩
    rw [hx, hy] at CC
    rw [hx] at hne
    clear hx hy hs hb ho
    have hne2 : (x != 0) = true := by simpa using hne
    clear hne
    go_enter Tryz.func10, Tryz.ntmps10
    go_wp2_with fail
    refine CC.mono ?_
    rintro e w2 ⟨rfl, hb2⟩
    have HB2 := hidp (HB.out.trans (hb2.mono HB.out.size))
    have BK := Bk.new w2 67 #[.int .i64 0, .slice none 0 0, .slice none 0 0, .slice none 0 0, .int .i64 0, .int .i64 0, .slice none 0 0, .int .i64 0]
    have HZ := hidp (zero_lk BK)
    clear hb2 BK
    go_wp2_with fail
    go_ret
    refine ⟨w2.heap.size, _, [], rfl, by rw [HE.out]; exact HZ.out, HB2.out.size, by simp, HB2.out.alloc HB2.out.size _⟩
end Go.Proofs.YtlmdiechnidghaaGreat

namespace Go.Proofs.YtlmdiechnidghaaGreat
open Go.ChangeShapes Go.WideShapes Go.ChangeAt Go.RowKit Go.Conc
set_option linter.unusedVariables false
set_option linter.unusedSimpArgs false
deriving instance DecidableEq for AL
deriving instance DecidableEq for Ls
section
variable {α : Type} {le : α → α → Bool}
def insK (le : α → α → Bool) (x : α) : List α → List α
  | [] => [x]
  | y :: l => if le x y = true then x :: y :: l else y :: insK le x l
def isortK (le : α → α → Bool) : List α → List α
  | [] => []
  | x :: l => insK le x (isortK le l)
theorem insK_perm (x : α) : ∀ l, (insK le x l).Perm (x :: l)
  | [] => List.Perm.refl _
  | y :: l => by
    unfold insK
    split
    · exact List.Perm.refl _
    · exact ((insK_perm x l).cons y).trans (List.Perm.swap x y l)
theorem isortK_perm : ∀ l, (isortK le l).Perm l
  | [] => List.Perm.refl _
  | x :: l => (insK_perm x _).trans ((isortK_perm l).cons x)
theorem insK_srt (tr : ∀ a b c, le a b = true → le b c = true → le a c = true) (tl : ∀ a b, (le a b || le b a) = true) (x : α) : ∀ l, l.Pairwise (fun a b => le a b = true) → (insK le x l).Pairwise (fun a b => le a b = true)
  | [], _ => by simp [insK]
  | y :: l, h => by
    obtain ⟨h1, h2⟩ := List.pairwise_cons.1 h
    unfold insK
    split
    · rename_i e
      refine List.pairwise_cons.2 ⟨fun z hz => ?_, h⟩
      rcases List.mem_cons.1 hz with rfl | hz
      · exact e
      · exact tr _ _ _ e (h1 z hz)
    · rename_i e
      refine List.pairwise_cons.2 ⟨fun z hz => ?_, insK_srt tr tl x l h2⟩
      rcases List.mem_cons.1 ((insK_perm x l).mem_iff.1 hz) with rfl | hz
      · have := tl z y
        simpa [e] using this
      · exact h1 z hz
theorem isortK_srt (tr : ∀ a b c, le a b = true → le b c = true → le a c = true) (tl : ∀ a b, (le a b || le b a) = true) : ∀ l, (isortK le l).Pairwise (fun a b => le a b = true)
  | [] => List.Pairwise.nil
  | x :: l => insK_srt tr tl x _ (isortK_srt tr tl l)
theorem isortK_eq (tr : ∀ a b c, le a b = true → le b c = true → le a c = true) (tl : ∀ a b, (le a b || le b a) = true) (l : List α) (an : ∀ a b, a ∈ l → b ∈ l → le a b = true → le b a = true → a = b) : l.mergeSort le = isortK le l :=
  List.Perm.eq_of_pairwise (le := fun a b => le a b = true) (fun a b ha hb => an a b ((List.mergeSort_perm _ _).mem_iff.1 ha) ((isortK_perm l).mem_iff.1 hb)) (List.pairwise_mergeSort tr tl l) (isortK_srt tr tl l) ((List.mergeSort_perm _ _).trans (isortK_perm l).symm)
end
theorem sortI_is (l : List Int) : l.mergeSort (fun x y => decide (x ≤ y)) = isortK (fun x y => decide (x ≤ y)) l :=
  isortK_eq (fun a b c h1 h2 => by simp at *; omega) (fun a b => by simp; omega) l (fun a b _ _ h1 h2 => by simp at *; omega)
theorem key_inj {s : Ls} (ho : LsOk s) {a b : AL} (ha : a ∈ waitG s) (hb : b ∈ waitG s) (hk : keyS s a = keyS s b) : a = b := by
  rw [mem_waitG] at ha hb
  have ht : a.task = b.task := by
    unfold keyS at hk
    split at hk
    · rename_i hp2
      exact ho.pri hp2 _ _ (ho.tk a ha.1) (ho.tk b hb.1) hk
    · exact ho.pd a ha.1 b hb.1 ha.2.2 hk
  exact ho.uniq ha.1 hb.1 ht
theorem candS_is {s : Ls} (ho : LsOk s) : candS s = isortK (fun a b => decide (keyS s a ≤ keyS s b)) (waitG s) :=
  isortK_eq (fun a b c h1 h2 => by simp at *; omega) (fun a b => by simp; omega) _ (fun a b ha hb h1 h2 => key_inj ho ha hb (by simp at h1 h2; omega))
def newC (s : Ls) : List Int := isortK (fun x y => decide (x ≤ y)) ((List.range s.cores.length).flatMap fun c => (outsS s (c : Nat)).take (numS s c))
def letC (s : Ls) : Ls := (newC s).foldl placeS s
def candC (s : Ls) : List AL := isortK (fun a b => decide (keyS s a ≤ keyS s b)) (waitG s)
def grantPC (s : Ls) : Ls × List Int := (candC (letC s)).foldl try1 (letC s, [])
def grantC (s : Ls) : Ls := (grantPC s).1
def grantLC (s : Ls) : List Int := isortK (fun x y => decide (x ≤ y)) (grantPC s).2
theorem newS_is (s : Ls) : newS s = newC s := sortI_is _
theorem letS_is (s : Ls) : letS s = letC s := by unfold letS letC; rw [newS_is]
theorem grantP_is {s : Ls} (ho : LsOk s) : grantP s = grantPC s := by
  have := (letS_all ho).1
  unfold grantP grantPC
  rw [candS_is this, letS_is]; rfl
theorem grantS_is {s : Ls} (ho : LsOk s) : grantS s = grantC s := by unfold grantS grantC; rw [grantP_is ho]
theorem grantL_is {s : Ls} (ho : LsOk s) : grantL s = grantLC s := by unfold grantL grantLC; rw [grantP_is ho, sortI_is]
end Go.Proofs.YtlmdiechnidghaaGreat

namespace Go.Proofs.YtlmdiechnidghaaGreat
open Go.ChangeShapes Go.WideShapes Go.ChangeAt Go.RowKit Go.Conc
set_option linter.unusedVariables false
set_option linter.unusedSimpArgs false
/-- the plain locks s lie in block bl, made since world w0; F: what else is theirs -/
structure LxI (w0 w : World) (bl : Nat) (s : Ls) (F : List Nat) : Prop where
  lx : ∃ cs, Lx w bl 0 67 cs s F
  base : w0.heap.size ≤ bl
  news : ∀ k ∈ F, w0.heap.size ≤ k
  below : Below w0.heap.size w0 w
/-- what a call leaves of all else -/
structure Stp (w : World) (bl : Nat) (F : List Nat) (w' : World) (F' : List Nat) : Prop where
  turned : Turned (bl :: F) w w'
  fps : ∀ k ∈ F', k ∈ F ∨ w.heap.size ≤ k
section
variable {w0 w w' : World} {bl : Nat} {s s' : Ls} {F F' : List Nat}
theorem LxI.ok (h : LxI w0 w bl s F) : LsOk s := by
  obtain ⟨⟨cs, h1⟩, _⟩ := h
  exact h1.ok
theorem LxI.lt (h : LxI w0 w bl s F) : ∀ k ∈ bl :: F, k < w.heap.size := by
  obtain ⟨⟨cs, h1⟩, _⟩ := h
  intro k hk
  rcases List.mem_cons.1 hk with rfl | hk
  · exact h1.bk.lt
  · exact h1.lt k hk
theorem LxI.over (h : LxI w0 w bl s F) (hb : Below w.heap.size w w') : LxI w0 w' bl s F := by
  obtain ⟨⟨cs, h1⟩, h2, h3, h4⟩ := h
  exact ⟨⟨cs, h1.over hb⟩, h2, h3, h4.trans (hb.mono h4.size)⟩
/-- another writes elsewhere -/
theorem LxI.turned {G : List Nat} (h : LxI w0 w bl s F) (ht : Turned G w w') (hd : ∀ k ∈ bl :: F, k ∉ G) (hG : ∀ k ∈ G, w0.heap.size ≤ k) : LxI w0 w' bl s F := by
  obtain ⟨⟨cs, h1⟩, h2, h3, h4⟩ := h
  exact ⟨⟨cs, h1.turned ht (hd bl (by simp)) (fun k hk => hd k (List.mem_cons_of_mem _ hk))⟩, h2, h3, h4.trans (ht.below h4.size hG)⟩
theorem LxI.step {T : TypeId} {cs cs' : Array Value} (h : LxI w0 w bl s F) (h1 : Lx w' bl 0 67 cs' s' F') (h2 : FrL w bl 0 8 67 cs F w' cs' F') : LxI w0 w' bl s' F' ∧ Stp w bl F w' F' := by
  refine ⟨⟨⟨cs', h1⟩, h.base, fun k hk => ?_, h.below.trans (h2.turned.below h.below.size (fun k hk => ?_))⟩, h2.turned, h2.fps⟩
  · rcases h2.fps k hk with h3 | h3
    · exact h.news k h3
    · have := h.below.size; omega
  · rcases List.mem_cons.1 hk with rfl | hk
    · exact h.base
    · exact h.news k hk
theorem Stp.same (hb : Below w.heap.size w w') : Stp w bl F w' F := ⟨Turned.of_below hb _, fun k hk => .inl hk⟩
theorem li_new (w0 w : World) (s : SetR) (hs : SetOk w s) (h0 : Below w0.heap.size w0 w) : Calls Tryz.prog 10 #[.agg #[.int .i64 s.proto, .slice s.ca s.cores.length s.cc, .slice s.ha s.homes.length s.hc, .slice s.ta s.tasks.length s.tc]] w fun e w' => ∃ bl F, e = .returned (.pointer (some ⟨bl, 0, none⟩)) ∧ LxI w0 w' bl (lsOf s) F ∧ w.heap.size ≤ bl ∧ (∀ k ∈ F, w.heap.size ≤ k) ∧ Below w.heap.size w w' := by
  refine (lx_new s hs).mono ?_
  rintro e w' ⟨bl, cs, F, rfl, h1, h2, h3, h4⟩
  have := h0.size
  exact ⟨bl, F, rfl, ⟨⟨cs, h1⟩, by omega, fun k hk => by have := h3 k hk; omega, h0.trans (h4.mono h0.size)⟩, h2, h3, h4⟩
theorem li_ask (h : LxI w0 w bl s F) {t r : Int} (hr : I64 r) (hc : s.count < 800000) (hp : s.proto = 1 ∨ s.proto = 2 ∨ s.proto = 3 ∨ s.prio.length = 0) : Calls Tryz.prog 12 #[.pointer (some ⟨bl, 0, none⟩), .int .i64 t, .int .i64 r] w fun e w' => e = .returned (.int .i64 (askC s t r)) ∧ ∃ F', LxI w0 w' bl (askS s t r) F' ∧ Stp w bl F w' F' := by
  obtain ⟨cs, h1⟩ := h.lx
  refine (lx_ask h1 hr hc hp).mono ?_
  rintro e w' ⟨rfl, cs', F', h2, h3⟩
  exact ⟨rfl, F', h.step (T := 67) h2 h3⟩
theorem li_ask_no (h : LxI w0 w bl s F) {t r : Int} (hc : askC s t r ≠ 0) : Calls Tryz.prog 12 #[.pointer (some ⟨bl, 0, none⟩), .int .i64 t, .int .i64 r] w fun e w' => e = .returned (.int .i64 (askC s t r)) ∧ w = w' := by
  obtain ⟨cs, m, h1, h2, rfl⟩ := h.lx
  have e1 : thereB m t = true ↔ s.has t := by
    unfold thereB Ls.has
    rw [h2.r0.alen]; simp
  by_cases ht : s.has t
  · have htb := e1.2 ht
    by_cases hrr : s.hasR r
    · have hr2 : 0 ≤ r ∧ r < (m.ks.length : Int) := by rw [h2.r0.klen]; exact hrr
      obtain ⟨n, rfl⟩ : ∃ n : Nat, t = (n : Int) := ⟨t.toNat, by unfold Ls.has at ht; omega⟩
      have hn : n < m.ask.length := (h2.r0.has n).2 ht
      have hak := h2.r0.asked hn
      cases hg : s.get n with
      | some a =>
        have ec : askC s n r = 17 := by unfold askC; rw [if_neg (by simpa using ht), if_neg (by simpa using hrr), hg]; rfl
        rw [ec]
        exact lask_twice h1 hn hr2 (by rw [hak, hg]; rfl)
      | none =>
        have ec : askC s n r = 0 := by unfold askC; rw [if_neg (by simpa using ht), if_neg (by simpa using hrr), hg]; rfl
        exact absurd ec hc
    · have ec : askC s t r = 16 := by unfold askC; rw [if_neg (by simpa using ht), if_pos hrr]
      rw [ec]
      exact lask_place h1 htb (by have := h2.r0.klen; unfold Ls.hasR at hrr; omega)
  · have ec : askC s t r = 14 := by unfold askC; rw [if_pos ht]
    rw [ec]
    exact lask_task h1 (by cases hb : thereB m t with | false => rfl | true => exact absurd (e1.1 hb) ht)
theorem li_leave (h : LxI w0 w bl s F) (t : Int) : Calls Tryz.prog 17 #[.pointer (some ⟨bl, 0, none⟩), .int .i64 t] w fun e w' => e = .returned (.int .i64 (leaveC s t)) ∧ ∃ F', LxI w0 w' bl (leaveS s t) F' ∧ Stp w bl F w' F' := by
  obtain ⟨cs, h1⟩ := h.lx
  refine (lx_leave h1 t).mono ?_
  rintro e w' ⟨rfl, cs', F', h2, h3⟩
  exact ⟨rfl, F', h.step (T := 67) h2 h3⟩
theorem li_grant (h : LxI w0 w bl s F) (hc : s.count < 800000) : Calls Tryz.prog 15 #[.pointer (some ⟨bl, 0, none⟩)] w fun e w' => ∃ A n c F', e = .returned (.slice A n c) ∧ OwnInts w.heap.size w' A n c (grantL s) ∧ LxI w0 w' bl (grantS s) F' ∧ Stp w bl F w' F' ∧ ∀ q ∈ bl :: F', q ∉ fp A := by
  obtain ⟨cs, h1⟩ := h.lx
  have hlt := h1.bk.lt
  refine (lx_grant h1 hc).mono ?_
  rintro e w' ⟨A, n, c, cs', F', rfl, ho, h2, h3, h4⟩
  obtain ⟨h5, h6⟩ := h.step (T := 67) h2 h3
  refine ⟨A, n, c, F', rfl, ho, h5, h6, fun q hq => ?_⟩
  rcases List.mem_cons.1 hq with rfl | hq
  · intro hm
    have := (own_fp ho.1 q hm).1
    omega
  · exact h4 q hq
theorem li_holds (h : LxI w0 w bl s F) (t : Int) : Calls Tryz.prog 21 #[.pointer (some ⟨bl, 0, none⟩), .int .i64 t] w fun e w' => e = .returned (.bool (holdsS s t)) ∧ w = w' := by
  obtain ⟨cs, h1⟩ := h.lx
  exact lx_holds h1 t
theorem li_boost (h : LxI w0 w bl s F) (t : Int) : Calls Tryz.prog 26 #[.pointer (some ⟨bl, 0, none⟩), .int .i64 t] w fun e w' => e = .returned (.int .i64 (boostS s t)) ∧ w = w' := by
  obtain ⟨cs, h1⟩ := h.lx
  exact lx_boost h1 t
theorem li_holder (h : LxI w0 w bl s F) (r : Int) : Calls Tryz.prog 24 #[.pointer (some ⟨bl, 0, none⟩), .int .i64 r] w fun e w' => e = .returned (holderV s r) ∧ Below w.heap.size w w' := by
  obtain ⟨cs, h1⟩ := h.lx
  exact lx_holder h1 r
theorem li_waiting (h : LxI w0 w bl s F) : Calls Tryz.prog 25 #[.pointer (some ⟨bl, 0, none⟩)] w fun e w' => ∃ A n c, e = .returned (.slice A n c) ∧ OwnInts w.heap.size w' A n c (waitS s) ∧ Below w.heap.size w w' := by
  obtain ⟨cs, h1⟩ := h.lx
  exact lx_waiting h1
/-- a row apart from the locks stays so -/
theorem Stp.row {B n c : Nat} {A : Option Addr} {zs : List Int} (h : Stp w bl F w' F') (ho : OwnInts B w A n c zs) (ha : ∀ q ∈ bl :: F, q ∉ fp A) : OwnInts B w' A n c zs ∧ ∀ q ∈ bl :: F', q ∉ fp A := by
  refine ⟨ho.turned h.turned (fun k hk hm => ha k hm hk), fun q hq => ?_⟩
  rcases List.mem_cons.1 hq with rfl | hq
  · exact ha q (by simp)
  · rcases h.fps q hq with h1 | h1
    · exact ha q (List.mem_cons_of_mem _ h1)
    · intro hm
      have := (own_fp ho.1 q hm).2
      omega
theorem own_cell {B n c : Nat} {A : Option Addr} {zs : List Int} (h : OwnInts B w A n c zs) {i : Nat} (hi : i < zs.length) : ∃ g, A = some ⟨g, 0, none⟩ ∧ w.cell? ⟨g, i, none⟩ = some (.int .i64 (zs.getD i 0)) := by
  obtain ⟨g, hg, _, _⟩ := ownE_at h.1 (by have := h.2.1; omega)
  refine ⟨g, hg, ?_⟩
  have hu := h.1
  rw [hg] at hu
  rcases Lies.of_own hu with h1 | ⟨b', off, e, _, hcc⟩
  · have := congrArg List.length h1
    rw [List.length_map, List.length_nil] at this
    omega
  · injection e with e
    injection e with e1 e2
    subst e1; subst e2
    have := hcc i (.int .i64 (zs.getD i 0)) (by simp [List.getD, hi])
    simpa using this
end
end Go.Proofs.YtlmdiechnidghaaGreat
