/- The reference's locks: Leave, where it refuses; what it leaves, plain. -/
import Derived.Test.YtppgameimddimaaGreatSoundM
import Derived.Test.YtppgameimddimaaGreatOwn
import Derived.Test.YtppgameimddimaaGreatReg
import Derived.Test.YtppgameimddimaaGreatUp
import Derived.Test.YtppgameimddimaaGreatCommD
import Derived.Test.YtppgameimddimaaGreatLRankQ
import Derived.Test.YtppgameimddimaaGreatKLine
namespace Go.Proofs.YtppgameimddimaaGreat
open Go.ChangeShapes Go.WideShapes Go.ChangeAt Go.RowKit
set_option linter.unusedVariables false
set_option linter.unusedSimpArgs false
/-- an ask: whose, for what; its place (0: not let in yet); whether it holds -/
structure AL where
  task : Int
  res : Int
  place : Int
  holds : Bool
/-- the locks as the document tells them: asks in the order in which they came -/
structure Ls where
  proto : Int
  prio : List Int
  cl : List Int
  cores : List Int
  homes : List Int
  L : List AL
  count : Int
def Ls.get (s : Ls) (t : Int) : Option AL := s.L.find? fun a => a.task == t
def Ls.home (s : Ls) (r : Int) : Int := s.homes.getD r.toNat 0
def Ls.cls (s : Ls) (t : Int) : Int := s.cl.getD t.toNat 0
def Ls.pri (s : Ls) (t : Int) : Int := s.prio.getD t.toNat 0
def Ls.has (s : Ls) (t : Int) : Prop := 0 ≤ t ∧ t < (s.prio.length : Int)
def Ls.hasR (s : Ls) (r : Int) : Prop := 0 ≤ r ∧ r < (s.homes.length : Int)
instance (s : Ls) (t : Int) : Decidable (s.has t) := inferInstanceAs (Decidable (_ ∧ _))
instance (s : Ls) (t : Int) : Decidable (s.hasR t) := inferInstanceAs (Decidable (_ ∧ _))
/-- one key opens both -/
def sameK (s : Ls) (r q : Int) : Bool := r == q || (s.proto == 2 && s.home r == s.home q)
def heldS (s : Ls) (r : Int) : Bool := s.L.any fun a => a.holds && sameK s a.res r
def keyS (s : Ls) (a : AL) : Int := if s.proto = 2 then s.pri a.task else a.place
def AL.waits (a : AL) : Bool := !a.holds && decide (0 < a.place)
def waitG (s : Ls) : List AL := s.L.filter AL.waits
def AL.outAt (s : Ls) (c : Int) (a : AL) : Bool := decide (a.place = 0) && s.cls a.task == c
def AL.inAt (s : Ls) (c : Int) (a : AL) : Bool := decide (0 < a.place) && s.cls a.task == c
def outsS (s : Ls) (c : Int) : List Int := (s.L.filter (AL.outAt s c)).map AL.task
def insS (s : Ls) (c : Int) : List Int := (s.L.filter (AL.inAt s c)).map AL.task
def holdF (t : Int) (a : AL) : AL := if a.task = t then { a with holds := true } else a
def placeF (t p : Int) (a : AL) : AL := if a.task = t then { a with place := p } else a
def holdS (s : Ls) (t : Int) : Ls := { s with L := s.L.map (holdF t) }
def placeS (s : Ls) (t : Int) : Ls := { s with L := s.L.map (placeF t (s.count + 1)), count := s.count + 1 }
def candS (s : Ls) : List AL := (waitG s).mergeSort fun a b => decide (keyS s a ≤ keyS s b)
def try1 (p : Ls × List Int) (a : AL) : Ls × List Int := if heldS p.1 a.res = true then p else (holdS p.1 a.task, p.2 ++ [a.task])
def numS (s : Ls) (c : Nat) : Nat := min (s.cores.getD c 0 - (insS s c).length).toNat (outsS s c).length
def newS (s : Ls) : List Int := ((List.range s.cores.length).flatMap fun c => (outsS s (c : Nat)).take (numS s c)).mergeSort fun x y => decide (x ≤ y)
def letS (s : Ls) : Ls := (newS s).foldl placeS s
def grantP (s : Ls) : Ls × List Int := (candS (letS s)).foldl try1 (letS s, [])
def grantL (s : Ls) : List Int := (grantP s).2.mergeSort fun x y => decide (x ≤ y)
def grantS (s : Ls) : Ls := (grantP s).1
def askN (s : Ls) (t r : Int) : Ls := if s.proto = 3 then { s with L := s.L ++ [⟨t, r, 0, false⟩] } else { s with L := s.L ++ [⟨t, r, s.count + 1, false⟩], count := s.count + 1 }
def askC (s : Ls) (t r : Int) : Int := if ¬ s.has t then 14 else if ¬ s.hasR r then 16 else if (s.get t).isSome then 17 else 0
def askS (s : Ls) (t r : Int) : Ls := if askC s t r = 0 then askN s t r else s
def leaveC (s : Ls) (t : Int) : Int := if (s.get t).isSome then 0 else 13
def leaveS (s : Ls) (t : Int) : Ls := { s with L := s.L.filter fun a => !(a.task == t) }
def holdsS (s : Ls) (t : Int) : Bool := match s.get t with | some a => a.holds | none => false
def boostS (s : Ls) (t : Int) : Int := match s.get t with | some a => if a.holds = true then (if s.proto = 2 then 1 else a.place) else 0 | none => 0

/-- such locks are there -/
structure LsOk (s : Ls) : Prop where
  n6 : s.prio.length ≤ 6
  ncl : s.cl.length = s.prio.length
  c3 : s.cores.length ≤ 3
  clo : ∀ t, s.has t → 0 ≤ s.cls t ∧ s.cls t < (s.cores.length : Int)
  nd : (s.L.map AL.task).Nodup
  tk : ∀ a ∈ s.L, s.has a.task
  rs : ∀ a ∈ s.L, s.hasR a.res
  pl : ∀ a ∈ s.L, 0 ≤ a.place ∧ a.place ≤ s.count
  pd : ∀ a ∈ s.L, ∀ b ∈ s.L, 0 < a.place → a.place = b.place → a.task = b.task
  pri : s.proto = 2 → ∀ t u, s.has t → s.has u → s.pri t = s.pri u → t = u
  tok : s.proto ≠ 3 → ∀ a ∈ s.L, 0 < a.place
  hp : ∀ a ∈ s.L, a.holds = true → 0 < a.place
  ex : ∀ a ∈ s.L, ∀ b ∈ s.L, a.holds = true → b.holds = true → sameK s a.res b.res = true → a.task = b.task
  c0 : 0 ≤ s.count

theorem get_mem {s : Ls} {t : Int} {a : AL} (h : s.get t = some a) : a ∈ s.L ∧ a.task = t := by
  unfold Ls.get at h
  exact ⟨List.mem_of_find?_eq_some h, by simpa using List.find?_some h⟩
theorem find_nd : ∀ {L : List AL} {a : AL}, (L.map AL.task).Nodup → a ∈ L → L.find? (fun x => x.task == a.task) = some a
  | [], a, _, h => by simp at h
  | x :: L, a, hn, h => by
    simp only [List.map_cons, List.nodup_cons] at hn
    rcases List.mem_cons.1 h with rfl | h
    · simp
    · have hne : x.task ≠ a.task := fun e => hn.1 (e ▸ List.mem_map_of_mem h)
      rw [List.find?_cons_of_neg (by simpa using hne)]
      exact find_nd hn.2 h
theorem LsOk.get_of {s : Ls} (h : LsOk s) {a : AL} (ha : a ∈ s.L) : s.get a.task = some a := find_nd h.nd ha
theorem get_none {s : Ls} {t : Int} : s.get t = none ↔ ∀ a ∈ s.L, a.task ≠ t := by
  unfold Ls.get
  rw [List.find?_eq_none]
  simp
theorem LsOk.uniq {s : Ls} (h : LsOk s) {a b : AL} (ha : a ∈ s.L) (hb : b ∈ s.L) (e : a.task = b.task) : a = b := by
  have h1 := h.get_of ha
  have h2 := h.get_of hb
  rw [e, h2] at h1
  exact (Option.some.inj h1).symm
theorem find_map {L : List AL} {f : AL → AL} (hf : ∀ a, (f a).task = a.task) (t : Int) : (L.map f).find? (fun a => a.task == t) = (L.find? (fun a => a.task == t)).map f := by
  rw [List.find?_map]
  have : ((fun a : AL => a.task == t) ∘ f) = fun a : AL => a.task == t := by funext a; simp [hf]
  rw [this]
theorem holdF_task (t : Int) (a : AL) : (holdF t a).task = a.task := by unfold holdF; split <;> rfl
theorem placeF_task (t p : Int) (a : AL) : (placeF t p a).task = a.task := by unfold placeF; split <;> rfl
theorem holdF_res (t : Int) (a : AL) : (holdF t a).res = a.res := by unfold holdF; split <;> rfl
theorem placeF_res (t p : Int) (a : AL) : (placeF t p a).res = a.res := by unfold placeF; split <;> rfl
theorem holdF_place (t : Int) (a : AL) : (holdF t a).place = a.place := by unfold holdF; split <;> rfl
theorem placeF_holds (t p : Int) (a : AL) : (placeF t p a).holds = a.holds := by unfold placeF; split <;> rfl
theorem tasks_map {L : List AL} {f : AL → AL} (hf : ∀ a, (f a).task = a.task) : (L.map f).map AL.task = L.map AL.task := by
  rw [List.map_map]
  exact List.map_congr_left fun a _ => hf a
theorem get_hold (s : Ls) (t u : Int) : (holdS s t).get u = (s.get u).map (holdF t) := find_map (holdF_task t) u
theorem get_place (s : Ls) (t u : Int) : (placeS s t).get u = (s.get u).map (placeF t (s.count + 1)) := find_map (placeF_task t _) u
theorem get_leave (s : Ls) (t u : Int) : (leaveS s t).get u = if u = t then none else s.get u := by
  unfold leaveS Ls.get
  rw [List.find?_filter]
  split
  · rename_i e
    subst e
    rw [List.find?_eq_none]
    simp
  · rename_i e
    congr 1
    funext a
    by_cases h : a.task = u
    · subst h; simp [e]
    · simp [h]
theorem get_app (s : Ls) (x : AL) (u : Int) (hn : s.get x.task = none) : (s.L ++ [x]).find? (fun a => a.task == u) = if u = x.task then some x else s.get u := by
  rw [List.find?_append]
  unfold Ls.get at *
  split
  · rename_i e
    subst e
    rw [hn]; simp
  · rename_i e
    have : ([x].find? fun a => a.task == u) = none := by simp; exact fun h => e h.symm
    rw [this]; simp

theorem sameK_symm (s : Ls) (r q : Int) : sameK s r q = sameK s q r := by
  unfold sameK
  have h1 : (r == q) = (q == r) := BEq.comm
  have h2 : (s.home r == s.home q) = (s.home q == s.home r) := BEq.comm
  rw [h1, h2]
theorem sameK_trans {s : Ls} {r q p : Int} (h : sameK s r q = true) (g : sameK s q p = true) : sameK s r p = true := by
  simp only [sameK, Bool.or_eq_true, Bool.and_eq_true, beq_iff_eq] at *
  rcases h with rfl | ⟨h1, h2⟩
  · exact g
  · rcases g with rfl | ⟨_, g2⟩
    · exact .inr ⟨h1, h2⟩
    · exact .inr ⟨h1, h2.trans g2⟩
theorem sameK_refl (s : Ls) (r : Int) : sameK s r r = true := by simp [sameK]
theorem heldS_true {s : Ls} {r : Int} : heldS s r = true ↔ ∃ a ∈ s.L, a.holds = true ∧ sameK s a.res r = true := by
  unfold heldS
  simp

theorem LsOk.ask {s : Ls} (h : LsOk s) {t r : Int} (ht : s.has t) (hr : s.hasR r) (hn : s.get t = none) : LsOk (askN s t r) := by
  have hnt := get_none.1 hn
  unfold askN
  split
  · rename_i hp
    have hm : ∀ a, a ∈ s.L ++ [⟨t, r, 0, false⟩] → a ∈ s.L ∨ a = ⟨t, r, 0, false⟩ := fun a ha => by simpa using ha
    refine ⟨h.n6, h.ncl, h.c3, h.clo, ?_, ?_, ?_, ?_, ?_, h.pri, fun hx => absurd hp hx, ?_, ?_, h.c0⟩
    · show ((s.L ++ [_]).map AL.task).Nodup
      rw [List.map_append, List.nodup_append]
      exact ⟨h.nd, by simp, fun a ha b hb e => by
        obtain ⟨x, hx, rfl⟩ := List.mem_map.1 ha
        simp at hb
        exact hnt x hx (e.trans hb)⟩
    · intro a ha; rcases hm a ha with h1 | rfl
      · exact h.tk a h1
      · exact ht
    · intro a ha; rcases hm a ha with h1 | rfl
      · exact h.rs a h1
      · exact hr
    · intro a ha; rcases hm a ha with h1 | rfl
      · exact h.pl a h1
      · exact ⟨Int.le_refl _, h.c0⟩
    · intro a ha b hb h0 e
      rcases hm a ha with h1 | rfl
      · rcases hm b hb with h2 | rfl
        · exact h.pd a h1 b h2 h0 e
        · dsimp only at e; omega
      · dsimp only at h0; omega
    · intro a ha hh; rcases hm a ha with h1 | rfl
      · exact h.hp a h1 hh
      · cases hh
    · intro a ha b hb h1 h2
      rcases hm a ha with ha | rfl
      · rcases hm b hb with hb | rfl
        · exact h.ex a ha b hb h1 h2
        · cases h2
      · cases h1
  · rename_i hp
    have hc := h.c0
    have hm : ∀ a, a ∈ s.L ++ [⟨t, r, s.count + 1, false⟩] → a ∈ s.L ∨ a = ⟨t, r, s.count + 1, false⟩ := fun a ha => by simpa using ha
    refine ⟨h.n6, h.ncl, h.c3, h.clo, ?_, ?_, ?_, ?_, ?_, h.pri, ?_, ?_, ?_, by show 0 ≤ s.count + 1; omega⟩
    · show ((s.L ++ [_]).map AL.task).Nodup
      rw [List.map_append, List.nodup_append]
      exact ⟨h.nd, by simp, fun a ha b hb e => by
        obtain ⟨x, hx, rfl⟩ := List.mem_map.1 ha
        simp at hb
        exact hnt x hx (e.trans hb)⟩
    · intro a ha; rcases hm a ha with h1 | rfl
      · exact h.tk a h1
      · exact ht
    · intro a ha; rcases hm a ha with h1 | rfl
      · exact h.rs a h1
      · exact hr
    · intro a ha
      show 0 ≤ a.place ∧ a.place ≤ s.count + 1
      rcases hm a ha with h1 | rfl
      · have := h.pl a h1; omega
      · dsimp only; omega
    · intro a ha b hb h0 e
      rcases hm a ha with h1 | rfl
      · rcases hm b hb with h2 | rfl
        · exact h.pd a h1 b h2 h0 e
        · have := h.pl a h1; dsimp only at e; omega
      · rcases hm b hb with h2 | rfl
        · have := h.pl b h2; dsimp only at e; omega
        · rfl
    · intro _ a ha; rcases hm a ha with h1 | rfl
      · exact h.tok hp a h1
      · dsimp only; omega
    · intro a ha hh; rcases hm a ha with h1 | rfl
      · exact h.hp a h1 hh
      · cases hh
    · intro a ha b hb h1 h2
      rcases hm a ha with ha | rfl
      · rcases hm b hb with hb | rfl
        · exact h.ex a ha b hb h1 h2
        · cases h2
      · cases h1
theorem LsOk.leave {s : Ls} (h : LsOk s) (t : Int) : LsOk (leaveS s t) := by
  have hm : ∀ a, a ∈ (leaveS s t).L → a ∈ s.L := fun a ha => (List.mem_filter.1 ha).1
  exact ⟨h.n6, h.ncl, h.c3, h.clo, h.nd.sublist (List.filter_sublist.map _), fun a ha => h.tk a (hm a ha), fun a ha => h.rs a (hm a ha), fun a ha => h.pl a (hm a ha), fun a ha b hb => h.pd a (hm a ha) b (hm b hb), h.pri,
    fun hp a ha => h.tok hp a (hm a ha), fun a ha => h.hp a (hm a ha), fun a ha b hb => h.ex a (hm a ha) b (hm b hb), h.c0⟩
theorem LsOk.place {s : Ls} (h : LsOk s) (t : Int) (hp3 : s.proto = 3) : LsOk (placeS s t) := by
  have hc := h.c0
  have hm : ∀ a, a ∈ (placeS s t).L → ∃ x ∈ s.L, a = placeF t (s.count + 1) x := fun a ha => by
    obtain ⟨x, hx, rfl⟩ := List.mem_map.1 ha
    exact ⟨x, hx, rfl⟩
  have hpp : ∀ x ∈ s.L, (x.task = t ∧ (placeF t (s.count + 1) x).place = s.count + 1) ∨ (x.task ≠ t ∧ (placeF t (s.count + 1) x).place = x.place) := fun x _ => by
    unfold placeF
    split
    · exact .inl ⟨by assumption, rfl⟩
    · exact .inr ⟨by assumption, rfl⟩
  refine ⟨h.n6, h.ncl, h.c3, h.clo, ?_, ?_, ?_, ?_, ?_, h.pri, fun hx => absurd hp3 hx, ?_, ?_, by show 0 ≤ s.count + 1; omega⟩
  · show ((s.L.map _).map AL.task).Nodup
    rw [tasks_map (placeF_task t _)]; exact h.nd
  · intro a ha; obtain ⟨x, hx, rfl⟩ := hm a ha; rw [placeF_task]; exact h.tk x hx
  · intro a ha; obtain ⟨x, hx, rfl⟩ := hm a ha; rw [placeF_res]; exact h.rs x hx
  · intro a ha
    obtain ⟨x, hx, rfl⟩ := hm a ha
    have := h.pl x hx
    show 0 ≤ (placeF t (s.count + 1) x).place ∧ (placeF t (s.count + 1) x).place ≤ s.count + 1
    rcases hpp x hx with ⟨_, e⟩ | ⟨_, e⟩ <;> rw [e] <;> omega
  · intro a ha b hb h0 e
    obtain ⟨x, hx, rfl⟩ := hm a ha
    obtain ⟨y, hy, rfl⟩ := hm b hb
    rw [placeF_task, placeF_task]
    have px := h.pl x hx
    have py := h.pl y hy
    rcases hpp x hx with ⟨e1, e2⟩ | ⟨e1, e2⟩ <;> rcases hpp y hy with ⟨f1, f2⟩ | ⟨f1, f2⟩ <;> rw [e2, f2] at e <;> rw [e2] at h0
    · exact e1.trans f1.symm
    · omega
    · omega
    · exact h.pd x hx y hy h0 e
  · intro a ha hh
    obtain ⟨x, hx, rfl⟩ := hm a ha
    rw [placeF_holds] at hh
    have := h.hp x hx hh
    rcases hpp x hx with ⟨e1, e2⟩ | ⟨e1, e2⟩ <;> rw [e2] <;> omega
  · intro a ha b hb h1 h2 hk
    obtain ⟨x, hx, rfl⟩ := hm a ha
    obtain ⟨y, hy, rfl⟩ := hm b hb
    rw [placeF_holds] at h1 h2
    rw [placeF_res, placeF_res] at hk
    rw [placeF_task, placeF_task]
    exact h.ex x hx y hy h1 h2 hk
theorem LsOk.hold {s : Ls} (h : LsOk s) {a : AL} (ha : a ∈ s.L) (hp0 : 0 < a.place) (hh : heldS s a.res = false) : LsOk (holdS s a.task) := by
  have hm : ∀ b, b ∈ (holdS s a.task).L → ∃ x ∈ s.L, b = holdF a.task x := fun b hb => by
    obtain ⟨x, hx, rfl⟩ := List.mem_map.1 hb
    exact ⟨x, hx, rfl⟩
  have hno : ∀ x ∈ s.L, x.holds = true → sameK s x.res a.res = false := fun x hx h1 => by
    cases e : sameK s x.res a.res with
    | false => rfl
    | true => have := heldS_true.2 ⟨x, hx, h1, e⟩; rw [hh] at this; cases this
  have hhh : ∀ x ∈ s.L, (holdF a.task x).holds = true → x.holds = true ∨ x = a := fun x hx h1 => by
    unfold holdF at h1
    split at h1
    · rename_i e; exact .inr (h.uniq hx ha e)
    · exact .inl h1
  refine ⟨h.n6, h.ncl, h.c3, h.clo, ?_, ?_, ?_, ?_, ?_, h.pri, ?_, ?_, ?_, h.c0⟩
  · show ((s.L.map _).map AL.task).Nodup
    rw [tasks_map (holdF_task _)]; exact h.nd
  · intro b hb; obtain ⟨x, hx, rfl⟩ := hm b hb; rw [holdF_task]; exact h.tk x hx
  · intro b hb; obtain ⟨x, hx, rfl⟩ := hm b hb; rw [holdF_res]; exact h.rs x hx
  · intro b hb; obtain ⟨x, hx, rfl⟩ := hm b hb; rw [holdF_place]; exact h.pl x hx
  · intro b hb c hc; obtain ⟨x, hx, rfl⟩ := hm b hb; obtain ⟨y, hy, rfl⟩ := hm c hc
    rw [holdF_place, holdF_place, holdF_task, holdF_task]; exact h.pd x hx y hy
  · intro hp b hb; obtain ⟨x, hx, rfl⟩ := hm b hb; rw [holdF_place]; exact h.tok hp x hx
  · intro b hb h1; obtain ⟨x, hx, rfl⟩ := hm b hb
    rw [holdF_place]
    rcases hhh x hx h1 with h2 | rfl
    · exact h.hp x hx h2
    · exact hp0
  · intro b hb c hc h1 h2 hk
    obtain ⟨x, hx, rfl⟩ := hm b hb; obtain ⟨y, hy, rfl⟩ := hm c hc
    rw [holdF_res, holdF_res] at hk
    rw [holdF_task, holdF_task]
    replace hk : sameK s x.res y.res = true := hk
    rcases hhh x hx h1 with e1 | rfl <;> rcases hhh y hy h2 with e2 | rfl
    · exact h.ex x hx y hy e1 e2 hk
    · rw [hno x hx e1] at hk; cases hk
    · rw [sameK_symm, hno y hy e2] at hk; cases hk
    · rfl
theorem waitG_place (s : Ls) {a : AL} (h : LsOk s) (ha : a ∈ s.L) (h0 : a.place = 0) : (waitG (placeS s a.task)).Perm (waitG s ++ [placeF a.task (s.count + 1) a]) := by
  obtain ⟨L1, L2, e⟩ := List.append_of_mem ha
  have hnd := h.nd
  rw [e, List.map_append, List.map_cons] at hnd
  have hn := List.nodup_append.1 hnd
  have h1 : ∀ x ∈ L1, x.task ≠ a.task := fun x hx => hn.2.2 _ (List.mem_map_of_mem hx) _ (by simp)
  have h2 : ∀ x ∈ L2, x.task ≠ a.task := fun x hx e => (List.nodup_cons.1 hn.2.1).1 (e ▸ List.mem_map_of_mem hx)
  have m1 : L1.map (placeF a.task (s.count + 1)) = L1 := (List.map_congr_left fun x hx => by unfold placeF; rw [if_neg (h1 x hx)]).trans (List.map_id' _)
  have m2 : L2.map (placeF a.task (s.count + 1)) = L2 := (List.map_congr_left fun x hx => by unfold placeF; rw [if_neg (h2 x hx)]).trans (List.map_id' _)
  have hh : a.holds = false := by
    cases hb : a.holds with
    | false => rfl
    | true => have := h.hp a ha hb; omega
  have hc := h.c0
  have w0 : a.waits = false := by simp [AL.waits, h0]
  have w1 : (placeF a.task (s.count + 1) a).waits = true := by
    unfold AL.waits
    rw [placeF_holds, hh]
    have : (placeF a.task (s.count + 1) a).place = s.count + 1 := by unfold placeF; rw [if_pos rfl]
    rw [this]
    simp; omega
  unfold waitG placeS
  dsimp only
  rw [e, List.map_append, List.map_cons, m1, m2, List.filter_append, List.filter_cons_of_pos w1, List.filter_append, List.filter_cons_of_neg (by simp [w0]), List.append_assoc]
  refine List.Perm.append_left _ ?_
  exact (List.perm_append_comm (l₁ := [placeF a.task (s.count + 1) a]) (l₂ := L2.filter AL.waits))
theorem waitG_hold (s : Ls) (t : Int) : waitG (holdS s t) = (waitG s).filter fun a => !(a.task == t) := by
  unfold waitG holdS
  dsimp only
  generalize s.L = L
  induction L with
  | nil => rfl
  | cons a L ih =>
    rw [List.map_cons, List.filter_cons, ih, List.filter_cons]
    by_cases e : a.task = t
    · have w0 : (holdF t a).waits = false := by unfold holdF AL.waits; rw [if_pos e]; rfl
      rw [w0, if_neg (by decide)]
      split
      · rw [List.filter_cons_of_neg (by simp [e])]
      · rfl
    · have w0 : holdF t a = a := by unfold holdF; rw [if_neg e]
      rw [w0]
      split
      · rw [List.filter_cons_of_pos (by simp [e])]
      · rfl
theorem waitG_leave (s : Ls) (t : Int) : waitG (leaveS s t) = (waitG s).filter fun a => !(a.task == t) := by
  unfold waitG leaveS
  dsimp only
  rw [List.filter_filter, List.filter_filter]
  congr 1
  funext a
  exact Bool.and_comm _ _
theorem waitG_ask (s : Ls) (t r : Int) (hc : 0 ≤ s.count) : waitG (askN s t r) = if s.proto = 3 then waitG s else waitG s ++ [⟨t, r, s.count + 1, false⟩] := by
  unfold waitG askN
  split
  · rw [List.filter_append, List.filter_cons_of_neg (by simp [AL.waits])]; simp
  · rw [List.filter_append, List.filter_cons_of_pos (by simp [AL.waits]; omega)]; simp
theorem heldS_ask (s : Ls) (t r q : Int) : heldS (askN s t r) q = heldS s q := by
  unfold heldS askN
  split <;> (rw [List.any_append]; simp [sameK, Ls.home])
theorem heldS_place (s : Ls) (t q : Int) : heldS (placeS s t) q = heldS s q := by
  unfold heldS placeS
  rw [List.any_map]
  congr 1
  funext a
  show ((placeF t (s.count + 1) a).holds && sameK _ (placeF t (s.count + 1) a).res q) = _
  rw [placeF_holds, placeF_res]; rfl
theorem heldS_hold {s : Ls} (h : LsOk s) {a : AL} (ha : a ∈ s.L) (q : Int) : heldS (holdS s a.task) q = (heldS s q || sameK s a.res q) := by
  rw [Bool.eq_iff_iff, Bool.or_eq_true, heldS_true, heldS_true]
  constructor
  · rintro ⟨b, hb, h1, h2⟩
    obtain ⟨x, hx, rfl⟩ := List.mem_map.1 hb
    rw [holdF_res] at h2
    unfold holdF at h1
    split at h1
    · rename_i e
      obtain rfl := h.uniq hx ha e
      exact .inr h2
    · exact .inl ⟨x, hx, h1, h2⟩
  · rintro (⟨x, hx, h1, h2⟩ | h2)
    · refine ⟨holdF a.task x, List.mem_map_of_mem hx, ?_, by rw [holdF_res]; exact h2⟩
      unfold holdF; split
      · rfl
      · exact h1
    · refine ⟨holdF a.task a, List.mem_map_of_mem ha, ?_, by rw [holdF_res]; exact h2⟩
      unfold holdF; rw [if_pos rfl]
theorem heldS_leave_waits {s : Ls} (h : LsOk s) {a : AL} (ha : a ∈ s.L) (hh : a.holds = false) (q : Int) : heldS (leaveS s a.task) q = heldS s q := by
  rw [Bool.eq_iff_iff, heldS_true, heldS_true]
  constructor
  · rintro ⟨b, hb, h1, h2⟩
    exact ⟨b, (List.mem_filter.1 hb).1, h1, h2⟩
  · rintro ⟨b, hb, h1, h2⟩
    refine ⟨b, List.mem_filter.2 ⟨hb, ?_⟩, h1, h2⟩
    by_cases e : b.task = a.task
    · obtain rfl := h.uniq hb ha e
      rw [hh] at h1; cases h1
    · simpa using e
theorem heldS_leave_holds {s : Ls} (h : LsOk s) {a : AL} (ha : a ∈ s.L) (hh : a.holds = true) (q : Int) : heldS (leaveS s a.task) q = (heldS s q && !sameK s a.res q) := by
  rw [Bool.eq_iff_iff, Bool.and_eq_true, heldS_true, heldS_true]
  constructor
  · rintro ⟨b, hb, h1, h2⟩
    have hb' := List.mem_filter.1 hb
    refine ⟨⟨b, hb'.1, h1, h2⟩, ?_⟩
    cases e : sameK s a.res q with
    | false => rfl
    | true =>
      have h3 : sameK s b.res a.res = true := sameK_trans h2 (by rw [sameK_symm]; exact e)
      have := h.ex b hb'.1 a ha h1 hh h3
      have h4 := hb'.2
      simp [this] at h4
  · rintro ⟨⟨b, hb, h1, h2⟩, h3⟩
    refine ⟨b, List.mem_filter.2 ⟨hb, ?_⟩, h1, h2⟩
    by_cases e : b.task = a.task
    · obtain rfl := h.uniq hb ha e
      rw [h2] at h3; cases h3
    · simpa using e

/-! outside and in -/
theorem outsS_ask (s : Ls) (t r : Int) (c : Int) (hc : 0 ≤ s.count) : outsS (askN s t r) c = if s.proto = 3 ∧ s.cls t = c then outsS s c ++ [t] else outsS s c := by
  unfold outsS askN
  by_cases hp : s.proto = 3
  · rw [if_pos hp]
    by_cases e : s.cls t = c
    · rw [if_pos ⟨hp, e⟩]
      show ((s.L ++ [(⟨t, r, 0, false⟩ : AL)]).filter (AL.outAt s c)).map AL.task = _
      rw [List.filter_append, List.filter_cons_of_pos (by simp [AL.outAt, e])]; simp
    · rw [if_neg (fun h => e h.2)]
      show ((s.L ++ [(⟨t, r, 0, false⟩ : AL)]).filter (AL.outAt s c)).map AL.task = _
      rw [List.filter_append, List.filter_cons_of_neg (by simp [AL.outAt, e])]; simp
  · rw [if_neg hp, if_neg (fun h => hp h.1)]
    show ((s.L ++ [(⟨t, r, s.count + 1, false⟩ : AL)]).filter (AL.outAt s c)).map AL.task = _
    rw [List.filter_append, List.filter_cons_of_neg (by simp [AL.outAt]; omega)]; simp
theorem insS_ask (s : Ls) (t r : Int) (c : Int) (hp : s.proto = 3) : insS (askN s t r) c = insS s c := by
  unfold insS askN
  rw [if_pos hp]
  show ((s.L ++ [(⟨t, r, 0, false⟩ : AL)]).filter (AL.inAt s c)).map AL.task = _
  rw [List.filter_append, List.filter_cons_of_neg (by simp [AL.inAt])]; simp
theorem outsS_leave (s : Ls) (t c : Int) : outsS (leaveS s t) c = (outsS s c).filter fun x => !(x == t) := by
  unfold outsS leaveS
  show ((s.L.filter _).filter (AL.outAt s c)).map AL.task = _
  rw [List.filter_filter, List.filter_map, List.filter_filter]
  congr 2
  funext a
  exact Bool.and_comm _ _
theorem insS_leave (s : Ls) (t c : Int) : insS (leaveS s t) c = (insS s c).filter fun x => !(x == t) := by
  unfold insS leaveS
  show ((s.L.filter _).filter (AL.inAt s c)).map AL.task = _
  rw [List.filter_filter, List.filter_map, List.filter_filter]
  congr 2
  funext a
  exact Bool.and_comm _ _
theorem outsS_hold (s : Ls) (t c : Int) : outsS (holdS s t) c = outsS s c := by
  unfold outsS holdS
  show ((s.L.map (holdF t)).filter (AL.outAt s c)).map AL.task = _
  rw [List.filter_map, List.map_map]
  have : (AL.outAt s c ∘ holdF t) = AL.outAt s c := by funext a; simp [AL.outAt, holdF_place, holdF_task]
  rw [this]
  exact List.map_congr_left fun a _ => holdF_task t a
theorem insS_hold (s : Ls) (t c : Int) : insS (holdS s t) c = insS s c := by
  unfold insS holdS
  show ((s.L.map (holdF t)).filter (AL.inAt s c)).map AL.task = _
  rw [List.filter_map, List.map_map]
  have : (AL.inAt s c ∘ holdF t) = AL.inAt s c := by funext a; simp [AL.inAt, holdF_place, holdF_task]
  rw [this]
  exact List.map_congr_left fun a _ => holdF_task t a
theorem outsS_place (s : Ls) (t c : Int) (hc : 0 ≤ s.count) : outsS (placeS s t) c = (outsS s c).filter fun x => !(x == t) := by
  unfold outsS placeS
  show ((s.L.map (placeF t (s.count + 1))).filter (AL.outAt s c)).map AL.task = _
  generalize s.L = L
  induction L with
  | nil => rfl
  | cons a L ih =>
    rw [List.map_cons]
    by_cases e : a.task = t
    · have w0 : AL.outAt s c (placeF t (s.count + 1) a) = false := by unfold placeF AL.outAt; rw [if_pos e]; simp; omega
      rw [List.filter_cons_of_neg (by simp [w0]), ih, List.filter_cons]
      split
      · rw [List.map_cons, List.filter_cons_of_neg (by simp [e])]
      · rfl
    · have w0 : placeF t (s.count + 1) a = a := by unfold placeF; rw [if_neg e]
      rw [w0, List.filter_cons, List.filter_cons]
      split
      · rw [List.map_cons, List.map_cons, ih, List.filter_cons_of_pos (by simp [e])]
      · exact ih
theorem insS_place {s : Ls} (h : LsOk s) {a : AL} (ha : a ∈ s.L) (h0 : a.place = 0) (c : Int) : (insS (placeS s a.task) c).Perm (insS s c ++ if s.cls a.task = c then [a.task] else []) := by
  obtain ⟨L1, L2, e⟩ := List.append_of_mem ha
  have hnd := h.nd
  rw [e, List.map_append, List.map_cons] at hnd
  have hn := List.nodup_append.1 hnd
  have h1 : ∀ x ∈ L1, x.task ≠ a.task := fun x hx => hn.2.2 _ (List.mem_map_of_mem hx) _ (by simp)
  have h2 : ∀ x ∈ L2, x.task ≠ a.task := fun x hx e => (List.nodup_cons.1 hn.2.1).1 (e ▸ List.mem_map_of_mem hx)
  have m1 : L1.map (placeF a.task (s.count + 1)) = L1 := (List.map_congr_left fun x hx => by unfold placeF; rw [if_neg (h1 x hx)]).trans (List.map_id' _)
  have m2 : L2.map (placeF a.task (s.count + 1)) = L2 := (List.map_congr_left fun x hx => by unfold placeF; rw [if_neg (h2 x hx)]).trans (List.map_id' _)
  have hc := h.c0
  have w0 : AL.inAt s c a = false := by simp [AL.inAt, h0]
  have pe : (placeF a.task (s.count + 1) a).place = s.count + 1 := by unfold placeF; rw [if_pos rfl]
  have w1 : AL.inAt s c (placeF a.task (s.count + 1) a) = (s.cls a.task == c) := by
    unfold AL.inAt
    rw [placeF_task, pe]
    simp; intro; omega
  unfold insS
  show ((s.L.map (placeF a.task (s.count + 1))).filter (AL.inAt s c)).map AL.task |>.Perm _
  rw [e, List.map_append, List.map_cons, m1, m2, List.filter_append, List.filter_append, List.filter_cons_of_neg (l := L2) (a := a) (by simp [w0]), List.map_append, List.map_append, List.append_assoc]
  refine List.Perm.append_left _ ?_
  rw [List.filter_cons, w1]
  by_cases ec : s.cls a.task = c
  · rw [if_pos (by simpa using ec), if_pos ec, List.map_cons, placeF_task]
    exact (List.perm_append_comm (l₁ := [a.task]) (l₂ := (L2.filter (AL.inAt s c)).map AL.task))
  · rw [if_neg (by simpa using ec), if_neg ec]; simp
/-! all of them placed -/
theorem mem_outsS {s : Ls} {c t : Int} : t ∈ outsS s c ↔ ∃ a ∈ s.L, a.task = t ∧ a.place = 0 ∧ s.cls t = c := by
  unfold outsS
  rw [List.mem_map]
  constructor
  · rintro ⟨a, ha, rfl⟩
    have := List.mem_filter.1 ha
    simp only [AL.outAt, Bool.and_eq_true, decide_eq_true_eq, beq_iff_eq] at this
    exact ⟨a, this.1, rfl, this.2.1, this.2.2⟩
  · rintro ⟨a, ha, rfl, h1, h2⟩
    exact ⟨a, List.mem_filter.2 ⟨ha, by simp [AL.outAt, h1, h2]⟩, rfl⟩
theorem outsS_nd {s : Ls} (h : LsOk s) (c : Int) : (outsS s c).Nodup := h.nd.sublist (List.filter_sublist.map _)
theorem insS_nd {s : Ls} (h : LsOk s) (c : Int) : (insS s c).Nodup := h.nd.sublist (List.filter_sublist.map _)
theorem both_nd {s : Ls} (h : LsOk s) (c : Int) : (insS s c ++ outsS s c).Nodup := by
  rw [List.nodup_append]
  refine ⟨insS_nd h c, outsS_nd h c, fun x hx y hy e => ?_⟩
  subst e
  obtain ⟨a, ha, rfl⟩ := List.mem_map.1 hx
  obtain ⟨b, hb, e1, h0, _⟩ := mem_outsS.1 hy
  have ha' := List.mem_filter.1 ha
  obtain rfl := h.uniq hb ha'.1 e1
  simp only [AL.inAt, Bool.and_eq_true, decide_eq_true_eq] at ha'
  omega
theorem mem_newS {s : Ls} {t : Int} : t ∈ newS s ↔ ∃ c : Nat, c < s.cores.length ∧ t ∈ (outsS s c).take (numS s c) := by
  unfold newS
  rw [(List.mergeSort_perm _ _).mem_iff, List.mem_flatMap]
  simp
theorem newS_out {s : Ls} {t : Int} (h : t ∈ newS s) : ∃ a ∈ s.L, a.task = t ∧ a.place = 0 := by
  obtain ⟨c, _, hm⟩ := mem_newS.1 h
  obtain ⟨a, ha, e, h0, _⟩ := mem_outsS.1 (List.mem_of_mem_take hm)
  exact ⟨a, ha, e, h0⟩
theorem flat_nd {s : Ls} (h : LsOk s) (f : Nat → Nat) : ∀ k : Nat, ((List.range k).flatMap fun c => (outsS s (c : Nat)).take (f c)).Nodup
  | 0 => by simp
  | k + 1 => by
    rw [List.range_succ, List.flatMap_append, List.nodup_append]
    refine ⟨flat_nd h f k, ?_, fun x hx y hy e => ?_⟩
    · simpa using (outsS_nd h k).sublist (List.take_sublist _ _)
    · subst e
      obtain ⟨c, hc, hm⟩ := List.mem_flatMap.1 hx
      rw [List.mem_range] at hc
      simp only [List.flatMap_cons, List.flatMap_nil, List.append_nil] at hy
      obtain ⟨a, ha, e, _, h1⟩ := mem_outsS.1 (List.mem_of_mem_take hm)
      obtain ⟨b, hb, e', _, h2⟩ := mem_outsS.1 (List.mem_of_mem_take hy)
      omega
theorem newS_nd {s : Ls} (h : LsOk s) : (newS s).Nodup := by
  unfold newS
  rw [(List.mergeSort_perm _ _).nodup_iff]
  exact flat_nd h _ _
theorem newS_nil {s : Ls} (h : LsOk s) (hp : s.proto ≠ 3) : newS s = [] := by
  rcases hn : newS s with _ | ⟨t, l⟩
  · rfl
  · obtain ⟨a, ha, _, h0⟩ := newS_out (s := s) (t := t) (by rw [hn]; simp)
    have := h.tok hp a ha
    omega
theorem placeS_out {s : Ls} {a : AL} (ha : a ∈ s.L) {t : Int} (hne : a.task ≠ t) : a ∈ (placeS s t).L := by
  have : placeF t (s.count + 1) a = a := by unfold placeF; rw [if_neg hne]
  have h2 := List.mem_map_of_mem (f := placeF t (s.count + 1)) ha
  rw [this] at h2
  exact h2
theorem fold_place {s : Ls} (xs : List Int) (h : LsOk s) (hp : xs = [] ∨ s.proto = 3) (hn : xs.Nodup) (hx : ∀ t ∈ xs, ∃ a ∈ s.L, a.task = t ∧ a.place = 0) :
    LsOk (xs.foldl placeS s) ∧ (∀ c, outsS (xs.foldl placeS s) c = (outsS s c).filter fun x => !xs.contains x) ∧ (∀ c, (insS (xs.foldl placeS s) c).Perm (insS s c ++ xs.filter fun x => s.cls x == c)) := by
  induction xs generalizing s with
  | nil =>
    refine ⟨h, fun c => ?_, fun c => ?_⟩
    · rw [List.filter_eq_self.2]; rfl
      simp
    · simp
  | cons t xs ih =>
    have hp3 : s.proto = 3 := hp.resolve_left (by simp)
    obtain ⟨ht, hn2⟩ := List.nodup_cons.1 hn
    obtain ⟨a, ha, e, h0⟩ := hx t (by simp)
    have h1 := h.place t hp3
    have hc := h.c0
    obtain ⟨i1, i2, i3⟩ := ih h1 (.inr hp3) hn2 fun u hu => by
      obtain ⟨b, hb, e2, h2⟩ := hx u (List.mem_cons_of_mem _ hu)
      have hne : b.task ≠ t := fun e3 => ht (by rw [← e3, e2]; exact hu)
      exact ⟨b, placeS_out hb hne, e2, h2⟩
    refine ⟨i1, fun c => ?_, fun c => ?_⟩
    · rw [List.foldl_cons, i2 c, outsS_place s t c hc, List.filter_filter]
      congr 1
      funext x
      rw [List.contains_cons, Bool.not_or, Bool.and_comm]
    · rw [List.foldl_cons]
      refine (i3 c).trans ?_
      subst e
      have := insS_place h ha h0 c
      have hcl : ∀ x, (placeS s a.task).cls x = s.cls x := fun x => rfl
      refine (this.append_right _).trans ?_
      rw [List.filter_cons, List.append_assoc]
      simp only [hcl]
      by_cases ec : s.cls a.task = c
      · rw [if_pos ec, if_pos (by simpa using ec)]; exact List.Perm.refl _
      · rw [if_neg ec, if_neg (by simpa using ec)]; exact List.Perm.refl _
theorem letS_all {s : Ls} (h : LsOk s) : LsOk (letS s) ∧ (∀ c, outsS (letS s) c = (outsS s c).filter fun x => !(newS s).contains x) ∧ (∀ c, (insS (letS s) c).Perm (insS s c ++ (newS s).filter fun x => s.cls x == c)) := by
  refine fold_place (newS s) h ?_ (newS_nd h) fun t ht => newS_out ht
  by_cases hp : s.proto = 3
  · exact .inr hp
  · exact .inl (newS_nil h hp)
theorem take_not {α : Type} [BEq α] [LawfulBEq α] {l : List α} (hn : l.Nodup) (k : Nat) : l.filter (fun x => !(l.take k).contains x) = l.drop k := by
  have hs := List.nodup_append.1 (by rw [List.take_append_drop]; exact hn : (l.take k ++ l.drop k).Nodup)
  have e : l.filter (fun x => !(l.take k).contains x) = (l.take k ++ l.drop k).filter (fun x => !(l.take k).contains x) := by rw [List.take_append_drop]
  rw [e, List.filter_append, List.filter_eq_nil_iff.2, List.filter_eq_self.2]
  · rfl
  · intro x hx
    simp only [Bool.not_eq_true', List.contains_eq_mem, decide_eq_false_iff_not]
    exact fun hm => hs.2.2 x hm x hx rfl
  · intro x hx
    simp only [Bool.not_eq_true', List.contains_eq_mem, decide_eq_false_iff_not, Classical.not_not]
    exact hx
theorem newS_at {s : Ls} {c : Nat} {x : Int} (hc : c < s.cores.length) (hx : s.cls x = (c : Int)) : x ∈ newS s ↔ x ∈ (outsS s c).take (numS s c) := by
  rw [mem_newS]
  constructor
  · rintro ⟨d, hd, hm⟩
    obtain ⟨_, _, _, _, e⟩ := mem_outsS.1 (List.mem_of_mem_take hm)
    obtain rfl : d = c := by omega
    exact hm
  · exact fun hm => ⟨c, hc, hm⟩
theorem outsS_let {s : Ls} (h : LsOk s) {c : Nat} (hc : c < s.cores.length) : outsS (letS s) c = (outsS s c).drop (numS s c) := by
  rw [(letS_all h).2.1, ← take_not (outsS_nd h c) (numS s c)]
  refine List.filter_congr fun x hx => ?_
  obtain ⟨_, _, _, _, e⟩ := mem_outsS.1 hx
  rw [List.contains_eq_mem, List.contains_eq_mem]
  congr 2
  exact propext (newS_at hc e)
theorem insS_let {s : Ls} (h : LsOk s) {c : Nat} (hc : c < s.cores.length) : (insS (letS s) c).Perm (insS s c ++ (outsS s c).take (numS s c)) := by
  refine ((letS_all h).2.2 c).trans (List.Perm.append_left _ ?_)
  rw [List.perm_ext_iff_of_nodup ((newS_nd h).filter _) ((outsS_nd h c).sublist (List.take_sublist _ _))]
  intro x
  rw [List.mem_filter]
  constructor
  · rintro ⟨h1, h2⟩
    exact (newS_at hc (by simpa using h2)).1 h1
  · intro hm
    obtain ⟨_, _, _, _, e⟩ := mem_outsS.1 (List.mem_of_mem_take hm)
    exact ⟨(newS_at hc e).2 hm, by simpa using e⟩

/-! granting -/
theorem mem_waitG {s : Ls} {a : AL} : a ∈ waitG s ↔ a ∈ s.L ∧ a.holds = false ∧ 0 < a.place := by
  unfold waitG
  rw [List.mem_filter]
  simp [AL.waits]
/-- an ask of these, whoever holds -/
def AskIn (s : Ls) (a : AL) : Prop := ∃ b ∈ s.L, b.task = a.task ∧ b.res = a.res ∧ b.place = a.place ∧ 0 < a.place
theorem AskIn.hold {s : Ls} {a : AL} (h : AskIn s a) (t : Int) : AskIn (holdS s t) a := by
  obtain ⟨b, hb, h1, h2, h3, h4⟩ := h
  exact ⟨holdF t b, List.mem_map_of_mem hb, by rw [holdF_task]; exact h1, by rw [holdF_res]; exact h2, by rw [holdF_place]; exact h3, h4⟩
theorem try1_ok {s : Ls} {l : List Int} {a : AL} (h : LsOk s) (ha : AskIn s a) : LsOk (try1 (s, l) a).1 ∧ ∀ b, AskIn s b → AskIn (try1 (s, l) a).1 b := by
  unfold try1
  split
  · exact ⟨h, fun _ hb => hb⟩
  · rename_i hh
    obtain ⟨b, hb, h1, h2, h3, h4⟩ := ha
    dsimp only at hh ⊢
    refine ⟨?_, fun c hc => hc.hold _⟩
    rw [← h1]
    exact h.hold hb (by omega) (by rw [h2]; simpa using hh)
theorem fold_try (xs : List AL) : ∀ {s : Ls} {l : List Int}, LsOk s → (∀ a ∈ xs, AskIn s a) → LsOk (xs.foldl try1 (s, l)).1 := by
  induction xs with
  | nil => exact fun h _ => h
  | cons a xs ih =>
    intro s l h hx
    obtain ⟨h1, h2⟩ := try1_ok (l := l) h (hx a (by simp))
    rw [List.foldl_cons]
    exact ih (s := (try1 (s, l) a).1) (l := (try1 (s, l) a).2) h1 fun b hb => h2 b (hx b (List.mem_cons_of_mem _ hb))
theorem candS_in {s : Ls} {a : AL} (h : a ∈ candS s) : AskIn s a := by
  unfold candS at h
  rw [(List.mergeSort_perm _ _).mem_iff, mem_waitG] at h
  exact ⟨a, h.1, rfl, rfl, rfl, h.2.2⟩
theorem LsOk.grant {s : Ls} (h : LsOk s) : LsOk (grantS s) := fold_try _ (letS_all h).1 fun _ ha => candS_in ha
theorem askC_zero {s : Ls} {t r : Int} (h : askC s t r = 0) : s.has t ∧ s.hasR r ∧ s.get t = none := by
  unfold askC at h
  by_cases h1 : s.has t
  · rw [if_neg (by simpa using h1)] at h
    by_cases h2 : s.hasR r
    · rw [if_neg (by simpa using h2)] at h
      by_cases h3 : (s.get t).isSome = true
      · rw [if_pos h3] at h; cases h
      · exact ⟨h1, h2, by simpa using h3⟩
    · rw [if_pos h2] at h; cases h
  · rw [if_pos h1] at h; cases h
theorem LsOk.asks {s : Ls} (h : LsOk s) (t r : Int) : LsOk (askS s t r) := by
  unfold askS
  by_cases e : askC s t r = 0
  · obtain ⟨h1, h2, h3⟩ := askC_zero e
    rw [if_pos e]; exact h.ask h1 h2 h3
  · rw [if_neg e]; exact h
/-- what stays as it is -/
structure SameLs (s s' : Ls) : Prop where
  proto : s'.proto = s.proto
  prio : s'.prio = s.prio
  cl : s'.cl = s.cl
  cores : s'.cores = s.cores
  homes : s'.homes = s.homes
theorem SameLs.refl (s : Ls) : SameLs s s := ⟨rfl, rfl, rfl, rfl, rfl⟩
theorem SameLs.trans {s t u : Ls} (h : SameLs s t) (g : SameLs t u) : SameLs s u := ⟨g.1.trans h.1, g.2.trans h.2, g.3.trans h.3, g.4.trans h.4, g.5.trans h.5⟩
theorem same_ask (s : Ls) (t r : Int) : SameLs s (askS s t r) := by
  unfold askS askN
  repeat' split
  all_goals exact ⟨rfl, rfl, rfl, rfl, rfl⟩
theorem same_leave (s : Ls) (t : Int) : SameLs s (leaveS s t) := ⟨rfl, rfl, rfl, rfl, rfl⟩
theorem same_place (xs : List Int) : ∀ s : Ls, SameLs s (xs.foldl placeS s) := by
  induction xs with
  | nil => exact fun s => SameLs.refl s
  | cons x xs ih => exact fun s => SameLs.trans (t := placeS s x) ⟨rfl, rfl, rfl, rfl, rfl⟩ (ih _)
theorem same_try (xs : List AL) : ∀ (s : Ls) (l : List Int), SameLs s (xs.foldl try1 (s, l)).1 := by
  induction xs with
  | nil => exact fun s _ => SameLs.refl s
  | cons x xs ih =>
    intro s l
    refine SameLs.trans (t := (try1 (s, l) x).1) ?_ (ih _ _)
    unfold try1
    split <;> exact ⟨rfl, rfl, rfl, rfl, rfl⟩
theorem same_grant (s : Ls) : SameLs s (grantS s) := SameLs.trans (t := letS s) (same_place _ s) (same_try _ _ _)
/-- how many places more: one for each ask (not Token: for each that is let in) -/
theorem count_fold (xs : List Int) : ∀ s : Ls, (xs.foldl placeS s).count = s.count + xs.length := by
  induction xs with
  | nil => intro s; simp
  | cons x xs ih => intro s; rw [List.foldl_cons, ih]; show s.count + 1 + _ = _; simp; omega
theorem count_try (xs : List AL) : ∀ (s : Ls) (l : List Int), (xs.foldl try1 (s, l)).1.count = s.count := by
  induction xs with
  | nil => exact fun s _ => rfl
  | cons x xs ih =>
    intro s l
    rw [List.foldl_cons]
    refine (ih (try1 (s, l) x).1 (try1 (s, l) x).2).trans ?_
    unfold try1
    split <;> rfl
theorem len_sub : ∀ {l m : List Int}, l.Nodup → (∀ x ∈ l, x ∈ m) → l.length ≤ m.length
  | [], _, _, _ => by simp
  | x :: l, m, hn, hs => by
    obtain ⟨h1, h2⟩ := List.nodup_cons.1 hn
    have hm := hs x (by simp)
    have := len_sub (m := m.erase x) h2 fun y hy => (List.mem_erase_of_ne (fun (e : y = x) => h1 (by rw [← e]; exact hy))).2 (hs y (List.mem_cons_of_mem _ hy))
    rw [List.length_erase_of_mem hm] at this
    have := List.length_pos_of_mem hm
    simp; omega
theorem tasks_le {s : Ls} (h : LsOk s) : s.L.length ≤ s.prio.length := by
  have := len_sub (m := (List.range s.prio.length).map fun n : Nat => (n : Int)) h.nd fun x hx => by
    obtain ⟨a, ha, rfl⟩ := List.mem_map.1 hx
    have h2 := h.tk a ha
    unfold Ls.has at h2
    exact List.mem_map.2 ⟨a.task.toNat, by rw [List.mem_range]; omega, by omega⟩
  simpa using this
theorem newS_len {s : Ls} (h : LsOk s) : (newS s).length ≤ 6 := by
  have h2 := len_sub (m := s.L.map AL.task) (newS_nd h) fun t ht => by
    obtain ⟨a, ha, e, _⟩ := newS_out ht
    exact e ▸ List.mem_map_of_mem ha
  have h3 := tasks_le h
  have h4 := h.n6
  simp at h2; omega
theorem grant_count {s : Ls} (h : LsOk s) : (grantS s).count ≤ s.count + 6 ∧ s.count ≤ (grantS s).count := by
  have e : (grantS s).count = s.count + (newS s).length := by
    unfold grantS grantP
    rw [count_try]
    exact count_fold _ _
  have := newS_len h
  omega
theorem ask_count (s : Ls) (t r : Int) : (askS s t r).count ≤ s.count + 1 ∧ s.count ≤ (askS s t r).count := by
  have e : (askN s t r).count = s.count ∨ (askN s t r).count = s.count + 1 := by
    unfold askN
    split
    · exact .inl rfl
    · exact .inr rfl
  unfold askS
  split <;> omega
theorem getD_set' {α : Type} {l : List α} {n i : Nat} {x d : α} (hn : n < l.length) : (l.set n x).getD i d = if i = n then x else l.getD i d := by
  by_cases e : i = n
  · subst e; simp [List.getD, hn]
  · rw [if_neg e]; simp [List.getD, List.getElem?_set, Ne.symm e]
def holderS (s : Ls) (r : Int) : Option Int := (s.L.find? fun a => a.holds && a.res == r).map AL.task
def holderV (s : Ls) (r : Int) : Value := match holderS s r with | some t => .tuple #[.int .i64 t, .bool true] | none => .tuple #[.int .i64 0, .bool false]
def waitS (s : Ls) : List Int := ((List.range s.prio.length).filter fun i => match s.get (i : Nat) with | some a => !a.holds | none => false).map fun i : Nat => (i : Int)
end Go.Proofs.YtppgameimddimaaGreat

namespace Go.Proofs.YtppgameimddimaaGreat
open Go.ChangeShapes Go.WideShapes Go.ChangeAt Go.RowKit Go.Conc
set_option linter.unusedVariables false
set_option linter.unusedSimpArgs false
deriving instance DecidableEq for AL
deriving instance DecidableEq for Ls
section
variable {α : Type} {le : α → α → Bool}
def insK (le : α → α → Bool) (x : α) : List α → List α
  | [] => [x]
  | y :: l => if le x y = true then x :: y :: l else y :: insK le x l
def isortK (le : α → α → Bool) : List α → List α
  | [] => []
  | x :: l => insK le x (isortK le l)
theorem insK_perm (x : α) : ∀ l, (insK le x l).Perm (x :: l)
  | [] => List.Perm.refl _
  | y :: l => by
    unfold insK
    split
    · exact List.Perm.refl _
    · exact ((insK_perm x l).cons y).trans (List.Perm.swap x y l)
theorem isortK_perm : ∀ l, (isortK le l).Perm l
  | [] => List.Perm.refl _
  | x :: l => (insK_perm x _).trans ((isortK_perm l).cons x)
theorem insK_srt (tr : ∀ a b c, le a b = true → le b c = true → le a c = true) (tl : ∀ a b, (le a b || le b a) = true) (x : α) : ∀ l, l.Pairwise (fun a b => le a b = true) → (insK le x l).Pairwise (fun a b => le a b = true)
  | [], _ => by simp [insK]
  | y :: l, h => by
    obtain ⟨h1, h2⟩ := List.pairwise_cons.1 h
    unfold insK
    split
    · rename_i e
      refine List.pairwise_cons.2 ⟨fun z hz => ?_, h⟩
      rcases List.mem_cons.1 hz with rfl | hz
      · exact e
      · exact tr _ _ _ e (h1 z hz)
    · rename_i e
      refine List.pairwise_cons.2 ⟨fun z hz => ?_, insK_srt tr tl x l h2⟩
      rcases List.mem_cons.1 ((insK_perm x l).mem_iff.1 hz) with rfl | hz
      · have := tl z y
        simpa [e] using this
      · exact h1 z hz
theorem isortK_srt (tr : ∀ a b c, le a b = true → le b c = true → le a c = true) (tl : ∀ a b, (le a b || le b a) = true) : ∀ l, (isortK le l).Pairwise (fun a b => le a b = true)
  | [] => List.Pairwise.nil
  | x :: l => insK_srt tr tl x _ (isortK_srt tr tl l)
theorem isortK_eq (tr : ∀ a b c, le a b = true → le b c = true → le a c = true) (tl : ∀ a b, (le a b || le b a) = true) (l : List α) (an : ∀ a b, a ∈ l → b ∈ l → le a b = true → le b a = true → a = b) : l.mergeSort le = isortK le l :=
  List.Perm.eq_of_pairwise (le := fun a b => le a b = true) (fun a b ha hb => an a b ((List.mergeSort_perm _ _).mem_iff.1 ha) ((isortK_perm l).mem_iff.1 hb)) (List.pairwise_mergeSort tr tl l) (isortK_srt tr tl l) ((List.mergeSort_perm _ _).trans (isortK_perm l).symm)
end
theorem sortI_is (l : List Int) : l.mergeSort (fun x y => decide (x ≤ y)) = isortK (fun x y => decide (x ≤ y)) l :=
  isortK_eq (fun a b c h1 h2 => by simp at *; omega) (fun a b => by simp; omega) l (fun a b _ _ h1 h2 => by simp at *; omega)
theorem key_inj {s : Ls} (ho : LsOk s) {a b : AL} (ha : a ∈ waitG s) (hb : b ∈ waitG s) (hk : keyS s a = keyS s b) : a = b := by
  rw [mem_waitG] at ha hb
  have ht : a.task = b.task := by
    unfold keyS at hk
    split at hk
    · rename_i hp2
      exact ho.pri hp2 _ _ (ho.tk a ha.1) (ho.tk b hb.1) hk
    · exact ho.pd a ha.1 b hb.1 ha.2.2 hk
  exact ho.uniq ha.1 hb.1 ht
theorem candS_is {s : Ls} (ho : LsOk s) : candS s = isortK (fun a b => decide (keyS s a ≤ keyS s b)) (waitG s) :=
  isortK_eq (fun a b c h1 h2 => by simp at *; omega) (fun a b => by simp; omega) _ (fun a b ha hb h1 h2 => key_inj ho ha hb (by simp at h1 h2; omega))
def newC (s : Ls) : List Int := isortK (fun x y => decide (x ≤ y)) ((List.range s.cores.length).flatMap fun c => (outsS s (c : Nat)).take (numS s c))
def letC (s : Ls) : Ls := (newC s).foldl placeS s
def candC (s : Ls) : List AL := isortK (fun a b => decide (keyS s a ≤ keyS s b)) (waitG s)
def grantPC (s : Ls) : Ls × List Int := (candC (letC s)).foldl try1 (letC s, [])
def grantC (s : Ls) : Ls := (grantPC s).1
def grantLC (s : Ls) : List Int := isortK (fun x y => decide (x ≤ y)) (grantPC s).2
theorem newS_is (s : Ls) : newS s = newC s := sortI_is _
theorem letS_is (s : Ls) : letS s = letC s := by unfold letS letC; rw [newS_is]
theorem grantP_is {s : Ls} (ho : LsOk s) : grantP s = grantPC s := by
  have := (letS_all ho).1
  unfold grantP grantPC
  rw [candS_is this, letS_is]; rfl
theorem grantS_is {s : Ls} (ho : LsOk s) : grantS s = grantC s := by unfold grantS grantC; rw [grantP_is ho]
theorem grantL_is {s : Ls} (ho : LsOk s) : grantL s = grantLC s := by unfold grantL grantLC; rw [grantP_is ho, sortI_is]
end Go.Proofs.YtppgameimddimaaGreat

namespace Go.Proofs.YtppgameimddimaaGreat
open Go.ChangeShapes Go.WideShapes Go.ChangeAt Go.RowKit Go.Conc
set_option linter.unusedVariables false
set_option linter.unusedSimpArgs false
theorem let_not {s : Ls} (ho : LsOk s) (hp : s.proto ≠ 3) : letS s = s := by unfold letS; rw [newS_nil ho hp]; rfl
theorem fold_held (xs : List AL) : ∀ (s : Ls) (l : List Int), (∀ a ∈ xs, heldS s a.res = true) → xs.foldl try1 (s, l) = (s, l) := by
  induction xs with
  | nil => exact fun s l _ => rfl
  | cons a xs ih =>
    intro s l h
    rw [List.foldl_cons]
    have e : try1 (s, l) a = (s, l) := by unfold try1; rw [if_pos (h a (by simp))]
    rw [e]
    exact ih s l fun b hb => h b (List.mem_cons_of_mem _ hb)
theorem candS_mem {s : Ls} {a : AL} : a ∈ candS s ↔ a ∈ waitG s := (List.mergeSort_perm _ _).mem_iff
/-- one key for all that ask: somebody holds, nobody is granted; else the one ahead -/
theorem grant_held {s : Ls} (ho : LsOk s) (hp : s.proto ≠ 3) (hall : ∀ a ∈ s.L, ∀ b ∈ s.L, sameK s a.res b.res = true) {b : AL} (hb : b ∈ s.L) (hh : b.holds = true) : grantS s = s := by
  unfold grantS grantP
  rw [let_not ho hp, fold_held]
  exact fun a ha => heldS_true.2 ⟨b, hb, hh, hall b hb a (mem_waitG.1 (candS_mem.1 ha)).1⟩
theorem grant_none {s : Ls} (ho : LsOk s) (hp : s.proto ≠ 3) (h : s.L = []) : grantS s = s := by
  have : candS s = [] := by unfold candS waitG; rw [h]; simp
  unfold grantS grantP
  rw [let_not ho hp, this]; rfl
theorem grant_first {s : Ls} (ho : LsOk s) (hp : s.proto ≠ 3) (hall : ∀ a ∈ s.L, ∀ b ∈ s.L, sameK s a.res b.res = true) (hn : ∀ a ∈ s.L, a.holds = false) (hne : s.L ≠ []) :
    ∃ a ∈ s.L, grantS s = holdS s a.task ∧ ∀ b ∈ s.L, keyS s a ≤ keyS s b := by
  have hw : ∀ a, a ∈ waitG s ↔ a ∈ s.L := fun a => by rw [mem_waitG]; exact ⟨fun h => h.1, fun h => ⟨h, hn a h, ho.tok hp a h⟩⟩
  have hs : (candS s).Pairwise (fun a b => decide (keyS s a ≤ keyS s b) = true) := List.pairwise_mergeSort (le := fun a b => decide (keyS s a ≤ keyS s b)) (fun a b c h1 h2 => by simp at *; omega) (fun a b => by simp; omega) (waitG s)
  cases hc : candS s with
  | nil =>
    obtain ⟨x, hx⟩ := List.exists_mem_of_ne_nil _ hne
    have := candS_mem.2 ((hw x).2 hx)
    rw [hc] at this; simp at this
  | cons a xs =>
    rw [hc] at hs
    have ha : a ∈ s.L := (hw a).1 (candS_mem.1 (by rw [hc]; simp))
    have hax : ∀ b ∈ xs, b ∈ s.L := fun b hb => (hw b).1 (candS_mem.1 (by rw [hc]; exact List.mem_cons_of_mem _ hb))
    have h0 : heldS s a.res = false := by
      cases e : heldS s a.res with
      | false => rfl
      | true =>
        obtain ⟨b, hb, h1, _⟩ := heldS_true.1 e
        rw [hn b hb] at h1; cases h1
    refine ⟨a, ha, ?_, fun b hb => ?_⟩
    · unfold grantS grantP
      rw [let_not ho hp, hc, List.foldl_cons]
      have e : try1 (s, []) a = (holdS s a.task, [] ++ [a.task]) := by unfold try1; rw [if_neg (by rw [h0]; decide)]
      rw [e, fold_held]
      intro b hb
      rw [heldS_hold ho ha, hall a ha b (hax b hb)]
      simp
    · rcases List.mem_cons.1 (show b ∈ a :: xs from hc ▸ candS_mem.2 ((hw b).2 hb)) with rfl | hb
      · exact Int.le_refl _
      · have := (List.pairwise_cons.1 hs).1 b hb
        simpa using this
structure AgShape (s : Ls) : Prop where
  proto : s.proto = 2
  prio : s.prio = [6, 5, 4, 3, 2, 1]
  homes : s.homes = [0, 0]
theorem AgShape.same {s s' : Ls} (h : AgShape s) (hs : SameLs s s') : AgShape s' := ⟨hs.proto.trans h.proto, hs.prio.trans h.prio, hs.homes.trans h.homes⟩
/-- ahead of a grant -/
structure AgJ (s : Ls) (ins : List Bool) (h : Int) : Prop where
  sh : AgShape s
  ok : LsOk s
  len : ins.length = 6
  ins : ∀ t : Nat, t < 6 → ins.getD t false = (s.get t).isSome
  hh : ∀ t : Nat, t < 6 → holdsS s t = decide ((t : Int) = h)
  hr : -1 ≤ h ∧ h < 6
def lastN (ins : List Bool) : Nat → Int
  | 0 => -1
  | k + 1 => if ins.getD k false = true then (k : Int) else lastN ins k
theorem lastN_bd (ins : List Bool) : ∀ k, -1 ≤ lastN ins k ∧ lastN ins k < k
  | 0 => by simp [lastN]
  | k + 1 => by
    have := lastN_bd ins k
    unfold lastN
    split <;> omega
theorem lastN_none {ins : List Bool} : ∀ {k : Nat}, (∀ t : Nat, t < k → ins.getD t false = false) → lastN ins k = -1
  | 0, _ => rfl
  | k + 1, h => by
    unfold lastN
    rw [if_neg (by rw [h k (by omega)]; decide)]
    exact lastN_none fun t ht => h t (by omega)
theorem lastN_at {ins : List Bool} {n : Nat} (h1 : ins.getD n false = true) : ∀ {k : Nat}, n < k → (∀ t : Nat, n < t → t < k → ins.getD t false = false) → lastN ins k = n
  | 0, h, _ => absurd h (by omega)
  | k + 1, h, h2 => by
    unfold lastN
    by_cases e : k = n
    · subst e; rw [if_pos h1]
    · rw [if_neg (by rw [h2 k (by omega) (by omega)]; decide)]
      exact lastN_at h1 (by omega) fun t ht hk => h2 t ht (by omega)
/-- the holder behind a grant -/
def nextH (ins : List Bool) (h : Int) : Int := if h < 0 then lastN ins 6 else h
structure AgI (s : Ls) (ins : List Bool) (h : Int) : Prop where
  j : AgJ s ins h
  hn : h < 0 → ∀ t : Nat, t < 6 → ins.getD t false = false
section
variable {s : Ls} {ins : List Bool} {h : Int}
theorem AgShape.all (hs : AgShape s) (ho : LsOk s) : ∀ a ∈ s.L, ∀ b ∈ s.L, sameK s a.res b.res = true := fun a ha b hb => by
  have h1 := ho.rs a ha
  have h2 := ho.rs b hb
  unfold Ls.hasR at h1 h2
  unfold sameK Ls.home
  rw [hs.homes] at *
  simp only [List.length_cons, List.length_nil] at h1 h2
  have e : ∀ r : Int, 0 ≤ r ∧ r < 2 → [(0 : Int), 0].getD r.toNat 0 = 0 := fun r hr => by
    have : r = 0 ∨ r = 1 := by omega
    rcases this with rfl | rfl <;> rfl
  rw [e _ (by omega), e _ (by omega), hs.proto]
  simp
theorem AgShape.pri (hs : AgShape s) {t : Int} (ht : s.has t) : s.pri t = 6 - t := by
  unfold Ls.has at ht
  unfold Ls.pri
  rw [hs.prio] at *
  simp only [List.length_cons, List.length_nil] at ht
  have : t = 0 ∨ t = 1 ∨ t = 2 ∨ t = 3 ∨ t = 4 ∨ t = 5 := by omega
  rcases this with rfl | rfl | rfl | rfl | rfl | rfl <;> rfl
theorem AgShape.has (hs : AgShape s) (t : Int) : s.has t ↔ 0 ≤ t ∧ t < 6 := by unfold Ls.has; rw [hs.prio]; simp
theorem AgJ.at_ (hj : AgJ s ins h) {a : AL} (ha : a ∈ s.L) : ∃ n : Nat, n < 6 ∧ a.task = (n : Int) ∧ ins.getD n false = true ∧ a.holds = decide (a.task = h) := by
  have h1 := (hj.sh.has _).1 (hj.ok.tk a ha)
  refine ⟨a.task.toNat, by omega, by omega, ?_, ?_⟩
  · rw [hj.ins _ (by omega), show ((a.task.toNat : Nat) : Int) = a.task by omega, hj.ok.get_of ha]; rfl
  · have := hj.hh a.task.toNat (by omega)
    rw [show ((a.task.toNat : Nat) : Int) = a.task by omega] at this
    unfold holdsS at this
    rw [hj.ok.get_of ha] at this
    exact this
theorem AgI.leave (hi : AgI s ins h) (h0 : 0 ≤ h) : leaveC s h = 0 ∧ AgJ (leaveS s h) (ins.set h.toNat false) (-1) := by
  obtain ⟨n, rfl⟩ : ∃ n : Nat, h = (n : Int) := ⟨h.toNat, by omega⟩
  have hr := hi.j.hr
  have hh := hi.j.hh n (by omega)
  rw [show decide ((n : Int) = (n : Int)) = true by simp] at hh
  have hg : (s.get n).isSome = true := by
    unfold holdsS at hh
    cases hx : s.get n with
    | none => rw [hx] at hh; cases hh
    | some a => rfl
  refine ⟨by unfold leaveC; rw [if_pos hg], hi.j.sh.same (same_leave s n), hi.j.ok.leave n, by rw [List.length_set]; exact hi.j.len, fun t ht => ?_, fun t ht => ?_, by omega⟩
  · rw [Int.toNat_natCast, getD_set' (by rw [hi.j.len]; omega), get_leave]
    by_cases e : t = n
    · subst e; simp
    · rw [if_neg e, if_neg (by omega)]; exact hi.j.ins t ht
  · unfold holdsS
    rw [get_leave]
    by_cases e : t = n
    · subst e; simp
    · rw [if_neg (by omega)]
      have := hi.j.hh t ht
      unfold holdsS at this
      rw [this]
      have e1 : ¬ (t : Int) = (n : Int) := by omega
      have e2 : ¬ (t : Int) = -1 := by omega
      simp [e1, e2]
theorem AgI.ask (hi : AgI s ins h) {t : Nat} (ht : t < 6) (hn : ins.getD t false = false) {r : Int} (hr : 0 ≤ r ∧ r < 2) : askC s t r = 0 ∧ AgJ (askS s t r) (ins.set t true) h := by
  have hg : s.get t = none := by
    have := hi.j.ins t ht
    rw [hn] at this
    cases hx : s.get t with
    | none => rfl
    | some a => rw [hx] at this; cases this
  have h1 : s.has t := (hi.j.sh.has _).2 (by omega)
  have h2 : s.hasR r := by unfold Ls.hasR; rw [hi.j.sh.homes]; simp; omega
  have hc : askC s t r = 0 := by unfold askC; rw [if_neg (by simpa using h1), if_neg (by simpa using h2), hg]; rfl
  have he : askS s t r = askN s t r := by unfold askS; rw [if_pos hc]
  have hs : SameLs s (askN s t r) := by unfold askN; split <;> exact ⟨rfl, rfl, rfl, rfl, rfl⟩
  have hp := hi.j.sh.proto
  have hL : (askN s t r).L = s.L ++ [⟨t, r, s.count + 1, false⟩] := by unfold askN; rw [if_neg (by omega)]
  have hget : ∀ u : Int, (askN s t r).get u = if u = t then some ⟨t, r, s.count + 1, false⟩ else s.get u := fun u => by
    have := get_app s ⟨t, r, s.count + 1, false⟩ u hg
    unfold Ls.get at *
    rw [hL]; exact this
  rw [he]
  have hht : ¬ (t : Int) = h := fun e => by
    have := hi.j.hh t ht
    unfold holdsS at this
    rw [hg] at this
    simp [e] at this
  refine ⟨hc, hi.j.sh.same hs, hi.j.ok.ask h1 h2 hg, by rw [List.length_set]; exact hi.j.len, fun u hu => ?_, fun u hu => ?_, hi.j.hr⟩
  · rw [getD_set' (by rw [hi.j.len]; omega), hget]
    by_cases e : u = t
    · subst e; simp
    · rw [if_neg e, if_neg (by omega)]; exact hi.j.ins u hu
  · unfold holdsS
    rw [hget]
    by_cases e : u = t
    · subst e; simp [hht]
    · rw [if_neg (by omega)]; exact hi.j.hh u hu
theorem AgJ.grant (hj : AgJ s ins h) : AgI (grantS s) ins (nextH ins h) := by
  have hp : s.proto ≠ 3 := by rw [hj.sh.proto]; decide
  have hall := hj.sh.all hj.ok
  unfold nextH
  by_cases h0 : h < 0
  · rw [if_pos h0]
    have hne : ∀ a ∈ s.L, a.holds = false := fun a ha => by
      obtain ⟨n, hn, e, _, e2⟩ := hj.at_ ha
      rw [e2]
      have : ¬ a.task = h := by omega
      simp [this]
    by_cases hL : s.L = []
    · have hz : ∀ t : Nat, t < 6 → ins.getD t false = false := fun t ht => by
        rw [hj.ins t ht]; unfold Ls.get; rw [hL]; rfl
      rw [grant_none hj.ok hp hL, lastN_none hz]
      have : h = -1 := by have := hj.hr; omega
      rw [← this]
      exact ⟨hj, fun _ => hz⟩
    · obtain ⟨a, ha, eg, hmin⟩ := grant_first hj.ok hp hall hne hL
      obtain ⟨n, hn, e, e1, _⟩ := hj.at_ ha
      have hlast : lastN ins 6 = n := lastN_at e1 hn fun t ht htk => by
        cases hb : ins.getD t false with
        | false => rfl
        | true =>
          rw [hj.ins t htk] at hb
          cases hg : s.get t with
          | none => rw [hg] at hb; cases hb
          | some b =>
            obtain ⟨hbm, hbt⟩ := get_mem hg
            have := hmin b hbm
            unfold keyS at this
            rw [if_pos hj.sh.proto, if_pos hj.sh.proto, hj.sh.pri (hj.ok.tk a ha), hj.sh.pri (hj.ok.tk b hbm)] at this
            omega
      have hsm : SameLs s (holdS s a.task) := ⟨rfl, rfl, rfl, rfl, rfl⟩
      have hok := hj.ok.grant
      rw [eg] at hok ⊢
      rw [hlast]
      refine ⟨⟨hj.sh.same hsm, hok, hj.len, fun t ht => ?_, fun t ht => ?_, by omega⟩, fun hx => by omega⟩
      · rw [get_hold, hj.ins t ht]; cases s.get t <;> rfl
      · unfold holdsS
        rw [get_hold]
        cases hg : s.get t with
        | none =>
          have : ¬ (t : Int) = (n : Int) := fun e3 => get_none.1 hg a ha (by omega)
          simp [this]
        | some b =>
          obtain ⟨hbm, hbt⟩ := get_mem hg
          show (holdF a.task b).holds = _
          unfold holdF
          by_cases e3 : b.task = a.task
          · rw [if_pos e3]
            have : (t : Int) = (n : Int) := by omega
            simp [this]
          · rw [if_neg e3, hne b hbm]
            have : ¬ (t : Int) = (n : Int) := by omega
            simp [this]
  · rw [if_neg h0]
    obtain ⟨n, rfl⟩ : ∃ n : Nat, h = (n : Int) := ⟨h.toNat, by omega⟩
    have hr := hj.hr
    have hh := hj.hh n (by omega)
    rw [show decide ((n : Int) = (n : Int)) = true by simp] at hh
    unfold holdsS at hh
    cases hx : s.get n with
    | none => rw [hx] at hh; cases hh
    | some a =>
      rw [hx] at hh
      rw [grant_held hj.ok hp hall (get_mem hx).1 hh]
      exact ⟨hj, fun hz => absurd hz h0⟩
theorem AgI.boost (hi : AgI s ins h) {t : Nat} (ht : t < 6) (hne : ¬ (t : Int) = h) : boostS s t = 0 := by
  have := hi.j.hh t ht
  unfold holdsS at this
  unfold boostS
  cases hx : s.get t with
  | none => rfl
  | some a =>
    rw [hx] at this
    dsimp only at this ⊢
    rw [this]
    simp [hne]
end
end Go.Proofs.YtppgameimddimaaGreat

namespace Go.Proofs.YtppgameimddimaaGreat
open Go.ChangeShapes Go.WideShapes Go.ChangeAt Go.RowKit Go.Conc
set_option linter.unusedVariables false
set_option linter.unusedSimpArgs false
instance : Inhabited AL := ⟨⟨0, 0, 0, false⟩⟩
def AL.blk (a : AL) : List Value := [.int .i64 a.task, .int .i64 a.res, .int .i64 a.place, .bool a.holds]
def AL.val (a : AL) : Value := .agg a.blk.toArray
def alc (ps : List AL) : List Value := ps.flatMap AL.blk
theorem alc_len (ps : List AL) : (alc ps).length = ps.length * 4 := by
  induction ps with
  | nil => rfl
  | cons p ps ih => simp only [alc, List.flatMap_cons, List.length_append, AL.blk, List.length_cons, List.length_nil] at *; omega
theorem alc_append (a b : List AL) : alc (a ++ b) = alc a ++ alc b := by simp [alc]
theorem alc_one (ps : List AL) : ∀ u ∈ alc ps, u.oneCell' = true := fun u hu => by
  obtain ⟨p, _, h⟩ := List.mem_flatMap.1 hu
  simp [AL.blk] at h
  rcases h with rfl | rfl | rfl | rfl <;> rfl
theorem alc_drop (ps : List AL) (k : Nat) : (alc ps).drop (k * 4) = alc (ps.drop k) := by
  induction k generalizing ps with
  | zero => simp
  | succ k ih =>
    cases ps with
    | nil => simp [alc]
    | cons p ps =>
      rw [show (k + 1) * 4 = k * 4 + 1 + 1 + 1 + 1 by omega]
      simp only [alc, List.flatMap_cons, AL.blk, List.cons_append, List.nil_append, List.drop_succ_cons]
      exact ih ps
theorem alc_take (ps : List AL) (k : Nat) : (alc ps).take (k * 4) = alc (ps.take k) := by
  induction k generalizing ps with
  | zero => simp [alc]
  | succ k ih =>
    cases ps with
    | nil => simp [alc]
    | cons p ps =>
      rw [show (k + 1) * 4 = k * 4 + 1 + 1 + 1 + 1 by omega]
      simp only [alc, List.flatMap_cons, AL.blk, List.cons_append, List.nil_append, List.take_succ_cons]
      congr 4
      exact ih ps
theorem alc_at (ps : List AL) (k : Nat) (hk : k < ps.length) : ∀ j v, (ps.getD k default).blk[j]? = some v → (alc ps)[k * 4 + j]? = some v := by
  intro j v hj
  have h := alc_drop ps k
  rw [List.drop_eq_getElem_cons hk] at h
  have h0 := congrArg (fun l => l[j]?) h
  simp only [List.getElem?_drop] at h0
  have hg : ps.getD k default = ps[k] := by simp [List.getD, hk]
  have e : alc (ps[k] :: ps.drop (k + 1)) = ps[k].blk ++ alc (ps.drop (k + 1)) := rfl
  rw [h0, e, ← hg, List.getElem?_append_left (List.getElem?_eq_some_iff.1 hj).1]
  exact hj
theorem alc_set (ps : List AL) (i f : Nat) (hi : i < ps.length) (hf : f < 4) (v : Value) (x : AL) (hx : (ps.getD i default).blk.set f v = x.blk) : (alc ps).set (i * 4 + f) v = alc (ps.set i x) := by
  induction ps generalizing i with
  | nil => simp at hi
  | cons a l ih =>
    have e2 : alc (a :: l) = a.blk ++ alc l := rfl
    have hb : a.blk.length = 4 := rfl
    cases i with
    | zero =>
      rw [e2, List.set_append_left _ _ (by omega)]
      simp only [List.getD_cons_zero] at hx
      rw [Nat.zero_mul, Nat.zero_add, hx]
      rfl
    | succ i =>
      rw [e2, List.set_append_right _ _ (by omega), hb]
      have e3 : alc ((a :: l).set (i + 1) x) = a.blk ++ alc (l.set i x) := rfl
      rw [e3, ← ih i (by simpa using hi) (by simpa using hx)]
      congr 2
      omega
def ALCells (w : World) (b off : Nat) (p : AL) : Prop :=
  w.cell? ⟨b, off, none⟩ = some (.int .i64 p.task) ∧ w.cell? ⟨b, off + 1, none⟩ = some (.int .i64 p.res) ∧ w.cell? ⟨b, off + 2, none⟩ = some (.int .i64 p.place) ∧ w.cell? ⟨b, off + 3, none⟩ = some (.bool p.holds)
theorem infoAL : (Tryz.prog.info? 84).map (fun i => (i.zero, i.size, i.bytes)) = some (some (.agg #[.int .i64 0, .int .i64 0, .int .i64 0, .bool false]), 4, 32) := by kernel_rfl
/-- a row of asks of the locks' own -/
structure OwnA (B : Nat) (w : World) (A : Option Addr) (n c : Nat) (ps : List AL) : Prop where
  own : w.ownsRow B 84 4 (.slice A n c) n (alc ps)
  len : n = ps.length
  cap : n ≤ c ∧ c ≤ maxLen
  nil : A = none → n = 0 ∧ c = 0
theorem OwnA.empty (B : Nat) (w : World) : OwnA B w none 0 0 [] := ⟨World.ownsRow_nil _ _ _ _, rfl, ⟨Nat.le_refl _, Nat.zero_le _⟩, fun _ => ⟨rfl, rfl⟩⟩
theorem OwnA.turned {B : Nat} {F : List Nat} {w w' : World} {A : Option Addr} {n c : Nat} {ps : List AL} (h : OwnA B w A n c ps) (ht : Turned F w w') (hF : ∀ k ∈ fp A, k ∉ F) : OwnA B w' A n c ps := ⟨own_turned h.own ht hF, h.len, h.cap, h.nil⟩
theorem OwnA.at_ {B : Nat} {w : World} {A : Option Addr} {n c : Nat} {l : List AL} (h : OwnA B w A n c l) (hl : 0 < l.length) : ∃ g, A = some ⟨g, 0, none⟩ ∧ B ≤ g ∧ g < w.heap.size := ownE_at h.own (by rw [h.len]; exact hl)
theorem OwnA.cells {B : Nat} {w : World} {g n c : Nat} {l : List AL} (h : OwnA B w (some ⟨g, 0, none⟩) n c l) {i : Nat} (hi : i < l.length) : ALCells w g (i * 4) (l.getD i default) := by
  rcases Lies.of_own h.own with h1 | ⟨b, off, e, _, hc⟩
  · have := congrArg List.length h1
    rw [alc_len] at this
    simp at this; omega
  · injection e with e
    injection e with e1 e2
    subst e1; subst e2
    have ha := alc_at l i hi
    refine ⟨?_, ?_, ?_, ?_⟩
    · have := hc _ _ (ha 0 _ rfl); simpa using this
    · have := hc _ _ (ha 1 _ rfl); simpa using this
    · have := hc _ _ (ha 2 _ rfl); simpa using this
    · have := hc _ _ (ha 3 _ rfl); simpa using this
theorem OwnA.put {B : Nat} {w : World} {g n c : Nat} {l : List AL} (h : OwnA B w (some ⟨g, 0, none⟩) n c l) {i f : Nat} (hi : i < l.length) (hf : f < 4) {v : Value} {x : AL} (hx : (l.getD i default).blk.set f v = x.blk) :
    OwnA B (w.setCell ⟨g, i * 4 + f, none⟩ v) (some ⟨g, 0, none⟩) n c (l.set i x) := by
  have hl := h.len
  refine ⟨?_, by rw [List.length_set]; exact hl, h.cap, fun e => by cases e⟩
  rw [← alc_set l i f hi hf v x hx]
  exact ownE_put h.own (i * 4 + f) (by omega) v
/-- the reference's locks of set S in block b: the plain locks s; w0: the world in which S lies -/
structure Rl (w0 w : World) (b : Nat) (S : SetR) (s : Ls) (A : Option Addr) (c : Nat) : Prop where
  blk : Bk w b 80 #[.int .i64 S.proto, .slice S.ca S.cores.length S.cc, .slice S.ha S.homes.length S.hc, .slice S.ta S.tasks.length S.tc, .slice A s.L.length c, .int .i64 s.count]
  row : OwnA w0.heap.size w A s.L.length c s.L
  ne : b ∉ fp A
  base : w0.heap.size ≤ b
  below : Below w0.heap.size w0 w
  set : SetOk w0 S
  rel : s.proto = S.proto ∧ s.prio = S.tasks.map TaskR.prio ∧ s.cl = S.tasks.map TaskR.cl ∧ s.cores = S.cores ∧ s.homes = S.homes
section
variable {w0 w w' : World} {b c : Nat} {S : SetR} {s : Ls} {A : Option Addr}
theorem Rl.turned {F : List Nat} (h : Rl w0 w b S s A c) (ht : Turned F w w') (hb : b ∉ F) (hA : ∀ k ∈ fp A, k ∉ F) (hF : ∀ k ∈ F, w0.heap.size ≤ k) : Rl w0 w' b S s A c :=
  ⟨h.blk.turned ht hb, h.row.turned ht hA, h.ne, h.base, h.below.trans (ht.below h.below.size hF), h.set, h.rel⟩
theorem Rl.over (h : Rl w0 w b S s A c) (hb : Below w.heap.size w w') : Rl w0 w' b S s A c := h.turned (Turned.of_below hb []) (by simp) (by simp) (by simp)
/-- where a task's ask stands -/
def atV (s : Ls) (t : Int) : Int := match s.L.findIdx? (fun a => a.task == t) with | some i => (i : Int) | none => -1
theorem atV_none {t : Int} (h : ∀ j, j < s.L.length → (s.L.getD j default).task ≠ t) : atV s t = -1 ∧ s.get t = none := by
  have h1 : s.L.findIdx? (fun a => a.task == t) = none := by
    rw [List.findIdx?_eq_none_iff]
    intro a ha
    obtain ⟨j, hj, rfl⟩ := List.getElem_of_mem ha
    have := h j hj
    simpa [List.getD, hj] using this
  refine ⟨by unfold atV; rw [h1], ?_⟩
  rw [get_none]
  intro a ha
  obtain ⟨j, hj, rfl⟩ := List.getElem_of_mem ha
  have := h j hj
  simpa [List.getD, hj] using this
theorem atV_hit {t : Int} {k : Nat} (hk : k < s.L.length) (hn : ∀ j, j < k → (s.L.getD j default).task ≠ t) (he : (s.L.getD k default).task = t) : atV s t = k ∧ s.get t = some (s.L.getD k default) := by
  have hg : s.L.getD k default = s.L[k] := by simp [List.getD, hk]
  have h1 : s.L.findIdx? (fun a => a.task == t) = some k := by
    rw [List.findIdx?_eq_some_iff_getElem]
    refine ⟨hk, by rw [← hg]; simpa using he, fun j hj => ?_⟩
    have := hn j hj
    have hjl : j < s.L.length := by omega
    simpa [List.getD, hjl] using this
  refine ⟨by unfold atV; rw [h1], ?_⟩
  unfold Ls.get
  rw [List.find?_eq_some_iff_append]
  refine ⟨by simpa using he, s.L.take k, s.L.drop (k + 1), ?_, fun a ha => ?_⟩
  · rw [hg, ← List.drop_eq_getElem_cons hk, List.take_append_drop]
  · obtain ⟨j, hj, rfl⟩ := List.getElem_of_mem ha
    have hjk : j < k := by simp at hj; omega
    have := hn j hjk
    have hjl : j < s.L.length := by omega
    rw [List.getElem_take]
    simpa [List.getD, hjl] using this
set_option maxHeartbeats 4000000 in
theorem rl_at (h : Rl w0 w b S s A c) (t : Int) : Calls Tryz.prog 36 #[.pointer (some ⟨b, 0, none⟩), .int .i64 t] w fun e w' => e = .returned (.int .i64 (atV s t)) ∧ w = w' := by
  have c4 : w.cell? ⟨b, 4, none⟩ = some (.slice A s.L.length c) := h.blk.cell 4
  have HRw := hidp h.row
  have hcap := h.row.cap
  have hm := hcap.2
  unfold maxLen at hm
  clear h
  go_enter Tryz.func36, Tryz.ntmps36
  go_wp2
  go_loopg [5] s.L.length (fun g i wr => ∃ k : Nat, k + g = s.L.length ∧ i = .int .i64 k ∧ Hid (∀ j, j < k → (s.L.getD j default).task ≠ t) ∧ w = wr)
  case atStart => exact ⟨0, by omega, rfl, hidp (fun j hj => absurd hj (by omega)), rfl⟩
  case round =>
    obtain ⟨k, hk, rfl, NH, rfl⟩ := hrel
    by_cases hlt : k < s.L.length
    · obtain ⟨g, hg, _, _⟩ := HRw.out.at_ (by omega)
      have hr := HRw.out
      rw [hg] at hr
      obtain ⟨x0, _, _, _⟩ := hr.cells hlt
      obtain ⟨a, Ha⟩ : ∃ a, Hid (s.L.getD k default = a) := ⟨_, hidp rfl⟩
      rw [Ha.out] at x0
      obtain ⟨ta, hta⟩ : ∃ ta, a.task = ta := ⟨_, rfl⟩
      rw [hta] at x0
      have Hta := hidp hta
      have kI : (k : Int) < (s.L.length : Int) := by omega
      have d3 : decide (s.L.length ≤ k) = false := decide_eq_false (by omega)
      rw [hg] at c4
      have wk1 : IntKind.i64.wrap ((k : Int) + 1) = (k : Int) + 1 := IntWalk.i64_in _ (by omega)
      clear hr hta
      by_cases he : ta = t
      · have e1 : (ta == t) = true := by simp [he]
        have Hv : Hid (atV s t = k) := hidp (atV_hit hlt NH.out (by rw [Ha.out, Hta.out, he])).1
        clear he
        go_wp2
        go_ret
        exact ⟨ret_int Hv.out.symm, rfl⟩
      · have e1 : (ta == t) = false := by simpa using he
        have NH2 : Hid (∀ j, j < k + 1 → (s.L.getD j default).task ≠ t) := hidp (fun j hj => by
          rcases Nat.lt_succ_iff_lt_or_eq.1 hj with h1 | rfl
          · exact NH.out j h1
          · rw [Ha.out, Hta.out]; exact he)
        clear he
        go_wp2
        go_roundg (gk - 1)
        case measure => omega
        case rel => exact ⟨k + 1, by omega, by go_num, NH2, rfl⟩
    · obtain rfl : k = s.L.length := by omega
      have Hv : Hid (atV s t = -1) := hidp (atV_none NH.out).1
      go_wp2
      go_ret
      exact ⟨ret_int Hv.out.symm, rfl⟩
end
end Go.Proofs.YtppgameimddimaaGreat

namespace Go.Proofs.YtppgameimddimaaGreat
open Go.ChangeShapes Go.WideShapes Go.ChangeAt Go.RowKit Go.Conc
set_option linter.unusedVariables false
set_option linter.unusedSimpArgs false
theorem atV_cases (s : Ls) (t : Int) : (∃ k : Nat, k < s.L.length ∧ atV s t = k ∧ s.get t = some (s.L.getD k default)) ∨ (atV s t = -1 ∧ s.get t = none) := by
  by_cases h : ∃ k : Nat, k < s.L.length ∧ (s.L.getD k default).task = t
  · obtain ⟨k, hk, he⟩ := h
    cases hf : s.L.findIdx? (fun a => a.task == t) with
    | none =>
      rw [List.findIdx?_eq_none_iff] at hf
      have hm : s.L.getD k default ∈ s.L := by simp [List.getD, hk]
      have this : ((s.L.getD k default).task == t) = false := hf _ hm
      rw [he, beq_self_eq_true] at this
      cases this
    | some j =>
      obtain ⟨hj, h1, h2⟩ := List.findIdx?_eq_some_iff_getElem.1 hf
      left
      refine ⟨j, hj, ?_⟩
      refine atV_hit hj (fun i hi => ?_) ?_
      · have := h2 i hi
        have hil : i < s.L.length := by omega
        simpa [List.getD, hil] using this
      · simpa [List.getD, hj] using h1
  · right
    exact atV_none fun j hj e => h ⟨j, hj, e⟩
section
variable {w0 w w' : World} {b c : Nat} {S : SetR} {s : Ls} {A : Option Addr}
set_option maxHeartbeats 2000000 in
theorem rl_holds (h : Rl w0 w b S s A c) (t : Int) : Calls Tryz.prog 44 #[.pointer (some ⟨b, 0, none⟩), .int .i64 t] w fun e w' => e = .returned (.bool (holdsS s t)) ∧ w = w' := by
  have CA := rl_at h t
  have c4 : w.cell? ⟨b, 4, none⟩ = some (.slice A s.L.length c) := h.blk.cell 4
  rcases atV_cases s t with ⟨k, hk, e1, e2⟩ | ⟨e1, e2⟩
  · obtain ⟨g, hg, _, _⟩ := h.row.at_ (by omega)
    subst hg
    obtain ⟨_, _, _, x3⟩ := h.row.cells hk
    obtain ⟨a, Ha⟩ : ∃ a, Hid (s.L.getD k default = a) := ⟨_, hidp rfl⟩
    rw [Ha.out] at x3 e2
    have Hv : Hid (holdsS s t = a.holds) := hidp (by unfold holdsS; rw [e2])
    rw [e1] at CA
    obtain ⟨hh, hhe⟩ : ∃ hh, a.holds = hh := ⟨_, rfl⟩
    rw [hhe] at x3 Hv
    have kI : (k : Int) < (s.L.length : Int) := by omega
    have k0 : (0 : Int) ≤ (k : Int) := by omega
    have d3 : decide (s.L.length ≤ k) = false := decide_eq_false (by omega)
    clear h e1 e2 hhe
    go_enter Tryz.func44, Tryz.ntmps44
    go_wp2_with fail
    refine CA.mono ?_
    rintro e w' ⟨rfl, rfl⟩
    go_wp2_with fail
    go_ret
    exact ⟨ret_bool Hv.out.symm, rfl⟩
  · have Hv : Hid (holdsS s t = false) := hidp (by unfold holdsS; rw [e2])
    rw [e1] at CA
    clear h e1 e2
    go_enter Tryz.func44, Tryz.ntmps44
    go_wp2_with fail
    refine CA.mono ?_
    rintro e w' ⟨rfl, rfl⟩
    go_wp2_with fail
    go_ret
    exact ⟨ret_bool Hv.out.symm, rfl⟩
set_option maxHeartbeats 2000000 in
theorem rl_boost (h : Rl w0 w b S s A c) (t : Int) : Calls Tryz.prog 45 #[.pointer (some ⟨b, 0, none⟩), .int .i64 t] w fun e w' => e = .returned (.int .i64 (boostS s t)) ∧ ∃ n, w' = w.drewN n := by
  have CH := rl_holds h t
  have c0 : w.cell? ⟨b, 0, none⟩ = some (.int .i64 S.proto) := h.blk.cell 0
  have c4 : w.cell? ⟨b, 4, none⟩ = some (.slice A s.L.length c) := h.blk.cell 4
  have hpr := h.rel.1
  cases hh : holdsS s t with
  | false =>
    have Hv : Hid (boostS s t = 0) := hidp (by
      unfold holdsS at hh
      unfold boostS
      cases hg : s.get t with
      | none => rfl
      | some a => rw [hg] at hh; dsimp only at hh ⊢; rw [hh]; rfl)
    rw [hh] at CH
    clear h hh
    go_enter Tryz.func45, Tryz.ntmps45
    go_wp2_with fail
    refine CH.mono ?_
    rintro e w' ⟨rfl, rfl⟩
    go_wp2_with fail
    go_ret
    exact ⟨ret_int Hv.out.symm, 0, rfl⟩
  | true =>
    rcases atV_cases s t with ⟨k, hk, e1, e2⟩ | ⟨e1, e2⟩
    · have ha : (s.L.getD k default).holds = true := by unfold holdsS at hh; rw [e2] at hh; exact hh
      rw [hh] at CH
      by_cases hp : S.proto = 2
      · have hp2 : (S.proto == 2) = true := by simp [hp]
        have Hv : Hid (boostS s t = 1) := hidp (by unfold boostS; rw [e2]; dsimp only; rw [if_pos ha, if_pos (by rw [hpr]; exact hp)])
        clear h hh hp hpr
        go_enter Tryz.func45, Tryz.ntmps45
        go_wp2_with fail
        refine CH.mono ?_
        rintro e w' ⟨rfl, rfl⟩
        go_wp2_with fail
        go_ret
        exact ⟨ret_int Hv.out.symm, 0, rfl⟩
      · have hp2 : (S.proto == 2) = false := by simpa using hp
        obtain ⟨g, hg, _, _⟩ := h.row.at_ (by omega)
        subst hg
        obtain ⟨_, _, x2, _⟩ := h.row.cells hk
        obtain ⟨pl, hpl⟩ : ∃ pl, (s.L.getD k default).place = pl := ⟨_, rfl⟩
        rw [hpl] at x2
        have Hv : Hid (boostS s t = pl) := hidp (by unfold boostS; rw [e2]; dsimp only; rw [if_pos ha, if_neg (by rw [hpr]; exact hp), hpl])
        have CA := rl_at (h.over (Below.refl _ _).drew) t
        rw [e1] at CA
        have kI : (k : Int) < (s.L.length : Int) := by omega
        have k0 : (0 : Int) ≤ (k : Int) := by omega
        have d3 : decide (s.L.length ≤ k) = false := decide_eq_false (by omega)
        have hs : w.drew.cell? ⟨b, 4, none⟩ = some (.slice (some ⟨g, 0, none⟩) s.L.length c) ∧ w.drew.cell? ⟨g, k * 4 + 2, none⟩ = some (.int .i64 pl) := ⟨c4, x2⟩
        clear h hh hp hpr e1 e2 hpl ha
        go_enter Tryz.func45, Tryz.ntmps45
        go_wp2_with fail
        refine CH.mono ?_
        rintro e w' ⟨rfl, rfl⟩
        go_wp2_with fail
        go_region_held3 (fun w' => w'.cell? ⟨b, 4, none⟩ = some (.slice (some ⟨g, 0, none⟩) s.L.length c) ∧ w'.cell? ⟨g, k * 4 + 2, none⟩ = some (.int .i64 pl)) (exact hs)
          (first
            | (go_at_call 36; refine CA.mono ?_; rintro e u ⟨rfl, rfl⟩))
        go_wp2_with fail
        go_ret
        exact ⟨ret_int Hv.out.symm, 1, rfl⟩
    · unfold holdsS at hh
      rw [e2] at hh
      cases hh
end
end Go.Proofs.YtppgameimddimaaGreat

namespace Go.Proofs.YtppgameimddimaaGreat
open Go.ChangeShapes Go.WideShapes Go.ChangeAt Go.RowKit Go.Conc
set_option linter.unusedVariables false
set_option linter.unusedSimpArgs false
theorem find_hit {L : List AL} {p : AL → Bool} {k : Nat} (hk : k < L.length) (hn : ∀ j, j < k → p (L.getD j default) = false) (he : p (L.getD k default) = true) : L.find? p = some (L.getD k default) := by
  have hg : L.getD k default = L[k] := by simp [List.getD, hk]
  rw [List.find?_eq_some_iff_append]
  refine ⟨he, L.take k, L.drop (k + 1), ?_, fun a ha => ?_⟩
  · rw [hg, ← List.drop_eq_getElem_cons hk, List.take_append_drop]
  · obtain ⟨j, hj, rfl⟩ := List.getElem_of_mem ha
    have hjk : j < k := by simp at hj; omega
    have := hn j hjk
    have hjl : j < L.length := by omega
    rw [List.getElem_take]
    simpa [List.getD, hjl] using this
theorem find_miss {L : List AL} {p : AL → Bool} (h : ∀ j, j < L.length → p (L.getD j default) = false) : L.find? p = none := by
  rw [List.find?_eq_none]
  intro a ha
  obtain ⟨j, hj, rfl⟩ := List.getElem_of_mem ha
  have := h j hj
  simpa [List.getD, hj] using this
section
variable {w0 w w' : World} {b c : Nat} {S : SetR} {s : Ls} {A : Option Addr}
set_option maxHeartbeats 4000000 in
theorem rl_holder (h : Rl w0 w b S s A c) (r : Int) : Calls Tryz.prog 46 #[.pointer (some ⟨b, 0, none⟩), .int .i64 r] w fun e w' => e = .returned (holderV s r) ∧ w = w' := by
  have c4 : w.cell? ⟨b, 4, none⟩ = some (.slice A s.L.length c) := h.blk.cell 4
  have HRw := hidp h.row
  have hcap := h.row.cap
  have hm := hcap.2
  unfold maxLen at hm
  clear h
  go_enter Tryz.func46, Tryz.ntmps46
  go_wp2
  go_loopg [6] s.L.length (fun g i wr => ∃ k : Nat, k + g = s.L.length ∧ i = .int .i64 k ∧ Hid (∀ j, j < k → ((s.L.getD j default).holds && (s.L.getD j default).res == r) = false) ∧ w = wr)
  case atStart => exact ⟨0, by omega, rfl, hidp (fun j hj => absurd hj (by omega)), rfl⟩
  case round =>
    obtain ⟨k, hk, rfl, NH, rfl⟩ := hrel
    by_cases hlt : k < s.L.length
    · obtain ⟨g, hg, _, _⟩ := HRw.out.at_ (by omega)
      have hr := HRw.out
      rw [hg] at hr
      obtain ⟨x0, x1, _, x3⟩ := hr.cells hlt
      obtain ⟨a, Ha⟩ : ∃ a, Hid (s.L.getD k default = a) := ⟨_, hidp rfl⟩
      rw [Ha.out] at x0 x1 x3
      obtain ⟨ra, hra⟩ : ∃ ra, a.res = ra := ⟨_, rfl⟩
      obtain ⟨hh, hhh⟩ : ∃ hh, a.holds = hh := ⟨_, rfl⟩
      rw [hra] at x1
      rw [hhh] at x3
      have Hra := hidp hra
      have Hhh := hidp hhh
      have kI : (k : Int) < (s.L.length : Int) := by omega
      have d3 : decide (s.L.length ≤ k) = false := decide_eq_false (by omega)
      rw [hg] at c4
      have wk1 : IntKind.i64.wrap ((k : Int) + 1) = (k : Int) + 1 := IntWalk.i64_in _ (by omega)
      clear hr hra hhh
      by_cases he : (hh && ra == r) = true
      · have Hv : Hid (holderV s r = .tuple #[.int .i64 a.task, .bool true]) := hidp (by
          unfold holderV holderS
          rw [find_hit hlt NH.out (by rw [Ha.out, Hra.out, Hhh.out]; exact he), Ha.out]
          rfl)
        simp only [Bool.and_eq_true] at he
        obtain ⟨rfl, e1⟩ := he
        go_wp2
        try rw [Exit.noGoto_ret]
        go_ret2
        exact ⟨by rw [Hv.out]; rfl, rfl⟩
      · have NH2 : Hid (∀ j, j < k + 1 → ((s.L.getD j default).holds && (s.L.getD j default).res == r) = false) := hidp (fun j hj => by
          rcases Nat.lt_succ_iff_lt_or_eq.1 hj with h1 | rfl
          · exact NH.out j h1
          · rw [Ha.out, Hra.out, Hhh.out]; simpa using he)
        cases hh with
        | false =>
          clear he
          cases e1 : (ra == r)
          all_goals
            go_wp2
            go_roundg (gk - 1)
            case measure => omega
            case rel => exact ⟨k + 1, by omega, by go_num, NH2, rfl⟩
        | true =>
          have e1 : (ra == r) = false := by simpa using he
          clear he
          go_wp2
          go_roundg (gk - 1)
          case measure => omega
          case rel => exact ⟨k + 1, by omega, by go_num, NH2, rfl⟩
    · obtain rfl : k = s.L.length := by omega
      have Hv : Hid (holderV s r = .tuple #[.int .i64 0, .bool false]) := hidp (by
        unfold holderV holderS
        rw [find_miss NH.out]
        rfl)
      go_wp2
      try rw [Exit.noGoto_ret]
      go_ret2
      exact ⟨by rw [Hv.out]; rfl, rfl⟩
set_option maxHeartbeats 8000000 in
theorem rl_held (h : Rl w0 w b S s A c) (ho : LsOk s) {r : Int} (hr0 : s.hasR r) : Calls Tryz.prog 68 #[.pointer (some ⟨b, 0, none⟩), .int .i64 r] w fun e w' => e = .returned (.bool (heldS s r)) ∧ ∃ n, w' = w.drewN n := by
  have c0 : w.cell? ⟨b, 0, none⟩ = some (.int .i64 S.proto) := h.blk.cell 0
  have c2 : w.cell? ⟨b, 2, none⟩ = some (.slice S.ha S.homes.length S.hc) := h.blk.cell 2
  have c4 : w.cell? ⟨b, 4, none⟩ = some (.slice A s.L.length c) := h.blk.cell 4
  have HRw := hidp h.row
  have hcap := h.row.cap
  have hm := hcap.2
  unfold maxLen at hm
  have Hs := hidp h.set.homes
  have Hkp : Hid (Keeps w0 w) := hidp (Keeps.of_below h.below)
  obtain ⟨e1, e2, e3, e4, e5⟩ := h.rel
  have Hrs : Hid (∀ a ∈ s.L, 0 ≤ a.res ∧ a.res < (S.homes.length : Int)) := hidp (fun a ha => by have := ho.rs a ha; unfold Ls.hasR at this; rw [e5] at this; exact this)
  unfold Ls.hasR at hr0
  rw [e5] at hr0
  obtain ⟨q, rfl⟩ : ∃ q : Nat, r = (q : Int) := ⟨r.toNat, by omega⟩
  have hq : q < S.homes.length := by omega
  have Hsm : Hid (∀ p : Int, sameK s p q = (p == (q : Int) || (S.proto == 2 && S.homes.getD p.toNat 0 == S.homes.getD q 0))) := hidp (fun p => by unfold sameK Ls.home; rw [e1, e5]; simp)
  have Hhm : Hid (S.homes.length ≤ S.hc ∧ S.hc ≤ maxLen) := hidp h.set.homes.sl.2
  clear e1 e2 e3 e4 e5 hr0 h ho
  obtain ⟨gh, oh, hha, hhc⟩ := Hs.out.at_.resolve_left (by intro e; rw [e] at hq; simp at hq)
  have Hhc := hidp hhc
  rw [hha] at c2
  have y2 := Hkp.out _ _ (hhc q hq)
  have qI : (q : Int) < (S.homes.length : Int) := by omega
  have q0 : (0 : Int) ≤ (q : Int) := by omega
  have dq : decide (S.homes.length ≤ q) = false := decide_eq_false (by omega)
  obtain ⟨hq2, Hq2⟩ : ∃ v, Hid (S.homes.getD q 0 = v) := ⟨_, hidp rfl⟩
  rw [Hq2.out] at y2
  clear hhc hha
  obtain ⟨nq, hnq⟩ : ∃ nq : Nat, nq = 0 := ⟨0, rfl⟩
  have Hn0 : Hid (w = w.drewN nq) := hidp (by rw [hnq]; rfl)
  clear hnq
  go_enter Tryz.func68, Tryz.ntmps68
  go_wp2
  go_loopg [5] s.L.length (fun g i wr => ∃ k n : Nat, k + g = s.L.length ∧ i = .int .i64 k ∧ Hid (∀ j, j < k → ((s.L.getD j default).holds && sameK s (s.L.getD j default).res q) = false) ∧ wr = w.drewN n)
  case atStart => exact ⟨0, nq, by omega, rfl, hidp (fun j hj => absurd hj (by omega)), Hn0.out⟩
  case round =>
    obtain ⟨k, n, hk, rfl, NH, rfl⟩ := hrel
    by_cases hlt : k < s.L.length
    · obtain ⟨g, hg, _, _⟩ := HRw.out.at_ (by omega)
      have hr := HRw.out
      rw [hg] at hr
      obtain ⟨x0, x1, _, x3⟩ := hr.cells hlt
      obtain ⟨a, Ha⟩ : ∃ a, Hid (s.L.getD k default = a) := ⟨_, hidp rfl⟩
      have ham : a ∈ s.L := by rw [← Ha.out]; simp [List.getD, hlt]
      rw [Ha.out] at x0 x1 x3
      obtain ⟨p, hp⟩ : ∃ p : Nat, a.res = (p : Int) := ⟨a.res.toNat, by have := Hrs.out a ham; omega⟩
      have hpl : p < S.homes.length := by have := Hrs.out a ham; omega
      have y1 := Hkp.out _ _ (Hhc.out p hpl)
      obtain ⟨hp2, Hp2⟩ : ∃ v, Hid (S.homes.getD p 0 = v) := ⟨_, hidp rfl⟩
      rw [Hp2.out] at y1
      obtain ⟨hh, hhh⟩ : ∃ hh, a.holds = hh := ⟨_, rfl⟩
      rw [hp] at x1
      rw [hhh] at x3
      have Hra := hidp hp
      have Hhh := hidp hhh
      have Hsk : Hid (sameK s a.res q = ((p : Int) == (q : Int) || (S.proto == 2 && hp2 == hq2))) := hidp (by rw [Hsm.out, hp, Int.toNat_natCast, Hp2.out, Hq2.out])
      have kI : (k : Int) < (s.L.length : Int) := by omega
      have k0 : (0 : Int) ≤ (k : Int) := by omega
      have pI : (p : Int) < (S.homes.length : Int) := by omega
      have p0 : (0 : Int) ≤ (p : Int) := by omega
      have dp : decide (S.homes.length ≤ p) = false := decide_eq_false (by omega)
      have d3 : decide (s.L.length ≤ k) = false := decide_eq_false (by omega)
      rw [hg] at c4
      have wk1 : IntKind.i64.wrap ((k : Int) + 1) = (k : Int) + 1 := IntWalk.i64_in _ (by omega)
      clear hr hp hhh ham
      by_cases he : (hh && ((p : Int) == (q : Int) || (S.proto == 2 && hp2 == hq2))) = true
      · have Hv : Hid (heldS s q = true) := hidp (by
          rw [heldS_true]
          refine ⟨a, by rw [← Ha.out]; simp [List.getD, hlt], ?_, ?_⟩
          · rw [Hhh.out]; simp only [Bool.and_eq_true] at he; exact he.1
          · rw [Hsk.out]; simp only [Bool.and_eq_true] at he; exact he.2)
        simp only [Bool.and_eq_true] at he
        obtain ⟨rfl, he⟩ := he
        cases e1 : ((p : Int) == (q : Int)) with
        | true =>
          clear he
          go_wp2
          go_quiet (fail)
          go_wp2
          go_ret
          exact ⟨ret_bool Hv.out.symm, Qt.add ⟨n, rfl⟩ _⟩
        | false =>
          rw [e1, Bool.false_or, Bool.and_eq_true] at he
          obtain ⟨e2, e3⟩ := he
          go_wp2
          go_quiet (fail)
          go_wp2
          go_ret
          exact ⟨ret_bool Hv.out.symm, Qt.add ⟨n, rfl⟩ _⟩
      · have NH2 : Hid (∀ j, j < k + 1 → ((s.L.getD j default).holds && sameK s (s.L.getD j default).res q) = false) := hidp (fun j hj => by
          rcases Nat.lt_succ_iff_lt_or_eq.1 hj with h1 | rfl
          · exact NH.out j h1
          · rw [Ha.out, Hhh.out, Hsk.out]; exact Bool.not_eq_true _ ▸ he)
        cases hh with
        | false =>
          clear he
          go_wp2
          go_quiet (fail)
          go_wp2
          go_roundg (gk - 1)
          case measure => omega
          case rel => exact ⟨k + 1, n + nq, by omega, by go_num, NH2, rfl⟩
        | true =>
          cases e1 : ((p : Int) == (q : Int)) with
          | true => rw [e1] at he; exact absurd rfl he
          | false =>
            cases e2 : (S.proto == 2) with
            | true =>
              have e3 : (hp2 == hq2) = false := by rw [e1, e2] at he; simpa using he
              clear he
              go_wp2
              go_quiet (fail)
              go_wp2
              go_roundg (gk - 1)
              case measure => omega
              case rel => exact ⟨k + 1, n + nq, by omega, by go_num, NH2, rfl⟩
            | false =>
              clear he
              go_wp2
              go_quiet (fail)
              go_wp2
              go_roundg (gk - 1)
              case measure => omega
              case rel => exact ⟨k + 1, n + nq, by omega, by go_num, NH2, rfl⟩
    · obtain rfl : k = s.L.length := by omega
      have Hv : Hid (heldS s q = false) := hidp (by
        cases hx : heldS s q with
        | false => rfl
        | true =>
          obtain ⟨a, ha, h1, h2⟩ := heldS_true.1 hx
          obtain ⟨j, hj, rfl⟩ := List.getElem_of_mem ha
          have := NH.out j hj
          rw [show s.L.getD j default = s.L[j] by simp [List.getD, hj], h1, h2] at this
          cases this)
      go_wp2
      go_ret
      exact ⟨ret_bool Hv.out.symm, n, rfl⟩
end
end Go.Proofs.YtppgameimddimaaGreat

namespace Go.Proofs.YtppgameimddimaaGreat
open Go.ChangeShapes Go.WideShapes Go.ChangeAt Go.RowKit Go.Conc
set_option linter.unusedVariables false
set_option linter.unusedSimpArgs false
/-- the best ask that waits and may be granted -/
def BestOk (s : Ls) (a : AL) : Prop := a ∈ waitG s ∧ heldS s a.res = false ∧ ∀ b ∈ waitG s, heldS s b.res = false → keyS s a ≤ keyS s b
/-- the scan stands before C: who waits and isn't in C finds a key held -/
structure Scan (s : Ls) (C : List AL) : Prop where
  ok : LsOk s
  sub : ∀ a ∈ C, a ∈ waitG s
  nd : C.Nodup
  srt : C.Pairwise fun a b => keyS s a ≤ keyS s b
  rest : ∀ a ∈ waitG s, a ∉ C → heldS s a.res = true
theorem scan_start {s : Ls} (h : LsOk s) : Scan s (candS s) := by
  refine ⟨h, fun a ha => candS_mem.1 ha, ?_, ?_, fun a ha hn => absurd (candS_mem.2 ha) hn⟩
  · refine (List.mergeSort_perm _ _).nodup_iff.2 ?_
    unfold waitG
    refine List.Nodup.sublist List.filter_sublist ?_
    exact (List.pairwise_map.1 h.nd).imp fun hne e => hne (congrArg AL.task e)
  · have := List.pairwise_mergeSort (le := fun a b => decide (keyS s a ≤ keyS s b)) (fun a b c h1 h2 => by simp at *; omega) (fun a b => by simp; omega) (waitG s)
    exact this.imp fun {a b} hab => by simpa using hab
theorem keyS_hold (s : Ls) (t : Int) (a : AL) : keyS (holdS s t) a = keyS s a := rfl
theorem Scan.none {s : Ls} {C : List AL} (h : Scan s C) (hn : ∀ a ∈ waitG s, heldS s a.res = true) (out : List Int) : C.foldl try1 (s, out) = (s, out) := fold_held C s out fun a ha => hn a (h.sub a ha)
theorem Scan.next {s : Ls} {a : AL} (hb : BestOk s a) : ∀ {C : List AL}, Scan s C → ∃ C', C'.length < C.length ∧ Scan (holdS s a.task) C' ∧ ∀ out, C.foldl try1 (s, out) = C'.foldl try1 (holdS s a.task, out ++ [a.task])
  | [], h => by
    have := h.rest a hb.1 (by simp)
    rw [hb.2.1] at this
    cases this
  | c :: C, h => by
    have hp := List.pairwise_cons.1 h.srt
    have hn := List.nodup_cons.1 h.nd
    by_cases hc : heldS s c.res = true
    · have h2 : Scan s C := ⟨h.ok, fun x hx => h.sub x (List.mem_cons_of_mem _ hx), hn.2, hp.2, fun x hx hxc => by
        by_cases he : x = c
        · subst he; exact hc
        · exact h.rest x hx (by simp [he, hxc])⟩
      obtain ⟨C', hl, hs, hf⟩ := Scan.next hb h2
      refine ⟨C', by simp; omega, hs, fun out => ?_⟩
      rw [List.foldl_cons, ← hf out]
      congr 1
      unfold try1
      rw [if_pos hc]
    · have hcf : heldS s c.res = false := by simpa using hc
      have hcw := h.sub c (by simp)
      have hac : a = c := by
        have h1 := hb.2.2 c hcw hcf
        have h2 : a ∈ c :: C := by
          by_cases h3 : a ∈ c :: C
          · exact h3
          · have := h.rest a hb.1 h3
            rw [hb.2.1] at this; cases this
        rcases List.mem_cons.1 h2 with h3 | h3
        · exact h3
        · have h4 := hp.1 a h3
          exact key_inj h.ok hb.1 hcw (by omega)
      subst hac
      obtain ⟨ha, hh, hpl⟩ := mem_waitG.1 hb.1
      refine ⟨C, by simp, ⟨h.ok.hold ha hpl hb.2.1, fun x hx => ?_, hn.2, hp.2, fun x hx hxc => ?_⟩, fun out => ?_⟩
      · have hxw := h.sub x (List.mem_cons_of_mem _ hx)
        rw [waitG_hold, List.mem_filter]
        refine ⟨hxw, ?_⟩
        have : x.task ≠ a.task := fun e => hn.1 (by rw [← h.ok.uniq (mem_waitG.1 hxw).1 ha e]; exact hx)
        simpa using this
      · rw [waitG_hold, List.mem_filter] at hx
        have hne : x ≠ a := fun e => by rw [e] at hx; simp at hx
        rw [heldS_hold h.ok ha, h.rest x hx.1 (by simp [hne, hxc])]
        rfl
      · rw [List.foldl_cons]
        congr 1
        unfold try1
        rw [if_neg (by rw [hb.2.1]; simp)]
end Go.Proofs.YtppgameimddimaaGreat

namespace Go.Proofs.YtppgameimddimaaGreat
open Go.ChangeShapes Go.WideShapes Go.ChangeAt Go.RowKit Go.Conc
set_option linter.unusedVariables false
set_option linter.unusedSimpArgs false
section
variable {w0 w w' : World} {b c : Nat} {S : SetR} {s : Ls} {A : Option Addr}
/-- a task's two numbers, as the locks want them -/
theorem Rl.task (h : Rl w0 w b S s A c) {q : Nat} (hq : s.has (q : Int)) : q < S.tasks.length ∧ s.pri (q : Int) = (S.tasks.getD q default).prio ∧ s.cls (q : Int) = (S.tasks.getD q default).cl ∧ ∃ g o, S.ta = some ⟨g, o, none⟩ ∧ S.tasks.length ≤ S.tc ∧ S.tc ≤ maxLen ∧
    w.cell? ⟨g, o + q * 6 + 3, none⟩ = some (.int .i64 (S.tasks.getD q default).prio) ∧ w.cell? ⟨g, o + q * 6 + 4, none⟩ = some (.int .i64 (S.tasks.getD q default).cl) := by
  obtain ⟨e1, e2, e3, e4, e5⟩ := h.rel
  unfold Ls.has at hq
  rw [e2, List.length_map] at hq
  have hq2 : q < S.tasks.length := by omega
  obtain ⟨g, o, hA, hc⟩ := h.set.tasks.at_.resolve_left (by intro e; rw [e] at hq2; simp at hq2)
  have hk := Keeps.of_below h.below
  obtain ⟨_, _, _, y3, y4, _⟩ := hc q hq2
  refine ⟨hq2, ?_, ?_, g, o, hA, h.set.tasks.sl.2.1, h.set.tasks.sl.2.2, hk _ _ y3, hk _ _ y4⟩
  · unfold Ls.pri; rw [e2]; simp [List.getD, hq2]
  · unfold Ls.cls; rw [e3]; simp [List.getD, hq2]
set_option maxHeartbeats 4000000 in
theorem rl_key (h : Rl w0 w b S s A c) {a : AL} (ha : s.has a.task) : Calls Tryz.prog 69 #[.pointer (some ⟨b, 0, none⟩), a.val] w fun e w' => e = .returned (.int .i64 (keyS s a)) ∧ Below w.heap.size w w' := by
  obtain ⟨q, hq⟩ : ∃ q : Nat, a.task = (q : Int) := ⟨a.task.toNat, by unfold Ls.has at ha; omega⟩
  rw [hq] at ha
  obtain ⟨hq2, hp, _, g, o, hta, hl1, hl2, y3, _⟩ := h.task ha
  have e1 := h.rel.1
  unfold maxLen at hl2
  have hb := (Below.refl w.heap.size w).alloc (Nat.le_refl _) (.cells #[.int .i64 a.task, .int .i64 a.res, .int .i64 a.place, .bool a.holds] 84)
  have bx := Bk.new w 84 #[.int .i64 a.task, .int .i64 a.res, .int .i64 a.place, .bool a.holds]
  have Hb := hidp hb
  have c0 := (h.over hb).blk.cell 0
  have c3 := (h.over hb).blk.cell 3
  have z3 := Keeps.of_below hb _ _ y3
  have b0 := bx.cell 0
  have b2 := bx.cell 2
  simp only [List.getElem?_toArray, List.getElem?_cons_zero, List.getElem?_cons_succ] at c0 c3 b0 b2
  rw [hta] at c3
  obtain ⟨P, HP⟩ : ∃ P, Hid ((S.tasks.getD q default).prio = P) := ⟨_, hidp rfl⟩
  rw [HP.out] at z3 hp
  have qI : (q : Int) < (S.tasks.length : Int) := by omega
  have q0 : (0 : Int) ≤ (q : Int) := by omega
  have dq : decide (S.tasks.length ≤ q) = false := decide_eq_false (by omega)
  have hrw := hq
  unfold AL.val AL.blk
  by_cases hp2 : S.proto = 2
  · have g2 : (S.proto == 2) = true := by simp [hp2]
    have Hv : Hid (keyS s a = P) := hidp (by unfold keyS; rw [if_pos (by rw [e1]; exact hp2), hq]; exact hp)
    rw [hq] at b0 b2 c0 c3 z3 Hb ⊢
    clear h ha hp e1 hp2 y3 hb bx hq hrw hta
    go_enter Tryz.func69, Tryz.ntmps69
    go_wp2
    go_quiet (fail)
    go_wp2
    go_ret
    exact ⟨ret_int Hv.out.symm, below_drewN Hb.out _⟩
  · have g2 : (S.proto == 2) = false := by simpa using hp2
    have Hv : Hid (keyS s a = a.place) := hidp (by unfold keyS; rw [if_neg (by rw [e1]; exact hp2)])
    clear h ha hp e1 hp2 y3 hb bx hq hrw hta
    go_enter Tryz.func69, Tryz.ntmps69
    go_wp2
    go_ret
    exact ⟨ret_int Hv.out.symm, Hb.out⟩
end
end Go.Proofs.YtppgameimddimaaGreat

namespace Go.Proofs.YtppgameimddimaaGreat
open Go.ChangeShapes Go.WideShapes Go.ChangeAt Go.RowKit Go.Conc
set_option linter.unusedVariables false
set_option linter.unusedSimpArgs false
def Cand (s : Ls) (a : AL) : Prop := a.holds = false ∧ 0 < a.place ∧ heldS s a.res = false
/-- the best of the first k -/
def BestUp (s : Ls) (k : Nat) (v : Int) : Prop := (v = -1 ∧ ∀ j, j < k → ¬ Cand s (s.L.getD j default)) ∨ ∃ m : Nat, m < k ∧ v = (m : Int) ∧ Cand s (s.L.getD m default) ∧ ∀ j, j < k → Cand s (s.L.getD j default) → keyS s (s.L.getD m default) ≤ keyS s (s.L.getD j default)
theorem BestUp.not {s : Ls} {k : Nat} {v : Int} (h : BestUp s k v) (hn : ¬ Cand s (s.L.getD k default)) : BestUp s (k + 1) v := by
  rcases h with ⟨h1, h2⟩ | ⟨m, h1, h2, h3, h4⟩
  · refine .inl ⟨h1, fun j hj => ?_⟩
    rcases Nat.lt_succ_iff_lt_or_eq.1 hj with h | rfl
    · exact h2 j h
    · exact hn
  · refine .inr ⟨m, by omega, h2, h3, fun j hj hc => ?_⟩
    rcases Nat.lt_succ_iff_lt_or_eq.1 hj with h | rfl
    · exact h4 j h hc
    · exact absurd hc hn
theorem BestUp.one {s : Ls} {k : Nat} (h : BestUp s k (-1)) (hc : Cand s (s.L.getD k default)) : BestUp s (k + 1) k := by
  rcases h with ⟨_, h2⟩ | ⟨m, h1, h2, h3, h4⟩
  · refine .inr ⟨k, by omega, rfl, hc, fun j hj hj2 => ?_⟩
    rcases Nat.lt_succ_iff_lt_or_eq.1 hj with h | rfl
    · exact absurd hj2 (h2 j h)
    · exact Int.le_refl _
  · omega
theorem BestUp.less {s : Ls} {k m : Nat} (h : BestUp s k m) (hc : Cand s (s.L.getD k default)) (hl : keyS s (s.L.getD k default) < keyS s (s.L.getD m default)) : BestUp s (k + 1) k := by
  rcases h with ⟨h1, _⟩ | ⟨m', h1, h2, h3, h4⟩
  · omega
  · obtain rfl : m = m' := by omega
    refine .inr ⟨k, by omega, rfl, hc, fun j hj hj2 => ?_⟩
    rcases Nat.lt_succ_iff_lt_or_eq.1 hj with h | rfl
    · have := h4 j h hj2; omega
    · exact Int.le_refl _
theorem BestUp.more {s : Ls} {k m : Nat} (h : BestUp s k m) (hl : ¬ keyS s (s.L.getD k default) < keyS s (s.L.getD m default)) : BestUp s (k + 1) m := by
  rcases h with ⟨h1, _⟩ | ⟨m', h1, h2, h3, h4⟩
  · omega
  · obtain rfl : m = m' := by omega
    refine .inr ⟨m, by omega, rfl, h3, fun j hj hj2 => ?_⟩
    rcases Nat.lt_succ_iff_lt_or_eq.1 hj with h | rfl
    · exact h4 j h hj2
    · omega
theorem BestUp.end_ {s : Ls} {v : Int} (h : BestUp s s.L.length v) : (v = -1 ∧ ∀ a ∈ waitG s, heldS s a.res = true) ∨ ∃ m : Nat, m < s.L.length ∧ v = (m : Int) ∧ BestOk s (s.L.getD m default) := by
  have at_ : ∀ a ∈ s.L, ∃ j, j < s.L.length ∧ s.L.getD j default = a := fun a ha => by
    obtain ⟨j, hj, rfl⟩ := List.getElem_of_mem ha
    exact ⟨j, hj, by simp [List.getD, hj]⟩
  rcases h with ⟨h1, h2⟩ | ⟨m, h1, h2, h3, h4⟩
  · refine .inl ⟨h1, fun a ha => ?_⟩
    obtain ⟨g1, g2, g3⟩ := mem_waitG.1 ha
    obtain ⟨j, hj, rfl⟩ := at_ a g1
    cases hh : heldS s (s.L.getD j default).res with
    | true => rfl
    | false => exact absurd ⟨g2, g3, hh⟩ (h2 j hj)
  · refine .inr ⟨m, h1, h2, mem_waitG.2 ⟨by simp [List.getD, h1], h3.1, h3.2.1⟩, h3.2.2, fun a ha hf => ?_⟩
    obtain ⟨g1, g2, g3⟩ := mem_waitG.1 ha
    obtain ⟨j, hj, rfl⟩ := at_ a g1
    exact h4 j hj ⟨g2, g3, hf⟩
section
variable {w0 w w' : World} {b c : Nat} {S : SetR} {s : Ls} {A : Option Addr}
theorem rl_held2 (h : Rl w0 w b S s A c) (ho : LsOk s) {r : Int} (hr0 : s.hasR r) : Calls Tryz.prog 68 #[.pointer (some ⟨b, 0, none⟩), .int .i64 r] w fun e w' => e = .returned (.bool (heldS s r)) ∧ Below w.heap.size w w' := by
  refine (rl_held h ho hr0).mono ?_
  rintro e w' ⟨rfl, n, rfl⟩
  exact ⟨rfl, below_drewN (Below.refl _ _) n⟩
theorem rl_key2 (h : Rl w0 w b S s A c) {t r p : Int} {hh : Bool} (ha : s.has t) : Calls Tryz.prog 69 #[.pointer (some ⟨b, 0, none⟩), .agg #[.int .i64 t, .int .i64 r, .int .i64 p, .bool hh]] w fun e w' => e = .returned (.int .i64 (keyS s ⟨t, r, p, hh⟩)) ∧ Below w.heap.size w w' := rl_key h (a := ⟨t, r, p, hh⟩) ha
/-- the four cells of ask m, for as long as nothing that was there reads otherwise -/
theorem Rl.at_ (h : Rl w0 w b S s A c) {k : Nat} (hk : k < s.L.length) : ∃ g, A = some ⟨g, 0, none⟩ ∧ ALCells w g (k * 4) (s.L.getD k default) := by
  obtain ⟨g, hg, _, _⟩ := h.row.at_ (by omega)
  have hr := h.row
  rw [hg] at hr
  exact ⟨g, hg, hr.cells hk⟩
set_option maxHeartbeats 8000000 in
theorem rl_best (h : Rl w0 w b S s A c) (ho : LsOk s) : Calls Tryz.prog 42 #[.pointer (some ⟨b, 0, none⟩)] w fun e w' => ∃ v, e = .returned (.int .i64 v) ∧ BestUp s s.L.length v ∧ Below w.heap.size w w' := by
  have HR := hidp h
  have HO := hidp ho
  have c4 : w.cell? ⟨b, 4, none⟩ = some (.slice A s.L.length c) := h.blk.cell 4
  have hcap := h.row.cap
  have hm := hcap.2
  unfold maxLen at hm
  have hb0 : Below w.heap.size w w := Below.refl _ _
  clear h ho
  go_enter Tryz.func42, Tryz.ntmps42
  go_wp2
  go_loopg [3, 4] s.L.length (fun g bv i wr => ∃ (k : Nat) (v : Int), k + g = s.L.length ∧ i = .int .i64 k ∧ bv = .int .i64 v ∧ Hid (BestUp s k v) ∧ Below w.heap.size w wr)
  case atStart => exact ⟨0, -1, by omega, rfl, rfl, hidp (.inl ⟨rfl, fun j hj => absurd hj (by omega)⟩), hb0⟩
  case round =>
    obtain ⟨k, v, hk, rfl, rfl, NH, hb⟩ := hrel
    have hc4 := Keeps.of_below hb _ _ c4
    by_cases hlt : k < s.L.length
    · obtain ⟨g, hg, hac⟩ := HR.out.at_ hlt
      have wk1 : IntKind.i64.wrap ((k : Int) + 1) = (k : Int) + 1 := IntWalk.i64_in _ (by omega)
      have kI : (k : Int) < (s.L.length : Int) := by omega
      have k0 : (0 : Int) ≤ (k : Int) := by omega
      have d3 : decide (s.L.length ≤ k) = false := decide_eq_false (by omega)
      obtain ⟨a, Ha⟩ : ∃ a, Hid (s.L.getD k default = a) := ⟨_, hidp rfl⟩
      have HaL : Hid (a ∈ s.L) := hidp (by rw [← Ha.out]; simp [List.getD, hlt])
      rw [Ha.out] at hac
      obtain ⟨x0, x1, x2, x3⟩ := id hac
      have y0 := Keeps.of_below hb _ _ x0
      have y1 := Keeps.of_below hb _ _ x1
      have y2 := Keeps.of_below hb _ _ x2
      have y3 := Keeps.of_below hb _ _ x3
      rw [hg] at hc4
      clear x0 x1 x2 x3 hac
      obtain ⟨ta, re, pl, hh⟩ := a
      dsimp only at y0 y1 y2 y3
      have kt : Hid (s.has ta ∧ s.hasR re) := hidp ⟨HO.out.tk _ HaL.out, HO.out.rs _ HaL.out⟩
      have nq0 : decide ((0 : Int) < 0) = false := rfl
      cases hh with
      | true =>
        have NH2 : Hid (BestUp s (k + 1) v) := hidp (NH.out.not (by rw [Ha.out]; rintro ⟨h1, _⟩; cases h1))
        have hw1 := hb.alloc hb.size (.cells #[.int .i64 ta, .int .i64 re, .int .i64 pl, .bool true] 84)
        have bx := Bk.new wr 84 #[.int .i64 ta, .int .i64 re, .int .i64 pl, .bool true]
        have b0 := bx.cell 0
        have b1 := bx.cell 1
        have b2 := bx.cell 2
        have b3 := bx.cell 3
        simp only [List.getElem?_toArray, List.getElem?_cons_zero, List.getElem?_cons_succ] at b0 b1 b2 b3
        have hc1 := Keeps.alloc wr (.cells #[.int .i64 ta, .int .i64 re, .int .i64 pl, .bool true] 84) _ _ hc4
        clear bx
        go_wp2_with fail
        have hs : (wr.alloc (.cells #[.int .i64 ta, .int .i64 re, .int .i64 pl, .bool true] 84)).drew.cell? ⟨wr.heap.size, 0, none⟩ = some (.int .i64 ta) ∧ (wr.alloc (.cells #[.int .i64 ta, .int .i64 re, .int .i64 pl, .bool true] 84)).drew.cell? ⟨wr.heap.size, 1, none⟩ = some (.int .i64 re) ∧ (wr.alloc (.cells #[.int .i64 ta, .int .i64 re, .int .i64 pl, .bool true] 84)).drew.cell? ⟨wr.heap.size, 2, none⟩ = some (.int .i64 pl) ∧ (wr.alloc (.cells #[.int .i64 ta, .int .i64 re, .int .i64 pl, .bool true] 84)).drew.cell? ⟨wr.heap.size, 3, none⟩ = some (.bool true) ∧ (wr.alloc (.cells #[.int .i64 ta, .int .i64 re, .int .i64 pl, .bool true] 84)).drew.cell? ⟨b, 4, none⟩ = some (.slice (some ⟨g, 0, none⟩) s.L.length c) := ⟨b0, b1, b2, b3, hc1⟩
        have hu := hw1.drew
        refine wp_region_held_drew (S := fun w' => w'.cell? ⟨wr.heap.size, 0, none⟩ = some (.int .i64 ta) ∧ w'.cell? ⟨wr.heap.size, 1, none⟩ = some (.int .i64 re) ∧ w'.cell? ⟨wr.heap.size, 2, none⟩ = some (.int .i64 pl) ∧ w'.cell? ⟨wr.heap.size, 3, none⟩ = some (.bool true) ∧ w'.cell? ⟨b, 4, none⟩ = some (.slice (some ⟨g, 0, none⟩) s.L.length c)) (by kernel_rfl) ?_ (fun hHeld => ?_)
        · exact hs
        clear b0 b1 b2 b3 hc1 hc4 hw1 hb y0 y1 y2 y3
        generalize (wr.alloc (.cells #[.int .i64 ta, .int .i64 re, .int .i64 pl, .bool true] 84)).drew = u1 at *
        refine wpAnyH_take (i := 0) (v := ?_) rfl (by kernel_rfl) (by kernel_rfl) (by kernel_rfl) (fun _ _ _ h => h) (Or.inl ⟨by rfl, ?_⟩) (by assumption) ?_
        rotate_left 1
        · ((intro w hSw; (try dsimp only at hSw); go_simp); (try with_reducible rfl))
        simp only [Act.put, List.setIfInBounds_toArray, List.set_cons_zero, List.set_cons_succ, List.getElem_toArray, List.getElem_cons_zero, List.getElem_cons_succ]
        refine wpAnyH_take (i := 1) (v := ?_) rfl (by kernel_rfl) (by kernel_rfl) (by kernel_rfl) (fun _ _ _ h => h) (Or.inl ⟨by rfl, ?_⟩) (by assumption) ?_
        rotate_left 1
        · ((intro w hSw; (try dsimp only at hSw); go_simp); (try with_reducible rfl))
        simp only [Act.put, List.setIfInBounds_toArray, List.set_cons_zero, List.set_cons_succ, List.getElem_toArray, List.getElem_cons_zero, List.getElem_cons_succ]
        refine wpAnyH_take (i := 2) (v := ?_) rfl (by kernel_rfl) (by kernel_rfl) (by kernel_rfl) (fun _ _ _ h => h) (Or.inl ⟨by rfl, ?_⟩) (by assumption) ?_
        rotate_left 1
        · ((intro w hSw; (try dsimp only at hSw); go_simp); (try with_reducible rfl))
        simp only [Act.put, List.setIfInBounds_toArray, List.set_cons_zero, List.set_cons_succ, List.getElem_toArray, List.getElem_cons_zero, List.getElem_cons_succ]
        refine wpAnyH_take (i := 3) (v := ?_) rfl (by kernel_rfl) (by kernel_rfl) (by kernel_rfl) (fun _ _ _ h => h) (Or.inl ⟨by rfl, ?_⟩) (by assumption) ?_
        rotate_left 1
        · ((intro w hSw; (try dsimp only at hSw); go_simp); (try with_reducible rfl))
        simp only [Act.put, List.setIfInBounds_toArray, List.set_cons_zero, List.set_cons_succ, List.getElem_toArray, List.getElem_cons_zero, List.getElem_cons_succ]
        refine wpAnyH_take (i := 4) (v := undef) rfl (by kernel_rfl) (by kernel_rfl) (by kernel_rfl) (fun _ _ _ h => h) (Or.inr ⟨by rfl, rfl⟩) (by assumption) ?_
        simp only [Act.put, List.setIfInBounds_toArray, List.set_cons_zero, List.set_cons_succ, List.getElem_toArray, List.getElem_cons_zero, List.getElem_cons_succ]
        refine wpAnyH_take (i := 5) (v := undef) rfl (by kernel_rfl) (by kernel_rfl) (by kernel_rfl) (fun _ _ _ h => h) (Or.inr ⟨by rfl, rfl⟩) (by assumption) ?_
        simp only [Act.put, List.setIfInBounds_toArray, List.set_cons_zero, List.set_cons_succ, List.getElem_toArray, List.getElem_cons_zero, List.getElem_cons_succ]
        refine wpAnyH_take (i := 6) (v := undef) rfl (by kernel_rfl) (by kernel_rfl) (by kernel_rfl) (fun _ _ _ h => h) (Or.inr ⟨by rfl, rfl⟩) (by assumption) ?_
        simp only [Act.put, List.setIfInBounds_toArray, List.set_cons_zero, List.set_cons_succ, List.getElem_toArray, List.getElem_cons_zero, List.getElem_cons_succ]
        refine wpAnyH_take (i := 7) (v := ?_) rfl (by kernel_rfl) (by kernel_rfl) (by kernel_rfl) (fun _ _ _ h => h) (Or.inl ⟨by rfl, ?_⟩) (by assumption) ?_
        rotate_left 1
        · ((intro w hSw; (try dsimp only at hSw); go_simp); (try with_reducible rfl))
        simp only [Act.put, List.setIfInBounds_toArray, List.set_cons_zero, List.set_cons_succ, List.getElem_toArray, List.getElem_cons_zero, List.getElem_cons_succ]
        refine wpAnyH_take (i := 8) (v := ?_) rfl (by kernel_rfl) (by kernel_rfl) (by kernel_rfl) (fun _ _ _ h => h) (Or.inl ⟨by rfl, ?_⟩) (by assumption) ?_
        rotate_left 1
        · ((intro w hSw; (try dsimp only at hSw); go_simp); (try with_reducible rfl))
        simp only [Act.put, List.setIfInBounds_toArray, List.set_cons_zero, List.set_cons_succ, List.getElem_toArray, List.getElem_cons_zero, List.getElem_cons_succ]
        refine wpAnyH_take (i := 9) (v := undef) rfl (by kernel_rfl) (by kernel_rfl) (by kernel_rfl) (fun _ _ _ h => h) (Or.inr ⟨by rfl, rfl⟩) (by assumption) ?_
        simp only [Act.put, List.setIfInBounds_toArray, List.set_cons_zero, List.set_cons_succ, List.getElem_toArray, List.getElem_cons_zero, List.getElem_cons_succ]
        refine wpAnyH_take (i := 10) (v := undef) rfl (by kernel_rfl) (by kernel_rfl) (by kernel_rfl) (fun _ _ _ h => h) (Or.inr ⟨by rfl, rfl⟩) (by assumption) ?_
        simp only [Act.put, List.setIfInBounds_toArray, List.set_cons_zero, List.set_cons_succ, List.getElem_toArray, List.getElem_cons_zero, List.getElem_cons_succ]
        refine wpAnyH_take (i := 11) (v := undef) rfl (by kernel_rfl) (by kernel_rfl) (by kernel_rfl) (fun _ _ _ h => h) (Or.inr ⟨by rfl, rfl⟩) (by assumption) ?_
        simp only [Act.put, List.setIfInBounds_toArray, List.set_cons_zero, List.set_cons_succ, List.getElem_toArray, List.getElem_cons_zero, List.getElem_cons_succ]
        refine wpAnyH_take (i := 12) (v := undef) rfl (by kernel_rfl) (by kernel_rfl) (by kernel_rfl) (fun _ _ _ h => h) (Or.inr ⟨by rfl, rfl⟩) (by assumption) ?_
        simp only [Act.put, List.setIfInBounds_toArray, List.set_cons_zero, List.set_cons_succ, List.getElem_toArray, List.getElem_cons_zero, List.getElem_cons_succ]
        refine wpAnyH_take (i := 13) (v := undef) rfl (by kernel_rfl) (by kernel_rfl) (by kernel_rfl) (fun _ _ _ h => h) (Or.inr ⟨by rfl, rfl⟩) (by assumption) ?_
        simp only [Act.put, List.setIfInBounds_toArray, List.set_cons_zero, List.set_cons_succ, List.getElem_toArray, List.getElem_cons_zero, List.getElem_cons_succ]
        refine wpAnyH_take (i := 14) (v := ?_) rfl (by kernel_rfl) (by kernel_rfl) (by kernel_rfl) (fun _ _ _ h => h) (Or.inl ⟨by rfl, ?_⟩) (by assumption) ?_
        rotate_left 1
        · ((intro w hSw; (try dsimp only at hSw); go_simp); (try with_reducible rfl))
        simp only [Act.put, List.setIfInBounds_toArray, List.set_cons_zero, List.set_cons_succ, List.getElem_toArray, List.getElem_cons_zero, List.getElem_cons_succ]
        refine wpAnyH_take (i := 15) (v := ?_) rfl (by kernel_rfl) (by kernel_rfl) (by kernel_rfl) (fun _ _ _ h => h) (Or.inl ⟨by rfl, ?_⟩) (by assumption) ?_
        rotate_left 1
        · ((intro w hSw; (try dsimp only at hSw); go_simp); (try with_reducible rfl))
        simp only [Act.put, List.setIfInBounds_toArray, List.set_cons_zero, List.set_cons_succ, List.getElem_toArray, List.getElem_cons_zero, List.getElem_cons_succ]
        refine wpAnyH_take (i := 16) (v := undef) rfl (by kernel_rfl) (by kernel_rfl) (by kernel_rfl) (fun _ _ _ h => h) (Or.inr ⟨by rfl, rfl⟩) (by assumption) ?_
        simp only [Act.put, List.setIfInBounds_toArray, List.set_cons_zero, List.set_cons_succ, List.getElem_toArray, List.getElem_cons_zero, List.getElem_cons_succ]
        refine wpAnyH_take (i := 17) (v := undef) rfl (by kernel_rfl) (by kernel_rfl) (by kernel_rfl) (fun _ _ _ h => h) (Or.inr ⟨by rfl, rfl⟩) (by assumption) ?_
        simp only [Act.put, List.setIfInBounds_toArray, List.set_cons_zero, List.set_cons_succ, List.getElem_toArray, List.getElem_cons_zero, List.getElem_cons_succ]
        refine wpAnyH_take (i := 18) (v := undef) rfl (by kernel_rfl) (by kernel_rfl) (by kernel_rfl) (fun _ _ _ h => h) (Or.inr ⟨by rfl, rfl⟩) (by assumption) ?_
        simp only [Act.put, List.setIfInBounds_toArray, List.set_cons_zero, List.set_cons_succ, List.getElem_toArray, List.getElem_cons_zero, List.getElem_cons_succ]
        refine wpAnyH_take (i := 19) (v := undef) rfl (by kernel_rfl) (by kernel_rfl) (by kernel_rfl) (fun _ _ _ h => h) (Or.inr ⟨by rfl, rfl⟩) (by assumption) ?_
        simp only [Act.put, List.setIfInBounds_toArray, List.set_cons_zero, List.set_cons_succ, List.getElem_toArray, List.getElem_cons_zero, List.getElem_cons_succ]
        refine wpAnyH_take (i := 20) (v := undef) rfl (by kernel_rfl) (by kernel_rfl) (by kernel_rfl) (fun _ _ _ h => h) (Or.inr ⟨by rfl, rfl⟩) (by assumption) ?_
        simp only [Act.put, List.setIfInBounds_toArray, List.set_cons_zero, List.set_cons_succ, List.getElem_toArray, List.getElem_cons_zero, List.getElem_cons_succ]
        refine wpAnyH_take (i := 21) (v := undef) rfl (by kernel_rfl) (by kernel_rfl) (by kernel_rfl) (fun _ _ _ h => h) (Or.inr ⟨by rfl, rfl⟩) (by assumption) ?_
        simp only [Act.put, List.setIfInBounds_toArray, List.set_cons_zero, List.set_cons_succ, List.getElem_toArray, List.getElem_cons_zero, List.getElem_cons_succ]
        refine wpAnyH_take (i := 22) (v := undef) rfl (by kernel_rfl) (by kernel_rfl) (by kernel_rfl) (fun _ _ _ h => h) (Or.inr ⟨by rfl, rfl⟩) (by assumption) ?_
        simp only [Act.put, List.setIfInBounds_toArray, List.set_cons_zero, List.set_cons_succ, List.getElem_toArray, List.getElem_cons_zero, List.getElem_cons_succ]
        refine wpAnyH_take (i := 23) (v := undef) rfl (by kernel_rfl) (by kernel_rfl) (by kernel_rfl) (fun _ _ _ h => h) (Or.inr ⟨by rfl, rfl⟩) (by assumption) ?_
        simp only [Act.put, List.setIfInBounds_toArray, List.set_cons_zero, List.set_cons_succ, List.getElem_toArray, List.getElem_cons_zero, List.getElem_cons_succ]
        refine wpAnyH_take (i := 24) (v := undef) rfl (by kernel_rfl) (by kernel_rfl) (by kernel_rfl) (fun _ _ _ h => h) (Or.inr ⟨by rfl, rfl⟩) (by assumption) ?_
        simp only [Act.put, List.setIfInBounds_toArray, List.set_cons_zero, List.set_cons_succ, List.getElem_toArray, List.getElem_cons_zero, List.getElem_cons_succ]
        refine wpAnyH_take (i := 25) (v := undef) rfl (by kernel_rfl) (by kernel_rfl) (by kernel_rfl) (fun _ _ _ h => h) (Or.inr ⟨by rfl, rfl⟩) (by assumption) ?_
        simp only [Act.put, List.setIfInBounds_toArray, List.set_cons_zero, List.set_cons_succ, List.getElem_toArray, List.getElem_cons_zero, List.getElem_cons_succ]
        refine wpAnyH_take (i := 26) (v := undef) rfl (by kernel_rfl) (by kernel_rfl) (by kernel_rfl) (fun _ _ _ h => h) (Or.inr ⟨by rfl, rfl⟩) (by assumption) ?_
        simp only [Act.put, List.setIfInBounds_toArray, List.set_cons_zero, List.set_cons_succ, List.getElem_toArray, List.getElem_cons_zero, List.getElem_cons_succ]
        refine wpAnyH_take (i := 27) (v := undef) rfl (by kernel_rfl) (by kernel_rfl) (by kernel_rfl) (fun _ _ _ h => h) (Or.inr ⟨by rfl, rfl⟩) (by assumption) ?_
        simp only [Act.put, List.setIfInBounds_toArray, List.set_cons_zero, List.set_cons_succ, List.getElem_toArray, List.getElem_cons_zero, List.getElem_cons_succ]
        refine wpAnyH_take (i := 28) (v := undef) rfl (by kernel_rfl) (by kernel_rfl) (by kernel_rfl) (fun _ _ _ h => h) (Or.inr ⟨by rfl, rfl⟩) (by assumption) ?_
        simp only [Act.put, List.setIfInBounds_toArray, List.set_cons_zero, List.set_cons_succ, List.getElem_toArray, List.getElem_cons_zero, List.getElem_cons_succ]
        refine wpAnyH_take (i := 29) (v := undef) rfl (by kernel_rfl) (by kernel_rfl) (by kernel_rfl) (fun _ _ _ h => h) (Or.inr ⟨by rfl, rfl⟩) (by assumption) ?_
        simp only [Act.put, List.setIfInBounds_toArray, List.set_cons_zero, List.set_cons_succ, List.getElem_toArray, List.getElem_cons_zero, List.getElem_cons_succ]
        refine wpAnyH_take (i := 30) (v := undef) rfl (by kernel_rfl) (by kernel_rfl) (by kernel_rfl) (fun _ _ _ h => h) (Or.inr ⟨by rfl, rfl⟩) (by assumption) ?_
        simp only [Act.put, List.setIfInBounds_toArray, List.set_cons_zero, List.set_cons_succ, List.getElem_toArray, List.getElem_cons_zero, List.getElem_cons_succ]
        refine wpAnyH_take (i := 31) (v := undef) rfl (by kernel_rfl) (by kernel_rfl) (by kernel_rfl) (fun _ _ _ h => h) (Or.inr ⟨by rfl, rfl⟩) (by assumption) ?_
        simp only [Act.put, List.setIfInBounds_toArray, List.set_cons_zero, List.set_cons_succ, List.getElem_toArray, List.getElem_cons_zero, List.getElem_cons_succ]
        refine wpAnyH_take (i := 32) (v := undef) rfl (by kernel_rfl) (by kernel_rfl) (by kernel_rfl) (fun _ _ _ h => h) (Or.inr ⟨by rfl, rfl⟩) (by assumption) ?_
        simp only [Act.put, List.setIfInBounds_toArray, List.set_cons_zero, List.set_cons_succ, List.getElem_toArray, List.getElem_cons_zero, List.getElem_cons_succ]
        refine wpAnyH_take (i := 33) (v := ?_) rfl (by kernel_rfl) (by kernel_rfl) (by kernel_rfl) (fun _ _ _ h => h) (Or.inl ⟨by rfl, ?_⟩) (by assumption) ?_
        rotate_left 1
        · ((intro w hSw; (try dsimp only at hSw); go_simp); (try with_reducible rfl))
        simp only [Act.put, List.setIfInBounds_toArray, List.set_cons_zero, List.set_cons_succ, List.getElem_toArray, List.getElem_cons_zero, List.getElem_cons_succ]
        refine wpAnyH_done (by kernel_rfl) ?_ _
        go_wp2_with fail
        go_roundg (gk - 1)
        case measure => omega
        case rel => exact ⟨k + 1, v, by omega, by go_num, rfl, NH2, hu⟩
      | false =>
        by_cases hp0 : 0 < pl
        · have dp0 : decide (0 < pl) = true := decide_eq_true hp0
          cases hhd : heldS s re with
          | true =>
            have Hh := hidp hhd
            have NH2 : Hid (BestUp s (k + 1) v) := hidp (NH.out.not (by rw [Ha.out]; rintro ⟨_, _, h1⟩; rw [Hh.out] at h1; cases h1))
            clear hhd
            have hw1 := hb.alloc hb.size (.cells #[.int .i64 ta, .int .i64 re, .int .i64 pl, .bool false] 84)
            have bx := Bk.new wr 84 #[.int .i64 ta, .int .i64 re, .int .i64 pl, .bool false]
            have b0 := bx.cell 0
            have b1 := bx.cell 1
            have b2 := bx.cell 2
            have b3 := bx.cell 3
            simp only [List.getElem?_toArray, List.getElem?_cons_zero, List.getElem?_cons_succ] at b0 b1 b2 b3
            have hc1 := Keeps.alloc wr (.cells #[.int .i64 ta, .int .i64 re, .int .i64 pl, .bool false] 84) _ _ hc4
            clear bx
            go_wp2_with fail
            have hs : (wr.alloc (.cells #[.int .i64 ta, .int .i64 re, .int .i64 pl, .bool false] 84)).drew.cell? ⟨wr.heap.size, 0, none⟩ = some (.int .i64 ta) ∧ (wr.alloc (.cells #[.int .i64 ta, .int .i64 re, .int .i64 pl, .bool false] 84)).drew.cell? ⟨wr.heap.size, 1, none⟩ = some (.int .i64 re) ∧ (wr.alloc (.cells #[.int .i64 ta, .int .i64 re, .int .i64 pl, .bool false] 84)).drew.cell? ⟨wr.heap.size, 2, none⟩ = some (.int .i64 pl) ∧ (wr.alloc (.cells #[.int .i64 ta, .int .i64 re, .int .i64 pl, .bool false] 84)).drew.cell? ⟨wr.heap.size, 3, none⟩ = some (.bool false) ∧ (wr.alloc (.cells #[.int .i64 ta, .int .i64 re, .int .i64 pl, .bool false] 84)).drew.cell? ⟨b, 4, none⟩ = some (.slice (some ⟨g, 0, none⟩) s.L.length c) := ⟨b0, b1, b2, b3, hc1⟩
            have hu := hw1.drew
            refine wp_region_held_drew (S := fun w' => w'.cell? ⟨wr.heap.size, 0, none⟩ = some (.int .i64 ta) ∧ w'.cell? ⟨wr.heap.size, 1, none⟩ = some (.int .i64 re) ∧ w'.cell? ⟨wr.heap.size, 2, none⟩ = some (.int .i64 pl) ∧ w'.cell? ⟨wr.heap.size, 3, none⟩ = some (.bool false) ∧ w'.cell? ⟨b, 4, none⟩ = some (.slice (some ⟨g, 0, none⟩) s.L.length c)) (by kernel_rfl) ?_ (fun hHeld => ?_)
            · exact hs
            clear b0 b1 b2 b3 hc1 hc4 hw1 hb y0 y1 y2 y3
            generalize (wr.alloc (.cells #[.int .i64 ta, .int .i64 re, .int .i64 pl, .bool false] 84)).drew = u1 at *
            refine wpAnyH_take (i := 0) (v := ?_) rfl (by kernel_rfl) (by kernel_rfl) (by kernel_rfl) (fun _ _ _ h => h) (Or.inl ⟨by rfl, ?_⟩) (by assumption) ?_
            rotate_left 1
            · ((intro w hSw; (try dsimp only at hSw); go_simp); (try with_reducible rfl))
            simp only [Act.put, List.setIfInBounds_toArray, List.set_cons_zero, List.set_cons_succ, List.getElem_toArray, List.getElem_cons_zero, List.getElem_cons_succ]
            refine wpAnyH_take (i := 1) (v := ?_) rfl (by kernel_rfl) (by kernel_rfl) (by kernel_rfl) (fun _ _ _ h => h) (Or.inl ⟨by rfl, ?_⟩) (by assumption) ?_
            rotate_left 1
            · ((intro w hSw; (try dsimp only at hSw); go_simp); (try with_reducible rfl))
            simp only [Act.put, List.setIfInBounds_toArray, List.set_cons_zero, List.set_cons_succ, List.getElem_toArray, List.getElem_cons_zero, List.getElem_cons_succ]
            refine wpAnyH_take (i := 2) (v := ?_) rfl (by kernel_rfl) (by kernel_rfl) (by kernel_rfl) (fun _ _ _ h => h) (Or.inl ⟨by rfl, ?_⟩) (by assumption) ?_
            rotate_left 1
            · ((intro w hSw; (try dsimp only at hSw); go_simp); (try with_reducible rfl))
            simp only [Act.put, List.setIfInBounds_toArray, List.set_cons_zero, List.set_cons_succ, List.getElem_toArray, List.getElem_cons_zero, List.getElem_cons_succ]
            refine wpAnyH_take (i := 3) (v := ?_) rfl (by kernel_rfl) (by kernel_rfl) (by kernel_rfl) (fun _ _ _ h => h) (Or.inl ⟨by rfl, ?_⟩) (by assumption) ?_
            rotate_left 1
            · ((intro w hSw; (try dsimp only at hSw); go_simp); (try with_reducible rfl))
            simp only [Act.put, List.setIfInBounds_toArray, List.set_cons_zero, List.set_cons_succ, List.getElem_toArray, List.getElem_cons_zero, List.getElem_cons_succ]
            refine wpAnyH_take (i := 4) (v := ?_) rfl (by kernel_rfl) (by kernel_rfl) (by kernel_rfl) (fun _ _ _ h => h) (Or.inl ⟨by rfl, ?_⟩) (by assumption) ?_
            rotate_left 1
            · ((intro w hSw; (try dsimp only at hSw); go_simp); (try with_reducible rfl))
            simp only [Act.put, List.setIfInBounds_toArray, List.set_cons_zero, List.set_cons_succ, List.getElem_toArray, List.getElem_cons_zero, List.getElem_cons_succ]
            refine wpAnyH_take (i := 5) (v := ?_) rfl (by kernel_rfl) (by kernel_rfl) (by kernel_rfl) (fun _ _ _ h => h) (Or.inl ⟨by rfl, ?_⟩) (by assumption) ?_
            rotate_left 1
            · ((intro w hSw; (try dsimp only at hSw); go_simp); (try with_reducible rfl))
            simp only [Act.put, List.setIfInBounds_toArray, List.set_cons_zero, List.set_cons_succ, List.getElem_toArray, List.getElem_cons_zero, List.getElem_cons_succ]
            refine wpAnyH_take (i := 6) (v := ?_) rfl (by kernel_rfl) (by kernel_rfl) (by kernel_rfl) (fun _ _ _ h => h) (Or.inl ⟨by rfl, ?_⟩) (by assumption) ?_
            rotate_left 1
            · ((intro w hSw; (try dsimp only at hSw); go_simp); (try with_reducible rfl))
            simp only [Act.put, List.setIfInBounds_toArray, List.set_cons_zero, List.set_cons_succ, List.getElem_toArray, List.getElem_cons_zero, List.getElem_cons_succ]
            refine wpAnyH_take (i := 7) (v := ?_) rfl (by kernel_rfl) (by kernel_rfl) (by kernel_rfl) (fun _ _ _ h => h) (Or.inl ⟨by rfl, ?_⟩) (by assumption) ?_
            rotate_left 1
            · ((intro w hSw; (try dsimp only at hSw); go_simp); (try with_reducible rfl))
            simp only [Act.put, List.setIfInBounds_toArray, List.set_cons_zero, List.set_cons_succ, List.getElem_toArray, List.getElem_cons_zero, List.getElem_cons_succ]
            refine wpAnyH_take (i := 8) (v := ?_) rfl (by kernel_rfl) (by kernel_rfl) (by kernel_rfl) (fun _ _ _ h => h) (Or.inl ⟨by rfl, ?_⟩) (by assumption) ?_
            rotate_left 1
            · ((intro w hSw; (try dsimp only at hSw); go_simp); (try with_reducible rfl))
            simp only [Act.put, List.setIfInBounds_toArray, List.set_cons_zero, List.set_cons_succ, List.getElem_toArray, List.getElem_cons_zero, List.getElem_cons_succ]
            refine wpAnyH_take (i := 9) (v := ?_) rfl (by kernel_rfl) (by kernel_rfl) (by kernel_rfl) (fun _ _ _ h => h) (Or.inl ⟨by rfl, ?_⟩) (by assumption) ?_
            rotate_left 1
            · ((intro w hSw; (try dsimp only at hSw); go_simp); (try with_reducible rfl))
            simp only [Act.put, List.setIfInBounds_toArray, List.set_cons_zero, List.set_cons_succ, List.getElem_toArray, List.getElem_cons_zero, List.getElem_cons_succ]
            refine wpAnyH_take (i := 10) (v := ?_) rfl (by kernel_rfl) (by kernel_rfl) (by kernel_rfl) (fun _ _ _ h => h) (Or.inl ⟨by rfl, ?_⟩) (by assumption) ?_
            rotate_left 1
            · ((intro w hSw; (try dsimp only at hSw); go_simp); (try with_reducible rfl))
            simp only [Act.put, List.setIfInBounds_toArray, List.set_cons_zero, List.set_cons_succ, List.getElem_toArray, List.getElem_cons_zero, List.getElem_cons_succ]
            refine wpAnyH_take (i := 11) (v := ?_) rfl (by kernel_rfl) (by kernel_rfl) (by kernel_rfl) (fun _ _ _ h => h) (Or.inl ⟨by rfl, ?_⟩) (by assumption) ?_
            rotate_left 1
            · ((intro w hSw; (try dsimp only at hSw); go_simp); (try with_reducible rfl))
            simp only [Act.put, List.setIfInBounds_toArray, List.set_cons_zero, List.set_cons_succ, List.getElem_toArray, List.getElem_cons_zero, List.getElem_cons_succ]
            refine wpAnyH_ready (rs := [12]) (by kernel_rfl) (by simp) ?_
            refine AllReadyH.cons rfl (fun K hK => ?_) AllReadyH.nil
            go_simp
            refine (rl_held2 (HR.out.over hu) HO.out kt.out.2).mono ?_
            rintro e w3 ⟨rfl, hb3⟩
            rw [Hh.out]
            have k3 := Keeps.of_below hb3
            replace hs := And.intro (k3 _ _ hs.1) (And.intro (k3 _ _ hs.2.1) (And.intro (k3 _ _ hs.2.2.1) (And.intro (k3 _ _ hs.2.2.2.1) (k3 _ _ hs.2.2.2.2))))
            replace hu := hu.trans (hb3.mono hu.size)
            clear hHeld hb3 k3
            go_wp2_with fail
            refine hK.out _ _ ?_ (fun hHeld => ?_)
            · exact hs
            clear hK K
            try simp only [Act.put, List.setIfInBounds_toArray, List.set_cons_zero, List.set_cons_succ, List.getElem_toArray, List.getElem_cons_zero, List.getElem_cons_succ]
            refine wpAnyH_take (i := 13) (v := ?_) rfl (by kernel_rfl) (by kernel_rfl) (by kernel_rfl) (fun _ _ _ h => h) (Or.inl ⟨by rfl, ?_⟩) (by assumption) ?_
            rotate_left 1
            · ((intro w hSw; (try dsimp only at hSw); go_simp); (try with_reducible rfl))
            simp only [Act.put, List.setIfInBounds_toArray, List.set_cons_zero, List.set_cons_succ, List.getElem_toArray, List.getElem_cons_zero, List.getElem_cons_succ]
            refine wpAnyH_take (i := 14) (v := ?_) rfl (by kernel_rfl) (by kernel_rfl) (by kernel_rfl) (fun _ _ _ h => h) (Or.inl ⟨by rfl, ?_⟩) (by assumption) ?_
            rotate_left 1
            · ((intro w hSw; (try dsimp only at hSw); go_simp); (try with_reducible rfl))
            simp only [Act.put, List.setIfInBounds_toArray, List.set_cons_zero, List.set_cons_succ, List.getElem_toArray, List.getElem_cons_zero, List.getElem_cons_succ]
            refine wpAnyH_take (i := 15) (v := ?_) rfl (by kernel_rfl) (by kernel_rfl) (by kernel_rfl) (fun _ _ _ h => h) (Or.inl ⟨by rfl, ?_⟩) (by assumption) ?_
            rotate_left 1
            · ((intro w hSw; (try dsimp only at hSw); go_simp); (try with_reducible rfl))
            simp only [Act.put, List.setIfInBounds_toArray, List.set_cons_zero, List.set_cons_succ, List.getElem_toArray, List.getElem_cons_zero, List.getElem_cons_succ]
            refine wpAnyH_take (i := 16) (v := undef) rfl (by kernel_rfl) (by kernel_rfl) (by kernel_rfl) (fun _ _ _ h => h) (Or.inr ⟨by rfl, rfl⟩) (by assumption) ?_
            simp only [Act.put, List.setIfInBounds_toArray, List.set_cons_zero, List.set_cons_succ, List.getElem_toArray, List.getElem_cons_zero, List.getElem_cons_succ]
            refine wpAnyH_take (i := 17) (v := undef) rfl (by kernel_rfl) (by kernel_rfl) (by kernel_rfl) (fun _ _ _ h => h) (Or.inr ⟨by rfl, rfl⟩) (by assumption) ?_
            simp only [Act.put, List.setIfInBounds_toArray, List.set_cons_zero, List.set_cons_succ, List.getElem_toArray, List.getElem_cons_zero, List.getElem_cons_succ]
            refine wpAnyH_take (i := 18) (v := undef) rfl (by kernel_rfl) (by kernel_rfl) (by kernel_rfl) (fun _ _ _ h => h) (Or.inr ⟨by rfl, rfl⟩) (by assumption) ?_
            simp only [Act.put, List.setIfInBounds_toArray, List.set_cons_zero, List.set_cons_succ, List.getElem_toArray, List.getElem_cons_zero, List.getElem_cons_succ]
            refine wpAnyH_take (i := 19) (v := undef) rfl (by kernel_rfl) (by kernel_rfl) (by kernel_rfl) (fun _ _ _ h => h) (Or.inr ⟨by rfl, rfl⟩) (by assumption) ?_
            simp only [Act.put, List.setIfInBounds_toArray, List.set_cons_zero, List.set_cons_succ, List.getElem_toArray, List.getElem_cons_zero, List.getElem_cons_succ]
            refine wpAnyH_take (i := 20) (v := undef) rfl (by kernel_rfl) (by kernel_rfl) (by kernel_rfl) (fun _ _ _ h => h) (Or.inr ⟨by rfl, rfl⟩) (by assumption) ?_
            simp only [Act.put, List.setIfInBounds_toArray, List.set_cons_zero, List.set_cons_succ, List.getElem_toArray, List.getElem_cons_zero, List.getElem_cons_succ]
            refine wpAnyH_take (i := 21) (v := undef) rfl (by kernel_rfl) (by kernel_rfl) (by kernel_rfl) (fun _ _ _ h => h) (Or.inr ⟨by rfl, rfl⟩) (by assumption) ?_
            simp only [Act.put, List.setIfInBounds_toArray, List.set_cons_zero, List.set_cons_succ, List.getElem_toArray, List.getElem_cons_zero, List.getElem_cons_succ]
            refine wpAnyH_take (i := 22) (v := undef) rfl (by kernel_rfl) (by kernel_rfl) (by kernel_rfl) (fun _ _ _ h => h) (Or.inr ⟨by rfl, rfl⟩) (by assumption) ?_
            simp only [Act.put, List.setIfInBounds_toArray, List.set_cons_zero, List.set_cons_succ, List.getElem_toArray, List.getElem_cons_zero, List.getElem_cons_succ]
            refine wpAnyH_take (i := 23) (v := undef) rfl (by kernel_rfl) (by kernel_rfl) (by kernel_rfl) (fun _ _ _ h => h) (Or.inr ⟨by rfl, rfl⟩) (by assumption) ?_
            simp only [Act.put, List.setIfInBounds_toArray, List.set_cons_zero, List.set_cons_succ, List.getElem_toArray, List.getElem_cons_zero, List.getElem_cons_succ]
            refine wpAnyH_take (i := 24) (v := undef) rfl (by kernel_rfl) (by kernel_rfl) (by kernel_rfl) (fun _ _ _ h => h) (Or.inr ⟨by rfl, rfl⟩) (by assumption) ?_
            simp only [Act.put, List.setIfInBounds_toArray, List.set_cons_zero, List.set_cons_succ, List.getElem_toArray, List.getElem_cons_zero, List.getElem_cons_succ]
            refine wpAnyH_take (i := 25) (v := undef) rfl (by kernel_rfl) (by kernel_rfl) (by kernel_rfl) (fun _ _ _ h => h) (Or.inr ⟨by rfl, rfl⟩) (by assumption) ?_
            simp only [Act.put, List.setIfInBounds_toArray, List.set_cons_zero, List.set_cons_succ, List.getElem_toArray, List.getElem_cons_zero, List.getElem_cons_succ]
            refine wpAnyH_take (i := 26) (v := undef) rfl (by kernel_rfl) (by kernel_rfl) (by kernel_rfl) (fun _ _ _ h => h) (Or.inr ⟨by rfl, rfl⟩) (by assumption) ?_
            simp only [Act.put, List.setIfInBounds_toArray, List.set_cons_zero, List.set_cons_succ, List.getElem_toArray, List.getElem_cons_zero, List.getElem_cons_succ]
            refine wpAnyH_take (i := 27) (v := undef) rfl (by kernel_rfl) (by kernel_rfl) (by kernel_rfl) (fun _ _ _ h => h) (Or.inr ⟨by rfl, rfl⟩) (by assumption) ?_
            simp only [Act.put, List.setIfInBounds_toArray, List.set_cons_zero, List.set_cons_succ, List.getElem_toArray, List.getElem_cons_zero, List.getElem_cons_succ]
            refine wpAnyH_take (i := 28) (v := undef) rfl (by kernel_rfl) (by kernel_rfl) (by kernel_rfl) (fun _ _ _ h => h) (Or.inr ⟨by rfl, rfl⟩) (by assumption) ?_
            simp only [Act.put, List.setIfInBounds_toArray, List.set_cons_zero, List.set_cons_succ, List.getElem_toArray, List.getElem_cons_zero, List.getElem_cons_succ]
            refine wpAnyH_take (i := 29) (v := undef) rfl (by kernel_rfl) (by kernel_rfl) (by kernel_rfl) (fun _ _ _ h => h) (Or.inr ⟨by rfl, rfl⟩) (by assumption) ?_
            simp only [Act.put, List.setIfInBounds_toArray, List.set_cons_zero, List.set_cons_succ, List.getElem_toArray, List.getElem_cons_zero, List.getElem_cons_succ]
            refine wpAnyH_take (i := 30) (v := undef) rfl (by kernel_rfl) (by kernel_rfl) (by kernel_rfl) (fun _ _ _ h => h) (Or.inr ⟨by rfl, rfl⟩) (by assumption) ?_
            simp only [Act.put, List.setIfInBounds_toArray, List.set_cons_zero, List.set_cons_succ, List.getElem_toArray, List.getElem_cons_zero, List.getElem_cons_succ]
            refine wpAnyH_take (i := 31) (v := undef) rfl (by kernel_rfl) (by kernel_rfl) (by kernel_rfl) (fun _ _ _ h => h) (Or.inr ⟨by rfl, rfl⟩) (by assumption) ?_
            simp only [Act.put, List.setIfInBounds_toArray, List.set_cons_zero, List.set_cons_succ, List.getElem_toArray, List.getElem_cons_zero, List.getElem_cons_succ]
            refine wpAnyH_take (i := 32) (v := undef) rfl (by kernel_rfl) (by kernel_rfl) (by kernel_rfl) (fun _ _ _ h => h) (Or.inr ⟨by rfl, rfl⟩) (by assumption) ?_
            simp only [Act.put, List.setIfInBounds_toArray, List.set_cons_zero, List.set_cons_succ, List.getElem_toArray, List.getElem_cons_zero, List.getElem_cons_succ]
            refine wpAnyH_take (i := 33) (v := ?_) rfl (by kernel_rfl) (by kernel_rfl) (by kernel_rfl) (fun _ _ _ h => h) (Or.inl ⟨by rfl, ?_⟩) (by assumption) ?_
            rotate_left 1
            · ((intro w hSw; (try dsimp only at hSw); go_simp); (try with_reducible rfl))
            simp only [Act.put, List.setIfInBounds_toArray, List.set_cons_zero, List.set_cons_succ, List.getElem_toArray, List.getElem_cons_zero, List.getElem_cons_succ]
            refine wpAnyH_done (by kernel_rfl) ?_ _
            go_wp2_with fail
            go_roundg (gk - 1)
            case measure => omega
            case rel => exact ⟨k + 1, v, by omega, by go_num, rfl, NH2, hu⟩
          | false =>
            have Hh := hidp hhd
            have Hc : Hid (Cand s (s.L.getD k default)) := hidp (by rw [Ha.out]; exact ⟨rfl, hp0, Hh.out⟩)
            clear hhd
            rcases id NH.out with ⟨rfl, _⟩ | ⟨m, hmk, rfl, hcm, _⟩
            · have NH2 : Hid (BestUp s (k + 1) k) := hidp (NH.out.one Hc.out)
              have v0 : decide ((-1 : Int) < 0) = true := rfl
              have hw1 := hb.alloc hb.size (.cells #[.int .i64 ta, .int .i64 re, .int .i64 pl, .bool false] 84)
              have bx := Bk.new wr 84 #[.int .i64 ta, .int .i64 re, .int .i64 pl, .bool false]
              have b0 := bx.cell 0
              have b1 := bx.cell 1
              have b2 := bx.cell 2
              have b3 := bx.cell 3
              simp only [List.getElem?_toArray, List.getElem?_cons_zero, List.getElem?_cons_succ] at b0 b1 b2 b3
              have hc1 := Keeps.alloc wr (.cells #[.int .i64 ta, .int .i64 re, .int .i64 pl, .bool false] 84) _ _ hc4
              clear bx
              go_wp2_with fail
              have hs : (wr.alloc (.cells #[.int .i64 ta, .int .i64 re, .int .i64 pl, .bool false] 84)).drew.cell? ⟨wr.heap.size, 0, none⟩ = some (.int .i64 ta) ∧ (wr.alloc (.cells #[.int .i64 ta, .int .i64 re, .int .i64 pl, .bool false] 84)).drew.cell? ⟨wr.heap.size, 1, none⟩ = some (.int .i64 re) ∧ (wr.alloc (.cells #[.int .i64 ta, .int .i64 re, .int .i64 pl, .bool false] 84)).drew.cell? ⟨wr.heap.size, 2, none⟩ = some (.int .i64 pl) ∧ (wr.alloc (.cells #[.int .i64 ta, .int .i64 re, .int .i64 pl, .bool false] 84)).drew.cell? ⟨wr.heap.size, 3, none⟩ = some (.bool false) ∧ (wr.alloc (.cells #[.int .i64 ta, .int .i64 re, .int .i64 pl, .bool false] 84)).drew.cell? ⟨b, 4, none⟩ = some (.slice (some ⟨g, 0, none⟩) s.L.length c) := ⟨b0, b1, b2, b3, hc1⟩
              have hu := hw1.drew
              refine wp_region_held_drew (S := fun w' => w'.cell? ⟨wr.heap.size, 0, none⟩ = some (.int .i64 ta) ∧ w'.cell? ⟨wr.heap.size, 1, none⟩ = some (.int .i64 re) ∧ w'.cell? ⟨wr.heap.size, 2, none⟩ = some (.int .i64 pl) ∧ w'.cell? ⟨wr.heap.size, 3, none⟩ = some (.bool false) ∧ w'.cell? ⟨b, 4, none⟩ = some (.slice (some ⟨g, 0, none⟩) s.L.length c)) (by kernel_rfl) ?_ (fun hHeld => ?_)
              · exact hs
              clear b0 b1 b2 b3 hc1 hc4 hw1 hb y0 y1 y2 y3
              generalize (wr.alloc (.cells #[.int .i64 ta, .int .i64 re, .int .i64 pl, .bool false] 84)).drew = u1 at *
              refine wpAnyH_take (i := 0) (v := ?_) rfl (by kernel_rfl) (by kernel_rfl) (by kernel_rfl) (fun _ _ _ h => h) (Or.inl ⟨by rfl, ?_⟩) (by assumption) ?_
              rotate_left 1
              · ((intro w hSw; (try dsimp only at hSw); go_simp); (try with_reducible rfl))
              simp only [Act.put, List.setIfInBounds_toArray, List.set_cons_zero, List.set_cons_succ, List.getElem_toArray, List.getElem_cons_zero, List.getElem_cons_succ]
              refine wpAnyH_take (i := 1) (v := ?_) rfl (by kernel_rfl) (by kernel_rfl) (by kernel_rfl) (fun _ _ _ h => h) (Or.inl ⟨by rfl, ?_⟩) (by assumption) ?_
              rotate_left 1
              · ((intro w hSw; (try dsimp only at hSw); go_simp); (try with_reducible rfl))
              simp only [Act.put, List.setIfInBounds_toArray, List.set_cons_zero, List.set_cons_succ, List.getElem_toArray, List.getElem_cons_zero, List.getElem_cons_succ]
              refine wpAnyH_take (i := 2) (v := ?_) rfl (by kernel_rfl) (by kernel_rfl) (by kernel_rfl) (fun _ _ _ h => h) (Or.inl ⟨by rfl, ?_⟩) (by assumption) ?_
              rotate_left 1
              · ((intro w hSw; (try dsimp only at hSw); go_simp); (try with_reducible rfl))
              simp only [Act.put, List.setIfInBounds_toArray, List.set_cons_zero, List.set_cons_succ, List.getElem_toArray, List.getElem_cons_zero, List.getElem_cons_succ]
              refine wpAnyH_take (i := 3) (v := ?_) rfl (by kernel_rfl) (by kernel_rfl) (by kernel_rfl) (fun _ _ _ h => h) (Or.inl ⟨by rfl, ?_⟩) (by assumption) ?_
              rotate_left 1
              · ((intro w hSw; (try dsimp only at hSw); go_simp); (try with_reducible rfl))
              simp only [Act.put, List.setIfInBounds_toArray, List.set_cons_zero, List.set_cons_succ, List.getElem_toArray, List.getElem_cons_zero, List.getElem_cons_succ]
              refine wpAnyH_take (i := 4) (v := ?_) rfl (by kernel_rfl) (by kernel_rfl) (by kernel_rfl) (fun _ _ _ h => h) (Or.inl ⟨by rfl, ?_⟩) (by assumption) ?_
              rotate_left 1
              · ((intro w hSw; (try dsimp only at hSw); go_simp); (try with_reducible rfl))
              simp only [Act.put, List.setIfInBounds_toArray, List.set_cons_zero, List.set_cons_succ, List.getElem_toArray, List.getElem_cons_zero, List.getElem_cons_succ]
              refine wpAnyH_take (i := 5) (v := ?_) rfl (by kernel_rfl) (by kernel_rfl) (by kernel_rfl) (fun _ _ _ h => h) (Or.inl ⟨by rfl, ?_⟩) (by assumption) ?_
              rotate_left 1
              · ((intro w hSw; (try dsimp only at hSw); go_simp); (try with_reducible rfl))
              simp only [Act.put, List.setIfInBounds_toArray, List.set_cons_zero, List.set_cons_succ, List.getElem_toArray, List.getElem_cons_zero, List.getElem_cons_succ]
              refine wpAnyH_take (i := 6) (v := ?_) rfl (by kernel_rfl) (by kernel_rfl) (by kernel_rfl) (fun _ _ _ h => h) (Or.inl ⟨by rfl, ?_⟩) (by assumption) ?_
              rotate_left 1
              · ((intro w hSw; (try dsimp only at hSw); go_simp); (try with_reducible rfl))
              simp only [Act.put, List.setIfInBounds_toArray, List.set_cons_zero, List.set_cons_succ, List.getElem_toArray, List.getElem_cons_zero, List.getElem_cons_succ]
              refine wpAnyH_take (i := 7) (v := ?_) rfl (by kernel_rfl) (by kernel_rfl) (by kernel_rfl) (fun _ _ _ h => h) (Or.inl ⟨by rfl, ?_⟩) (by assumption) ?_
              rotate_left 1
              · ((intro w hSw; (try dsimp only at hSw); go_simp); (try with_reducible rfl))
              simp only [Act.put, List.setIfInBounds_toArray, List.set_cons_zero, List.set_cons_succ, List.getElem_toArray, List.getElem_cons_zero, List.getElem_cons_succ]
              refine wpAnyH_take (i := 8) (v := ?_) rfl (by kernel_rfl) (by kernel_rfl) (by kernel_rfl) (fun _ _ _ h => h) (Or.inl ⟨by rfl, ?_⟩) (by assumption) ?_
              rotate_left 1
              · ((intro w hSw; (try dsimp only at hSw); go_simp); (try with_reducible rfl))
              simp only [Act.put, List.setIfInBounds_toArray, List.set_cons_zero, List.set_cons_succ, List.getElem_toArray, List.getElem_cons_zero, List.getElem_cons_succ]
              refine wpAnyH_take (i := 9) (v := ?_) rfl (by kernel_rfl) (by kernel_rfl) (by kernel_rfl) (fun _ _ _ h => h) (Or.inl ⟨by rfl, ?_⟩) (by assumption) ?_
              rotate_left 1
              · ((intro w hSw; (try dsimp only at hSw); go_simp); (try with_reducible rfl))
              simp only [Act.put, List.setIfInBounds_toArray, List.set_cons_zero, List.set_cons_succ, List.getElem_toArray, List.getElem_cons_zero, List.getElem_cons_succ]
              refine wpAnyH_take (i := 10) (v := ?_) rfl (by kernel_rfl) (by kernel_rfl) (by kernel_rfl) (fun _ _ _ h => h) (Or.inl ⟨by rfl, ?_⟩) (by assumption) ?_
              rotate_left 1
              · ((intro w hSw; (try dsimp only at hSw); go_simp); (try with_reducible rfl))
              simp only [Act.put, List.setIfInBounds_toArray, List.set_cons_zero, List.set_cons_succ, List.getElem_toArray, List.getElem_cons_zero, List.getElem_cons_succ]
              refine wpAnyH_take (i := 11) (v := ?_) rfl (by kernel_rfl) (by kernel_rfl) (by kernel_rfl) (fun _ _ _ h => h) (Or.inl ⟨by rfl, ?_⟩) (by assumption) ?_
              rotate_left 1
              · ((intro w hSw; (try dsimp only at hSw); go_simp); (try with_reducible rfl))
              simp only [Act.put, List.setIfInBounds_toArray, List.set_cons_zero, List.set_cons_succ, List.getElem_toArray, List.getElem_cons_zero, List.getElem_cons_succ]
              refine wpAnyH_ready (rs := [12]) (by kernel_rfl) (by simp) ?_
              refine AllReadyH.cons rfl (fun K hK => ?_) AllReadyH.nil
              go_simp
              refine (rl_held2 (HR.out.over hu) HO.out kt.out.2).mono ?_
              rintro e w3 ⟨rfl, hb3⟩
              rw [Hh.out]
              have k3 := Keeps.of_below hb3
              replace hs := And.intro (k3 _ _ hs.1) (And.intro (k3 _ _ hs.2.1) (And.intro (k3 _ _ hs.2.2.1) (And.intro (k3 _ _ hs.2.2.2.1) (k3 _ _ hs.2.2.2.2))))
              replace hu := hu.trans (hb3.mono hu.size)
              clear hHeld hb3 k3
              go_wp2_with fail
              refine hK.out _ _ ?_ (fun hHeld => ?_)
              · exact hs
              clear hK K
              try simp only [Act.put, List.setIfInBounds_toArray, List.set_cons_zero, List.set_cons_succ, List.getElem_toArray, List.getElem_cons_zero, List.getElem_cons_succ]
              refine wpAnyH_take (i := 13) (v := ?_) rfl (by kernel_rfl) (by kernel_rfl) (by kernel_rfl) (fun _ _ _ h => h) (Or.inl ⟨by rfl, ?_⟩) (by assumption) ?_
              rotate_left 1
              · ((intro w hSw; (try dsimp only at hSw); go_simp); (try with_reducible rfl))
              simp only [Act.put, List.setIfInBounds_toArray, List.set_cons_zero, List.set_cons_succ, List.getElem_toArray, List.getElem_cons_zero, List.getElem_cons_succ]
              refine wpAnyH_take (i := 14) (v := ?_) rfl (by kernel_rfl) (by kernel_rfl) (by kernel_rfl) (fun _ _ _ h => h) (Or.inl ⟨by rfl, ?_⟩) (by assumption) ?_
              rotate_left 1
              · ((intro w hSw; (try dsimp only at hSw); go_simp); (try with_reducible rfl))
              simp only [Act.put, List.setIfInBounds_toArray, List.set_cons_zero, List.set_cons_succ, List.getElem_toArray, List.getElem_cons_zero, List.getElem_cons_succ]
              refine wpAnyH_take (i := 15) (v := ?_) rfl (by kernel_rfl) (by kernel_rfl) (by kernel_rfl) (fun _ _ _ h => h) (Or.inl ⟨by rfl, ?_⟩) (by assumption) ?_
              rotate_left 1
              · ((intro w hSw; (try dsimp only at hSw); go_simp); (try with_reducible rfl))
              simp only [Act.put, List.setIfInBounds_toArray, List.set_cons_zero, List.set_cons_succ, List.getElem_toArray, List.getElem_cons_zero, List.getElem_cons_succ]
              refine wpAnyH_take (i := 16) (v := ?_) rfl (by kernel_rfl) (by kernel_rfl) (by kernel_rfl) (fun _ _ _ h => h) (Or.inl ⟨by rfl, ?_⟩) (by assumption) ?_
              rotate_left 1
              · ((intro w hSw; (try dsimp only at hSw); go_simp); (try with_reducible rfl))
              simp only [Act.put, List.setIfInBounds_toArray, List.set_cons_zero, List.set_cons_succ, List.getElem_toArray, List.getElem_cons_zero, List.getElem_cons_succ]
              refine wpAnyH_take (i := 17) (v := ?_) rfl (by kernel_rfl) (by kernel_rfl) (by kernel_rfl) (fun _ _ _ h => h) (Or.inl ⟨by rfl, ?_⟩) (by assumption) ?_
              rotate_left 1
              · ((intro w hSw; (try dsimp only at hSw); go_simp); (try with_reducible rfl))
              simp only [Act.put, List.setIfInBounds_toArray, List.set_cons_zero, List.set_cons_succ, List.getElem_toArray, List.getElem_cons_zero, List.getElem_cons_succ]
              refine wpAnyH_take (i := 18) (v := ?_) rfl (by kernel_rfl) (by kernel_rfl) (by kernel_rfl) (fun _ _ _ h => h) (Or.inl ⟨by rfl, ?_⟩) (by assumption) ?_
              rotate_left 1
              · ((intro w hSw; (try dsimp only at hSw); go_simp); (try with_reducible rfl))
              simp only [Act.put, List.setIfInBounds_toArray, List.set_cons_zero, List.set_cons_succ, List.getElem_toArray, List.getElem_cons_zero, List.getElem_cons_succ]
              refine wpAnyH_take (i := 19) (v := undef) rfl (by kernel_rfl) (by kernel_rfl) (by kernel_rfl) (fun _ _ _ h => h) (Or.inr ⟨by rfl, rfl⟩) (by assumption) ?_
              simp only [Act.put, List.setIfInBounds_toArray, List.set_cons_zero, List.set_cons_succ, List.getElem_toArray, List.getElem_cons_zero, List.getElem_cons_succ]
              refine wpAnyH_take (i := 20) (v := undef) rfl (by kernel_rfl) (by kernel_rfl) (by kernel_rfl) (fun _ _ _ h => h) (Or.inr ⟨by rfl, rfl⟩) (by assumption) ?_
              simp only [Act.put, List.setIfInBounds_toArray, List.set_cons_zero, List.set_cons_succ, List.getElem_toArray, List.getElem_cons_zero, List.getElem_cons_succ]
              refine wpAnyH_take (i := 21) (v := undef) rfl (by kernel_rfl) (by kernel_rfl) (by kernel_rfl) (fun _ _ _ h => h) (Or.inr ⟨by rfl, rfl⟩) (by assumption) ?_
              simp only [Act.put, List.setIfInBounds_toArray, List.set_cons_zero, List.set_cons_succ, List.getElem_toArray, List.getElem_cons_zero, List.getElem_cons_succ]
              refine wpAnyH_take (i := 22) (v := undef) rfl (by kernel_rfl) (by kernel_rfl) (by kernel_rfl) (fun _ _ _ h => h) (Or.inr ⟨by rfl, rfl⟩) (by assumption) ?_
              simp only [Act.put, List.setIfInBounds_toArray, List.set_cons_zero, List.set_cons_succ, List.getElem_toArray, List.getElem_cons_zero, List.getElem_cons_succ]
              refine wpAnyH_take (i := 23) (v := undef) rfl (by kernel_rfl) (by kernel_rfl) (by kernel_rfl) (fun _ _ _ h => h) (Or.inr ⟨by rfl, rfl⟩) (by assumption) ?_
              simp only [Act.put, List.setIfInBounds_toArray, List.set_cons_zero, List.set_cons_succ, List.getElem_toArray, List.getElem_cons_zero, List.getElem_cons_succ]
              refine wpAnyH_take (i := 24) (v := undef) rfl (by kernel_rfl) (by kernel_rfl) (by kernel_rfl) (fun _ _ _ h => h) (Or.inr ⟨by rfl, rfl⟩) (by assumption) ?_
              simp only [Act.put, List.setIfInBounds_toArray, List.set_cons_zero, List.set_cons_succ, List.getElem_toArray, List.getElem_cons_zero, List.getElem_cons_succ]
              refine wpAnyH_take (i := 25) (v := undef) rfl (by kernel_rfl) (by kernel_rfl) (by kernel_rfl) (fun _ _ _ h => h) (Or.inr ⟨by rfl, rfl⟩) (by assumption) ?_
              simp only [Act.put, List.setIfInBounds_toArray, List.set_cons_zero, List.set_cons_succ, List.getElem_toArray, List.getElem_cons_zero, List.getElem_cons_succ]
              refine wpAnyH_take (i := 26) (v := undef) rfl (by kernel_rfl) (by kernel_rfl) (by kernel_rfl) (fun _ _ _ h => h) (Or.inr ⟨by rfl, rfl⟩) (by assumption) ?_
              simp only [Act.put, List.setIfInBounds_toArray, List.set_cons_zero, List.set_cons_succ, List.getElem_toArray, List.getElem_cons_zero, List.getElem_cons_succ]
              refine wpAnyH_take (i := 27) (v := undef) rfl (by kernel_rfl) (by kernel_rfl) (by kernel_rfl) (fun _ _ _ h => h) (Or.inr ⟨by rfl, rfl⟩) (by assumption) ?_
              simp only [Act.put, List.setIfInBounds_toArray, List.set_cons_zero, List.set_cons_succ, List.getElem_toArray, List.getElem_cons_zero, List.getElem_cons_succ]
              refine wpAnyH_take (i := 28) (v := undef) rfl (by kernel_rfl) (by kernel_rfl) (by kernel_rfl) (fun _ _ _ h => h) (Or.inr ⟨by rfl, rfl⟩) (by assumption) ?_
              simp only [Act.put, List.setIfInBounds_toArray, List.set_cons_zero, List.set_cons_succ, List.getElem_toArray, List.getElem_cons_zero, List.getElem_cons_succ]
              refine wpAnyH_take (i := 29) (v := undef) rfl (by kernel_rfl) (by kernel_rfl) (by kernel_rfl) (fun _ _ _ h => h) (Or.inr ⟨by rfl, rfl⟩) (by assumption) ?_
              simp only [Act.put, List.setIfInBounds_toArray, List.set_cons_zero, List.set_cons_succ, List.getElem_toArray, List.getElem_cons_zero, List.getElem_cons_succ]
              refine wpAnyH_take (i := 30) (v := undef) rfl (by kernel_rfl) (by kernel_rfl) (by kernel_rfl) (fun _ _ _ h => h) (Or.inr ⟨by rfl, rfl⟩) (by assumption) ?_
              simp only [Act.put, List.setIfInBounds_toArray, List.set_cons_zero, List.set_cons_succ, List.getElem_toArray, List.getElem_cons_zero, List.getElem_cons_succ]
              refine wpAnyH_take (i := 31) (v := undef) rfl (by kernel_rfl) (by kernel_rfl) (by kernel_rfl) (fun _ _ _ h => h) (Or.inr ⟨by rfl, rfl⟩) (by assumption) ?_
              simp only [Act.put, List.setIfInBounds_toArray, List.set_cons_zero, List.set_cons_succ, List.getElem_toArray, List.getElem_cons_zero, List.getElem_cons_succ]
              refine wpAnyH_take (i := 32) (v := ?_) rfl (by kernel_rfl) (by kernel_rfl) (by kernel_rfl) (fun _ _ _ h => h) (Or.inl ⟨by rfl, ?_⟩) (by assumption) ?_
              rotate_left 1
              · ((intro w hSw; (try dsimp only at hSw); go_simp); (try with_reducible rfl))
              simp only [Act.put, List.setIfInBounds_toArray, List.set_cons_zero, List.set_cons_succ, List.getElem_toArray, List.getElem_cons_zero, List.getElem_cons_succ]
              refine wpAnyH_take (i := 33) (v := ?_) rfl (by kernel_rfl) (by kernel_rfl) (by kernel_rfl) (fun _ _ _ h => h) (Or.inl ⟨by rfl, ?_⟩) (by assumption) ?_
              rotate_left 1
              · ((intro w hSw; (try dsimp only at hSw); go_simp); (try with_reducible rfl))
              simp only [Act.put, List.setIfInBounds_toArray, List.set_cons_zero, List.set_cons_succ, List.getElem_toArray, List.getElem_cons_zero, List.getElem_cons_succ]
              refine wpAnyH_done (by kernel_rfl) ?_ _
              go_wp2_with fail
              go_roundg (gk - 1)
              case measure => omega
              case rel => exact ⟨k + 1, k, by omega, by go_num, rfl, NH2, hu⟩
            · have hml : m < s.L.length := by omega
              obtain ⟨g', hg', z⟩ := HR.out.at_ hml
              obtain rfl : g = g' := by rw [hg] at hg'; injection hg' with h1; injection h1
              obtain ⟨z0, z1, z2, z3⟩ := id z
              obtain ⟨am, Ham⟩ : ∃ am, Hid (s.L.getD m default = am) := ⟨_, hidp rfl⟩
              have HamL : Hid (am ∈ s.L) := hidp (by rw [← Ham.out]; simp [List.getD, hml])
              rw [Ham.out] at z0 z1 z2 z3 hcm
              obtain ⟨tm, rm, pm, hhm⟩ := am
              obtain rfl : hhm = false := hcm.1
              dsimp only at z0 z1 z2 z3
              have km : Hid (s.has tm) := hidp (HO.out.tk _ HamL.out)
              obtain ⟨K1, HK⟩ : ∃ K1, Hid (keyS s ⟨ta, re, pl, false⟩ = K1) := ⟨_, hidp rfl⟩
              obtain ⟨K2, HKm⟩ : ∃ K2, Hid (keyS s ⟨tm, rm, pm, false⟩ = K2) := ⟨_, hidp rfl⟩
              have v0 : decide ((m : Int) < 0) = false := decide_eq_false (by omega)
              have m0' : (0 : Int) ≤ (m : Int) := by omega
              have mI : (m : Int) < (s.L.length : Int) := by omega
              have dm : decide (s.L.length ≤ m) = false := decide_eq_false (by omega)
              clear z hcm hg'
              by_cases hlt2 : K1 < K2
              · have NH2 : Hid (BestUp s (k + 1) k) := hidp (NH.out.less Hc.out (by rw [Ha.out, Ham.out, HK.out, HKm.out]; exact hlt2))
                have g2 : decide (K1 < K2) = true := decide_eq_true hlt2
                have hw1 := hb.alloc hb.size (.cells #[.int .i64 ta, .int .i64 re, .int .i64 pl, .bool false] 84)
                have bx := Bk.new wr 84 #[.int .i64 ta, .int .i64 re, .int .i64 pl, .bool false]
                have b0 := bx.cell 0
                have b1 := bx.cell 1
                have b2 := bx.cell 2
                have b3 := bx.cell 3
                simp only [List.getElem?_toArray, List.getElem?_cons_zero, List.getElem?_cons_succ] at b0 b1 b2 b3
                have hc1 := Keeps.alloc wr (.cells #[.int .i64 ta, .int .i64 re, .int .i64 pl, .bool false] 84) _ _ hc4
                have m0 := Keeps.of_below hw1 _ _ z0
                have m1 := Keeps.of_below hw1 _ _ z1
                have m2 := Keeps.of_below hw1 _ _ z2
                have m3 := Keeps.of_below hw1 _ _ z3
                clear bx
                go_wp2_with fail
                have hs : (wr.alloc (.cells #[.int .i64 ta, .int .i64 re, .int .i64 pl, .bool false] 84)).drew.cell? ⟨wr.heap.size, 0, none⟩ = some (.int .i64 ta) ∧ (wr.alloc (.cells #[.int .i64 ta, .int .i64 re, .int .i64 pl, .bool false] 84)).drew.cell? ⟨wr.heap.size, 1, none⟩ = some (.int .i64 re) ∧ (wr.alloc (.cells #[.int .i64 ta, .int .i64 re, .int .i64 pl, .bool false] 84)).drew.cell? ⟨wr.heap.size, 2, none⟩ = some (.int .i64 pl) ∧ (wr.alloc (.cells #[.int .i64 ta, .int .i64 re, .int .i64 pl, .bool false] 84)).drew.cell? ⟨wr.heap.size, 3, none⟩ = some (.bool false) ∧ (wr.alloc (.cells #[.int .i64 ta, .int .i64 re, .int .i64 pl, .bool false] 84)).drew.cell? ⟨b, 4, none⟩ = some (.slice (some ⟨g, 0, none⟩) s.L.length c) ∧ (wr.alloc (.cells #[.int .i64 ta, .int .i64 re, .int .i64 pl, .bool false] 84)).drew.cell? ⟨g, m * 4, none⟩ = some (.int .i64 tm) ∧ (wr.alloc (.cells #[.int .i64 ta, .int .i64 re, .int .i64 pl, .bool false] 84)).drew.cell? ⟨g, m * 4 + 1, none⟩ = some (.int .i64 rm) ∧ (wr.alloc (.cells #[.int .i64 ta, .int .i64 re, .int .i64 pl, .bool false] 84)).drew.cell? ⟨g, m * 4 + 2, none⟩ = some (.int .i64 pm) ∧ (wr.alloc (.cells #[.int .i64 ta, .int .i64 re, .int .i64 pl, .bool false] 84)).drew.cell? ⟨g, m * 4 + 3, none⟩ = some (.bool false) := ⟨b0, b1, b2, b3, hc1, m0, m1, m2, m3⟩
                have hu := hw1.drew
                refine wp_region_held_drew (S := fun w' => w'.cell? ⟨wr.heap.size, 0, none⟩ = some (.int .i64 ta) ∧ w'.cell? ⟨wr.heap.size, 1, none⟩ = some (.int .i64 re) ∧ w'.cell? ⟨wr.heap.size, 2, none⟩ = some (.int .i64 pl) ∧ w'.cell? ⟨wr.heap.size, 3, none⟩ = some (.bool false) ∧ w'.cell? ⟨b, 4, none⟩ = some (.slice (some ⟨g, 0, none⟩) s.L.length c) ∧ w'.cell? ⟨g, m * 4, none⟩ = some (.int .i64 tm) ∧ w'.cell? ⟨g, m * 4 + 1, none⟩ = some (.int .i64 rm) ∧ w'.cell? ⟨g, m * 4 + 2, none⟩ = some (.int .i64 pm) ∧ w'.cell? ⟨g, m * 4 + 3, none⟩ = some (.bool false)) (by kernel_rfl) ?_ (fun hHeld => ?_)
                · exact hs
                clear b0 b1 b2 b3 hc1 hc4 hw1 hb y0 y1 y2 y3 m0 m1 m2 m3 z0 z1 z2 z3
                generalize (wr.alloc (.cells #[.int .i64 ta, .int .i64 re, .int .i64 pl, .bool false] 84)).drew = u1 at *
                refine wpAnyH_take (i := 0) (v := ?_) rfl (by kernel_rfl) (by kernel_rfl) (by kernel_rfl) (fun _ _ _ h => h) (Or.inl ⟨by rfl, ?_⟩) (by assumption) ?_
                rotate_left 1
                · ((intro w hSw; (try dsimp only at hSw); go_simp); (try with_reducible rfl))
                simp only [Act.put, List.setIfInBounds_toArray, List.set_cons_zero, List.set_cons_succ, List.getElem_toArray, List.getElem_cons_zero, List.getElem_cons_succ]
                refine wpAnyH_take (i := 1) (v := ?_) rfl (by kernel_rfl) (by kernel_rfl) (by kernel_rfl) (fun _ _ _ h => h) (Or.inl ⟨by rfl, ?_⟩) (by assumption) ?_
                rotate_left 1
                · ((intro w hSw; (try dsimp only at hSw); go_simp); (try with_reducible rfl))
                simp only [Act.put, List.setIfInBounds_toArray, List.set_cons_zero, List.set_cons_succ, List.getElem_toArray, List.getElem_cons_zero, List.getElem_cons_succ]
                refine wpAnyH_take (i := 2) (v := ?_) rfl (by kernel_rfl) (by kernel_rfl) (by kernel_rfl) (fun _ _ _ h => h) (Or.inl ⟨by rfl, ?_⟩) (by assumption) ?_
                rotate_left 1
                · ((intro w hSw; (try dsimp only at hSw); go_simp); (try with_reducible rfl))
                simp only [Act.put, List.setIfInBounds_toArray, List.set_cons_zero, List.set_cons_succ, List.getElem_toArray, List.getElem_cons_zero, List.getElem_cons_succ]
                refine wpAnyH_take (i := 3) (v := ?_) rfl (by kernel_rfl) (by kernel_rfl) (by kernel_rfl) (fun _ _ _ h => h) (Or.inl ⟨by rfl, ?_⟩) (by assumption) ?_
                rotate_left 1
                · ((intro w hSw; (try dsimp only at hSw); go_simp); (try with_reducible rfl))
                simp only [Act.put, List.setIfInBounds_toArray, List.set_cons_zero, List.set_cons_succ, List.getElem_toArray, List.getElem_cons_zero, List.getElem_cons_succ]
                refine wpAnyH_take (i := 4) (v := ?_) rfl (by kernel_rfl) (by kernel_rfl) (by kernel_rfl) (fun _ _ _ h => h) (Or.inl ⟨by rfl, ?_⟩) (by assumption) ?_
                rotate_left 1
                · ((intro w hSw; (try dsimp only at hSw); go_simp); (try with_reducible rfl))
                simp only [Act.put, List.setIfInBounds_toArray, List.set_cons_zero, List.set_cons_succ, List.getElem_toArray, List.getElem_cons_zero, List.getElem_cons_succ]
                refine wpAnyH_take (i := 5) (v := ?_) rfl (by kernel_rfl) (by kernel_rfl) (by kernel_rfl) (fun _ _ _ h => h) (Or.inl ⟨by rfl, ?_⟩) (by assumption) ?_
                rotate_left 1
                · ((intro w hSw; (try dsimp only at hSw); go_simp); (try with_reducible rfl))
                simp only [Act.put, List.setIfInBounds_toArray, List.set_cons_zero, List.set_cons_succ, List.getElem_toArray, List.getElem_cons_zero, List.getElem_cons_succ]
                refine wpAnyH_take (i := 6) (v := ?_) rfl (by kernel_rfl) (by kernel_rfl) (by kernel_rfl) (fun _ _ _ h => h) (Or.inl ⟨by rfl, ?_⟩) (by assumption) ?_
                rotate_left 1
                · ((intro w hSw; (try dsimp only at hSw); go_simp); (try with_reducible rfl))
                simp only [Act.put, List.setIfInBounds_toArray, List.set_cons_zero, List.set_cons_succ, List.getElem_toArray, List.getElem_cons_zero, List.getElem_cons_succ]
                refine wpAnyH_take (i := 7) (v := ?_) rfl (by kernel_rfl) (by kernel_rfl) (by kernel_rfl) (fun _ _ _ h => h) (Or.inl ⟨by rfl, ?_⟩) (by assumption) ?_
                rotate_left 1
                · ((intro w hSw; (try dsimp only at hSw); go_simp); (try with_reducible rfl))
                simp only [Act.put, List.setIfInBounds_toArray, List.set_cons_zero, List.set_cons_succ, List.getElem_toArray, List.getElem_cons_zero, List.getElem_cons_succ]
                refine wpAnyH_take (i := 8) (v := ?_) rfl (by kernel_rfl) (by kernel_rfl) (by kernel_rfl) (fun _ _ _ h => h) (Or.inl ⟨by rfl, ?_⟩) (by assumption) ?_
                rotate_left 1
                · ((intro w hSw; (try dsimp only at hSw); go_simp); (try with_reducible rfl))
                simp only [Act.put, List.setIfInBounds_toArray, List.set_cons_zero, List.set_cons_succ, List.getElem_toArray, List.getElem_cons_zero, List.getElem_cons_succ]
                refine wpAnyH_take (i := 9) (v := ?_) rfl (by kernel_rfl) (by kernel_rfl) (by kernel_rfl) (fun _ _ _ h => h) (Or.inl ⟨by rfl, ?_⟩) (by assumption) ?_
                rotate_left 1
                · ((intro w hSw; (try dsimp only at hSw); go_simp); (try with_reducible rfl))
                simp only [Act.put, List.setIfInBounds_toArray, List.set_cons_zero, List.set_cons_succ, List.getElem_toArray, List.getElem_cons_zero, List.getElem_cons_succ]
                refine wpAnyH_take (i := 10) (v := ?_) rfl (by kernel_rfl) (by kernel_rfl) (by kernel_rfl) (fun _ _ _ h => h) (Or.inl ⟨by rfl, ?_⟩) (by assumption) ?_
                rotate_left 1
                · ((intro w hSw; (try dsimp only at hSw); go_simp); (try with_reducible rfl))
                simp only [Act.put, List.setIfInBounds_toArray, List.set_cons_zero, List.set_cons_succ, List.getElem_toArray, List.getElem_cons_zero, List.getElem_cons_succ]
                refine wpAnyH_take (i := 11) (v := ?_) rfl (by kernel_rfl) (by kernel_rfl) (by kernel_rfl) (fun _ _ _ h => h) (Or.inl ⟨by rfl, ?_⟩) (by assumption) ?_
                rotate_left 1
                · ((intro w hSw; (try dsimp only at hSw); go_simp); (try with_reducible rfl))
                simp only [Act.put, List.setIfInBounds_toArray, List.set_cons_zero, List.set_cons_succ, List.getElem_toArray, List.getElem_cons_zero, List.getElem_cons_succ]
                refine wpAnyH_ready (rs := [12]) (by kernel_rfl) (by simp) ?_
                refine AllReadyH.cons rfl (fun K hK => ?_) AllReadyH.nil
                go_simp
                refine (rl_held2 (HR.out.over hu) HO.out kt.out.2).mono ?_
                rintro e w3 ⟨rfl, hb3⟩
                rw [Hh.out]
                have k3 := Keeps.of_below hb3
                replace hs := And.intro (k3 _ _ hs.1) (And.intro (k3 _ _ hs.2.1) (And.intro (k3 _ _ hs.2.2.1) (And.intro (k3 _ _ hs.2.2.2.1) (And.intro (k3 _ _ hs.2.2.2.2.1) (And.intro (k3 _ _ hs.2.2.2.2.2.1) (And.intro (k3 _ _ hs.2.2.2.2.2.2.1) (And.intro (k3 _ _ hs.2.2.2.2.2.2.2.1) (k3 _ _ hs.2.2.2.2.2.2.2.2))))))))
                replace hu := hu.trans (hb3.mono hu.size)
                clear hHeld hb3 k3
                go_wp2_with fail
                refine hK.out _ _ ?_ (fun hHeld => ?_)
                · exact hs
                clear hK K
                try simp only [Act.put, List.setIfInBounds_toArray, List.set_cons_zero, List.set_cons_succ, List.getElem_toArray, List.getElem_cons_zero, List.getElem_cons_succ]
                refine wpAnyH_take (i := 13) (v := ?_) rfl (by kernel_rfl) (by kernel_rfl) (by kernel_rfl) (fun _ _ _ h => h) (Or.inl ⟨by rfl, ?_⟩) (by assumption) ?_
                rotate_left 1
                · ((intro w hSw; (try dsimp only at hSw); go_simp); (try with_reducible rfl))
                simp only [Act.put, List.setIfInBounds_toArray, List.set_cons_zero, List.set_cons_succ, List.getElem_toArray, List.getElem_cons_zero, List.getElem_cons_succ]
                refine wpAnyH_take (i := 14) (v := ?_) rfl (by kernel_rfl) (by kernel_rfl) (by kernel_rfl) (fun _ _ _ h => h) (Or.inl ⟨by rfl, ?_⟩) (by assumption) ?_
                rotate_left 1
                · ((intro w hSw; (try dsimp only at hSw); go_simp); (try with_reducible rfl))
                simp only [Act.put, List.setIfInBounds_toArray, List.set_cons_zero, List.set_cons_succ, List.getElem_toArray, List.getElem_cons_zero, List.getElem_cons_succ]
                refine wpAnyH_take (i := 15) (v := ?_) rfl (by kernel_rfl) (by kernel_rfl) (by kernel_rfl) (fun _ _ _ h => h) (Or.inl ⟨by rfl, ?_⟩) (by assumption) ?_
                rotate_left 1
                · ((intro w hSw; (try dsimp only at hSw); go_simp); (try with_reducible rfl))
                simp only [Act.put, List.setIfInBounds_toArray, List.set_cons_zero, List.set_cons_succ, List.getElem_toArray, List.getElem_cons_zero, List.getElem_cons_succ]
                refine wpAnyH_take (i := 16) (v := ?_) rfl (by kernel_rfl) (by kernel_rfl) (by kernel_rfl) (fun _ _ _ h => h) (Or.inl ⟨by rfl, ?_⟩) (by assumption) ?_
                rotate_left 1
                · ((intro w hSw; (try dsimp only at hSw); go_simp); (try with_reducible rfl))
                simp only [Act.put, List.setIfInBounds_toArray, List.set_cons_zero, List.set_cons_succ, List.getElem_toArray, List.getElem_cons_zero, List.getElem_cons_succ]
                refine wpAnyH_take (i := 17) (v := ?_) rfl (by kernel_rfl) (by kernel_rfl) (by kernel_rfl) (fun _ _ _ h => h) (Or.inl ⟨by rfl, ?_⟩) (by assumption) ?_
                rotate_left 1
                · ((intro w hSw; (try dsimp only at hSw); go_simp); (try with_reducible rfl))
                simp only [Act.put, List.setIfInBounds_toArray, List.set_cons_zero, List.set_cons_succ, List.getElem_toArray, List.getElem_cons_zero, List.getElem_cons_succ]
                refine wpAnyH_take (i := 18) (v := ?_) rfl (by kernel_rfl) (by kernel_rfl) (by kernel_rfl) (fun _ _ _ h => h) (Or.inl ⟨by rfl, ?_⟩) (by assumption) ?_
                rotate_left 1
                · ((intro w hSw; (try dsimp only at hSw); go_simp); (try with_reducible rfl))
                simp only [Act.put, List.setIfInBounds_toArray, List.set_cons_zero, List.set_cons_succ, List.getElem_toArray, List.getElem_cons_zero, List.getElem_cons_succ]
                refine wpAnyH_take (i := 19) (v := ?_) rfl (by kernel_rfl) (by kernel_rfl) (by kernel_rfl) (fun _ _ _ h => h) (Or.inl ⟨by rfl, ?_⟩) (by assumption) ?_
                rotate_left 1
                · ((intro w hSw; (try dsimp only at hSw); go_simp); (try with_reducible rfl))
                simp only [Act.put, List.setIfInBounds_toArray, List.set_cons_zero, List.set_cons_succ, List.getElem_toArray, List.getElem_cons_zero, List.getElem_cons_succ]
                refine wpAnyH_take (i := 20) (v := ?_) rfl (by kernel_rfl) (by kernel_rfl) (by kernel_rfl) (fun _ _ _ h => h) (Or.inl ⟨by rfl, ?_⟩) (by assumption) ?_
                rotate_left 1
                · ((intro w hSw; (try dsimp only at hSw); go_simp); (try with_reducible rfl))
                simp only [Act.put, List.setIfInBounds_toArray, List.set_cons_zero, List.set_cons_succ, List.getElem_toArray, List.getElem_cons_zero, List.getElem_cons_succ]
                refine wpAnyH_take (i := 22) (v := ?_) rfl (by kernel_rfl) (by kernel_rfl) (by kernel_rfl) (fun _ _ _ h => h) (Or.inl ⟨by rfl, ?_⟩) (by assumption) ?_
                rotate_left 1
                · ((intro w hSw; (try dsimp only at hSw); go_simp); (try with_reducible rfl))
                simp only [Act.put, List.setIfInBounds_toArray, List.set_cons_zero, List.set_cons_succ, List.getElem_toArray, List.getElem_cons_zero, List.getElem_cons_succ]
                refine wpAnyH_take (i := 23) (v := ?_) rfl (by kernel_rfl) (by kernel_rfl) (by kernel_rfl) (fun _ _ _ h => h) (Or.inl ⟨by rfl, ?_⟩) (by assumption) ?_
                rotate_left 1
                · ((intro w hSw; (try dsimp only at hSw); go_simp); (try with_reducible rfl))
                simp only [Act.put, List.setIfInBounds_toArray, List.set_cons_zero, List.set_cons_succ, List.getElem_toArray, List.getElem_cons_zero, List.getElem_cons_succ]
                refine wpAnyH_take (i := 24) (v := ?_) rfl (by kernel_rfl) (by kernel_rfl) (by kernel_rfl) (fun _ _ _ h => h) (Or.inl ⟨by rfl, ?_⟩) (by assumption) ?_
                rotate_left 1
                · ((intro w hSw; (try dsimp only at hSw); go_simp); (try with_reducible rfl))
                simp only [Act.put, List.setIfInBounds_toArray, List.set_cons_zero, List.set_cons_succ, List.getElem_toArray, List.getElem_cons_zero, List.getElem_cons_succ]
                refine wpAnyH_take (i := 25) (v := ?_) rfl (by kernel_rfl) (by kernel_rfl) (by kernel_rfl) (fun _ _ _ h => h) (Or.inl ⟨by rfl, ?_⟩) (by assumption) ?_
                rotate_left 1
                · ((intro w hSw; (try dsimp only at hSw); go_simp); (try with_reducible rfl))
                simp only [Act.put, List.setIfInBounds_toArray, List.set_cons_zero, List.set_cons_succ, List.getElem_toArray, List.getElem_cons_zero, List.getElem_cons_succ]
                refine wpAnyH_take (i := 26) (v := ?_) rfl (by kernel_rfl) (by kernel_rfl) (by kernel_rfl) (fun _ _ _ h => h) (Or.inl ⟨by rfl, ?_⟩) (by assumption) ?_
                rotate_left 1
                · ((intro w hSw; (try dsimp only at hSw); go_simp); (try with_reducible rfl))
                simp only [Act.put, List.setIfInBounds_toArray, List.set_cons_zero, List.set_cons_succ, List.getElem_toArray, List.getElem_cons_zero, List.getElem_cons_succ]
                refine wpAnyH_take (i := 27) (v := ?_) rfl (by kernel_rfl) (by kernel_rfl) (by kernel_rfl) (fun _ _ _ h => h) (Or.inl ⟨by rfl, ?_⟩) (by assumption) ?_
                rotate_left 1
                · ((intro w hSw; (try dsimp only at hSw); go_simp); (try with_reducible rfl))
                simp only [Act.put, List.setIfInBounds_toArray, List.set_cons_zero, List.set_cons_succ, List.getElem_toArray, List.getElem_cons_zero, List.getElem_cons_succ]
                refine wpAnyH_take (i := 28) (v := ?_) rfl (by kernel_rfl) (by kernel_rfl) (by kernel_rfl) (fun _ _ _ h => h) (Or.inl ⟨by rfl, ?_⟩) (by assumption) ?_
                rotate_left 1
                · ((intro w hSw; (try dsimp only at hSw); go_simp); (try with_reducible rfl))
                simp only [Act.put, List.setIfInBounds_toArray, List.set_cons_zero, List.set_cons_succ, List.getElem_toArray, List.getElem_cons_zero, List.getElem_cons_succ]
                refine wpAnyH_take (i := 29) (v := ?_) rfl (by kernel_rfl) (by kernel_rfl) (by kernel_rfl) (fun _ _ _ h => h) (Or.inl ⟨by rfl, ?_⟩) (by assumption) ?_
                rotate_left 1
                · ((intro w hSw; (try dsimp only at hSw); go_simp); (try with_reducible rfl))
                simp only [Act.put, List.setIfInBounds_toArray, List.set_cons_zero, List.set_cons_succ, List.getElem_toArray, List.getElem_cons_zero, List.getElem_cons_succ]
                refine wpAnyH_ready (rs := [21]) (by kernel_rfl) (by simp) ?_
                refine AllReadyH.cons rfl (fun K hK => ?_) AllReadyH.nil
                go_simp
                refine (rl_key2 (HR.out.over hu) kt.out.1).mono ?_
                rintro e w3 ⟨rfl, hb3⟩
                rw [HK.out]
                have k3 := Keeps.of_below hb3
                replace hs := And.intro (k3 _ _ hs.1) (And.intro (k3 _ _ hs.2.1) (And.intro (k3 _ _ hs.2.2.1) (And.intro (k3 _ _ hs.2.2.2.1) (And.intro (k3 _ _ hs.2.2.2.2.1) (And.intro (k3 _ _ hs.2.2.2.2.2.1) (And.intro (k3 _ _ hs.2.2.2.2.2.2.1) (And.intro (k3 _ _ hs.2.2.2.2.2.2.2.1) (k3 _ _ hs.2.2.2.2.2.2.2.2))))))))
                replace hu := hu.trans (hb3.mono hu.size)
                clear hHeld hb3 k3
                go_wp2_with fail
                refine hK.out _ _ ?_ (fun hHeld => ?_)
                · exact hs
                clear hK K
                try simp only [Act.put, List.setIfInBounds_toArray, List.set_cons_zero, List.set_cons_succ, List.getElem_toArray, List.getElem_cons_zero, List.getElem_cons_succ]
                refine wpAnyH_ready (rs := [30]) (by kernel_rfl) (by simp) ?_
                refine AllReadyH.cons rfl (fun K hK => ?_) AllReadyH.nil
                go_simp
                refine (rl_key2 (HR.out.over hu) km.out).mono ?_
                rintro e w3 ⟨rfl, hb3⟩
                rw [HKm.out]
                have k3 := Keeps.of_below hb3
                replace hs := And.intro (k3 _ _ hs.1) (And.intro (k3 _ _ hs.2.1) (And.intro (k3 _ _ hs.2.2.1) (And.intro (k3 _ _ hs.2.2.2.1) (And.intro (k3 _ _ hs.2.2.2.2.1) (And.intro (k3 _ _ hs.2.2.2.2.2.1) (And.intro (k3 _ _ hs.2.2.2.2.2.2.1) (And.intro (k3 _ _ hs.2.2.2.2.2.2.2.1) (k3 _ _ hs.2.2.2.2.2.2.2.2))))))))
                replace hu := hu.trans (hb3.mono hu.size)
                clear hHeld hb3 k3
                go_wp2_with fail
                refine hK.out _ _ ?_ (fun hHeld => ?_)
                · exact hs
                clear hK K
                try simp only [Act.put, List.setIfInBounds_toArray, List.set_cons_zero, List.set_cons_succ, List.getElem_toArray, List.getElem_cons_zero, List.getElem_cons_succ]
                refine wpAnyH_take (i := 31) (v := ?_) rfl (by kernel_rfl) (by kernel_rfl) (by kernel_rfl) (fun _ _ _ h => h) (Or.inl ⟨by rfl, ?_⟩) (by assumption) ?_
                rotate_left 1
                · ((intro w hSw; (try dsimp only at hSw); go_simp); (try with_reducible rfl))
                simp only [Act.put, List.setIfInBounds_toArray, List.set_cons_zero, List.set_cons_succ, List.getElem_toArray, List.getElem_cons_zero, List.getElem_cons_succ]
                refine wpAnyH_take (i := 32) (v := ?_) rfl (by kernel_rfl) (by kernel_rfl) (by kernel_rfl) (fun _ _ _ h => h) (Or.inl ⟨by rfl, ?_⟩) (by assumption) ?_
                rotate_left 1
                · ((intro w hSw; (try dsimp only at hSw); go_simp); (try with_reducible rfl))
                simp only [Act.put, List.setIfInBounds_toArray, List.set_cons_zero, List.set_cons_succ, List.getElem_toArray, List.getElem_cons_zero, List.getElem_cons_succ]
                refine wpAnyH_take (i := 33) (v := ?_) rfl (by kernel_rfl) (by kernel_rfl) (by kernel_rfl) (fun _ _ _ h => h) (Or.inl ⟨by rfl, ?_⟩) (by assumption) ?_
                rotate_left 1
                · ((intro w hSw; (try dsimp only at hSw); go_simp); (try with_reducible rfl))
                simp only [Act.put, List.setIfInBounds_toArray, List.set_cons_zero, List.set_cons_succ, List.getElem_toArray, List.getElem_cons_zero, List.getElem_cons_succ]
                refine wpAnyH_done (by kernel_rfl) ?_ _
                go_wp2_with fail
                go_roundg (gk - 1)
                case measure => omega
                case rel => exact ⟨k + 1, k, by omega, by go_num, rfl, NH2, hu⟩
              · have NH2 : Hid (BestUp s (k + 1) m) := hidp (NH.out.more (by rw [Ha.out, Ham.out, HK.out, HKm.out]; exact hlt2))
                have g2 : decide (K1 < K2) = false := decide_eq_false hlt2
                have hw1 := hb.alloc hb.size (.cells #[.int .i64 ta, .int .i64 re, .int .i64 pl, .bool false] 84)
                have bx := Bk.new wr 84 #[.int .i64 ta, .int .i64 re, .int .i64 pl, .bool false]
                have b0 := bx.cell 0
                have b1 := bx.cell 1
                have b2 := bx.cell 2
                have b3 := bx.cell 3
                simp only [List.getElem?_toArray, List.getElem?_cons_zero, List.getElem?_cons_succ] at b0 b1 b2 b3
                have hc1 := Keeps.alloc wr (.cells #[.int .i64 ta, .int .i64 re, .int .i64 pl, .bool false] 84) _ _ hc4
                have m0 := Keeps.of_below hw1 _ _ z0
                have m1 := Keeps.of_below hw1 _ _ z1
                have m2 := Keeps.of_below hw1 _ _ z2
                have m3 := Keeps.of_below hw1 _ _ z3
                clear bx
                go_wp2_with fail
                have hs : (wr.alloc (.cells #[.int .i64 ta, .int .i64 re, .int .i64 pl, .bool false] 84)).drew.cell? ⟨wr.heap.size, 0, none⟩ = some (.int .i64 ta) ∧ (wr.alloc (.cells #[.int .i64 ta, .int .i64 re, .int .i64 pl, .bool false] 84)).drew.cell? ⟨wr.heap.size, 1, none⟩ = some (.int .i64 re) ∧ (wr.alloc (.cells #[.int .i64 ta, .int .i64 re, .int .i64 pl, .bool false] 84)).drew.cell? ⟨wr.heap.size, 2, none⟩ = some (.int .i64 pl) ∧ (wr.alloc (.cells #[.int .i64 ta, .int .i64 re, .int .i64 pl, .bool false] 84)).drew.cell? ⟨wr.heap.size, 3, none⟩ = some (.bool false) ∧ (wr.alloc (.cells #[.int .i64 ta, .int .i64 re, .int .i64 pl, .bool false] 84)).drew.cell? ⟨b, 4, none⟩ = some (.slice (some ⟨g, 0, none⟩) s.L.length c) ∧ (wr.alloc (.cells #[.int .i64 ta, .int .i64 re, .int .i64 pl, .bool false] 84)).drew.cell? ⟨g, m * 4, none⟩ = some (.int .i64 tm) ∧ (wr.alloc (.cells #[.int .i64 ta, .int .i64 re, .int .i64 pl, .bool false] 84)).drew.cell? ⟨g, m * 4 + 1, none⟩ = some (.int .i64 rm) ∧ (wr.alloc (.cells #[.int .i64 ta, .int .i64 re, .int .i64 pl, .bool false] 84)).drew.cell? ⟨g, m * 4 + 2, none⟩ = some (.int .i64 pm) ∧ (wr.alloc (.cells #[.int .i64 ta, .int .i64 re, .int .i64 pl, .bool false] 84)).drew.cell? ⟨g, m * 4 + 3, none⟩ = some (.bool false) := ⟨b0, b1, b2, b3, hc1, m0, m1, m2, m3⟩
                have hu := hw1.drew
                refine wp_region_held_drew (S := fun w' => w'.cell? ⟨wr.heap.size, 0, none⟩ = some (.int .i64 ta) ∧ w'.cell? ⟨wr.heap.size, 1, none⟩ = some (.int .i64 re) ∧ w'.cell? ⟨wr.heap.size, 2, none⟩ = some (.int .i64 pl) ∧ w'.cell? ⟨wr.heap.size, 3, none⟩ = some (.bool false) ∧ w'.cell? ⟨b, 4, none⟩ = some (.slice (some ⟨g, 0, none⟩) s.L.length c) ∧ w'.cell? ⟨g, m * 4, none⟩ = some (.int .i64 tm) ∧ w'.cell? ⟨g, m * 4 + 1, none⟩ = some (.int .i64 rm) ∧ w'.cell? ⟨g, m * 4 + 2, none⟩ = some (.int .i64 pm) ∧ w'.cell? ⟨g, m * 4 + 3, none⟩ = some (.bool false)) (by kernel_rfl) ?_ (fun hHeld => ?_)
                · exact hs
                clear b0 b1 b2 b3 hc1 hc4 hw1 hb y0 y1 y2 y3 m0 m1 m2 m3 z0 z1 z2 z3
                generalize (wr.alloc (.cells #[.int .i64 ta, .int .i64 re, .int .i64 pl, .bool false] 84)).drew = u1 at *
                refine wpAnyH_take (i := 0) (v := ?_) rfl (by kernel_rfl) (by kernel_rfl) (by kernel_rfl) (fun _ _ _ h => h) (Or.inl ⟨by rfl, ?_⟩) (by assumption) ?_
                rotate_left 1
                · ((intro w hSw; (try dsimp only at hSw); go_simp); (try with_reducible rfl))
                simp only [Act.put, List.setIfInBounds_toArray, List.set_cons_zero, List.set_cons_succ, List.getElem_toArray, List.getElem_cons_zero, List.getElem_cons_succ]
                refine wpAnyH_take (i := 1) (v := ?_) rfl (by kernel_rfl) (by kernel_rfl) (by kernel_rfl) (fun _ _ _ h => h) (Or.inl ⟨by rfl, ?_⟩) (by assumption) ?_
                rotate_left 1
                · ((intro w hSw; (try dsimp only at hSw); go_simp); (try with_reducible rfl))
                simp only [Act.put, List.setIfInBounds_toArray, List.set_cons_zero, List.set_cons_succ, List.getElem_toArray, List.getElem_cons_zero, List.getElem_cons_succ]
                refine wpAnyH_take (i := 2) (v := ?_) rfl (by kernel_rfl) (by kernel_rfl) (by kernel_rfl) (fun _ _ _ h => h) (Or.inl ⟨by rfl, ?_⟩) (by assumption) ?_
                rotate_left 1
                · ((intro w hSw; (try dsimp only at hSw); go_simp); (try with_reducible rfl))
                simp only [Act.put, List.setIfInBounds_toArray, List.set_cons_zero, List.set_cons_succ, List.getElem_toArray, List.getElem_cons_zero, List.getElem_cons_succ]
                refine wpAnyH_take (i := 3) (v := ?_) rfl (by kernel_rfl) (by kernel_rfl) (by kernel_rfl) (fun _ _ _ h => h) (Or.inl ⟨by rfl, ?_⟩) (by assumption) ?_
                rotate_left 1
                · ((intro w hSw; (try dsimp only at hSw); go_simp); (try with_reducible rfl))
                simp only [Act.put, List.setIfInBounds_toArray, List.set_cons_zero, List.set_cons_succ, List.getElem_toArray, List.getElem_cons_zero, List.getElem_cons_succ]
                refine wpAnyH_take (i := 4) (v := ?_) rfl (by kernel_rfl) (by kernel_rfl) (by kernel_rfl) (fun _ _ _ h => h) (Or.inl ⟨by rfl, ?_⟩) (by assumption) ?_
                rotate_left 1
                · ((intro w hSw; (try dsimp only at hSw); go_simp); (try with_reducible rfl))
                simp only [Act.put, List.setIfInBounds_toArray, List.set_cons_zero, List.set_cons_succ, List.getElem_toArray, List.getElem_cons_zero, List.getElem_cons_succ]
                refine wpAnyH_take (i := 5) (v := ?_) rfl (by kernel_rfl) (by kernel_rfl) (by kernel_rfl) (fun _ _ _ h => h) (Or.inl ⟨by rfl, ?_⟩) (by assumption) ?_
                rotate_left 1
                · ((intro w hSw; (try dsimp only at hSw); go_simp); (try with_reducible rfl))
                simp only [Act.put, List.setIfInBounds_toArray, List.set_cons_zero, List.set_cons_succ, List.getElem_toArray, List.getElem_cons_zero, List.getElem_cons_succ]
                refine wpAnyH_take (i := 6) (v := ?_) rfl (by kernel_rfl) (by kernel_rfl) (by kernel_rfl) (fun _ _ _ h => h) (Or.inl ⟨by rfl, ?_⟩) (by assumption) ?_
                rotate_left 1
                · ((intro w hSw; (try dsimp only at hSw); go_simp); (try with_reducible rfl))
                simp only [Act.put, List.setIfInBounds_toArray, List.set_cons_zero, List.set_cons_succ, List.getElem_toArray, List.getElem_cons_zero, List.getElem_cons_succ]
                refine wpAnyH_take (i := 7) (v := ?_) rfl (by kernel_rfl) (by kernel_rfl) (by kernel_rfl) (fun _ _ _ h => h) (Or.inl ⟨by rfl, ?_⟩) (by assumption) ?_
                rotate_left 1
                · ((intro w hSw; (try dsimp only at hSw); go_simp); (try with_reducible rfl))
                simp only [Act.put, List.setIfInBounds_toArray, List.set_cons_zero, List.set_cons_succ, List.getElem_toArray, List.getElem_cons_zero, List.getElem_cons_succ]
                refine wpAnyH_take (i := 8) (v := ?_) rfl (by kernel_rfl) (by kernel_rfl) (by kernel_rfl) (fun _ _ _ h => h) (Or.inl ⟨by rfl, ?_⟩) (by assumption) ?_
                rotate_left 1
                · ((intro w hSw; (try dsimp only at hSw); go_simp); (try with_reducible rfl))
                simp only [Act.put, List.setIfInBounds_toArray, List.set_cons_zero, List.set_cons_succ, List.getElem_toArray, List.getElem_cons_zero, List.getElem_cons_succ]
                refine wpAnyH_take (i := 9) (v := ?_) rfl (by kernel_rfl) (by kernel_rfl) (by kernel_rfl) (fun _ _ _ h => h) (Or.inl ⟨by rfl, ?_⟩) (by assumption) ?_
                rotate_left 1
                · ((intro w hSw; (try dsimp only at hSw); go_simp); (try with_reducible rfl))
                simp only [Act.put, List.setIfInBounds_toArray, List.set_cons_zero, List.set_cons_succ, List.getElem_toArray, List.getElem_cons_zero, List.getElem_cons_succ]
                refine wpAnyH_take (i := 10) (v := ?_) rfl (by kernel_rfl) (by kernel_rfl) (by kernel_rfl) (fun _ _ _ h => h) (Or.inl ⟨by rfl, ?_⟩) (by assumption) ?_
                rotate_left 1
                · ((intro w hSw; (try dsimp only at hSw); go_simp); (try with_reducible rfl))
                simp only [Act.put, List.setIfInBounds_toArray, List.set_cons_zero, List.set_cons_succ, List.getElem_toArray, List.getElem_cons_zero, List.getElem_cons_succ]
                refine wpAnyH_take (i := 11) (v := ?_) rfl (by kernel_rfl) (by kernel_rfl) (by kernel_rfl) (fun _ _ _ h => h) (Or.inl ⟨by rfl, ?_⟩) (by assumption) ?_
                rotate_left 1
                · ((intro w hSw; (try dsimp only at hSw); go_simp); (try with_reducible rfl))
                simp only [Act.put, List.setIfInBounds_toArray, List.set_cons_zero, List.set_cons_succ, List.getElem_toArray, List.getElem_cons_zero, List.getElem_cons_succ]
                refine wpAnyH_ready (rs := [12]) (by kernel_rfl) (by simp) ?_
                refine AllReadyH.cons rfl (fun K hK => ?_) AllReadyH.nil
                go_simp
                refine (rl_held2 (HR.out.over hu) HO.out kt.out.2).mono ?_
                rintro e w3 ⟨rfl, hb3⟩
                rw [Hh.out]
                have k3 := Keeps.of_below hb3
                replace hs := And.intro (k3 _ _ hs.1) (And.intro (k3 _ _ hs.2.1) (And.intro (k3 _ _ hs.2.2.1) (And.intro (k3 _ _ hs.2.2.2.1) (And.intro (k3 _ _ hs.2.2.2.2.1) (And.intro (k3 _ _ hs.2.2.2.2.2.1) (And.intro (k3 _ _ hs.2.2.2.2.2.2.1) (And.intro (k3 _ _ hs.2.2.2.2.2.2.2.1) (k3 _ _ hs.2.2.2.2.2.2.2.2))))))))
                replace hu := hu.trans (hb3.mono hu.size)
                clear hHeld hb3 k3
                go_wp2_with fail
                refine hK.out _ _ ?_ (fun hHeld => ?_)
                · exact hs
                clear hK K
                try simp only [Act.put, List.setIfInBounds_toArray, List.set_cons_zero, List.set_cons_succ, List.getElem_toArray, List.getElem_cons_zero, List.getElem_cons_succ]
                refine wpAnyH_take (i := 13) (v := ?_) rfl (by kernel_rfl) (by kernel_rfl) (by kernel_rfl) (fun _ _ _ h => h) (Or.inl ⟨by rfl, ?_⟩) (by assumption) ?_
                rotate_left 1
                · ((intro w hSw; (try dsimp only at hSw); go_simp); (try with_reducible rfl))
                simp only [Act.put, List.setIfInBounds_toArray, List.set_cons_zero, List.set_cons_succ, List.getElem_toArray, List.getElem_cons_zero, List.getElem_cons_succ]
                refine wpAnyH_take (i := 14) (v := ?_) rfl (by kernel_rfl) (by kernel_rfl) (by kernel_rfl) (fun _ _ _ h => h) (Or.inl ⟨by rfl, ?_⟩) (by assumption) ?_
                rotate_left 1
                · ((intro w hSw; (try dsimp only at hSw); go_simp); (try with_reducible rfl))
                simp only [Act.put, List.setIfInBounds_toArray, List.set_cons_zero, List.set_cons_succ, List.getElem_toArray, List.getElem_cons_zero, List.getElem_cons_succ]
                refine wpAnyH_take (i := 15) (v := ?_) rfl (by kernel_rfl) (by kernel_rfl) (by kernel_rfl) (fun _ _ _ h => h) (Or.inl ⟨by rfl, ?_⟩) (by assumption) ?_
                rotate_left 1
                · ((intro w hSw; (try dsimp only at hSw); go_simp); (try with_reducible rfl))
                simp only [Act.put, List.setIfInBounds_toArray, List.set_cons_zero, List.set_cons_succ, List.getElem_toArray, List.getElem_cons_zero, List.getElem_cons_succ]
                refine wpAnyH_take (i := 16) (v := ?_) rfl (by kernel_rfl) (by kernel_rfl) (by kernel_rfl) (fun _ _ _ h => h) (Or.inl ⟨by rfl, ?_⟩) (by assumption) ?_
                rotate_left 1
                · ((intro w hSw; (try dsimp only at hSw); go_simp); (try with_reducible rfl))
                simp only [Act.put, List.setIfInBounds_toArray, List.set_cons_zero, List.set_cons_succ, List.getElem_toArray, List.getElem_cons_zero, List.getElem_cons_succ]
                refine wpAnyH_take (i := 17) (v := ?_) rfl (by kernel_rfl) (by kernel_rfl) (by kernel_rfl) (fun _ _ _ h => h) (Or.inl ⟨by rfl, ?_⟩) (by assumption) ?_
                rotate_left 1
                · ((intro w hSw; (try dsimp only at hSw); go_simp); (try with_reducible rfl))
                simp only [Act.put, List.setIfInBounds_toArray, List.set_cons_zero, List.set_cons_succ, List.getElem_toArray, List.getElem_cons_zero, List.getElem_cons_succ]
                refine wpAnyH_take (i := 18) (v := ?_) rfl (by kernel_rfl) (by kernel_rfl) (by kernel_rfl) (fun _ _ _ h => h) (Or.inl ⟨by rfl, ?_⟩) (by assumption) ?_
                rotate_left 1
                · ((intro w hSw; (try dsimp only at hSw); go_simp); (try with_reducible rfl))
                simp only [Act.put, List.setIfInBounds_toArray, List.set_cons_zero, List.set_cons_succ, List.getElem_toArray, List.getElem_cons_zero, List.getElem_cons_succ]
                refine wpAnyH_take (i := 19) (v := ?_) rfl (by kernel_rfl) (by kernel_rfl) (by kernel_rfl) (fun _ _ _ h => h) (Or.inl ⟨by rfl, ?_⟩) (by assumption) ?_
                rotate_left 1
                · ((intro w hSw; (try dsimp only at hSw); go_simp); (try with_reducible rfl))
                simp only [Act.put, List.setIfInBounds_toArray, List.set_cons_zero, List.set_cons_succ, List.getElem_toArray, List.getElem_cons_zero, List.getElem_cons_succ]
                refine wpAnyH_take (i := 20) (v := ?_) rfl (by kernel_rfl) (by kernel_rfl) (by kernel_rfl) (fun _ _ _ h => h) (Or.inl ⟨by rfl, ?_⟩) (by assumption) ?_
                rotate_left 1
                · ((intro w hSw; (try dsimp only at hSw); go_simp); (try with_reducible rfl))
                simp only [Act.put, List.setIfInBounds_toArray, List.set_cons_zero, List.set_cons_succ, List.getElem_toArray, List.getElem_cons_zero, List.getElem_cons_succ]
                refine wpAnyH_take (i := 22) (v := ?_) rfl (by kernel_rfl) (by kernel_rfl) (by kernel_rfl) (fun _ _ _ h => h) (Or.inl ⟨by rfl, ?_⟩) (by assumption) ?_
                rotate_left 1
                · ((intro w hSw; (try dsimp only at hSw); go_simp); (try with_reducible rfl))
                simp only [Act.put, List.setIfInBounds_toArray, List.set_cons_zero, List.set_cons_succ, List.getElem_toArray, List.getElem_cons_zero, List.getElem_cons_succ]
                refine wpAnyH_take (i := 23) (v := ?_) rfl (by kernel_rfl) (by kernel_rfl) (by kernel_rfl) (fun _ _ _ h => h) (Or.inl ⟨by rfl, ?_⟩) (by assumption) ?_
                rotate_left 1
                · ((intro w hSw; (try dsimp only at hSw); go_simp); (try with_reducible rfl))
                simp only [Act.put, List.setIfInBounds_toArray, List.set_cons_zero, List.set_cons_succ, List.getElem_toArray, List.getElem_cons_zero, List.getElem_cons_succ]
                refine wpAnyH_take (i := 24) (v := ?_) rfl (by kernel_rfl) (by kernel_rfl) (by kernel_rfl) (fun _ _ _ h => h) (Or.inl ⟨by rfl, ?_⟩) (by assumption) ?_
                rotate_left 1
                · ((intro w hSw; (try dsimp only at hSw); go_simp); (try with_reducible rfl))
                simp only [Act.put, List.setIfInBounds_toArray, List.set_cons_zero, List.set_cons_succ, List.getElem_toArray, List.getElem_cons_zero, List.getElem_cons_succ]
                refine wpAnyH_take (i := 25) (v := ?_) rfl (by kernel_rfl) (by kernel_rfl) (by kernel_rfl) (fun _ _ _ h => h) (Or.inl ⟨by rfl, ?_⟩) (by assumption) ?_
                rotate_left 1
                · ((intro w hSw; (try dsimp only at hSw); go_simp); (try with_reducible rfl))
                simp only [Act.put, List.setIfInBounds_toArray, List.set_cons_zero, List.set_cons_succ, List.getElem_toArray, List.getElem_cons_zero, List.getElem_cons_succ]
                refine wpAnyH_take (i := 26) (v := ?_) rfl (by kernel_rfl) (by kernel_rfl) (by kernel_rfl) (fun _ _ _ h => h) (Or.inl ⟨by rfl, ?_⟩) (by assumption) ?_
                rotate_left 1
                · ((intro w hSw; (try dsimp only at hSw); go_simp); (try with_reducible rfl))
                simp only [Act.put, List.setIfInBounds_toArray, List.set_cons_zero, List.set_cons_succ, List.getElem_toArray, List.getElem_cons_zero, List.getElem_cons_succ]
                refine wpAnyH_take (i := 27) (v := ?_) rfl (by kernel_rfl) (by kernel_rfl) (by kernel_rfl) (fun _ _ _ h => h) (Or.inl ⟨by rfl, ?_⟩) (by assumption) ?_
                rotate_left 1
                · ((intro w hSw; (try dsimp only at hSw); go_simp); (try with_reducible rfl))
                simp only [Act.put, List.setIfInBounds_toArray, List.set_cons_zero, List.set_cons_succ, List.getElem_toArray, List.getElem_cons_zero, List.getElem_cons_succ]
                refine wpAnyH_take (i := 28) (v := ?_) rfl (by kernel_rfl) (by kernel_rfl) (by kernel_rfl) (fun _ _ _ h => h) (Or.inl ⟨by rfl, ?_⟩) (by assumption) ?_
                rotate_left 1
                · ((intro w hSw; (try dsimp only at hSw); go_simp); (try with_reducible rfl))
                simp only [Act.put, List.setIfInBounds_toArray, List.set_cons_zero, List.set_cons_succ, List.getElem_toArray, List.getElem_cons_zero, List.getElem_cons_succ]
                refine wpAnyH_take (i := 29) (v := ?_) rfl (by kernel_rfl) (by kernel_rfl) (by kernel_rfl) (fun _ _ _ h => h) (Or.inl ⟨by rfl, ?_⟩) (by assumption) ?_
                rotate_left 1
                · ((intro w hSw; (try dsimp only at hSw); go_simp); (try with_reducible rfl))
                simp only [Act.put, List.setIfInBounds_toArray, List.set_cons_zero, List.set_cons_succ, List.getElem_toArray, List.getElem_cons_zero, List.getElem_cons_succ]
                refine wpAnyH_ready (rs := [21]) (by kernel_rfl) (by simp) ?_
                refine AllReadyH.cons rfl (fun K hK => ?_) AllReadyH.nil
                go_simp
                refine (rl_key2 (HR.out.over hu) kt.out.1).mono ?_
                rintro e w3 ⟨rfl, hb3⟩
                rw [HK.out]
                have k3 := Keeps.of_below hb3
                replace hs := And.intro (k3 _ _ hs.1) (And.intro (k3 _ _ hs.2.1) (And.intro (k3 _ _ hs.2.2.1) (And.intro (k3 _ _ hs.2.2.2.1) (And.intro (k3 _ _ hs.2.2.2.2.1) (And.intro (k3 _ _ hs.2.2.2.2.2.1) (And.intro (k3 _ _ hs.2.2.2.2.2.2.1) (And.intro (k3 _ _ hs.2.2.2.2.2.2.2.1) (k3 _ _ hs.2.2.2.2.2.2.2.2))))))))
                replace hu := hu.trans (hb3.mono hu.size)
                clear hHeld hb3 k3
                go_wp2_with fail
                refine hK.out _ _ ?_ (fun hHeld => ?_)
                · exact hs
                clear hK K
                try simp only [Act.put, List.setIfInBounds_toArray, List.set_cons_zero, List.set_cons_succ, List.getElem_toArray, List.getElem_cons_zero, List.getElem_cons_succ]
                refine wpAnyH_ready (rs := [30]) (by kernel_rfl) (by simp) ?_
                refine AllReadyH.cons rfl (fun K hK => ?_) AllReadyH.nil
                go_simp
                refine (rl_key2 (HR.out.over hu) km.out).mono ?_
                rintro e w3 ⟨rfl, hb3⟩
                rw [HKm.out]
                have k3 := Keeps.of_below hb3
                replace hs := And.intro (k3 _ _ hs.1) (And.intro (k3 _ _ hs.2.1) (And.intro (k3 _ _ hs.2.2.1) (And.intro (k3 _ _ hs.2.2.2.1) (And.intro (k3 _ _ hs.2.2.2.2.1) (And.intro (k3 _ _ hs.2.2.2.2.2.1) (And.intro (k3 _ _ hs.2.2.2.2.2.2.1) (And.intro (k3 _ _ hs.2.2.2.2.2.2.2.1) (k3 _ _ hs.2.2.2.2.2.2.2.2))))))))
                replace hu := hu.trans (hb3.mono hu.size)
                clear hHeld hb3 k3
                go_wp2_with fail
                refine hK.out _ _ ?_ (fun hHeld => ?_)
                · exact hs
                clear hK K
                try simp only [Act.put, List.setIfInBounds_toArray, List.set_cons_zero, List.set_cons_succ, List.getElem_toArray, List.getElem_cons_zero, List.getElem_cons_succ]
                refine wpAnyH_take (i := 31) (v := ?_) rfl (by kernel_rfl) (by kernel_rfl) (by kernel_rfl) (fun _ _ _ h => h) (Or.inl ⟨by rfl, ?_⟩) (by assumption) ?_
                rotate_left 1
                · ((intro w hSw; (try dsimp only at hSw); go_simp); (try with_reducible rfl))
                simp only [Act.put, List.setIfInBounds_toArray, List.set_cons_zero, List.set_cons_succ, List.getElem_toArray, List.getElem_cons_zero, List.getElem_cons_succ]
                refine wpAnyH_take (i := 32) (v := ?_) rfl (by kernel_rfl) (by kernel_rfl) (by kernel_rfl) (fun _ _ _ h => h) (Or.inl ⟨by rfl, ?_⟩) (by assumption) ?_
                rotate_left 1
                · ((intro w hSw; (try dsimp only at hSw); go_simp); (try with_reducible rfl))
                simp only [Act.put, List.setIfInBounds_toArray, List.set_cons_zero, List.set_cons_succ, List.getElem_toArray, List.getElem_cons_zero, List.getElem_cons_succ]
                refine wpAnyH_take (i := 33) (v := ?_) rfl (by kernel_rfl) (by kernel_rfl) (by kernel_rfl) (fun _ _ _ h => h) (Or.inl ⟨by rfl, ?_⟩) (by assumption) ?_
                rotate_left 1
                · ((intro w hSw; (try dsimp only at hSw); go_simp); (try with_reducible rfl))
                simp only [Act.put, List.setIfInBounds_toArray, List.set_cons_zero, List.set_cons_succ, List.getElem_toArray, List.getElem_cons_zero, List.getElem_cons_succ]
                refine wpAnyH_done (by kernel_rfl) ?_ _
                go_wp2_with fail
                go_roundg (gk - 1)
                case measure => omega
                case rel => exact ⟨k + 1, m, by omega, by go_num, rfl, NH2, hu⟩
        · have dp0 : decide (0 < pl) = false := decide_eq_false hp0
          have NH2 : Hid (BestUp s (k + 1) v) := hidp (NH.out.not (by rw [Ha.out]; rintro ⟨_, h1, _⟩; exact hp0 h1))
          have hw1 := hb.alloc hb.size (.cells #[.int .i64 ta, .int .i64 re, .int .i64 pl, .bool false] 84)
          have bx := Bk.new wr 84 #[.int .i64 ta, .int .i64 re, .int .i64 pl, .bool false]
          have b0 := bx.cell 0
          have b1 := bx.cell 1
          have b2 := bx.cell 2
          have b3 := bx.cell 3
          simp only [List.getElem?_toArray, List.getElem?_cons_zero, List.getElem?_cons_succ] at b0 b1 b2 b3
          have hc1 := Keeps.alloc wr (.cells #[.int .i64 ta, .int .i64 re, .int .i64 pl, .bool false] 84) _ _ hc4
          clear bx
          go_wp2_with fail
          have hs : (wr.alloc (.cells #[.int .i64 ta, .int .i64 re, .int .i64 pl, .bool false] 84)).drew.cell? ⟨wr.heap.size, 0, none⟩ = some (.int .i64 ta) ∧ (wr.alloc (.cells #[.int .i64 ta, .int .i64 re, .int .i64 pl, .bool false] 84)).drew.cell? ⟨wr.heap.size, 1, none⟩ = some (.int .i64 re) ∧ (wr.alloc (.cells #[.int .i64 ta, .int .i64 re, .int .i64 pl, .bool false] 84)).drew.cell? ⟨wr.heap.size, 2, none⟩ = some (.int .i64 pl) ∧ (wr.alloc (.cells #[.int .i64 ta, .int .i64 re, .int .i64 pl, .bool false] 84)).drew.cell? ⟨wr.heap.size, 3, none⟩ = some (.bool false) ∧ (wr.alloc (.cells #[.int .i64 ta, .int .i64 re, .int .i64 pl, .bool false] 84)).drew.cell? ⟨b, 4, none⟩ = some (.slice (some ⟨g, 0, none⟩) s.L.length c) := ⟨b0, b1, b2, b3, hc1⟩
          have hu := hw1.drew
          refine wp_region_held_drew (S := fun w' => w'.cell? ⟨wr.heap.size, 0, none⟩ = some (.int .i64 ta) ∧ w'.cell? ⟨wr.heap.size, 1, none⟩ = some (.int .i64 re) ∧ w'.cell? ⟨wr.heap.size, 2, none⟩ = some (.int .i64 pl) ∧ w'.cell? ⟨wr.heap.size, 3, none⟩ = some (.bool false) ∧ w'.cell? ⟨b, 4, none⟩ = some (.slice (some ⟨g, 0, none⟩) s.L.length c)) (by kernel_rfl) ?_ (fun hHeld => ?_)
          · exact hs
          clear b0 b1 b2 b3 hc1 hc4 hw1 hb y0 y1 y2 y3
          generalize (wr.alloc (.cells #[.int .i64 ta, .int .i64 re, .int .i64 pl, .bool false] 84)).drew = u1 at *
          refine wpAnyH_take (i := 0) (v := ?_) rfl (by kernel_rfl) (by kernel_rfl) (by kernel_rfl) (fun _ _ _ h => h) (Or.inl ⟨by rfl, ?_⟩) (by assumption) ?_
          rotate_left 1
          · ((intro w hSw; (try dsimp only at hSw); go_simp); (try with_reducible rfl))
          simp only [Act.put, List.setIfInBounds_toArray, List.set_cons_zero, List.set_cons_succ, List.getElem_toArray, List.getElem_cons_zero, List.getElem_cons_succ]
          refine wpAnyH_take (i := 1) (v := ?_) rfl (by kernel_rfl) (by kernel_rfl) (by kernel_rfl) (fun _ _ _ h => h) (Or.inl ⟨by rfl, ?_⟩) (by assumption) ?_
          rotate_left 1
          · ((intro w hSw; (try dsimp only at hSw); go_simp); (try with_reducible rfl))
          simp only [Act.put, List.setIfInBounds_toArray, List.set_cons_zero, List.set_cons_succ, List.getElem_toArray, List.getElem_cons_zero, List.getElem_cons_succ]
          refine wpAnyH_take (i := 2) (v := ?_) rfl (by kernel_rfl) (by kernel_rfl) (by kernel_rfl) (fun _ _ _ h => h) (Or.inl ⟨by rfl, ?_⟩) (by assumption) ?_
          rotate_left 1
          · ((intro w hSw; (try dsimp only at hSw); go_simp); (try with_reducible rfl))
          simp only [Act.put, List.setIfInBounds_toArray, List.set_cons_zero, List.set_cons_succ, List.getElem_toArray, List.getElem_cons_zero, List.getElem_cons_succ]
          refine wpAnyH_take (i := 3) (v := ?_) rfl (by kernel_rfl) (by kernel_rfl) (by kernel_rfl) (fun _ _ _ h => h) (Or.inl ⟨by rfl, ?_⟩) (by assumption) ?_
          rotate_left 1
          · ((intro w hSw; (try dsimp only at hSw); go_simp); (try with_reducible rfl))
          simp only [Act.put, List.setIfInBounds_toArray, List.set_cons_zero, List.set_cons_succ, List.getElem_toArray, List.getElem_cons_zero, List.getElem_cons_succ]
          refine wpAnyH_take (i := 4) (v := ?_) rfl (by kernel_rfl) (by kernel_rfl) (by kernel_rfl) (fun _ _ _ h => h) (Or.inl ⟨by rfl, ?_⟩) (by assumption) ?_
          rotate_left 1
          · ((intro w hSw; (try dsimp only at hSw); go_simp); (try with_reducible rfl))
          simp only [Act.put, List.setIfInBounds_toArray, List.set_cons_zero, List.set_cons_succ, List.getElem_toArray, List.getElem_cons_zero, List.getElem_cons_succ]
          refine wpAnyH_take (i := 5) (v := ?_) rfl (by kernel_rfl) (by kernel_rfl) (by kernel_rfl) (fun _ _ _ h => h) (Or.inl ⟨by rfl, ?_⟩) (by assumption) ?_
          rotate_left 1
          · ((intro w hSw; (try dsimp only at hSw); go_simp); (try with_reducible rfl))
          simp only [Act.put, List.setIfInBounds_toArray, List.set_cons_zero, List.set_cons_succ, List.getElem_toArray, List.getElem_cons_zero, List.getElem_cons_succ]
          refine wpAnyH_take (i := 6) (v := ?_) rfl (by kernel_rfl) (by kernel_rfl) (by kernel_rfl) (fun _ _ _ h => h) (Or.inl ⟨by rfl, ?_⟩) (by assumption) ?_
          rotate_left 1
          · ((intro w hSw; (try dsimp only at hSw); go_simp); (try with_reducible rfl))
          simp only [Act.put, List.setIfInBounds_toArray, List.set_cons_zero, List.set_cons_succ, List.getElem_toArray, List.getElem_cons_zero, List.getElem_cons_succ]
          refine wpAnyH_take (i := 7) (v := ?_) rfl (by kernel_rfl) (by kernel_rfl) (by kernel_rfl) (fun _ _ _ h => h) (Or.inl ⟨by rfl, ?_⟩) (by assumption) ?_
          rotate_left 1
          · ((intro w hSw; (try dsimp only at hSw); go_simp); (try with_reducible rfl))
          simp only [Act.put, List.setIfInBounds_toArray, List.set_cons_zero, List.set_cons_succ, List.getElem_toArray, List.getElem_cons_zero, List.getElem_cons_succ]
          refine wpAnyH_take (i := 8) (v := ?_) rfl (by kernel_rfl) (by kernel_rfl) (by kernel_rfl) (fun _ _ _ h => h) (Or.inl ⟨by rfl, ?_⟩) (by assumption) ?_
          rotate_left 1
          · ((intro w hSw; (try dsimp only at hSw); go_simp); (try with_reducible rfl))
          simp only [Act.put, List.setIfInBounds_toArray, List.set_cons_zero, List.set_cons_succ, List.getElem_toArray, List.getElem_cons_zero, List.getElem_cons_succ]
          refine wpAnyH_take (i := 9) (v := undef) rfl (by kernel_rfl) (by kernel_rfl) (by kernel_rfl) (fun _ _ _ h => h) (Or.inr ⟨by rfl, rfl⟩) (by assumption) ?_
          simp only [Act.put, List.setIfInBounds_toArray, List.set_cons_zero, List.set_cons_succ, List.getElem_toArray, List.getElem_cons_zero, List.getElem_cons_succ]
          refine wpAnyH_take (i := 10) (v := undef) rfl (by kernel_rfl) (by kernel_rfl) (by kernel_rfl) (fun _ _ _ h => h) (Or.inr ⟨by rfl, rfl⟩) (by assumption) ?_
          simp only [Act.put, List.setIfInBounds_toArray, List.set_cons_zero, List.set_cons_succ, List.getElem_toArray, List.getElem_cons_zero, List.getElem_cons_succ]
          refine wpAnyH_take (i := 11) (v := undef) rfl (by kernel_rfl) (by kernel_rfl) (by kernel_rfl) (fun _ _ _ h => h) (Or.inr ⟨by rfl, rfl⟩) (by assumption) ?_
          simp only [Act.put, List.setIfInBounds_toArray, List.set_cons_zero, List.set_cons_succ, List.getElem_toArray, List.getElem_cons_zero, List.getElem_cons_succ]
          refine wpAnyH_take (i := 12) (v := undef) rfl (by kernel_rfl) (by kernel_rfl) (by kernel_rfl) (fun _ _ _ h => h) (Or.inr ⟨by rfl, rfl⟩) (by assumption) ?_
          simp only [Act.put, List.setIfInBounds_toArray, List.set_cons_zero, List.set_cons_succ, List.getElem_toArray, List.getElem_cons_zero, List.getElem_cons_succ]
          refine wpAnyH_take (i := 13) (v := undef) rfl (by kernel_rfl) (by kernel_rfl) (by kernel_rfl) (fun _ _ _ h => h) (Or.inr ⟨by rfl, rfl⟩) (by assumption) ?_
          simp only [Act.put, List.setIfInBounds_toArray, List.set_cons_zero, List.set_cons_succ, List.getElem_toArray, List.getElem_cons_zero, List.getElem_cons_succ]
          refine wpAnyH_take (i := 14) (v := ?_) rfl (by kernel_rfl) (by kernel_rfl) (by kernel_rfl) (fun _ _ _ h => h) (Or.inl ⟨by rfl, ?_⟩) (by assumption) ?_
          rotate_left 1
          · ((intro w hSw; (try dsimp only at hSw); go_simp); (try with_reducible rfl))
          simp only [Act.put, List.setIfInBounds_toArray, List.set_cons_zero, List.set_cons_succ, List.getElem_toArray, List.getElem_cons_zero, List.getElem_cons_succ]
          refine wpAnyH_take (i := 15) (v := ?_) rfl (by kernel_rfl) (by kernel_rfl) (by kernel_rfl) (fun _ _ _ h => h) (Or.inl ⟨by rfl, ?_⟩) (by assumption) ?_
          rotate_left 1
          · ((intro w hSw; (try dsimp only at hSw); go_simp); (try with_reducible rfl))
          simp only [Act.put, List.setIfInBounds_toArray, List.set_cons_zero, List.set_cons_succ, List.getElem_toArray, List.getElem_cons_zero, List.getElem_cons_succ]
          refine wpAnyH_take (i := 16) (v := undef) rfl (by kernel_rfl) (by kernel_rfl) (by kernel_rfl) (fun _ _ _ h => h) (Or.inr ⟨by rfl, rfl⟩) (by assumption) ?_
          simp only [Act.put, List.setIfInBounds_toArray, List.set_cons_zero, List.set_cons_succ, List.getElem_toArray, List.getElem_cons_zero, List.getElem_cons_succ]
          refine wpAnyH_take (i := 17) (v := undef) rfl (by kernel_rfl) (by kernel_rfl) (by kernel_rfl) (fun _ _ _ h => h) (Or.inr ⟨by rfl, rfl⟩) (by assumption) ?_
          simp only [Act.put, List.setIfInBounds_toArray, List.set_cons_zero, List.set_cons_succ, List.getElem_toArray, List.getElem_cons_zero, List.getElem_cons_succ]
          refine wpAnyH_take (i := 18) (v := undef) rfl (by kernel_rfl) (by kernel_rfl) (by kernel_rfl) (fun _ _ _ h => h) (Or.inr ⟨by rfl, rfl⟩) (by assumption) ?_
          simp only [Act.put, List.setIfInBounds_toArray, List.set_cons_zero, List.set_cons_succ, List.getElem_toArray, List.getElem_cons_zero, List.getElem_cons_succ]
          refine wpAnyH_take (i := 19) (v := undef) rfl (by kernel_rfl) (by kernel_rfl) (by kernel_rfl) (fun _ _ _ h => h) (Or.inr ⟨by rfl, rfl⟩) (by assumption) ?_
          simp only [Act.put, List.setIfInBounds_toArray, List.set_cons_zero, List.set_cons_succ, List.getElem_toArray, List.getElem_cons_zero, List.getElem_cons_succ]
          refine wpAnyH_take (i := 20) (v := undef) rfl (by kernel_rfl) (by kernel_rfl) (by kernel_rfl) (fun _ _ _ h => h) (Or.inr ⟨by rfl, rfl⟩) (by assumption) ?_
          simp only [Act.put, List.setIfInBounds_toArray, List.set_cons_zero, List.set_cons_succ, List.getElem_toArray, List.getElem_cons_zero, List.getElem_cons_succ]
          refine wpAnyH_take (i := 21) (v := undef) rfl (by kernel_rfl) (by kernel_rfl) (by kernel_rfl) (fun _ _ _ h => h) (Or.inr ⟨by rfl, rfl⟩) (by assumption) ?_
          simp only [Act.put, List.setIfInBounds_toArray, List.set_cons_zero, List.set_cons_succ, List.getElem_toArray, List.getElem_cons_zero, List.getElem_cons_succ]
          refine wpAnyH_take (i := 22) (v := undef) rfl (by kernel_rfl) (by kernel_rfl) (by kernel_rfl) (fun _ _ _ h => h) (Or.inr ⟨by rfl, rfl⟩) (by assumption) ?_
          simp only [Act.put, List.setIfInBounds_toArray, List.set_cons_zero, List.set_cons_succ, List.getElem_toArray, List.getElem_cons_zero, List.getElem_cons_succ]
          refine wpAnyH_take (i := 23) (v := undef) rfl (by kernel_rfl) (by kernel_rfl) (by kernel_rfl) (fun _ _ _ h => h) (Or.inr ⟨by rfl, rfl⟩) (by assumption) ?_
          simp only [Act.put, List.setIfInBounds_toArray, List.set_cons_zero, List.set_cons_succ, List.getElem_toArray, List.getElem_cons_zero, List.getElem_cons_succ]
          refine wpAnyH_take (i := 24) (v := undef) rfl (by kernel_rfl) (by kernel_rfl) (by kernel_rfl) (fun _ _ _ h => h) (Or.inr ⟨by rfl, rfl⟩) (by assumption) ?_
          simp only [Act.put, List.setIfInBounds_toArray, List.set_cons_zero, List.set_cons_succ, List.getElem_toArray, List.getElem_cons_zero, List.getElem_cons_succ]
          refine wpAnyH_take (i := 25) (v := undef) rfl (by kernel_rfl) (by kernel_rfl) (by kernel_rfl) (fun _ _ _ h => h) (Or.inr ⟨by rfl, rfl⟩) (by assumption) ?_
          simp only [Act.put, List.setIfInBounds_toArray, List.set_cons_zero, List.set_cons_succ, List.getElem_toArray, List.getElem_cons_zero, List.getElem_cons_succ]
          refine wpAnyH_take (i := 26) (v := undef) rfl (by kernel_rfl) (by kernel_rfl) (by kernel_rfl) (fun _ _ _ h => h) (Or.inr ⟨by rfl, rfl⟩) (by assumption) ?_
          simp only [Act.put, List.setIfInBounds_toArray, List.set_cons_zero, List.set_cons_succ, List.getElem_toArray, List.getElem_cons_zero, List.getElem_cons_succ]
          refine wpAnyH_take (i := 27) (v := undef) rfl (by kernel_rfl) (by kernel_rfl) (by kernel_rfl) (fun _ _ _ h => h) (Or.inr ⟨by rfl, rfl⟩) (by assumption) ?_
          simp only [Act.put, List.setIfInBounds_toArray, List.set_cons_zero, List.set_cons_succ, List.getElem_toArray, List.getElem_cons_zero, List.getElem_cons_succ]
          refine wpAnyH_take (i := 28) (v := undef) rfl (by kernel_rfl) (by kernel_rfl) (by kernel_rfl) (fun _ _ _ h => h) (Or.inr ⟨by rfl, rfl⟩) (by assumption) ?_
          simp only [Act.put, List.setIfInBounds_toArray, List.set_cons_zero, List.set_cons_succ, List.getElem_toArray, List.getElem_cons_zero, List.getElem_cons_succ]
          refine wpAnyH_take (i := 29) (v := undef) rfl (by kernel_rfl) (by kernel_rfl) (by kernel_rfl) (fun _ _ _ h => h) (Or.inr ⟨by rfl, rfl⟩) (by assumption) ?_
          simp only [Act.put, List.setIfInBounds_toArray, List.set_cons_zero, List.set_cons_succ, List.getElem_toArray, List.getElem_cons_zero, List.getElem_cons_succ]
          refine wpAnyH_take (i := 30) (v := undef) rfl (by kernel_rfl) (by kernel_rfl) (by kernel_rfl) (fun _ _ _ h => h) (Or.inr ⟨by rfl, rfl⟩) (by assumption) ?_
          simp only [Act.put, List.setIfInBounds_toArray, List.set_cons_zero, List.set_cons_succ, List.getElem_toArray, List.getElem_cons_zero, List.getElem_cons_succ]
          refine wpAnyH_take (i := 31) (v := undef) rfl (by kernel_rfl) (by kernel_rfl) (by kernel_rfl) (fun _ _ _ h => h) (Or.inr ⟨by rfl, rfl⟩) (by assumption) ?_
          simp only [Act.put, List.setIfInBounds_toArray, List.set_cons_zero, List.set_cons_succ, List.getElem_toArray, List.getElem_cons_zero, List.getElem_cons_succ]
          refine wpAnyH_take (i := 32) (v := undef) rfl (by kernel_rfl) (by kernel_rfl) (by kernel_rfl) (fun _ _ _ h => h) (Or.inr ⟨by rfl, rfl⟩) (by assumption) ?_
          simp only [Act.put, List.setIfInBounds_toArray, List.set_cons_zero, List.set_cons_succ, List.getElem_toArray, List.getElem_cons_zero, List.getElem_cons_succ]
          refine wpAnyH_take (i := 33) (v := ?_) rfl (by kernel_rfl) (by kernel_rfl) (by kernel_rfl) (fun _ _ _ h => h) (Or.inl ⟨by rfl, ?_⟩) (by assumption) ?_
          rotate_left 1
          · ((intro w hSw; (try dsimp only at hSw); go_simp); (try with_reducible rfl))
          simp only [Act.put, List.setIfInBounds_toArray, List.set_cons_zero, List.set_cons_succ, List.getElem_toArray, List.getElem_cons_zero, List.getElem_cons_succ]
          refine wpAnyH_done (by kernel_rfl) ?_ _
          go_wp2_with fail
          go_roundg (gk - 1)
          case measure => omega
          case rel => exact ⟨k + 1, v, by omega, by go_num, rfl, NH2, hu⟩
    · obtain rfl : k = s.L.length := by omega
      have Hb := hidp hb
      clear hb
      go_wp2
      go_ret
      exact ⟨v, rfl, NH.out, Hb.out⟩
end
end Go.Proofs.YtppgameimddimaaGreat

namespace Go.Proofs.YtppgameimddimaaGreat
open Go.ChangeShapes Go.WideShapes Go.ChangeAt Go.RowKit Go.Conc
set_option linter.unusedVariables false
set_option linter.unusedSimpArgs false
def waitUp (s : Ls) (k : Nat) : List Int := ((List.range k).filter fun i => match s.get (i : Nat) with | some a => !a.holds | none => false).map fun i : Nat => (i : Int)
theorem waitUp_hit {s : Ls} {k : Nat} {a : AL} (h : s.get (k : Nat) = some a) (hh : a.holds = false) : waitUp s (k + 1) = waitUp s k ++ [(k : Int)] := by
  unfold waitUp
  rw [List.range_succ, List.filter_append, List.map_append]
  simp [h, hh]
theorem waitUp_miss {s : Ls} {k : Nat} (h : ∀ a, s.get (k : Nat) = some a → a.holds = true) : waitUp s (k + 1) = waitUp s k := by
  unfold waitUp
  rw [List.range_succ, List.filter_append, List.map_append]
  cases hg : s.get (k : Nat) with
  | none => simp [hg]
  | some a => simp [hg, h a hg]
theorem waitUp_len (s : Ls) (k : Nat) : (waitUp s k).length ≤ k := by
  unfold waitUp
  rw [List.length_map]
  exact Nat.le_trans (List.length_filter_le _ _) (by simp)
section
variable {w0 w w' : World} {b c : Nat} {S : SetR} {s : Ls} {A : Option Addr}
set_option maxHeartbeats 4000000 in
theorem rl_waiting (h : Rl w0 w b S s A c) (ho : LsOk s) : Calls Tryz.prog 47 #[.pointer (some ⟨b, 0, none⟩)] w fun e w' => ∃ A n c, e = .returned (.slice A n c) ∧ OwnInts w.heap.size w' A n c (waitS s) ∧ Below w.heap.size w w' := by
  have HR := hidp h
  have c3 : w.cell? ⟨b, 3, none⟩ = some (.slice S.ta S.tasks.length S.tc) := h.blk.cell 3
  have c4 : w.cell? ⟨b, 4, none⟩ = some (.slice A s.L.length c) := h.blk.cell 4
  have hlp : s.prio.length = S.tasks.length := by rw [h.rel.2.1, List.length_map]
  have h6 : S.tasks.length ≤ 6 := by rw [← hlp]; exact ho.n6
  have HW : Hid (waitS s = waitUp s S.tasks.length) := hidp (by
    rw [← hlp]
    unfold waitS waitUp
    congr 1)
  have hcap := h.row.cap
  have hm := hcap.2
  unfold maxLen at hm
  have hb0 : Below w.heap.size w w := Below.refl _ _
  obtain ⟨i0, hi0, hz0, hz1, hz2⟩ := info_parts infoInt
  clear h ho hlp
  go_enter Tryz.func47, Tryz.ntmps47
  go_wp2
  go_loopg [3, 4] S.tasks.length (fun g a i wr => ∃ (k n : Nat) (A : Option Addr) (c : Nat), k + g = S.tasks.length ∧ i = .int .i64 k ∧ a = .slice A n c ∧ n ≤ 6 ∧ OwnInts w.heap.size wr A n c (waitUp s k) ∧ Below w.heap.size w wr)
  case atStart => exact ⟨0, 0, none, 0, by omega, rfl, rfl, by omega, ⟨World.ownsRow_nil _ _ _ _, rfl, Nat.le_refl _, by decide, fun _ => ⟨rfl, rfl⟩⟩, Below.refl _ _⟩
  case round =>
    obtain ⟨k, n, A1, cc, hk, rfl, rfl, hn6, ho, hb⟩ := hrel
    have z3 := Keeps.of_below hb _ _ c3
    have z4 := Keeps.of_below hb _ _ c4
    by_cases hlt : k < S.tasks.length
    · have CA := rl_at (HR.out.over hb) (k : Int)
      have wk1 : IntKind.i64.wrap ((k : Int) + 1) = (k : Int) + 1 := IntWalk.i64_in _ (by omega)
      have kI : (k : Int) < (S.tasks.length : Int) := by omega
      have HBe := hidp hb
      have HO := hidp ho
      have Hwn := hidp ho.2.1
      have hn5 : n + 1 ≤ 6 := by have hwl := waitUp_len s k; have := Hwn.out; omega
      rcases atV_cases s (k : Int) with ⟨j, hj, e1, e2⟩ | ⟨e1, e2⟩
      · obtain ⟨g, hg, x⟩ := HR.out.at_ hj
        obtain ⟨a, Ha⟩ : ∃ a, Hid (s.L.getD j default = a) := ⟨_, hidp rfl⟩
        rw [Ha.out] at x e2
        have y3 := Keeps.of_below hb _ _ x.2.2.2
        rw [hg] at z4
        rw [e1] at CA
        have He2 := hidp e2
        have jI : (j : Int) < (s.L.length : Int) := by omega
        have j0 : (0 : Int) ≤ (j : Int) := by omega
        have dj : decide (s.L.length ≤ j) = false := decide_eq_false (by omega)
        obtain ⟨hh, hhh⟩ : ∃ hh, a.holds = hh := ⟨_, rfl⟩
        rw [hhh] at y3
        have Hhh := hidp hhh
        clear x e1 e2 hhh hb ho hg c3 c4
        cases hh with
        | true =>
          have Hw : Hid (waitUp s (k + 1) = waitUp s k) := hidp (waitUp_miss fun a' h' => by rw [He2.out] at h'; cases h'; exact Hhh.out)
          go_wp2_with fail
          refine CA.mono ?_
          rintro e w' ⟨rfl, rfl⟩
          go_wp2_with fail
          go_roundg (gk - 1)
          case measure => omega
          case rel => exact ⟨k + 1, n, A1, cc, by omega, by go_num, rfl, by omega, by rw [Hw.out]; exact HO.out, HBe.out⟩
        | false =>
          have Hw : Hid (waitUp s (k + 1) = waitUp s k ++ [(k : Int)]) := hidp (waitUp_hit He2.out Hhh.out)
          have L1 := hidp (Lies.new1 wr (.int .i64 (k : Int)) 3)
          have hown2 := HO.out.1.alloc (.cells #[.int .i64 (k : Int)] 3)
          have K1 : Hid (∀ u ∈ [Value.int .i64 (k : Int)], u.oneCell' = true) := hidp (by simp; rfl)
          have K5 : Hid (n + 1 ≤ maxLen) := hidp (by unfold maxLen; omega)
          have K6 : Hid ((n + 1) * 8 ≤ 140737488355328) := hidp (by omega)
          have Hsz : Hid (w.heap.size ≤ (wr.alloc (.cells #[.int .i64 (k : Int)] 3)).heap.size) := hidp (by have := HBe.out.size; simp at this ⊢; omega)
          go_wp2_with fail
          refine CA.mono ?_
          rintro e w' ⟨rfl, rfl⟩
          go_wp2_with (at_builtin; refine wpList_app2 _ rfl (.tmp 32) (.tmp 34) 22 rfl w.heap.size 3 i0 (.int .i64 0) 1 8 Tryz.underlying22 hi0 hz0 hz1 hz2 rfl (by decide) A1 n cc _ rfl hown2 _ _ 1 1 [.int .i64 (k : Int)] rfl (by simp) rfl L1.out K1.out K5.out K6.out Hsz.out ?_; intro A' c' w5 happ)
          go_roundg (gk - 1)
          case measure => omega
          case rel =>
            refine ⟨k + 1, n + 1, A', c', by omega, by go_num, rfl, by omega, ⟨?_, ?_, happ.cap.1, happ.cap.2, happ.nil⟩, ?_⟩
            · rw [Hw.out]; simpa using happ.own
            · rw [Hw.out]; simp; exact Hwn.out
            · exact (HBe.out.alloc HBe.out.size _).trans (happ.turned.below Hsz.out (fun j hj => (own_fp HO.out.1 j hj).1))
      · have Hw : Hid (waitUp s (k + 1) = waitUp s k) := hidp (waitUp_miss fun a' h' => by rw [e2] at h'; cases h')
        rw [e1] at CA
        clear e1 e2 hb ho c3 c4
        go_wp2_with fail
        refine CA.mono ?_
        rintro e w' ⟨rfl, rfl⟩
        go_wp2_with fail
        go_roundg (gk - 1)
        case measure => omega
        case rel => exact ⟨k + 1, n, A1, cc, by omega, by go_num, rfl, by omega, by rw [Hw.out]; exact HO.out, HBe.out⟩
    · obtain rfl : k = S.tasks.length := by omega
      have HB := hidp hb
      have HO := hidp ho
      clear hb ho
      go_wp2
      try rw [Exit.noGoto_ret]
      go_ret
      exact ⟨A1, n, cc, rfl, by rw [HW.out]; exact HO.out, HB.out⟩
end
end Go.Proofs.YtppgameimddimaaGreat

namespace Go.Proofs.YtppgameimddimaaGreat
open Go.ChangeShapes Go.WideShapes Go.ChangeAt Go.RowKit Go.Conc
set_option linter.unusedVariables false
set_option linter.unusedSimpArgs false
section
variable {w0 w w' : World} {b c : Nat} {S : SetR} {s : Ls} {A : Option Addr}
set_option maxHeartbeats 4000000 in
theorem rl_ask_no (h : Rl w0 w b S s A c) {t r : Int} (hc : askC s t r ≠ 0) : Calls Tryz.prog 13 #[.pointer (some ⟨b, 0, none⟩), .int .i64 t, .int .i64 r] w fun e w' => e = .returned (.int .i64 (askC s t r)) ∧ w = w' := by
  have c2 : w.cell? ⟨b, 2, none⟩ = some (.slice S.ha S.homes.length S.hc) := h.blk.cell 2
  have c3 : w.cell? ⟨b, 3, none⟩ = some (.slice S.ta S.tasks.length S.tc) := h.blk.cell 3
  have e2 : (s.prio.length : Int) = (S.tasks.length : Int) := by rw [h.rel.2.1, List.length_map]
  have e5 : (s.homes.length : Int) = (S.homes.length : Int) := by rw [h.rel.2.2.2.2]
  have HR := hidp h
  by_cases h1 : s.has t
  · have t0 : decide (t < 0) = false := decide_eq_false (by unfold Ls.has at h1; omega)
    have t1 : decide (t ≥ (S.tasks.length : Int)) = false := decide_eq_false (by unfold Ls.has at h1; omega)
    have t2 : decide ((S.tasks.length : Int) ≤ t) = false := decide_eq_false (by unfold Ls.has at h1; omega)
    by_cases h2 : s.hasR r
    · have r0 : decide (r < 0) = false := decide_eq_false (by unfold Ls.hasR at h2; omega)
      have r1 : decide (r ≥ (S.homes.length : Int)) = false := decide_eq_false (by unfold Ls.hasR at h2; omega)
      have r2 : decide ((S.homes.length : Int) ≤ r) = false := decide_eq_false (by unfold Ls.hasR at h2; omega)
      have CA := rl_at h t
      rcases atV_cases s t with ⟨j, hj, e1, g1⟩ | ⟨e1, g1⟩
      · have Hv : Hid (askC s t r = 17) := hidp (by unfold askC; rw [if_neg (not_not_intro h1), if_neg (not_not_intro h2), g1]; rfl)
        rw [e1] at CA
        have j0 : (0 : Int) ≤ (j : Int) := by omega
        clear h h1 h2 e1 g1 hc HR e2 e5
        go_enter Tryz.func13, Tryz.ntmps13
        go_wp2_with fail
        refine CA.mono ?_
        rintro e w' ⟨rfl, rfl⟩
        go_wp2_with fail
        go_ret
        exact ⟨ret_int Hv.out.symm, rfl⟩
      · exact absurd (by unfold askC; rw [if_neg (not_not_intro h1), if_neg (not_not_intro h2), g1]; rfl) hc
    · have Hv : Hid (askC s t r = 16) := hidp (by unfold askC; rw [if_neg (not_not_intro h1), if_pos h2])
      by_cases hr0 : r < 0
      · have r0 : decide (r < 0) = true := decide_eq_true hr0
        clear h h1 h2 hc HR e2 e5
        go_enter Tryz.func13, Tryz.ntmps13
        go_wp2_with fail
        go_ret
        exact ⟨ret_int Hv.out.symm, rfl⟩
      · have r0 : decide (r < 0) = false := decide_eq_false hr0
        have r1 : decide (r ≥ (S.homes.length : Int)) = true := decide_eq_true (by unfold Ls.hasR at h2; omega)
        have r2 : decide ((S.homes.length : Int) ≤ r) = true := decide_eq_true (by unfold Ls.hasR at h2; omega)
        clear h h1 h2 hc HR e2 e5
        go_enter Tryz.func13, Tryz.ntmps13
        go_wp2_with fail
        go_ret
        exact ⟨ret_int Hv.out.symm, rfl⟩
  · have Hv : Hid (askC s t r = 14) := hidp (by unfold askC; rw [if_pos h1])
    by_cases ht0 : t < 0
    · have t0 : decide (t < 0) = true := decide_eq_true ht0
      clear h h1 hc HR e2 e5
      go_enter Tryz.func13, Tryz.ntmps13
      go_wp2_with fail
      go_ret
      exact ⟨ret_int Hv.out.symm, rfl⟩
    · have t0 : decide (t < 0) = false := decide_eq_false ht0
      have t1 : decide (t ≥ (S.tasks.length : Int)) = true := decide_eq_true (by unfold Ls.has at h1; omega)
      have t2 : decide ((S.tasks.length : Int) ≤ t) = true := decide_eq_true (by unfold Ls.has at h1; omega)
      clear h h1 hc HR e2 e5
      go_enter Tryz.func13, Tryz.ntmps13
      go_wp2_with fail
      go_ret
      exact ⟨ret_int Hv.out.symm, rfl⟩
end
end Go.Proofs.YtppgameimddimaaGreat

namespace Go.Proofs.YtppgameimddimaaGreat
open Go.ChangeShapes Go.WideShapes Go.ChangeAt Go.RowKit Go.Conc
set_option linter.unusedVariables false
set_option linter.unusedSimpArgs false
theorem leave_L {s : Ls} (ho : LsOk s) {j : Nat} {t : Int} (hj : j < s.L.length) (he : (s.L.getD j default).task = t) : (leaveS s t).L = s.L.take j ++ s.L.drop (j + 1) := by
  have hg : s.L.getD j default = s.L[j] := by simp [List.getD, hj]
  rw [hg] at he
  have hs : s.L = s.L.take j ++ s.L[j] :: s.L.drop (j + 1) := by rw [← List.drop_eq_getElem_cons hj, List.take_append_drop]
  have hn := ho.nd
  rw [hs, List.map_append, List.map_cons, List.nodup_append] at hn
  obtain ⟨_, h2, h3⟩ := hn
  have h4 := (List.nodup_cons.1 h2).1
  have f1 : (s.L.take j).filter (fun a => !(a.task == t)) = s.L.take j := List.filter_eq_self.2 fun a ha => by
    have := h3 a.task (List.mem_map_of_mem ha) s.L[j].task (by simp)
    simpa [← he] using this
  have f2 : (s.L.drop (j + 1)).filter (fun a => !(a.task == t)) = s.L.drop (j + 1) := List.filter_eq_self.2 fun a ha => by
    have : a.task ≠ s.L[j].task := fun e => h4 (e ▸ List.mem_map_of_mem ha)
    simpa [← he] using this
  show s.L.filter _ = _
  conv => lhs; rw [hs]
  rw [List.filter_append, f1, List.filter_cons, if_neg (by simp [he]), f2]
section
variable {w0 w w' : World} {b c : Nat} {S : SetR} {s : Ls} {A : Option Addr}
set_option maxHeartbeats 4000000 in
theorem rl_leave_no (h : Rl w0 w b S s A c) {t : Int} (hc : leaveC s t ≠ 0) : Calls Tryz.prog 18 #[.pointer (some ⟨b, 0, none⟩), .int .i64 t] w fun e w' => e = .returned (.int .i64 (leaveC s t)) ∧ w = w' := by
  have CA := rl_at h t
  rcases atV_cases s t with ⟨j, hj, e1, e2⟩ | ⟨e1, e2⟩
  · exact absurd (by unfold leaveC; rw [e2]; rfl) hc
  · have Hv : Hid (leaveC s t = 13) := hidp (by unfold leaveC; rw [e2]; rfl)
    rw [e1] at CA
    clear h hc e1 e2
    go_enter Tryz.func18, Tryz.ntmps18
    go_wp2_with fail
    refine CA.mono ?_
    rintro e w' ⟨rfl, rfl⟩
    go_wp2_with fail
    go_ret
    exact ⟨ret_int Hv.out.symm, rfl⟩
end
end Go.Proofs.YtppgameimddimaaGreat
