/- LockGates: of a cluster no more than it has cores are let in; who is let in later has a later place. No condition. -/
import Derived.Test.YtlmdiechnidghaaGreatLkJM
import Derived.Test.YtlmdiechnidghaaGreatLkVM
import Derived.Test.YtlmdiechnidghaaGreatCrowd23M
namespace Go.Proofs.YtlmdiechnidghaaGreat
open Go.ChangeShapes Go.WideShapes Go.ChangeAt Go.RowKit Go.Conc
set_option linter.unusedVariables false
set_option linter.unusedSimpArgs false
/-- a scan changes only who holds -/
theorem fold_L (xs : List AL) : ∀ (s : Ls) (l : List Int), ∃ f : AL → AL, (∀ a, (f a).task = a.task ∧ (f a).res = a.res ∧ (f a).place = a.place) ∧ (xs.foldl try1 (s, l)).1.L = s.L.map f := by
  induction xs with
  | nil => exact fun s l => ⟨id, fun a => ⟨rfl, rfl, rfl⟩, by simp⟩
  | cons x xs ih =>
    intro s l
    rw [List.foldl_cons]
    by_cases h : heldS s x.res = true
    · have e : try1 (s, l) x = (s, l) := by unfold try1; rw [if_pos h]
      rw [e]; exact ih s l
    · have e : try1 (s, l) x = (holdS s x.task, l ++ [x.task]) := by unfold try1; rw [if_neg h]
      rw [e]
      obtain ⟨f, h1, h2⟩ := ih (holdS s x.task) (l ++ [x.task])
      refine ⟨f ∘ holdF x.task, fun a => ⟨(h1 _).1.trans (holdF_task _ _), (h1 _).2.1.trans (holdF_res _ _), (h1 _).2.2.trans (holdF_place _ _)⟩, ?_⟩
      rw [h2]
      show (s.L.map (holdF x.task)).map f = _
      rw [List.map_map]
/-- holders are ahead of those that wait for the same -/
def Bl (s : Ls) : Prop := ∀ a ∈ s.L, a.waits = true → ∀ b ∈ s.L, b.holds = true → b.res = a.res → b.place < a.place
theorem waits_iff {a : AL} : a.waits = true ↔ a.holds = false ∧ 0 < a.place := by simp [AL.waits]
theorem fold_bl (xs : List AL) : ∀ (s : Ls) (l : List Int), LsOk s → s.proto ≠ 2 → xs.Pairwise (fun a b => a.place < b.place) → (∀ x ∈ xs, AskIn s x) → Bl s →
    (∀ a ∈ s.L, a.waits = true → (∃ x ∈ xs, x.task = a.task) ∨ (heldS s a.res = true ∧ ∀ x ∈ xs, a.place < x.place)) → Bl (xs.foldl try1 (s, l)).1 ∧ ∀ a ∈ (xs.foldl try1 (s, l)).1.L, a.waits = true → heldS (xs.foldl try1 (s, l)).1 a.res = true := by
  induction xs with
  | nil =>
    intro s l ho hp _ _ hb hw
    refine ⟨hb, fun a ha haw => ?_⟩
    rcases hw a ha haw with ⟨x, hx, _⟩ | h
    · simp at hx
    · exact h.1
  | cons x xs ih =>
    intro s l ho hp hs hx hb hw
    obtain ⟨s1, s2⟩ := List.pairwise_cons.1 hs
    obtain ⟨x0, hx0, e1, e2, e3, e4⟩ := hx x (by simp)
    have hq := try1_ok (l := l) ho (hx x (by simp))
    rw [List.foldl_cons]
    by_cases h : heldS s x.res = true
    · have e : try1 (s, l) x = (s, l) := by unfold try1; rw [if_pos h]
      rw [e]
      refine ih s l ho hp s2 (fun y hy => hx y (List.mem_cons_of_mem _ hy)) hb fun a ha haw => ?_
      rcases hw a ha haw with ⟨y, hy, e5⟩ | ⟨h1, h2⟩
      · rcases List.mem_cons.1 hy with rfl | hy
        · obtain rfl := ho.uniq hx0 ha (e1.trans e5)
          exact .inr ⟨by rw [e2]; exact h, fun z hz => by rw [e3]; exact s1 z hz⟩
        · exact .inl ⟨y, hy, e5⟩
      · exact .inr ⟨h1, fun z hz => h2 z (List.mem_cons_of_mem _ hz)⟩
    · have e : try1 (s, l) x = (holdS s x.task, l ++ [x.task]) := by unfold try1; rw [if_neg h]
      rw [e] at hq ⊢
      have hmem : ∀ a ∈ (holdS s x.task).L, a.waits = true → a ∈ s.L ∧ a.task ≠ x.task := fun a ha haw => by
        obtain ⟨a0, ha0, rfl⟩ := List.mem_map.1 ha
        unfold holdF at haw ⊢
        split at haw
        · simp [AL.waits] at haw
        · rename_i hne
          rw [if_neg hne]
          exact ⟨ha0, hne⟩
      have hh := heldS_hold ho hx0
      rw [e1, e2] at hh
      refine ih (holdS s x.task) (l ++ [x.task]) hq.1 hp s2 (fun y hy => hq.2 y (hx y (List.mem_cons_of_mem _ hy))) (fun a ha haw b hbm hbh hbr => ?_) fun a ha haw => ?_
      · obtain ⟨ha0, hne⟩ := hmem a ha haw
        obtain ⟨b0, hb0, rfl⟩ := List.mem_map.1 hbm
        rw [holdF_res] at hbr
        rw [holdF_place]
        unfold holdF at hbh
        split at hbh
        · rename_i et
          obtain rfl := ho.uniq hb0 hx0 (et.trans e1.symm)
          rcases hw a ha0 haw with ⟨y, hy, e5⟩ | ⟨h1, _⟩
          · rcases List.mem_cons.1 hy with rfl | hy
            · exact absurd e5.symm hne
            · obtain ⟨y0, hy0, f1, _, f3, _⟩ := hx y (List.mem_cons_of_mem _ hy)
              obtain rfl := ho.uniq hy0 ha0 (f1.trans e5)
              have := s1 y hy
              omega
          · rw [← hbr, e2] at h1; exact absurd h1 h
        · exact hb a ha0 haw b0 hb0 hbh hbr
      · obtain ⟨ha0, hne⟩ := hmem a ha haw
        rcases hw a ha0 haw with ⟨y, hy, e5⟩ | ⟨h1, h2⟩
        · rcases List.mem_cons.1 hy with rfl | hy
          · exact absurd e5.symm hne
          · exact .inl ⟨y, hy, e5⟩
        · exact .inr ⟨by rw [hh, h1]; rfl, fun z hz => h2 z (List.mem_cons_of_mem _ hz)⟩
theorem cand_mem {s : Ls} {a : AL} : a ∈ candS s ↔ a ∈ waitG s := (List.mergeSort_perm _ _).mem_iff
theorem cand_inc {s : Ls} (ho : LsOk s) (hp : s.proto ≠ 2) : (candS s).Pairwise (fun a b => a.place < b.place) := by
  have hs : (candS s).Pairwise (fun a b => decide (keyS s a ≤ keyS s b) = true) := List.pairwise_mergeSort (le := fun a b => decide (keyS s a ≤ keyS s b)) (fun a b c h1 h2 => by simp at *; omega) (fun a b => by simp; omega) (waitG s)
  have hn : (candS s).Nodup := by
    have h1 : (waitG s).Nodup := by
      have h2 : s.L.Nodup := by
        have := ho.nd
        unfold List.Nodup at this ⊢
        rw [List.pairwise_map] at this
        exact this.imp fun h e => h (by rw [e])
      exact h2.sublist List.filter_sublist
    exact (List.mergeSort_perm _ _).nodup_iff.2 h1
  refine (List.pairwise_and_iff.2 ⟨hs, hn⟩).imp_of_mem fun {a b} ha hb h => ?_
  have h1 : keyS s a ≤ keyS s b := by simpa using h.1
  have h2 : keyS s a ≠ keyS s b := fun e => h.2 (key_inj ho (cand_mem.1 ha) (cand_mem.1 hb) e)
  unfold keyS at h1 h2
  rw [if_neg hp, if_neg hp] at h1 h2
  omega
/-- behind a grant nobody waits for what is free -/
theorem grant_bl {s : Ls} (ho : LsOk s) (hp : s.proto ≠ 2) (hb : Bl (letS s)) : Bl (grantS s) ∧ ∀ a ∈ (grantS s).L, a.waits = true → heldS (grantS s) a.res = true := by
  have lok := (letS_all ho).1
  have hp2 : (letS s).proto ≠ 2 := by rw [show (letS s).proto = s.proto from (same_place (newS s) s).proto]; exact hp
  refine fold_bl (candS (letS s)) (letS s) [] lok hp2 (cand_inc lok hp2) (fun x hx => candS_in hx) hb fun a ha haw => .inl ⟨a, cand_mem.2 (mem_waitG.2 ⟨ha, waits_iff.1 haw⟩), rfl⟩
structure GtShape (s : Ls) (c : Nat) : Prop where
  proto : s.proto = 3
  prio : s.prio = [6, 5, 4, 3, 2, 1]
  cl : s.cl = [0, 0, 0, 0, 0, 0]
  cores : s.cores = [(c : Int), 1]
  homes : s.homes = [0, 0]
theorem GtShape.same {s s' : Ls} {c : Nat} (h : GtShape s c) (hs : SameLs s s') : GtShape s' c := ⟨hs.proto.trans h.proto, hs.prio.trans h.prio, hs.cl.trans h.cl, hs.cores.trans h.cores, hs.homes.trans h.homes⟩
theorem GtShape.has {s : Ls} {c : Nat} (hs : GtShape s c) (t : Int) : s.has t ↔ 0 ≤ t ∧ t < 6 := by unfold Ls.has; rw [hs.prio]; simp
theorem GtShape.cls {s : Ls} {c : Nat} (hs : GtShape s c) (t : Int) : s.cls t = 0 := by
  unfold Ls.cls
  rw [hs.cl]
  have : t.toNat = 0 ∨ t.toNat = 1 ∨ t.toNat = 2 ∨ t.toNat = 3 ∨ t.toNat = 4 ∨ t.toNat = 5 ∨ 6 ≤ t.toNat := by omega
  rcases this with h | h | h | h | h | h | h
  all_goals first | (rw [h]; rfl) | skip
  simp [List.getD, List.getElem?_eq_none (show [(0 : Int), 0, 0, 0, 0, 0].length ≤ t.toNat by simpa using h)]
/-- the gate: P are let in, in that order, Z stand outside -/
structure GtJ (s : Ls) (c : Nat) (P Z : List AL) : Prop where
  sh : GtShape s c
  ok : LsOk s
  L : s.L = P ++ Z
  pp : ∀ a ∈ P, 0 < a.place
  pz : ∀ a ∈ Z, a.place = 0
  inc : P.Pairwise (fun a b => a.place < b.place)
  pc : P.length ≤ c
  zc : Z.length ≤ 1 ∨ c ≤ P.length + 1
  bl : Bl s
structure GtI (s : Ls) (c : Nat) (P Z : List AL) : Prop where
  j : GtJ s c P Z
  full : Z = [] ∨ P.length = c
  held : ∀ a ∈ s.L, a.waits = true → heldS s a.res = true
section
variable {s : Ls} {c : Nat} {P Z : List AL}
theorem GtJ.outs (h : GtJ s c P Z) : outsS s 0 = Z.map AL.task := by
  unfold outsS
  rw [h.L, List.filter_append, List.filter_eq_nil_iff.2 (fun a ha => by have := h.pp a ha; simp [AL.outAt]; omega), List.filter_eq_self.2 (fun a ha => by simp [AL.outAt, h.pz a ha, h.sh.cls]), List.nil_append]
theorem GtJ.ins (h : GtJ s c P Z) : insS s 0 = P.map AL.task := by
  unfold insS
  rw [h.L, List.filter_append, List.filter_eq_self.2 (fun a ha => by have := h.pp a ha; simp [AL.inAt, h.sh.cls, this]), List.filter_eq_nil_iff.2 (fun a ha => by simp [AL.inAt, h.pz a ha]), List.append_nil]
theorem GtJ.news (h : GtJ s c P Z) : newS s = (((Z.map AL.task).take (min (c - P.length) Z.length)).mergeSort fun x y => decide (x ≤ y)) := by
  unfold newS
  rw [h.sh.cores]
  have o1 : outsS s ((1 : Nat) : Int) = [] := by
    unfold outsS
    rw [List.filter_eq_nil_iff.2 (fun a ha => by simp [AL.outAt, h.sh.cls])]; rfl
  have e : (List.range [(c : Int), 1].length).flatMap (fun k => (outsS s (k : Nat)).take (numS s k)) = (Z.map AL.task).take (min (c - P.length) Z.length) := by
    show (List.range 2).flatMap _ = _
    have : List.range 2 = [0, 1] := rfl
    rw [this]
    simp only [List.flatMap_cons, List.flatMap_nil, List.append_nil, o1, List.take_nil]
    have hn : numS s 0 = min (c - P.length) Z.length := by
      unfold numS
      rw [h.sh.cores]
      show min ((c : Int) - ((insS s 0).length : Int)).toNat (outsS s 0).length = _
      rw [h.outs, h.ins, List.length_map, List.length_map]
      omega
    rw [hn]
    show (outsS s 0).take _ = _
    rw [h.outs]
  rw [e]
/-- the doors have let in who may: one at most -/
theorem GtJ.let_ (h : GtJ s c P Z) : ∃ P2 Z2, GtJ (letS s) c P2 Z2 ∧ (Z2 = [] ∨ P2.length = c) ∧ P2.map AL.task ++ Z2.map AL.task = P.map AL.task ++ Z.map AL.task := by
  have hn := h.news
  have hsm : SameLs s (letS s) := same_place _ s
  have stay : newS s = [] → (Z = [] ∨ P.length = c) → ∃ P2 Z2, GtJ (letS s) c P2 Z2 ∧ (Z2 = [] ∨ P2.length = c) ∧ P2.map AL.task ++ Z2.map AL.task = P.map AL.task ++ Z.map AL.task := fun h1 h2 => by
    have e : letS s = s := by unfold letS; rw [h1]; rfl
    rw [e]
    exact ⟨P, Z, h, h2, rfl⟩
  cases Z with
  | nil => exact stay (by rw [hn]; simp) (.inl rfl)
  | cons z Z' =>
    by_cases hf : P.length = c
    · exact stay (by rw [hn, hf]; simp) (.inr hf)
    · have hpc := h.pc
      have hz := h.zc
      simp only [List.length_cons] at hz hn
      have hm : min (c - P.length) (Z'.length + 1) = 1 := by omega
      rw [hm] at hn
      have hn1 : newS s = [z.task] := by rw [hn]; simp
      have hzm : z ∈ s.L := by rw [h.L]; simp
      have hz0 := h.pz z (by simp)
      have e : letS s = placeS s z.task := by unfold letS; rw [hn1]; rfl
      have hok := (letS_all h.ok).1
      have c0 := h.ok.c0
      have hnd := h.ok.nd
      rw [h.L, List.map_append, List.map_cons] at hnd
      have hnn := List.nodup_append.1 hnd
      have m1 : P.map (placeF z.task (s.count + 1)) = P := (List.map_congr_left fun x hx => by
        unfold placeF
        rw [if_neg (hnn.2.2 _ (List.mem_map_of_mem hx) _ (by simp))]).trans (List.map_id' _)
      have m2 : Z'.map (placeF z.task (s.count + 1)) = Z' := (List.map_congr_left fun x hx => by
        unfold placeF
        rw [if_neg (fun e2 : x.task = z.task => (List.nodup_cons.1 hnn.2.1).1 (by rw [← e2]; exact List.mem_map_of_mem hx))]).trans (List.map_id' _)
      have m3 : placeF z.task (s.count + 1) z = { z with place := s.count + 1 } := by unfold placeF; rw [if_pos rfl]
      have hzh : z.holds = false := by
        cases hb : z.holds with
        | false => rfl
        | true => have := h.ok.hp z hzm hb; omega
      have hL : (letS s).L = (P ++ [{ z with place := s.count + 1 }]) ++ Z' := by
        rw [e]
        show s.L.map _ = _
        rw [h.L, List.map_append, List.map_cons, m1, m2, m3]; simp
      refine ⟨P ++ [{ z with place := s.count + 1 }], Z', ⟨h.sh.same hsm, hok, hL, fun a ha => ?_, fun a ha => h.pz a (List.mem_cons_of_mem _ ha), ?_, by rw [List.length_append, List.length_singleton]; omega, by rw [List.length_append, List.length_singleton]; omega, fun a ha haw b hb hbh hbr => ?_⟩, ?_, by simp⟩
      · rcases List.mem_append.1 ha with h1 | h1
        · exact h.pp a h1
        · simp at h1; subst h1; dsimp only; omega
      · rw [List.pairwise_append]
        refine ⟨h.inc, by simp, fun a ha b hb => ?_⟩
        simp at hb
        subst hb
        have := (h.ok.pl a (by rw [h.L]; simp [ha])).2
        dsimp only; omega
      · rw [hL] at ha hb
        have hbP : b ∈ P := by
          simp only [List.mem_append, List.mem_singleton] at hb
          rcases hb with (h1 | h1) | h1
          · exact h1
          · subst h1; rw [show ({ z with place := s.count + 1 } : AL).holds = z.holds from rfl, hzh] at hbh; cases hbh
          · have := h.ok.hp b (by rw [h.L]; simp [h1]) hbh
            have := h.pz b (List.mem_cons_of_mem _ h1); omega
        have hbm : b ∈ s.L := by rw [h.L]; simp [hbP]
        simp only [List.mem_append, List.mem_singleton] at ha
        rcases ha with (h1 | h1) | h1
        · exact h.bl a (by rw [h.L]; simp [h1]) haw b hbm hbh hbr
        · subst h1
          have := (h.ok.pl b hbm).2
          dsimp only; omega
        · have := (waits_iff.1 haw).2
          have := h.pz a (List.mem_cons_of_mem _ h1); omega
      · rw [List.length_append, List.length_singleton]
        rcases hz with h1 | h1
        · left; exact List.eq_nil_of_length_eq_zero (by omega)
        · right; omega
theorem GtJ.grant (h : GtJ s c P Z) : ∃ P2 Z2, GtI (grantS s) c P2 Z2 ∧ (grantS s).L.map AL.task = s.L.map AL.task := by
  obtain ⟨P1, Z1, h1, h2, h3⟩ := h.let_
  have hp : s.proto ≠ 2 := by rw [h.sh.proto]; decide
  obtain ⟨g1, g2⟩ := grant_bl h.ok hp h1.bl
  obtain ⟨f, hf, hL⟩ := fold_L (candS (letS s)) (letS s) []
  have hL2 : (grantS s).L = P1.map f ++ Z1.map f := by
    show (grantP s).1.L = _
    unfold grantP
    rw [hL, h1.L, List.map_append]
  have et : ∀ l : List AL, (l.map f).map AL.task = l.map AL.task := fun l => by
    rw [List.map_map]; exact List.map_congr_left fun a _ => (hf a).1
  refine ⟨P1.map f, Z1.map f, ⟨⟨h.sh.same (same_grant s), h.ok.grant, hL2, fun a ha => ?_, fun a ha => ?_, ?_, by rw [List.length_map]; exact h1.pc, by rw [List.length_map, List.length_map]; exact h1.zc, g1⟩, ?_, g2⟩, ?_⟩
  · obtain ⟨x, hx, rfl⟩ := List.mem_map.1 ha
    rw [(hf x).2.2]; exact h1.pp x hx
  · obtain ⟨x, hx, rfl⟩ := List.mem_map.1 ha
    rw [(hf x).2.2]; exact h1.pz x hx
  · rw [List.pairwise_map]
    exact h1.inc.imp fun hab => by rw [(hf _).2.2, (hf _).2.2]; exact hab
  · rw [List.length_map]
    rcases h2 with rfl | h2
    · exact .inl rfl
    · exact .inr h2
  · rw [hL2, List.map_append, et, et, h3, h.L, List.map_append]
theorem GtI.ask (h : GtI s c P Z) {t : Int} (ht : s.has t) (hn : s.get t = none) {r : Int} (hr : 0 ≤ r ∧ r < 2) : askC s t r = 0 ∧ GtJ (askS s t r) c P (Z ++ [⟨t, r, 0, false⟩]) ∧ (askS s t r).L.map AL.task = s.L.map AL.task ++ [t] := by
  have h2 : s.hasR r := by unfold Ls.hasR; rw [h.j.sh.homes]; simp; omega
  have hc : askC s t r = 0 := by unfold askC; rw [if_neg (by simpa using ht), if_neg (by simpa using h2), hn]; rfl
  have he : askS s t r = askN s t r := by unfold askS; rw [if_pos hc]
  have hs : SameLs s (askN s t r) := by unfold askN; split <;> exact ⟨rfl, rfl, rfl, rfl, rfl⟩
  have hL : (askN s t r).L = s.L ++ [⟨t, r, 0, false⟩] := by unfold askN; rw [if_pos h.j.sh.proto]
  rw [he]
  refine ⟨hc, ⟨h.j.sh.same hs, h.j.ok.ask ht h2 hn, by rw [hL, h.j.L, List.append_assoc], h.j.pp, fun a ha => ?_, h.j.inc, h.j.pc, ?_, fun a ha haw b hb hbh hbr => ?_⟩, by rw [hL, List.map_append]; rfl⟩
  · rcases List.mem_append.1 ha with h1 | h1
    · exact h.j.pz a h1
    · simp at h1; subst h1; rfl
  · rcases h.full with rfl | h1
    · left; simp
    · right; omega
  · rw [hL] at ha hb
    have ha2 : a ∈ s.L := by
      rcases List.mem_append.1 ha with h1 | h1
      · exact h1
      · simp at h1; subst h1; simp [AL.waits] at haw
    have hb2 : b ∈ s.L := by
      rcases List.mem_append.1 hb with h1 | h1
      · exact h1
      · simp at h1; subst h1; cases hbh
    exact h.j.bl a ha2 haw b hb2 hbh hbr
theorem filter_len {P : List AL} (hn : (P.map AL.task).Nodup) {a : AL} (ha : a ∈ P) : (P.filter fun x => !(x.task == a.task)).length + 1 = P.length := by
  induction P with
  | nil => simp at ha
  | cons x P ih =>
    rw [List.map_cons, List.nodup_cons] at hn
    by_cases e : x.task = a.task
    · rw [List.filter_cons_of_neg (by simp [e]), List.filter_eq_self.2]
      · rfl
      · intro y hy
        have : y.task ≠ a.task := fun e2 => hn.1 (by rw [e, ← e2]; exact List.mem_map_of_mem hy)
        simpa using this
    · rw [List.filter_cons_of_pos (by simp [e])]
      have ha2 : a ∈ P := by
        rcases List.mem_cons.1 ha with rfl | h
        · exact absurd rfl e
        · exact h
      have := ih hn.2 ha2
      simp; omega
theorem GtI.leave (h : GtI s c P Z) {a : AL} (ha : a ∈ P) : leaveC s a.task = 0 ∧ GtJ (leaveS s a.task) c (P.filter fun x => !(x.task == a.task)) Z := by
  have ham : a ∈ s.L := by rw [h.j.L]; simp [ha]
  have hg := h.j.ok.get_of ham
  have hnd := h.j.ok.nd
  rw [h.j.L, List.map_append] at hnd
  have hnn := List.nodup_append.1 hnd
  have hZ : (Z.filter fun x => !(x.task == a.task)) = Z := List.filter_eq_self.2 fun y hy => by
    have : y.task ≠ a.task := fun e => hnn.2.2 _ (List.mem_map_of_mem ha) _ (List.mem_map_of_mem hy) e.symm
    simpa using this
  have hl := filter_len hnn.1 ha
  refine ⟨by unfold leaveC; rw [hg]; rfl, h.j.sh.same (same_leave s _), h.j.ok.leave _, ?_, fun b hb => h.j.pp b (List.mem_filter.1 hb).1, h.j.pz, h.j.inc.sublist List.filter_sublist, by have := h.j.pc; omega, ?_, fun x hx hxw b hb => h.j.bl x (List.mem_filter.1 hx).1 hxw b (List.mem_filter.1 hb).1⟩
  · show s.L.filter _ = _
    rw [h.j.L, List.filter_append, hZ]
  · rcases h.full with rfl | h1
    · left; simp
    · right; omega
/-- the first that asked holds -/
theorem GtI.first (h : GtI s c P Z) (hc : 1 ≤ c) {a : AL} {l : List AL} (hL : s.L = a :: l) : a.holds = true := by
  have hP : P ≠ [] := by
    intro e
    have h1 := h.full
    have h2 := h.j.L
    rw [e] at h1 h2
    rcases h1 with h1 | h1
    · rw [h1] at h2; rw [hL] at h2; simp at h2
    · simp at h1; omega
  obtain ⟨x, P', rfl⟩ := List.exists_cons_of_ne_nil hP
  have h2 := h.j.L
  rw [hL] at h2
  obtain ⟨rfl, _⟩ := List.cons.inj h2
  cases hb : a.holds with
  | true => rfl
  | false =>
    have hw : a.waits = true := waits_iff.2 ⟨hb, h.j.pp a (by simp)⟩
    have ham : a ∈ s.L := by rw [hL]; simp
    obtain ⟨b, hbm, hbh, hbr⟩ := heldS_true.1 (h.held a ham hw)
    have hbr2 : b.res = a.res := by
      unfold sameK at hbr
      rw [h.j.sh.proto] at hbr
      simpa using hbr
    have h3 := h.j.bl a ham hw b hbm hbh hbr2
    have hbp := h.j.ok.hp b hbm hbh
    rw [h.j.L] at hbm
    rcases List.mem_append.1 hbm with h4 | h4
    · rcases List.mem_cons.1 h4 with rfl | h4
      · omega
      · have := (List.pairwise_cons.1 h.j.inc).1 b h4
        omega
    · have := h.j.pz b h4; omega
/-- who holds is one of the first c -/
theorem GtI.early (h : GtI s c P Z) {k : Nat} (hk : k < s.L.length) (hh : (s.L.getD k ⟨0, 0, 0, false⟩).holds = true) : k < c := by
  have hm : s.L.getD k ⟨0, 0, 0, false⟩ ∈ s.L := by simp [List.getD, hk]
  have hp := h.j.ok.hp _ hm hh
  by_cases e : k < P.length
  · have := h.j.pc; omega
  · exfalso
    have : s.L.getD k ⟨0, 0, 0, false⟩ ∈ Z := by
      rw [h.j.L] at hk ⊢
      rw [List.length_append] at hk
      have e2 : (P ++ Z).getD k ⟨0, 0, 0, false⟩ = Z.getD (k - P.length) ⟨0, 0, 0, false⟩ := by
        simp [List.getD, List.getElem?_append_right (show P.length ≤ k by omega)]
      rw [e2]
      simp [List.getD, show k - P.length < Z.length by omega]
    have := h.j.pz _ this
    omega
/-- two hold at most -/
theorem GtI.two (h : GtI s c P Z) : (s.L.filter AL.holds).length ≤ 2 := by
  have h1 := len_sub (l := (s.L.filter AL.holds).map AL.res) (m := [0, 1]) ?_ fun x hx => ?_
  · simpa using h1
  · have hn : (s.L.filter AL.holds).Nodup := by
      have h2 : s.L.Nodup := by
        have := h.j.ok.nd
        unfold List.Nodup at this ⊢
        rw [List.pairwise_map] at this
        exact this.imp fun h e => h (by rw [e])
      exact h2.sublist List.filter_sublist
    unfold List.Nodup
    rw [List.pairwise_map]
    refine (show (s.L.filter AL.holds).Pairwise (· ≠ ·) from hn).imp_of_mem fun {a b} ha hb hne e => hne ?_
    have ha' := List.mem_filter.1 ha
    have hb' := List.mem_filter.1 hb
    exact h.j.ok.uniq ha'.1 hb'.1 (h.j.ok.ex a ha'.1 b hb'.1 ha'.2 hb'.2 (by rw [e]; exact sameK_refl _ _))
  · obtain ⟨a, ha, rfl⟩ := List.mem_map.1 hx
    have := h.j.ok.rs a (List.mem_filter.1 ha).1
    unfold Ls.hasR at this
    rw [h.j.sh.homes] at this
    simp at this ⊢
    omega
theorem GtJ.count (h : GtJ s c P Z) : (grantS s).count ≤ s.count + 1 := by
  have e : (grantS s).count = s.count + (newS s).length := by
    unfold grantS grantP
    rw [count_try]
    exact count_fold _ _
  have h1 : (newS s).length ≤ 1 := by
    rw [h.news, List.length_mergeSort, List.length_take, List.length_map]
    have := h.zc
    have := h.pc
    omega
  omega
/-- how many of the first k hold -/
def holdN (s : Ls) (k : Nat) : Nat := ((s.L.take k).filter AL.holds).length
theorem holdN_next {k : Nat} (hk : k < s.L.length) : holdN s (k + 1) = holdN s k + if (s.L.getD k ⟨0, 0, 0, false⟩).holds = true then 1 else 0 := by
  unfold holdN
  have e : s.L.getD k ⟨0, 0, 0, false⟩ = s.L[k] := by simp [List.getD, hk]
  rw [List.take_succ_eq_append_getElem hk, List.filter_append, List.length_append, e]
  congr 1
  cases hb : s.L[k].holds <;> simp [hb]
theorem GtI.few (h : GtI s c P Z) : holdN s s.L.length ≤ c ∧ holdN s s.L.length ≤ 2 := by
  unfold holdN
  rw [List.take_length]
  refine ⟨?_, h.two⟩
  have hz : Z.filter AL.holds = [] := List.filter_eq_nil_iff.2 fun a ha hb => by
    have := h.j.ok.hp a (by rw [h.j.L]; simp [ha]) hb
    have := h.j.pz a ha
    omega
  rw [h.j.L, List.filter_append, hz, List.append_nil]
  exact Nat.le_trans (List.length_filter_le AL.holds P) h.j.pc
theorem GtI.some (h : GtI s c P Z) (hc : 1 ≤ c) (hl : 0 < s.L.length) : 1 ≤ holdN s s.L.length ∧ (s.L.getD 0 ⟨0, 0, 0, false⟩).holds = true := by
  cases hL : s.L with
  | nil => rw [hL] at hl; simp at hl
  | cons a l =>
    have := h.first hc hL
    refine ⟨?_, this⟩
    unfold holdN
    rw [hL, List.take_length, List.filter_cons_of_pos this]
    simp
theorem LsOk.holds_at (ho : LsOk s) {k : Nat} (hk : k < s.L.length) : holdsS s ((s.L.map AL.task).getD k 0) = (s.L.getD k ⟨0, 0, 0, false⟩).holds ∧ (let b := boostS s ((s.L.map AL.task).getD k 0); 0 ≤ b ∧ (s.proto = 3 → b ≤ s.count)) := by
  have e : (s.L.map AL.task).getD k 0 = s.L[k].task := by simp [List.getD, hk]
  have e2 : s.L.getD k ⟨0, 0, 0, false⟩ = s.L[k] := by simp [List.getD, hk]
  have hm : s.L[k] ∈ s.L := List.getElem_mem _
  have hp := ho.pl _ hm
  have hc := ho.c0
  rw [e, e2]
  unfold holdsS boostS
  rw [ho.get_of hm]
  refine ⟨rfl, ?_⟩
  dsimp only
  split
  · split
    · refine ⟨by omega, fun h => by omega⟩
    · exact ⟨hp.1, fun _ => hp.2⟩
  · exact ⟨by omega, fun _ => by omega⟩
/-- who stands at k among the first of them is let in -/
theorem GtI.at_ (h : GtI s c P Z) {k : Nat} (hk : k < s.L.length) (hkc : k < c) : ∃ a ∈ P, (s.L.map AL.task).getD k 0 = a.task ∧ (leaveS s a.task).L.map AL.task = (s.L.map AL.task).take k ++ (s.L.map AL.task).drop (k + 1) := by
  have hkP : k < P.length := by
    rcases h.full with e | e
    · have := h.j.L; rw [e, List.append_nil] at this; rw [← this]; exact hk
    · omega
  have e : s.L[k] = P[k] := by
    have := h.j.L
    simp only [this]
    rw [List.getElem_append_left hkP]
  refine ⟨P[k], List.getElem_mem _, by simp [List.getD, hk, e], ?_⟩
  rw [← e]
  show (s.L.filter fun a => !(a.task == s.L[k].task)).map AL.task = _
  have hnd := h.j.ok.nd
  have e3 : (s.L.filter fun a => !(a.task == s.L[k].task)).map AL.task = (s.L.map AL.task).filter fun x => !(x == s.L[k].task) := by rw [List.filter_map]; rfl
  rw [e3]
  have hk2 : k < (s.L.map AL.task).length := by simpa using hk
  have e4 : s.L[k].task = (s.L.map AL.task)[k] := by simp
  rw [e4]
  have key : ∀ (l : List Int), l.Nodup → ∀ (k : Nat) (hk : k < l.length), (l.filter fun x => !(x == l[k])) = l.take k ++ l.drop (k + 1) := fun l hn k hk => by
    have hs : l = l.take k ++ l[k] :: l.drop (k + 1) := by rw [← List.drop_eq_getElem_cons hk, List.take_append_drop]
    have hn2 : (l.take k ++ l[k] :: l.drop (k + 1)).Nodup := by rw [← hs]; exact hn
    have hn3 := List.nodup_append.1 hn2
    generalize hx : l[k] = x at *
    conv => lhs; rw [hs]
    rw [List.filter_append, List.filter_cons_of_neg (by simp), List.filter_eq_self.2, List.filter_eq_self.2]
    · intro y hy
      have : y ≠ x := fun e => (List.nodup_cons.1 hn3.2.1).1 (by rw [← e]; exact hy)
      simpa using this
    · intro y hy
      have : y ≠ x := fun e => hn3.2.2 y hy x (by simp) e
      simpa using this
  exact key _ hnd k hk2
end
end Go.Proofs.YtlmdiechnidghaaGreat

namespace Go.Proofs.YtlmdiechnidghaaGreat
open Go.ChangeShapes Go.WideShapes Go.ChangeAt Go.RowKit Go.Conc
set_option linter.unusedVariables false
set_option linter.unusedSimpArgs false
theorem crowd_lsG {S : SetR} {p c : Int} (h : CrowdS S p c) (hp : 1 ≤ p ∧ p ≤ 3) (hc : 1 ≤ c ∧ c ≤ 3) : lsOf S = ⟨p, [6, 5, 4, 3, 2, 1], [0, 0, 0, 0, 0, 0], [c, 1], [0, 0], [], 0⟩ ∧ LsOk (lsOf S) := by
  have hok := h.okS hp hc
  have hls : lsOf S = lsNew S := by unfold lsOf; rw [if_pos hok]
  refine ⟨?_, by rw [hls]; exact lsNew_ok (Good.of hok)⟩
  rw [hls]
  obtain ⟨p1, p2, p3, pl, p4⟩ := h
  have q1 : S.tasks.map TaskR.prio = [6, 5, 4, 3, 2, 1] := by
    refine List.ext_getElem (by simp [pl]) fun i h1 h2 => ?_
    have hi : i < S.tasks.length := by simpa using h1
    obtain ⟨a, c, e⟩ := p4 i hi
    have e2 : S.tasks[i] = S.tasks.getD i default := by simp [List.getD, hi]
    rw [List.getElem_map, e2, e]
    have : i = 0 ∨ i = 1 ∨ i = 2 ∨ i = 3 ∨ i = 4 ∨ i = 5 := by omega
    rcases this with rfl | rfl | rfl | rfl | rfl | rfl <;> rfl
  have q2 : S.tasks.map TaskR.cl = [0, 0, 0, 0, 0, 0] := by
    refine List.ext_getElem (by simp [pl]) fun i h1 h2 => ?_
    have hi : i < S.tasks.length := by simpa using h1
    obtain ⟨a, c, e⟩ := p4 i hi
    have e2 : S.tasks[i] = S.tasks.getD i default := by simp [List.getD, hi]
    rw [List.getElem_map, e2, e]
    have : i = 0 ∨ i = 1 ∨ i = 2 ∨ i = 3 ∨ i = 4 ∨ i = 5 := by omega
    rcases this with rfl | rfl | rfl | rfl | rfl | rfl <;> rfl
  unfold lsNew
  rw [p1, p2, p3, q1, q2]
theorem gt_start {S : SetR} {c : Nat} (h : CrowdS S 3 (c : Int)) (hc : 1 ≤ c ∧ c ≤ 3) : GtI (lsOf S) c [] [] ∧ (lsOf S).count = 0 ∧ (lsOf S).L = [] := by
  obtain ⟨e, ho⟩ := crowd_lsG h (by decide) (by omega)
  rw [e] at ho ⊢
  exact ⟨⟨⟨⟨rfl, rfl, rfl, rfl, rfl⟩, ho, rfl, by simp, by simp, by simp, by simp, by simp, by simp [Bl]⟩, .inl rfl, by simp⟩, rfl, rfl⟩
theorem cut_lies {B : Nat} {w : World} {g c k : Nat} {zs : List Int} (h : Lies B w (some ⟨g, 0, none⟩) (zs.map (Value.int .i64))) (hkn : k + 1 ≤ zs.length) (hn : zs.length ≤ c) : ∃ A1, (if c = k + 1 then some (⟨g, 0, none⟩ : Addr) else some ⟨g, k + 1, none⟩) = A1 ∧ A1 ≠ none ∧ Lies B w A1 ((zs.drop (k + 1)).map (Value.int .i64)) := by
  by_cases e : c = k + 1
  · refine ⟨_, rfl, by rw [if_pos e]; simp, .inl ?_⟩
    rw [List.drop_eq_nil_of_le (by omega)]; rfl
  · refine ⟨_, rfl, by rw [if_neg e]; simp, ?_⟩
    rw [if_neg e]
    have := h.drop (k + 1)
    rw [List.map_drop]
    simpa using this
end Go.Proofs.YtlmdiechnidghaaGreat
set_option maxHeartbeats 8000000
set_option maxRecDepth 100000
namespace Go.Proofs.YtlmdiechnidghaaGreat.lockGates
open Go.ChangeShapes Go.WideShapes Go.ChangeAt Go.RowKit
open Go.ChangeMaps (open_string shut_string)
set_option linter.unusedVariables false

/-- THE WALK: the Go text returns true, and writes nothing that was there. -/
theorem walk (a0 : Option Addr) (len0 cap0 : Nat) (z0 : List Int) (a1 : Int) (w : World) (w0 : IsRow .u8 w a0 len0 cap0 z0) (w1 : (Lit.int .u8 a1).wf = true) :
    Calls Tryz.prog 7 #[.slice a0 len0 cap0, .int .u8 a1] w fun e w' => e = .returned (.bool true) ∧ Below w.heap.size w w' := by
  obtain ⟨r1, r2, r3, r4⟩ := w0.row
  obtain ⟨us, hus⟩ : ∃ l, z0.take len0 = l := ⟨_, rfl⟩
  rw [hus] at r1 r2 r4
  subst r2
  have HU := hidp r1
  have HUb : Hid (∀ k, k < us.length → 0 ≤ us.getD k 0 ∧ us.getD k 0 ≤ 255) := hidp (fun k hk => u8_bd r4 k hk)
  have m1 : us.length ≤ maxLen := r3
  unfold maxLen at m1
  obtain ⟨wh, hwh⟩ : ∃ n : Nat, a1 = n := nat_u8 w1
  have wh255 : wh ≤ 255 := u8_le w1 hwh
  subst hwh
  obtain ⟨m3, hm3⟩ : ∃ m3, wh % 3 = m3 := ⟨_, rfl⟩
  have hm3l : m3 < 3 := by rw [← hm3]; exact Nat.mod_lt _ (by omega)
  have t3 : (wh : Int).tmod 3 = (m3 : Int) := by rw [Int.tmod_eq_emod_of_nonneg (by omega), ← hm3]; simp
  obtain ⟨c, hc⟩ : ∃ c, m3 + 1 = c := ⟨_, rfl⟩
  have hcI : (m3 : Int) + 1 = (c : Int) := by omega
  have hc1 : 1 ≤ c := by omega
  have hc3 : c ≤ 3 := by omega
  have hb := Below.refl w.heap.size w
  obtain ⟨i0, hi0, hz0, hz1, hz2⟩ := info_parts infoInt
  clear w0 w1 r1 r4 hus hm3 hc
  by_cases h30 : 30 < us.length
  · go_enter Tryz.func7, Tryz.ntmps7
    go_wp2_with fail
    refine (known23_any _).mono ?_
    rintro e u1 ⟨rfl, hb2⟩
    replace hb := hb.trans (hb2.mono hb.size)
    clear hb2
    go_wp2_with fail
    go_ret
    exact ⟨rfl, hb⟩
  go_enter Tryz.func7, Tryz.ntmps7
  go_wp2_with fail
  refine (known23_any _).mono ?_
  rintro e u1 ⟨rfl, hb2⟩
  replace hb := hb.trans (hb2.mono hb.size)
  clear hb2
  have HB1 := hidp hb
  clear hb
  go_wp2_with fail
  refine (crowd23_any 3 (c : Int) u1 (by decide) (by unfold I64; omega)).mono ?_
  rintro e u2 ⟨⟨S, rfl, hs, hS⟩, hb2⟩
  have CN := li_new u1 u2 S hs hb2
  obtain ⟨i1, c0, l00⟩ := gt_start hS ⟨hc1, hc3⟩
  have HI0 := hidp i1
  have HC0 := hidp c0
  have HL0 := hidp l00
  clear hs hS hb2 i1 c0 l00
  go_wp2_with fail
  refine CN.mono ?_
  rintro e u3 ⟨bl, F, rfl, l0, _, _, _⟩
  have HBa := hidp (HB1.out.trans (l0.below.mono HB1.out.size))
  have L0 := hidp l0
  have HW1 : Hid (w.heap.size ≤ u1.heap.size) := hidp HB1.out.size
  clear CN l0
  go_wp2
  go_loopg [7, 8, 9] us.length (fun g av lv iv wr => ∃ (i : Nat) (s : Ls) (F : List Nat) (P Z : List AL) (A : Option Addr) (n cc : Nat) (last : Int), i + g = us.length ∧ iv = .int .i64 i ∧ av = .slice A n cc ∧ lv = .int .i64 last ∧ Hid (GtI s c P Z) ∧ Hid (s.count ≤ (i : Int)) ∧ Hid (0 ≤ last ∧ last ≤ (us.length : Int)) ∧ Hid (LxI u1 wr bl s F) ∧ Hid (OwnInts u1.heap.size wr A n cc (s.L.map AL.task)) ∧ Hid (∀ q ∈ bl :: F, q ∉ fp A) ∧ Hid (Below w.heap.size w wr))
  case atStart => exact ⟨0, lsOf S, F, [], [], none, 0, 0, 0, by omega, rfl, rfl, rfl, HI0, hidp (by rw [HC0.out]; decide), hidp ⟨by omega, by omega⟩, L0, hidp (by rw [HL0.out]; exact ⟨World.ownsRow_nil _ _ _ _, rfl, Nat.le_refl _, by decide, fun _ => ⟨rfl, rfl⟩⟩), hidp (by simp [fp]), HBa⟩
  case round =>
    clear HI0 HC0 L0 HBa HL0
    obtain ⟨i, s, F, P, Z, A, n, cc, last, hi, rfl, rfl, rfl, HI0, HC, HLA, L, O, AP, HB⟩ := hrel
    have Hi := hidp hi
    by_cases hlt : i < us.length
    · obtain ⟨gu, ou, hAU, hcu⟩ := HU.out.resolve_left (by intro e; rw [e] at hlt; simp at hlt)
      subst hAU
      obtain ⟨x, Hx⟩ : ∃ x, Hid (us.getD i 0 = x) := ⟨_, rfl⟩
      have hx := HUb.out i hlt
      rw [Hx.out] at hx
      obtain ⟨x0, x1⟩ := hx
      have cu := (Keeps.of_below HB.out) _ _ (Hx.out ▸ hcu i hlt)
      obtain ⟨y6, hy6⟩ : ∃ y, x.tmod 6 = y := ⟨_, rfl⟩
      have y60 : 0 ≤ y6 := by rw [← hy6]; exact Int.tmod_nonneg _ x0
      have y61 : y6 < 6 := by rw [← hy6]; exact Int.tmod_lt_of_pos _ (by decide)
      obtain ⟨y4, hy4⟩ : ∃ y, x.tmod 4 = y := ⟨_, rfl⟩
      have y40 : 0 ≤ y4 := by rw [← hy4]; exact Int.tmod_nonneg _ x0
      obtain ⟨q6, hq6⟩ : ∃ y, x.tdiv 6 = y := ⟨_, rfl⟩
      have q60 : 0 ≤ q6 := by rw [← hq6, Int.tdiv_eq_ediv_of_nonneg x0]; omega
      have q61 : q6 ≤ 42 := by rw [← hq6, Int.tdiv_eq_ediv_of_nonneg x0]; omega
      obtain ⟨r, hr⟩ : ∃ y, q6.tmod 2 = y := ⟨_, rfl⟩
      have r0 : 0 ≤ r := by rw [← hr]; exact Int.tmod_nonneg _ q60
      have r1 : r < 2 := by rw [← hr]; exact Int.tmod_lt_of_pos _ (by decide)
      obtain ⟨q4, hq4⟩ : ∃ y, x.tdiv 4 = y := ⟨_, rfl⟩
      have q40 : 0 ≤ q4 := by rw [← hq4, Int.tdiv_eq_ediv_of_nonneg x0]; omega
      have q41 : q4 ≤ 63 := by rw [← hq4, Int.tdiv_eq_ediv_of_nonneg x0]; omega
      have d3 : decide (us.length ≤ i) = false := decide_eq_false (by omega)
      have hi30 : i < 30 := by omega
      have jI : (i : Int) < (us.length : Int) := by omega
      have hnl : n = s.L.length := by have := O.out.2.1; simpa using this
      have hn6 : n ≤ 6 := by have := tasks_le HI0.out.j.ok; have := HI0.out.j.ok.n6; omega
      have Hnl := hidp hnl
      have hcap := O.out.2.2.1
      have hncc : n ≤ cc := by have := O.out.2.1; omega
      clear hcu hi hnl
      by_cases hA : y4 = 0 ∧ 0 < n
      · obtain ⟨rfl, h0⟩ := hA
        obtain ⟨mn, hmn⟩ : ∃ mn : Nat, min n c = mn := ⟨_, rfl⟩
        have hmI : min (n : Int) (c : Int) = (mn : Int) := by omega
        have hmI2 : (if (n : Int) < (c : Int) then (n : Int) else (c : Int)) = (mn : Int) := by split <;> omega
        have hmI3 : (if (n : Int) ≤ (c : Int) then (n : Int) else (c : Int)) = (mn : Int) := by split <;> omega
        have hm0 : ¬ mn = 0 := by omega
        have hm0I : ¬ (mn : Int) = 0 := by omega
        obtain ⟨k, hk, hkm⟩ : ∃ k : Nat, q4.tmod (mn : Int) = (k : Int) ∧ k < mn := by
          have e1 := Int.tmod_nonneg (mn : Int) q40
          have e2 := Int.tmod_lt_of_pos q4 (show (0 : Int) < mn by omega)
          exact ⟨(q4.tmod (mn : Int)).toNat, by omega, by omega⟩
        have hkn : k < n := by omega
        obtain ⟨a, haP, hta, htk⟩ := HI0.out.at_ (k := k) (by have := Hnl.out; omega) (by omega)
        obtain ⟨e1, j1⟩ := HI0.out.leave haP
        obtain ⟨g, hg, ck⟩ := own_cell O.out (i := k) (by have := Hnl.out; simp; omega)
        rw [hta] at ck
        have CL := li_leave L.out a.task
        rw [e1] at CL
        have HJ := hidp j1
        have HTk := hidp htk
        have Hmn := hidp hmn
        have dk : decide (n ≤ k) = false := decide_eq_false (by omega)
        obtain ⟨ta, hta2⟩ : ∃ ta, a.task = ta := ⟨_, rfl⟩
        rw [hta2] at CL ck HJ HTk
        have HG := hidp hg
        clear hta hta2 htk e1 j1 haP hmn
        subst hg
        go_wp2_with fail
        refine CL.mono ?_
        rintro e wx ⟨rfl, F2, l2, st2⟩
        obtain ⟨o2, ap2⟩ := st2.row O.out AP.out
        obtain ⟨zs, hzs⟩ : ∃ zs, s.L.map AL.task = zs := ⟨_, rfl⟩
        rw [hzs] at o2 HTk
        have hzl : zs.length = n := by have := o2.2.1; omega
        have hlies : Lies wx.heap.size wx (some ⟨g, 0, none⟩) (zs.map (Value.int .i64)) := Lies.of_own o2.1
        obtain ⟨A1, hA1, hA1n, hcut⟩ := cut_lies (k := k) (c := cc) hlies (by omega) (by omega)
        have Hcut := hidp hcut
        have Hlies := hidp hlies
        have S1 := hidp (hlies.take k).drew
        have Lq1 : Hid (((zs.map (Value.int .i64)).take k).length = k * 1) := hidp (by simp; omega)
        have Oq1 : Hid (∀ u ∈ (zs.map (Value.int .i64)).take k, u.oneCell' = true) := hidp fun u hu => by obtain ⟨n, _, rfl⟩ := List.mem_map.1 (List.mem_of_mem_take hu); rfl
        have M1 : Hid (0 + k ≤ maxLen) := hidp (by unfold maxLen; omega)
        have N1 : Hid ((0 + k) * 8 ≤ 140737488355328) := hidp (by omega)
        have S2 := hidp Hcut.out.drew
        have hwr : IntKind.i64.wrap ((k : Int) + 1) = (k : Int) + 1 := IntWalk.i64_in _ (by omega)
        have hw0 : (0 : Int) ≤ (k : Int) + 1 := by omega
        have hw1 : ((k : Int) + 1).toNat = k + 1 := by omega
        have hw2 : (k : Int) + 1 ≤ (n : Int) := by omega
        have P2 : Hid (A1 = none → n - (k + 1) = 0 ∧ cc - (k + 1) = 0) := hidp fun e => absurd e hA1n
        have Lq2 : Hid (((zs.drop (k + 1)).map (Value.int .i64)).length = (n - (k + 1)) * 1) := hidp (by simp; omega)
        have Oq2 : Hid (∀ u ∈ (zs.drop (k + 1)).map (Value.int .i64), u.oneCell' = true) := hidp fun u hu => by obtain ⟨n, _, rfl⟩ := List.mem_map.1 hu; rfl
        have M2 : Hid (k + (n - (k + 1)) ≤ maxLen) := hidp (by unfold maxLen; omega)
        have N2 : Hid ((k + (n - (k + 1))) * 8 ≤ 140737488355328) := hidp (by omega)
        have hn0 := World.ownsRow_nil wx.drew wx.heap.size 3 1
        have hkc : k ≤ cc := by omega
        have hkc1 : k + 1 ≤ cc := by omega
        have hkn1 : k + 1 ≤ n := by omega
        have HBx := hidp (HB.out.trans (st2.turned.below HB.out.size (fun q hq => by
          rcases List.mem_cons.1 hq with rfl | hq
          · have := L.out.base; have := HW1.out; omega
          · have := L.out.news q hq; have := HW1.out; omega)))
        have Lx := hidp l2
        have Hzl := hidp hzl
        clear hlies hcut o2 ap2 l2 st2 CL hzs hzl
        go_wp2_with fail
        go_region_law (first | ((with_reducible refine step_app2 _ rfl (.const (.slice none 0 0)) (.tmp 71) 22 rfl wx.heap.size 3 i0 (.int .i64 0) 1 8 Tryz.underlying22 hi0 hz0 hz1 hz2 rfl (by decide) none 0 0 [] (by simp [Act.eval]) hn0 _ _ k cc _ ?_ (by simp) Lq1.out S1.out Oq1.out M1.out N1.out (Nat.le_refl _) ?_); (simp [Act.eval, Act.put]); intro B1 k1 wa happ; simp only [Nat.zero_add, List.nil_append] at happ; have S3 := hidp (S2.out.turned (w' := wa) happ.turned (by simp [fp])); have Sz : Hid (wx.heap.size ≤ wa.heap.size) := hidp happ.turned.size) | ((with_reducible refine step_app2 _ rfl (.tmp 72) (.tmp 76) 22 rfl wx.heap.size 3 i0 (.int .i64 0) 1 8 Tryz.underlying22 hi0 hz0 hz1 hz2 rfl (by decide) B1 k k1 _ ?_ happ.own _ _ (n - (k + 1)) (cc - (k + 1)) _ ?_ P2.out Lq2.out S3.out Oq2.out M2.out N2.out Sz.out ?_); (simp [Act.eval]); (simp [Act.eval]); intro A2 k2 w7 happ2))
        all_goals
          have TT : Turned [] wx w7 := (((Turned.refl [] wx).drew.trans (happ.turned.mono (G := []) (fun k hk => by simp [fp] at hk)) (fun i hi => .inl hi))).trans happ2.turned (fun i hi => by
            rcases happ.fps i hi with h2 | h2
            · simp [fp] at h2
            · right; simpa using h2)
          have hfpA : ∀ i ∈ fp A2, wx.heap.size ≤ i := fun i hi => by
            have hs1 := happ.turned.size
            simp at hs1
            rcases happ2.fps i hi with h1 | h1
            · rcases happ.fps i h1 with h2 | h2
              · simp [fp] at h2
              · simpa using h2
            · omega
          have L2 := hidp (Lx.out.over (TT.below (Nat.le_refl _) (by simp)))
          have HB2 := hidp (HBx.out.trans ((TT.below (Nat.le_refl _) (by simp)).mono HBx.out.size))
          obtain ⟨n2, hn2⟩ : ∃ n2, k + (n - (k + 1)) = n2 := ⟨_, rfl⟩
          have O2 : Hid (OwnInts u1.heap.size w7 A2 n2 k2 ((leaveS s ta).L.map AL.task)) := hidp (by
            rw [HTk.out, ← hn2]
            refine ⟨own_base (by simpa using happ2.own) (fun q hq => ?_), by have := Hzl.out; simp; omega, happ2.cap.1, happ2.cap.2, happ2.nil⟩
            have h5 := hfpA q (by cases A2 <;> simp [Value.ownBlock, fp] at hq ⊢; exact hq.symm)
            have := Lx.out.below.size; omega)
          have AP2 : Hid (∀ q ∈ bl :: F2, q ∉ fp A2) := hidp (fun q hq hm => by have := Lx.out.lt q hq; have := hfpA q hm; omega)
          have HC2 : Hid ((leaveS s ta).count ≤ (i : Int)) := hidp HC.out
          obtain ⟨s2, hs2⟩ : ∃ s2, leaveS s ta = s2 := ⟨_, rfl⟩
          rw [hs2] at HJ L2 O2 HC2
          rw [hn2]
          clear TT hfpA happ happ2 hs2 hn2
          have CG := li_grant L2.out (by have := HC2.out; omega)
          have hcnt := hidp HJ.out.count
          obtain ⟨P3, Z3, hgi, htk⟩ := HJ.out.grant
          have HI := hidp hgi
          have HTK := hidp htk
          clear hgi htk
          go_wp2_with fail
          refine CG.mono ?_
          rintro e w3 ⟨A9, n9, c9, F3, rfl, _, l3, s3, _⟩
          have HC3 : Hid ((grantS s2).count ≤ ((i + 1 : Nat) : Int)) := hidp (by have := HC2.out; have := hcnt.out; omega)
          obtain ⟨o3, ap3⟩ := s3.row O2.out AP2.out
          have HB3 := hidp (HB2.out.trans (s3.turned.below HB2.out.size (fun q hq => by
            rcases List.mem_cons.1 hq with rfl | hq
            · have := L2.out.base; have := HW1.out; omega
            · have := L2.out.news q hq; have := HW1.out; omega)))
          obtain ⟨s4, hs4⟩ : ∃ s4, grantS s2 = s4 := ⟨_, rfl⟩
          rw [hs4] at l3 HI HC3 HTK
          have O3 : Hid (OwnInts u1.heap.size w3 A2 n2 k2 (s4.L.map AL.task)) := hidp (by rw [HTK.out]; exact o3)
          have hn2 : Hid (n2 = s4.L.length) := hidp (by have := O3.out.2.1; simpa using this)
          have AP3 := hidp ap3
          have L3 := hidp l3
          clear CG l3 s3 o3 ap3 hs4 hcnt
          go_wp2
          go_loopg [8, 13, 14] n2 (fun g lv hv kv wr2 => ∃ (k : Nat) (la : Int), k + g = n2 ∧ kv = .int .i64 k ∧ hv = .int .i64 (holdN s4 k : Nat) ∧ lv = .int .i64 la ∧ 0 ≤ la ∧ la ≤ (us.length : Int) ∧ w3 = wr2)
          case atStart => exact ⟨0, last, by omega, rfl, rfl, rfl, HLA.out.1, HLA.out.2, rfl⟩
          case round =>
            obtain ⟨k, la, hk, rfl, rfl, rfl, la0, la1, rfl⟩ := hrel
            have Hk := hidp hk
            by_cases hk6 : k < n2
            · obtain ⟨g2, hg2, ck⟩ := own_cell O3.out (i := k) (by have := hn2.out; simp; omega)
              obtain ⟨ta, hta⟩ : ∃ ta, (s4.L.map AL.task).getD k 0 = ta := ⟨_, rfl⟩
              obtain ⟨h1, h2⟩ := HI.out.j.ok.holds_at (k := k) (by have := hn2.out; omega)
              have hnx := hidp (holdN_next (s := s4) (k := k) (by have := hn2.out; omega))
              obtain ⟨b2, b3⟩ := h2
              have CH := li_holds L3.out ta
              have CB := li_boost L3.out ta
              rw [hta] at ck h1 b2 b3
              rw [h1] at CH
              have HA2 := hidp hg2
              obtain ⟨bo, hbo⟩ : ∃ bo, boostS s4 ta = bo := ⟨_, rfl⟩
              rw [hbo] at CB b2 b3
              have b4 : bo ≤ (us.length : Int) := by have := b3 HI.out.j.sh.proto; have := HC3.out; have := Hi.out; omega
              have kn : (k : Int) < (n2 : Int) := by omega
              have d3 : decide (n2 ≤ k) = false := decide_eq_false (by omega)
              have hk6' : n2 ≤ 6 := by have := hn2.out; have := tasks_le HI.out.j.ok; have := HI.out.j.ok.n6; omega
              have hhn : holdN s4 k ≤ k := by
                unfold holdN
                exact Nat.le_trans (List.length_filter_le _ _) (by simp; omega)
              obtain ⟨hn, hhn2⟩ : ∃ hn, holdN s4 k = hn := ⟨_, rfl⟩
              rw [hhn2] at hhn ⊢
              have Hhn := hidp hhn2
              clear h1 b3 hta hbo hhn2
              subst hg2
              cases hho : (s4.L.getD k ⟨0, 0, 0, false⟩).holds with
              | true =>
                rw [hho] at CH
                have hkc : Hid (k < c) := hidp (HI.out.early (by have := hn2.out; omega) hho)
                have hkc2 : ¬ (c : Int) ≤ (k : Int) := by have := hkc.out; omega
                have wn : IntKind.i64.wrap ((hn : Int) + 1) = (hn : Int) + 1 := IntWalk.i64_in _ (by omega)
                have Hm : Hid (holdN s4 (k + 1) = hn + 1) := hidp (by rw [hnx.out, hho, Hhn.out]; rfl)
                clear hho
                go_wp2_with (first | (go_at_call 21; refine CH.mono ?_; rintro e u ⟨rfl, rfl⟩) | (go_at_call 26; refine CB.mono ?_; rintro e u ⟨rfl, rfl⟩))
                go_roundg (n2 - k - 1)
                case measure => have := Hk.out; omega
                case rel => exact ⟨k + 1, max la bo, by have := Hk.out; omega, by go_num, congrArg (Value.int .i64) (by rw [Hm.out]; rfl), rfl, by omega, by omega, rfl⟩
              | false =>
                rw [hho] at CH
                have Hm : Hid (holdN s4 (k + 1) = hn) := hidp (by rw [hnx.out, hho, Hhn.out]; rfl)
                clear hho
                go_wp2_with (first | (go_at_call 21; refine CH.mono ?_; rintro e u ⟨rfl, rfl⟩))
                go_roundg (n2 - k - 1)
                case measure => have := Hk.out; omega
                case rel => exact ⟨k + 1, la, by have := Hk.out; omega, by go_num, congrArg (Value.int .i64) (by rw [Hm.out]), rfl, la0, la1, rfl⟩
            · obtain rfl : k = n2 := by omega
              obtain ⟨f1, f2⟩ := HI.out.few
              rw [← hn2.out] at f1 f2
              obtain ⟨hn, hhn⟩ : ∃ hn, holdN s4 k = hn := ⟨_, rfl⟩
              rw [hhn] at f1 f2 ⊢
              have Hhn := hidp hhn
              have hmin : ¬ (if (c : Int) < 2 then (c : Int) else 2) < (hn : Int) := by split <;> omega
              have hmin2 : ¬ min (c : Int) 2 < (hn : Int) := by omega
              have hlal : ¬ (us.length : Int) < la := by omega
              clear hhn
              by_cases hz : k = 0
              · subst hz
                go_wp2
                go_roundg (us.length - i - 1)
                case measure => have := Hi.out; omega
                case rel => exact ⟨i + 1, s4, F3, P3, Z3, A2, 0, k2, la, by have := Hi.out; omega, by go_num, rfl, rfl, HI, HC3, hidp ⟨la0, la1⟩, L3, O3, AP3, HB3⟩
              · obtain ⟨g1, g2⟩ := HI.out.some (by omega) (by have := hn2.out; omega)
                rw [← hn2.out, Hhn.out] at g1
                obtain ⟨gg, hgg, ck⟩ := own_cell O3.out (i := 0) (by have := hn2.out; simp; omega)
                obtain ⟨ta, hta⟩ : ∃ ta, (s4.L.map AL.task).getD 0 0 = ta := ⟨_, rfl⟩
                obtain ⟨h1, _⟩ := HI.out.j.ok.holds_at (k := 0) (by have := hn2.out; omega)
                have CH := li_holds L3.out ta
                rw [hta] at ck h1
                rw [h1, g2] at CH
                have hpos : (0 : Int) < (k : Int) := by omega
                have hne : ((hn : Int) == 0) = false := by simp; omega
                have hne2 : ¬ (hn : Int) = 0 := by omega
                have hne3 : ¬ hn = 0 := by omega
                have d3 : decide (k ≤ 0) = false := decide_eq_false (by omega)
                have HA2 := hidp hgg
                clear h1 g2 hta g1
                subst hgg
                go_wp2_with (first | (go_at_call 21; refine CH.mono ?_; rintro e u ⟨rfl, rfl⟩))
                go_roundg (us.length - i - 1)
                case measure => have := Hi.out; omega
                case rel => exact ⟨i + 1, s4, F3, P3, Z3, _, k, k2, la, by have := Hi.out; omega, by go_num, rfl, rfl, HI, HC3, hidp ⟨la0, la1⟩, L3, O3, AP3, HB3⟩
      · have hsp : (y4 = 0 ∧ ¬ 0 < n) ∨ ¬ y4 = 0 := by
          by_cases e : y4 = 0
          · exact .inl ⟨e, fun h0 => hA ⟨e, h0⟩⟩
          · exact .inr e
        obtain ⟨t, rfl⟩ : ∃ t : Nat, y6 = (t : Int) := ⟨y6.toNat, by omega⟩
        cases hg : s.get t with
        | some ag =>
          have hth := (HI0.out.j.sh.has (t : Int)).2 ⟨y60, y61⟩
          have hrr : s.hasR r := by unfold Ls.hasR; rw [HI0.out.j.sh.homes]; simp; omega
          have ec : askC s t r = 17 := by unfold askC; rw [if_neg (by simpa using hth), if_neg (by simpa using hrr), hg]; rfl
          have CL := li_ask_no L.out (t := (t : Int)) (r := r) (by rw [ec]; decide)
          rw [ec] at CL
          have HJ := hidp HI0.out.j
          have HC2 := HC
          have L2 := L
          have O2 := O
          have AP2 := AP
          have HB2 := HB
          clear hA hg hth hrr ec
          rcases hsp with ⟨rfl, hh0⟩ | z4
          · have hn0 : ¬ (0 : Int) < (n : Int) := by omega
            have hn1 : decide ((0 : Int) < (n : Int)) = false := decide_eq_false hn0
            clear hh0
            go_wp2_with fail
            refine CL.mono ?_
            rintro e u ⟨rfl, rfl⟩
            clear hn1
            have CG := li_grant L2.out (by have := HC2.out; omega)
            have hcnt := hidp HJ.out.count
            obtain ⟨P3, Z3, hgi, htk⟩ := HJ.out.grant
            have HI := hidp hgi
            have HTK := hidp htk
            clear hgi htk
            go_wp2_with fail
            refine CG.mono ?_
            rintro e w3 ⟨A9, n9, c9, F3, rfl, _, l3, s3, _⟩
            have HC3 : Hid ((grantS s).count ≤ ((i + 1 : Nat) : Int)) := hidp (by have := HC2.out; have := hcnt.out; omega)
            obtain ⟨o3, ap3⟩ := s3.row O2.out AP2.out
            have HB3 := hidp (HB2.out.trans (s3.turned.below HB2.out.size (fun q hq => by
              rcases List.mem_cons.1 hq with rfl | hq
              · have := L2.out.base; have := HW1.out; omega
              · have := L2.out.news q hq; have := HW1.out; omega)))
            obtain ⟨s4, hs4⟩ : ∃ s4, grantS s = s4 := ⟨_, rfl⟩
            rw [hs4] at l3 HI HC3 HTK
            have O3 : Hid (OwnInts u1.heap.size w3 A n cc (s4.L.map AL.task)) := hidp (by rw [HTK.out]; exact o3)
            have hn2 : Hid (n = s4.L.length) := hidp (by have := O3.out.2.1; simpa using this)
            have AP3 := hidp ap3
            have L3 := hidp l3
            clear CG l3 s3 o3 ap3 hs4 hcnt
            go_wp2
            go_loopg [8, 13, 14] n (fun g lv hv kv wr2 => ∃ (k : Nat) (la : Int), k + g = n ∧ kv = .int .i64 k ∧ hv = .int .i64 (holdN s4 k : Nat) ∧ lv = .int .i64 la ∧ 0 ≤ la ∧ la ≤ (us.length : Int) ∧ w3 = wr2)
            case atStart => exact ⟨0, last, by omega, rfl, rfl, rfl, HLA.out.1, HLA.out.2, rfl⟩
            case round =>
              obtain ⟨k, la, hk, rfl, rfl, rfl, la0, la1, rfl⟩ := hrel
              have Hk := hidp hk
              by_cases hk6 : k < n
              · exact absurd hk6 (by omega)
              · obtain rfl : k = n := by omega
                obtain ⟨f1, f2⟩ := HI.out.few
                rw [← hn2.out] at f1 f2
                obtain ⟨hn, hhn⟩ : ∃ hn, holdN s4 k = hn := ⟨_, rfl⟩
                rw [hhn] at f1 f2 ⊢
                have Hhn := hidp hhn
                have hmin : ¬ (if (c : Int) < 2 then (c : Int) else 2) < (hn : Int) := by split <;> omega
                have hmin2 : ¬ min (c : Int) 2 < (hn : Int) := by omega
                have hlal : ¬ (us.length : Int) < la := by omega
                clear hhn
                by_cases hz : k = 0
                · subst hz
                  go_wp2
                  go_roundg (us.length - i - 1)
                  case measure => have := Hi.out; omega
                  case rel => exact ⟨i + 1, s4, F3, P3, Z3, A, 0, cc, la, by have := Hi.out; omega, by go_num, rfl, rfl, HI, HC3, hidp ⟨la0, la1⟩, L3, O3, AP3, HB3⟩
                · exact absurd (by omega) hz
          · have z4' : (y4 == 0) = false := by simpa using z4
            clear z4
            go_wp2_with fail
            refine CL.mono ?_
            rintro e u ⟨rfl, rfl⟩
            have CG := li_grant L2.out (by have := HC2.out; omega)
            have hcnt := hidp HJ.out.count
            obtain ⟨P3, Z3, hgi, htk⟩ := HJ.out.grant
            have HI := hidp hgi
            have HTK := hidp htk
            clear hgi htk
            go_wp2_with fail
            refine CG.mono ?_
            rintro e w3 ⟨A9, n9, c9, F3, rfl, _, l3, s3, _⟩
            have HC3 : Hid ((grantS s).count ≤ ((i + 1 : Nat) : Int)) := hidp (by have := HC2.out; have := hcnt.out; omega)
            obtain ⟨o3, ap3⟩ := s3.row O2.out AP2.out
            have HB3 := hidp (HB2.out.trans (s3.turned.below HB2.out.size (fun q hq => by
              rcases List.mem_cons.1 hq with rfl | hq
              · have := L2.out.base; have := HW1.out; omega
              · have := L2.out.news q hq; have := HW1.out; omega)))
            obtain ⟨s4, hs4⟩ : ∃ s4, grantS s = s4 := ⟨_, rfl⟩
            rw [hs4] at l3 HI HC3 HTK
            have O3 : Hid (OwnInts u1.heap.size w3 A n cc (s4.L.map AL.task)) := hidp (by rw [HTK.out]; exact o3)
            have hn2 : Hid (n = s4.L.length) := hidp (by have := O3.out.2.1; simpa using this)
            have AP3 := hidp ap3
            have L3 := hidp l3
            clear CG l3 s3 o3 ap3 hs4 hcnt
            go_wp2
            go_loopg [8, 13, 14] n (fun g lv hv kv wr2 => ∃ (k : Nat) (la : Int), k + g = n ∧ kv = .int .i64 k ∧ hv = .int .i64 (holdN s4 k : Nat) ∧ lv = .int .i64 la ∧ 0 ≤ la ∧ la ≤ (us.length : Int) ∧ w3 = wr2)
            case atStart => exact ⟨0, last, by omega, rfl, rfl, rfl, HLA.out.1, HLA.out.2, rfl⟩
            case round =>
              obtain ⟨k, la, hk, rfl, rfl, rfl, la0, la1, rfl⟩ := hrel
              have Hk := hidp hk
              by_cases hk6 : k < n
              · obtain ⟨g2, hg2, ck⟩ := own_cell O3.out (i := k) (by have := hn2.out; simp; omega)
                obtain ⟨ta, hta⟩ : ∃ ta, (s4.L.map AL.task).getD k 0 = ta := ⟨_, rfl⟩
                obtain ⟨h1, h2⟩ := HI.out.j.ok.holds_at (k := k) (by have := hn2.out; omega)
                have hnx := hidp (holdN_next (s := s4) (k := k) (by have := hn2.out; omega))
                obtain ⟨b2, b3⟩ := h2
                have CH := li_holds L3.out ta
                have CB := li_boost L3.out ta
                rw [hta] at ck h1 b2 b3
                rw [h1] at CH
                have HA2 := hidp hg2
                obtain ⟨bo, hbo⟩ : ∃ bo, boostS s4 ta = bo := ⟨_, rfl⟩
                rw [hbo] at CB b2 b3
                have b4 : bo ≤ (us.length : Int) := by have := b3 HI.out.j.sh.proto; have := HC3.out; have := Hi.out; omega
                have kn : (k : Int) < (n : Int) := by omega
                have d3 : decide (n ≤ k) = false := decide_eq_false (by omega)
                have hk6' : n ≤ 6 := by have := hn2.out; have := tasks_le HI.out.j.ok; have := HI.out.j.ok.n6; omega
                have hhn : holdN s4 k ≤ k := by
                  unfold holdN
                  exact Nat.le_trans (List.length_filter_le _ _) (by simp; omega)
                obtain ⟨hn, hhn2⟩ : ∃ hn, holdN s4 k = hn := ⟨_, rfl⟩
                rw [hhn2] at hhn ⊢
                have Hhn := hidp hhn2
                clear h1 b3 hta hbo hhn2
                subst hg2
                cases hho : (s4.L.getD k ⟨0, 0, 0, false⟩).holds with
                | true =>
                  rw [hho] at CH
                  have hkc : Hid (k < c) := hidp (HI.out.early (by have := hn2.out; omega) hho)
                  have hkc2 : ¬ (c : Int) ≤ (k : Int) := by have := hkc.out; omega
                  have wn : IntKind.i64.wrap ((hn : Int) + 1) = (hn : Int) + 1 := IntWalk.i64_in _ (by omega)
                  have Hm : Hid (holdN s4 (k + 1) = hn + 1) := hidp (by rw [hnx.out, hho, Hhn.out]; rfl)
                  clear hho
                  go_wp2_with (first | (go_at_call 21; refine CH.mono ?_; rintro e u ⟨rfl, rfl⟩) | (go_at_call 26; refine CB.mono ?_; rintro e u ⟨rfl, rfl⟩))
                  go_roundg (n - k - 1)
                  case measure => have := Hk.out; omega
                  case rel => exact ⟨k + 1, max la bo, by have := Hk.out; omega, by go_num, congrArg (Value.int .i64) (by rw [Hm.out]; rfl), rfl, by omega, by omega, rfl⟩
                | false =>
                  rw [hho] at CH
                  have Hm : Hid (holdN s4 (k + 1) = hn) := hidp (by rw [hnx.out, hho, Hhn.out]; rfl)
                  clear hho
                  go_wp2_with (first | (go_at_call 21; refine CH.mono ?_; rintro e u ⟨rfl, rfl⟩))
                  go_roundg (n - k - 1)
                  case measure => have := Hk.out; omega
                  case rel => exact ⟨k + 1, la, by have := Hk.out; omega, by go_num, congrArg (Value.int .i64) (by rw [Hm.out]), rfl, la0, la1, rfl⟩
              · obtain rfl : k = n := by omega
                obtain ⟨f1, f2⟩ := HI.out.few
                rw [← hn2.out] at f1 f2
                obtain ⟨hn, hhn⟩ : ∃ hn, holdN s4 k = hn := ⟨_, rfl⟩
                rw [hhn] at f1 f2 ⊢
                have Hhn := hidp hhn
                have hmin : ¬ (if (c : Int) < 2 then (c : Int) else 2) < (hn : Int) := by split <;> omega
                have hmin2 : ¬ min (c : Int) 2 < (hn : Int) := by omega
                have hlal : ¬ (us.length : Int) < la := by omega
                clear hhn
                by_cases hz : k = 0
                · subst hz
                  go_wp2
                  go_roundg (us.length - i - 1)
                  case measure => have := Hi.out; omega
                  case rel => exact ⟨i + 1, s4, F3, P3, Z3, A, 0, cc, la, by have := Hi.out; omega, by go_num, rfl, rfl, HI, HC3, hidp ⟨la0, la1⟩, L3, O3, AP3, HB3⟩
                · obtain ⟨g1, g2⟩ := HI.out.some (by omega) (by have := hn2.out; omega)
                  rw [← hn2.out, Hhn.out] at g1
                  obtain ⟨gg, hgg, ck⟩ := own_cell O3.out (i := 0) (by have := hn2.out; simp; omega)
                  obtain ⟨ta, hta⟩ : ∃ ta, (s4.L.map AL.task).getD 0 0 = ta := ⟨_, rfl⟩
                  obtain ⟨h1, _⟩ := HI.out.j.ok.holds_at (k := 0) (by have := hn2.out; omega)
                  have CH := li_holds L3.out ta
                  rw [hta] at ck h1
                  rw [h1, g2] at CH
                  have hpos : (0 : Int) < (k : Int) := by omega
                  have hne : ((hn : Int) == 0) = false := by simp; omega
                  have hne2 : ¬ (hn : Int) = 0 := by omega
                  have hne3 : ¬ hn = 0 := by omega
                  have d3 : decide (k ≤ 0) = false := decide_eq_false (by omega)
                  have HA2 := hidp hgg
                  clear h1 g2 hta g1
                  subst hgg
                  go_wp2_with (first | (go_at_call 21; refine CH.mono ?_; rintro e u ⟨rfl, rfl⟩))
                  go_roundg (us.length - i - 1)
                  case measure => have := Hi.out; omega
                  case rel => exact ⟨i + 1, s4, F3, P3, Z3, _, k, cc, la, by have := Hi.out; omega, by go_num, rfl, rfl, HI, HC3, hidp ⟨la0, la1⟩, L3, O3, AP3, HB3⟩
        | none =>
          obtain ⟨e1, j1, htk⟩ := HI0.out.ask (t := (t : Int)) ((HI0.out.j.sh.has (t : Int)).2 ⟨y60, y61⟩) hg ⟨r0, r1⟩
          have CL := li_ask L.out (t := (t : Int)) (r := r) (by unfold I64; omega) (by have := HC.out; omega) (.inr (.inr (.inl HI0.out.j.sh.proto)))
          rw [e1] at CL
          have HJ := hidp j1
          have HTk := hidp htk
          have hcs : Hid ((askS s t r).count ≤ (i : Int)) := hidp (by
            have e9 : (askS s t r).count = s.count := by unfold askS; rw [if_pos e1]; unfold askN; rw [if_pos HI0.out.j.sh.proto]
            rw [e9]; exact HC.out)
          clear hA hg e1 j1 htk
          rcases hsp with ⟨rfl, hh0⟩ | z4
          · have hn0 : ¬ (0 : Int) < (n : Int) := by omega
            have hn1 : decide ((0 : Int) < (n : Int)) = false := decide_eq_false hn0
            clear hh0
            go_wp2_with fail
            refine CL.mono ?_
            rintro e wx ⟨rfl, F2, l2, st2⟩
            obtain ⟨o2, ap2⟩ := st2.row O.out AP.out
            have hown2 := o2.1.alloc (.cells #[.int .i64 (t : Int)] 3)
            have La := hidp (Lies.new1 wx (.int .i64 (t : Int)) 3)
            have K1 : Hid (∀ u ∈ [Value.int .i64 (t : Int)], u.oneCell' = true) := hidp (by simp; rfl)
            have K5 : Hid (n + 1 ≤ maxLen) := hidp (by unfold maxLen; omega)
            have K6 : Hid ((n + 1) * 8 ≤ 140737488355328) := hidp (by omega)
            have HBx := hidp (HB.out.trans (st2.turned.below HB.out.size (fun q hq => by
              rcases List.mem_cons.1 hq with rfl | hq
              · have := L.out.base; have := HW1.out; omega
              · have := L.out.news q hq; have := HW1.out; omega)))
            have Lx := hidp l2
            have Ox := hidp o2
            have APx := hidp ap2
            have Hsz : Hid (u1.heap.size ≤ (wx.alloc (.cells #[.int .i64 (t : Int)] 3)).heap.size) := hidp (by have := Lx.out.below.size; simp; omega)
            clear CL l2 st2 o2 ap2
            go_wp2_with (at_builtin; go_loud (refine wpList_app2 _ rfl (.tmp 89) (.tmp 91) 22 rfl u1.heap.size 3 i0 (.int .i64 0) 1 8 Tryz.underlying22 hi0 hz0 hz1 hz2 rfl (by decide) A n cc _ rfl hown2 _ _ 1 1 [.int .i64 (t : Int)] rfl (by simp) rfl La.out K1.out K5.out K6.out Hsz.out ?_; intro A2 k2 w7 happ; have hfp := hidp (own_fp Ox.out.1); have TT := hidp (((Turned.refl (fp A) wx).alloc (.cells #[.int .i64 (t : Int)] 3)).trans happ.turned (fun i hi => .inl hi)); have L2 := hidp (Lx.out.turned TT.out (fun q hq hm => APx.out q hq hm) (fun q hq => (hfp.out q hq).1)); have HB2 := hidp (HBx.out.trans (TT.out.below HBx.out.size (fun q hq => by have := (hfp.out q hq).1; have := HW1.out; omega))); have AP2 : Hid (∀ q ∈ bl :: F2, q ∉ fp A2) := hidp (fun q hq hm => by
              rcases happ.fps q hm with h1 | h1
              · exact APx.out q hq h1
              · have h1 : (wx.alloc (.cells #[.int .i64 (t : Int)] 3)).heap.size ≤ q := h1
                have := Lx.out.lt q hq; simp at h1; omega); have O2 : Hid (OwnInts u1.heap.size w7 A2 (n + 1) k2 ((askS s t r).L.map AL.task)) := hidp (by rw [HTk.out]; exact ⟨by rw [List.map_append]; exact happ.own, by have := Ox.out.2.1; simp at this ⊢; omega, happ.cap.1, happ.cap.2, happ.nil⟩); have HC2 := hcs; clear happ hown2 Hsz))
            obtain ⟨n2, hn2⟩ : ∃ n2, n + 1 = n2 := ⟨_, rfl⟩
            obtain ⟨s2, hs2⟩ : ∃ s2, askS s t r = s2 := ⟨_, rfl⟩
            rw [hs2] at HJ L2 O2 HC2
            rw [hn2] at O2
            clear hs2
            try rw [hn2]
            clear hn2
            have CG := li_grant L2.out (by have := HC2.out; omega)
            have hcnt := hidp HJ.out.count
            obtain ⟨P3, Z3, hgi, htk⟩ := HJ.out.grant
            have HI := hidp hgi
            have HTK := hidp htk
            clear hgi htk
            go_wp2_with fail
            refine CG.mono ?_
            rintro e w3 ⟨A9, n9, c9, F3, rfl, _, l3, s3, _⟩
            have HC3 : Hid ((grantS s2).count ≤ ((i + 1 : Nat) : Int)) := hidp (by have := HC2.out; have := hcnt.out; omega)
            obtain ⟨o3, ap3⟩ := s3.row O2.out AP2.out
            have HB3 := hidp (HB2.out.trans (s3.turned.below HB2.out.size (fun q hq => by
              rcases List.mem_cons.1 hq with rfl | hq
              · have := L2.out.base; have := HW1.out; omega
              · have := L2.out.news q hq; have := HW1.out; omega)))
            obtain ⟨s4, hs4⟩ : ∃ s4, grantS s2 = s4 := ⟨_, rfl⟩
            rw [hs4] at l3 HI HC3 HTK
            have O3 : Hid (OwnInts u1.heap.size w3 A2 n2 k2 (s4.L.map AL.task)) := hidp (by rw [HTK.out]; exact o3)
            have hn2 : Hid (n2 = s4.L.length) := hidp (by have := O3.out.2.1; simpa using this)
            have AP3 := hidp ap3
            have L3 := hidp l3
            clear CG l3 s3 o3 ap3 hs4 hcnt
            go_wp2
            go_loopg [8, 13, 14] n2 (fun g lv hv kv wr2 => ∃ (k : Nat) (la : Int), k + g = n2 ∧ kv = .int .i64 k ∧ hv = .int .i64 (holdN s4 k : Nat) ∧ lv = .int .i64 la ∧ 0 ≤ la ∧ la ≤ (us.length : Int) ∧ w3 = wr2)
            case atStart => exact ⟨0, last, by omega, rfl, rfl, rfl, HLA.out.1, HLA.out.2, rfl⟩
            case round =>
              obtain ⟨k, la, hk, rfl, rfl, rfl, la0, la1, rfl⟩ := hrel
              have Hk := hidp hk
              by_cases hk6 : k < n2
              · obtain ⟨g2, hg2, ck⟩ := own_cell O3.out (i := k) (by have := hn2.out; simp; omega)
                obtain ⟨ta, hta⟩ : ∃ ta, (s4.L.map AL.task).getD k 0 = ta := ⟨_, rfl⟩
                obtain ⟨h1, h2⟩ := HI.out.j.ok.holds_at (k := k) (by have := hn2.out; omega)
                have hnx := hidp (holdN_next (s := s4) (k := k) (by have := hn2.out; omega))
                obtain ⟨b2, b3⟩ := h2
                have CH := li_holds L3.out ta
                have CB := li_boost L3.out ta
                rw [hta] at ck h1 b2 b3
                rw [h1] at CH
                have HA2 := hidp hg2
                obtain ⟨bo, hbo⟩ : ∃ bo, boostS s4 ta = bo := ⟨_, rfl⟩
                rw [hbo] at CB b2 b3
                have b4 : bo ≤ (us.length : Int) := by have := b3 HI.out.j.sh.proto; have := HC3.out; have := Hi.out; omega
                have kn : (k : Int) < (n2 : Int) := by omega
                have d3 : decide (n2 ≤ k) = false := decide_eq_false (by omega)
                have hk6' : n2 ≤ 6 := by have := hn2.out; have := tasks_le HI.out.j.ok; have := HI.out.j.ok.n6; omega
                have hhn : holdN s4 k ≤ k := by
                  unfold holdN
                  exact Nat.le_trans (List.length_filter_le _ _) (by simp; omega)
                obtain ⟨hn, hhn2⟩ : ∃ hn, holdN s4 k = hn := ⟨_, rfl⟩
                rw [hhn2] at hhn ⊢
                have Hhn := hidp hhn2
                clear h1 b3 hta hbo hhn2
                subst hg2
                cases hho : (s4.L.getD k ⟨0, 0, 0, false⟩).holds with
                | true =>
                  rw [hho] at CH
                  have hkc : Hid (k < c) := hidp (HI.out.early (by have := hn2.out; omega) hho)
                  have hkc2 : ¬ (c : Int) ≤ (k : Int) := by have := hkc.out; omega
                  have wn : IntKind.i64.wrap ((hn : Int) + 1) = (hn : Int) + 1 := IntWalk.i64_in _ (by omega)
                  have Hm : Hid (holdN s4 (k + 1) = hn + 1) := hidp (by rw [hnx.out, hho, Hhn.out]; rfl)
                  clear hho
                  go_wp2_with (first | (go_at_call 21; refine CH.mono ?_; rintro e u ⟨rfl, rfl⟩) | (go_at_call 26; refine CB.mono ?_; rintro e u ⟨rfl, rfl⟩))
                  go_roundg (n2 - k - 1)
                  case measure => have := Hk.out; omega
                  case rel => exact ⟨k + 1, max la bo, by have := Hk.out; omega, by go_num, congrArg (Value.int .i64) (by rw [Hm.out]; rfl), rfl, by omega, by omega, rfl⟩
                | false =>
                  rw [hho] at CH
                  have Hm : Hid (holdN s4 (k + 1) = hn) := hidp (by rw [hnx.out, hho, Hhn.out]; rfl)
                  clear hho
                  go_wp2_with (first | (go_at_call 21; refine CH.mono ?_; rintro e u ⟨rfl, rfl⟩))
                  go_roundg (n2 - k - 1)
                  case measure => have := Hk.out; omega
                  case rel => exact ⟨k + 1, la, by have := Hk.out; omega, by go_num, congrArg (Value.int .i64) (by rw [Hm.out]), rfl, la0, la1, rfl⟩
              · obtain rfl : k = n2 := by omega
                obtain ⟨f1, f2⟩ := HI.out.few
                rw [← hn2.out] at f1 f2
                obtain ⟨hn, hhn⟩ : ∃ hn, holdN s4 k = hn := ⟨_, rfl⟩
                rw [hhn] at f1 f2 ⊢
                have Hhn := hidp hhn
                have hmin : ¬ (if (c : Int) < 2 then (c : Int) else 2) < (hn : Int) := by split <;> omega
                have hmin2 : ¬ min (c : Int) 2 < (hn : Int) := by omega
                have hlal : ¬ (us.length : Int) < la := by omega
                clear hhn
                by_cases hz : k = 0
                · subst hz
                  go_wp2
                  go_roundg (us.length - i - 1)
                  case measure => have := Hi.out; omega
                  case rel => exact ⟨i + 1, s4, F3, P3, Z3, A2, 0, k2, la, by have := Hi.out; omega, by go_num, rfl, rfl, HI, HC3, hidp ⟨la0, la1⟩, L3, O3, AP3, HB3⟩
                · obtain ⟨g1, g2⟩ := HI.out.some (by omega) (by have := hn2.out; omega)
                  rw [← hn2.out, Hhn.out] at g1
                  obtain ⟨gg, hgg, ck⟩ := own_cell O3.out (i := 0) (by have := hn2.out; simp; omega)
                  obtain ⟨ta, hta⟩ : ∃ ta, (s4.L.map AL.task).getD 0 0 = ta := ⟨_, rfl⟩
                  obtain ⟨h1, _⟩ := HI.out.j.ok.holds_at (k := 0) (by have := hn2.out; omega)
                  have CH := li_holds L3.out ta
                  rw [hta] at ck h1
                  rw [h1, g2] at CH
                  have hpos : (0 : Int) < (k : Int) := by omega
                  have hne : ((hn : Int) == 0) = false := by simp; omega
                  have hne2 : ¬ (hn : Int) = 0 := by omega
                  have hne3 : ¬ hn = 0 := by omega
                  have d3 : decide (k ≤ 0) = false := decide_eq_false (by omega)
                  have HA2 := hidp hgg
                  clear h1 g2 hta g1
                  subst hgg
                  go_wp2_with (first | (go_at_call 21; refine CH.mono ?_; rintro e u ⟨rfl, rfl⟩))
                  go_roundg (us.length - i - 1)
                  case measure => have := Hi.out; omega
                  case rel => exact ⟨i + 1, s4, F3, P3, Z3, _, k, k2, la, by have := Hi.out; omega, by go_num, rfl, rfl, HI, HC3, hidp ⟨la0, la1⟩, L3, O3, AP3, HB3⟩
          · have z4' : (y4 == 0) = false := by simpa using z4
            clear z4
            go_wp2_with fail
            refine CL.mono ?_
            rintro e wx ⟨rfl, F2, l2, st2⟩
            obtain ⟨o2, ap2⟩ := st2.row O.out AP.out
            have hown2 := o2.1.alloc (.cells #[.int .i64 (t : Int)] 3)
            have La := hidp (Lies.new1 wx (.int .i64 (t : Int)) 3)
            have K1 : Hid (∀ u ∈ [Value.int .i64 (t : Int)], u.oneCell' = true) := hidp (by simp; rfl)
            have K5 : Hid (n + 1 ≤ maxLen) := hidp (by unfold maxLen; omega)
            have K6 : Hid ((n + 1) * 8 ≤ 140737488355328) := hidp (by omega)
            have HBx := hidp (HB.out.trans (st2.turned.below HB.out.size (fun q hq => by
              rcases List.mem_cons.1 hq with rfl | hq
              · have := L.out.base; have := HW1.out; omega
              · have := L.out.news q hq; have := HW1.out; omega)))
            have Lx := hidp l2
            have Ox := hidp o2
            have APx := hidp ap2
            have Hsz : Hid (u1.heap.size ≤ (wx.alloc (.cells #[.int .i64 (t : Int)] 3)).heap.size) := hidp (by have := Lx.out.below.size; simp; omega)
            clear CL l2 st2 o2 ap2
            go_wp2_with (at_builtin; go_loud (refine wpList_app2 _ rfl (.tmp 89) (.tmp 91) 22 rfl u1.heap.size 3 i0 (.int .i64 0) 1 8 Tryz.underlying22 hi0 hz0 hz1 hz2 rfl (by decide) A n cc _ rfl hown2 _ _ 1 1 [.int .i64 (t : Int)] rfl (by simp) rfl La.out K1.out K5.out K6.out Hsz.out ?_; intro A2 k2 w7 happ; have hfp := hidp (own_fp Ox.out.1); have TT := hidp (((Turned.refl (fp A) wx).alloc (.cells #[.int .i64 (t : Int)] 3)).trans happ.turned (fun i hi => .inl hi)); have L2 := hidp (Lx.out.turned TT.out (fun q hq hm => APx.out q hq hm) (fun q hq => (hfp.out q hq).1)); have HB2 := hidp (HBx.out.trans (TT.out.below HBx.out.size (fun q hq => by have := (hfp.out q hq).1; have := HW1.out; omega))); have AP2 : Hid (∀ q ∈ bl :: F2, q ∉ fp A2) := hidp (fun q hq hm => by
              rcases happ.fps q hm with h1 | h1
              · exact APx.out q hq h1
              · have h1 : (wx.alloc (.cells #[.int .i64 (t : Int)] 3)).heap.size ≤ q := h1
                have := Lx.out.lt q hq; simp at h1; omega); have O2 : Hid (OwnInts u1.heap.size w7 A2 (n + 1) k2 ((askS s t r).L.map AL.task)) := hidp (by rw [HTk.out]; exact ⟨by rw [List.map_append]; exact happ.own, by have := Ox.out.2.1; simp at this ⊢; omega, happ.cap.1, happ.cap.2, happ.nil⟩); have HC2 := hcs; clear happ hown2 Hsz))
            obtain ⟨n2, hn2⟩ : ∃ n2, n + 1 = n2 := ⟨_, rfl⟩
            obtain ⟨s2, hs2⟩ : ∃ s2, askS s t r = s2 := ⟨_, rfl⟩
            rw [hs2] at HJ L2 O2 HC2
            rw [hn2] at O2
            clear hs2
            try rw [hn2]
            clear hn2
            have CG := li_grant L2.out (by have := HC2.out; omega)
            have hcnt := hidp HJ.out.count
            obtain ⟨P3, Z3, hgi, htk⟩ := HJ.out.grant
            have HI := hidp hgi
            have HTK := hidp htk
            clear hgi htk
            go_wp2_with fail
            refine CG.mono ?_
            rintro e w3 ⟨A9, n9, c9, F3, rfl, _, l3, s3, _⟩
            have HC3 : Hid ((grantS s2).count ≤ ((i + 1 : Nat) : Int)) := hidp (by have := HC2.out; have := hcnt.out; omega)
            obtain ⟨o3, ap3⟩ := s3.row O2.out AP2.out
            have HB3 := hidp (HB2.out.trans (s3.turned.below HB2.out.size (fun q hq => by
              rcases List.mem_cons.1 hq with rfl | hq
              · have := L2.out.base; have := HW1.out; omega
              · have := L2.out.news q hq; have := HW1.out; omega)))
            obtain ⟨s4, hs4⟩ : ∃ s4, grantS s2 = s4 := ⟨_, rfl⟩
            rw [hs4] at l3 HI HC3 HTK
            have O3 : Hid (OwnInts u1.heap.size w3 A2 n2 k2 (s4.L.map AL.task)) := hidp (by rw [HTK.out]; exact o3)
            have hn2 : Hid (n2 = s4.L.length) := hidp (by have := O3.out.2.1; simpa using this)
            have AP3 := hidp ap3
            have L3 := hidp l3
            clear CG l3 s3 o3 ap3 hs4 hcnt
            go_wp2
            go_loopg [8, 13, 14] n2 (fun g lv hv kv wr2 => ∃ (k : Nat) (la : Int), k + g = n2 ∧ kv = .int .i64 k ∧ hv = .int .i64 (holdN s4 k : Nat) ∧ lv = .int .i64 la ∧ 0 ≤ la ∧ la ≤ (us.length : Int) ∧ w3 = wr2)
            case atStart => exact ⟨0, last, by omega, rfl, rfl, rfl, HLA.out.1, HLA.out.2, rfl⟩
            case round =>
              obtain ⟨k, la, hk, rfl, rfl, rfl, la0, la1, rfl⟩ := hrel
              have Hk := hidp hk
              by_cases hk6 : k < n2
              · obtain ⟨g2, hg2, ck⟩ := own_cell O3.out (i := k) (by have := hn2.out; simp; omega)
                obtain ⟨ta, hta⟩ : ∃ ta, (s4.L.map AL.task).getD k 0 = ta := ⟨_, rfl⟩
                obtain ⟨h1, h2⟩ := HI.out.j.ok.holds_at (k := k) (by have := hn2.out; omega)
                have hnx := hidp (holdN_next (s := s4) (k := k) (by have := hn2.out; omega))
                obtain ⟨b2, b3⟩ := h2
                have CH := li_holds L3.out ta
                have CB := li_boost L3.out ta
                rw [hta] at ck h1 b2 b3
                rw [h1] at CH
                have HA2 := hidp hg2
                obtain ⟨bo, hbo⟩ : ∃ bo, boostS s4 ta = bo := ⟨_, rfl⟩
                rw [hbo] at CB b2 b3
                have b4 : bo ≤ (us.length : Int) := by have := b3 HI.out.j.sh.proto; have := HC3.out; have := Hi.out; omega
                have kn : (k : Int) < (n2 : Int) := by omega
                have d3 : decide (n2 ≤ k) = false := decide_eq_false (by omega)
                have hk6' : n2 ≤ 6 := by have := hn2.out; have := tasks_le HI.out.j.ok; have := HI.out.j.ok.n6; omega
                have hhn : holdN s4 k ≤ k := by
                  unfold holdN
                  exact Nat.le_trans (List.length_filter_le _ _) (by simp; omega)
                obtain ⟨hn, hhn2⟩ : ∃ hn, holdN s4 k = hn := ⟨_, rfl⟩
                rw [hhn2] at hhn ⊢
                have Hhn := hidp hhn2
                clear h1 b3 hta hbo hhn2
                subst hg2
                cases hho : (s4.L.getD k ⟨0, 0, 0, false⟩).holds with
                | true =>
                  rw [hho] at CH
                  have hkc : Hid (k < c) := hidp (HI.out.early (by have := hn2.out; omega) hho)
                  have hkc2 : ¬ (c : Int) ≤ (k : Int) := by have := hkc.out; omega
                  have wn : IntKind.i64.wrap ((hn : Int) + 1) = (hn : Int) + 1 := IntWalk.i64_in _ (by omega)
                  have Hm : Hid (holdN s4 (k + 1) = hn + 1) := hidp (by rw [hnx.out, hho, Hhn.out]; rfl)
                  clear hho
                  go_wp2_with (first | (go_at_call 21; refine CH.mono ?_; rintro e u ⟨rfl, rfl⟩) | (go_at_call 26; refine CB.mono ?_; rintro e u ⟨rfl, rfl⟩))
                  go_roundg (n2 - k - 1)
                  case measure => have := Hk.out; omega
                  case rel => exact ⟨k + 1, max la bo, by have := Hk.out; omega, by go_num, congrArg (Value.int .i64) (by rw [Hm.out]; rfl), rfl, by omega, by omega, rfl⟩
                | false =>
                  rw [hho] at CH
                  have Hm : Hid (holdN s4 (k + 1) = hn) := hidp (by rw [hnx.out, hho, Hhn.out]; rfl)
                  clear hho
                  go_wp2_with (first | (go_at_call 21; refine CH.mono ?_; rintro e u ⟨rfl, rfl⟩))
                  go_roundg (n2 - k - 1)
                  case measure => have := Hk.out; omega
                  case rel => exact ⟨k + 1, la, by have := Hk.out; omega, by go_num, congrArg (Value.int .i64) (by rw [Hm.out]), rfl, la0, la1, rfl⟩
              · obtain rfl : k = n2 := by omega
                obtain ⟨f1, f2⟩ := HI.out.few
                rw [← hn2.out] at f1 f2
                obtain ⟨hn, hhn⟩ : ∃ hn, holdN s4 k = hn := ⟨_, rfl⟩
                rw [hhn] at f1 f2 ⊢
                have Hhn := hidp hhn
                have hmin : ¬ (if (c : Int) < 2 then (c : Int) else 2) < (hn : Int) := by split <;> omega
                have hmin2 : ¬ min (c : Int) 2 < (hn : Int) := by omega
                have hlal : ¬ (us.length : Int) < la := by omega
                clear hhn
                by_cases hz : k = 0
                · subst hz
                  go_wp2
                  go_roundg (us.length - i - 1)
                  case measure => have := Hi.out; omega
                  case rel => exact ⟨i + 1, s4, F3, P3, Z3, A2, 0, k2, la, by have := Hi.out; omega, by go_num, rfl, rfl, HI, HC3, hidp ⟨la0, la1⟩, L3, O3, AP3, HB3⟩
                · obtain ⟨g1, g2⟩ := HI.out.some (by omega) (by have := hn2.out; omega)
                  rw [← hn2.out, Hhn.out] at g1
                  obtain ⟨gg, hgg, ck⟩ := own_cell O3.out (i := 0) (by have := hn2.out; simp; omega)
                  obtain ⟨ta, hta⟩ : ∃ ta, (s4.L.map AL.task).getD 0 0 = ta := ⟨_, rfl⟩
                  obtain ⟨h1, _⟩ := HI.out.j.ok.holds_at (k := 0) (by have := hn2.out; omega)
                  have CH := li_holds L3.out ta
                  rw [hta] at ck h1
                  rw [h1, g2] at CH
                  have hpos : (0 : Int) < (k : Int) := by omega
                  have hne : ((hn : Int) == 0) = false := by simp; omega
                  have hne2 : ¬ (hn : Int) = 0 := by omega
                  have hne3 : ¬ hn = 0 := by omega
                  have d3 : decide (k ≤ 0) = false := decide_eq_false (by omega)
                  have HA2 := hidp hgg
                  clear h1 g2 hta g1
                  subst hgg
                  go_wp2_with (first | (go_at_call 21; refine CH.mono ?_; rintro e u ⟨rfl, rfl⟩))
                  go_roundg (us.length - i - 1)
                  case measure => have := Hi.out; omega
                  case rel => exact ⟨i + 1, s4, F3, P3, Z3, _, k, k2, la, by have := Hi.out; omega, by go_num, rfl, rfl, HI, HC3, hidp ⟨la0, la1⟩, L3, O3, AP3, HB3⟩
    · obtain rfl : i = us.length := by omega
      go_wp2
      go_ret
      exact ⟨rfl, HB.out⟩

theorem own : ownKnob Tryz.prog.godebug = none := by kernel_rfl
theorem laidOut : laidOutB Tryz.prog = true := by kernel_rfl

/-! THE ROW's STEP -/
set_option maxRecDepth 100000 in
theorem lifted (os : Os) (started : os.Started) (H : Type) (enc : TypeId × Value → H) :
    ReturnsInHanded {} Tryz.checked os 7 .any (Rows.lockGatesSpec.pre6 enc Tryz.prog Tryz.f7 Rows.lockGatesRow.domain false) (Rows.lockGatesSpec.post enc Tryz.prog Tryz.f7 false true false false) := by
  refine returnsInHanded_of_change (C := Tryz.checked) own started (by kernel_rfl) Tryz.func7
    (ChangeSpec.witness6 (enc := enc) (C := Tryz.checked) false ⟨#[], #[.slice none 0 0, .int .u8 0], []⟩ 8 (by kernel_rfl) (by kernel_rfl) (by kernel_rfl) (by kernel_rfl)) ?_
  intro W base args ds gs before hval0 hW hcnd _
  have hval : ∀ (j : Nat) t v, Tryz.f7.params[j]? = some t → args[j]? = some v → Value.okWide Tryz.prog W .any base t v := hval0
  have hW' := hW
  obtain ⟨p, q, hA0, hV, rfl, hfz, hnd⟩ := hW
  have hA : DataW.TrodAll enc Tryz.prog W 0 (fun _ => true) true Tryz.f7.params.toList args.toList ds p := hA0
  rw [Tryz.params7] at hA hval
  obtain ⟨v0, vs0, d0, ds0, p0, q0, hargs, rfl, rfl, h0, r0⟩ := trodAll_cons hA
  obtain ⟨v1, vs1, d1, ds1, p1, q1, rfl, rfl, rfl, h1, r1⟩ := trodAll_cons r0
  obtain ⟨rfl, rfl, rfl⟩ := trodAll_nil r1
  obtain rfl : args = #[v0, v1] := by cases args; simp_all
  obtain ⟨rfl, rfl⟩ := trodVars_none hV
  obtain ⟨a0, len0, cap0, rfl⟩ := okWide_slice Tryz.underlying47 (hval 0 47 v0 rfl rfl)
  have k0 := h0
  have lt0 : ∀ x ∈ p0, x.block < W.heap.size := by obtain ⟨m, hm⟩ := k0; exact DataW.trod_lt m _ _ _ hm
  obtain ⟨z0, w0⟩ : ∃ zs, IsRow .u8 W a0 len0 cap0 zs := by
    obtain ⟨fuel, hf⟩ := h0
    rcases open_ints Tryz.underlying47 Tryz.underlying5 (by kernel_rfl) hf with ⟨hcs, _⟩ | ⟨x, l, c, zs, hcs, _, hl, hm, hz, _, hcell, hwz⟩
    · simp [Value.cells] at hcs
      obtain ⟨rfl, rfl, rfl⟩ := hcs
      exact ⟨[], .inl ⟨rfl, rfl, rfl, rfl⟩⟩
    · simp [Value.cells] at hcs
      obtain ⟨rfl, rfl, rfl⟩ := hcs
      exact ⟨zs, .inr ⟨_, rfl, hl, hm, by simpa using hz, hcell, hwz⟩⟩
  obtain ⟨a1, rfl, rfl, rfl, w1⟩ := open_int Tryz.underlying5 (hval 1 5 v1 rfl rfl) h1
  clear hA0 hval0
  refine (walk a0 len0 cap0 z0 a1 W w0 w1).mono fun e W' ⟨he, bel⟩ => ?_
  subst he
  exact ⟨_, rfl, _, _, _, [], _, [], hW', trodAll_mk1 (shut_bool Tryz.underlying4 _), (trodAll_cons_mk (Below.trod laidOut (by kernel_rfl) (of_decide_eq_true (by kernel_rfl)) k0 bel lt0) (trodAll_cons_mk (shut_int Tryz.underlying5 w1) trodAll_mk0)), rfl, bel.frame _, fun h => by cases h⟩

theorem over : Rows.lockGatesRow.holds Tryz.pinned (OpenSpec.ofChange Rows.lockGatesSpec) :=
  OpenClaim.holds_of_wide 7 Tryz.f7 rfl rfl rfl rfl rfl rfl rfl ⟨rfl, rfl, rfl, rfl, rfl⟩ rfl rfl rfl rfl rfl (by kernel_rfl) Tryz.func7 (by kernel_rfl)
    (of_decide_eq_true (by kernel_rfl)) (by unfold Func.isWrapper; first | (rw [if_pos (by decide +kernel)]; kernel_rfl) | (rw [if_neg (by decide +kernel)]; exact ⟨rfl, rfl⟩))
    (fun os started H enc _ => lifted os started H enc)

/-- THE STATEMENT -/
theorem proved : Rows.LockGatesSaid := over
#print axioms proved
end Go.Proofs.YtlmdiechnidghaaGreat.lockGates

