/- A set that may be, spoilt at one place: what is told of it, and that it is another. Plain numbers. -/
import Derived.Test.YtijdincpjdkgfaaTwice
namespace Go.Proofs.Ytijdincpjdkgfaa
open Go.ChangeShapes Go.WideShapes Go.ChangeAt Go.RowKit
set_option linter.unusedVariables false

theorem bytes_ext {a b : ByteArray} (h : a.toList = b.toList) : a = b := by
  have e := h
  rw [ByteArray.toList_eq, ByteArray.toList_eq] at e
  obtain ⟨⟨a⟩⟩ := a
  obtain ⟨⟨b⟩⟩ := b
  simp at e
  rw [e]
theorem sameT_F {a b : TaskR} (h : sameT a b = true) : sameF a b := by
  unfold sameT at h
  simp only [Bool.and_eq_true, beq_iff_eq, decide_eq_true_eq] at h
  exact ⟨bytes_ext h.1, h.2.1, h.2.2.1, h.2.2.2.1, h.2.2.2.2.1, h.2.2.2.2.2⟩
theorem sameF.form {a b : TaskR} (h : sameF a b) : formB a = formB b := by
  unfold formB; rw [h.1, h.2.1, h.2.2.1, h.2.2.2.1]
/-- X is s, but for task k -/
structure ButT (s X : SetR) (k : Nat) : Prop where
  proto : X.proto = s.proto
  cores : X.cores = s.cores
  homes : X.homes = s.homes
  len : X.tasks.length = s.tasks.length
  like : ∀ m, m < s.tasks.length → m ≠ k → sameF (X.tasks.getD m default) (s.tasks.getD m default)
theorem ButT.taken {s X : SetR} {k m : Nat} (h : ButT s X k) (hok : okS s = true) (hk : k < s.tasks.length) (hm : m ≤ k) (h1 : (X.tasks.getD m default).name = (s.tasks.getD m default).name) (h2 : (X.tasks.getD m default).prio = (s.tasks.getD m default).prio) :
    takenB (X.tasks.take m) (X.tasks.getD m default) = false := by
  refine taken_none (by rw [h.len]; omega) (fun l hl => ?_)
  have hll : l < s.tasks.length := by omega
  have a := like_apart hok (a := m) (b := l) (by omega) hl
  have b := h.like l hll (by omega)
  unfold likeB
  rw [b.1, b.2.2.2.1, h1, h2, a.1, a.2]
  rfl
theorem ButT.before {s X : SetR} {k m : Nat} (h : ButT s X k) (hok : okS s = true) (hk : k < s.tasks.length) (hm : m < k) : taskE X m = 0 := by
  have hml : m < s.tasks.length := by omega
  have l := h.like m hml (by omega)
  obtain ⟨g1, g2, g3, g4⟩ := taskE_ok (((okS_iff s).1 hok).2 m hml)
  have t := h.taken hok hk (m := m) (by omega) l.1 l.2.2.2.1
  have fm := l.form
  unfold taskE
  rw [fm, g1, l.2.2.2.2.1, h.cores, g2, t, l.2.2.2.2.2, h.homes, g4]; simp
theorem ButT.here {s X : SetR} {k : Nat} (h : ButT s X k) (hok : okS s = true) (hk : k < s.tasks.length) {e : Int} (he : taskE X k = e) (hne : e ≠ 0) : chkAt X = k ∧ chkE X = e := by
  have hf : frameV X = 0 := by
    have := ((okS_iff s).1 hok).1
    unfold frameV at this ⊢
    rw [h.proto, h.cores, h.homes, h.len]; exact this
  have := chk_here hf (by rw [h.len]; exact hk) (fun j hj => h.before hok hk hj) (by rw [he]; exact hne)
  rw [he] at this
  exact this
theorem ButT.unlike {s X : SetR} {k : Nat} (h : ButT s X k) (hk : k < s.tasks.length) (hd : ¬ sameF (X.tasks.getD k default) (s.tasks.getD k default)) : sameS X s = false := by
  have e : sameT (X.tasks.getD k default) (s.tasks.getD k default) = false := by
    rw [← Bool.not_eq_true]; exact fun e => hd (sameT_F e)
  unfold sameS
  rw [sameTs_at (by rw [h.len]; exact hk) e]
  simp only [Bool.and_false]
/-- a spoilt task: e at k, and another set -/
structure Told (s X : SetR) (k e : Int) : Prop where
  at_ : chkAt X = k
  err : chkE X = e
  diff : sameS X s = false
theorem ButT.form {s X : SetR} {k : Nat} (h : ButT s X k) (hok : okS s = true) (hk : k < s.tasks.length) (hf : formB (X.tasks.getD k default) = false) : Told s X k 10 := by
  have g := (taskE_ok (((okS_iff s).1 hok).2 k hk)).1
  have e : taskE X k = 10 := by unfold taskE; rw [if_pos hf]
  obtain ⟨c1, c2⟩ := h.here hok hk e (by decide)
  refine ⟨c1, c2, h.unlike hk (fun hs => ?_)⟩
  rw [hs.form, g] at hf
  cases hf
/-- the same form at k -/
structure FormT (s X : SetR) (k : Nat) : Prop where
  name : (X.tasks.getD k default).name = (s.tasks.getD k default).name
  per : (X.tasks.getD k default).per = (s.tasks.getD k default).per
  dl : (X.tasks.getD k default).dl = (s.tasks.getD k default).dl
  prio : (X.tasks.getD k default).prio = (s.tasks.getD k default).prio
theorem FormT.form {s X : SetR} {k : Nat} (h : FormT s X k) : formB (X.tasks.getD k default) = formB (s.tasks.getD k default) := by
  unfold formB; rw [h.name, h.per, h.dl, h.prio]
theorem ButT.place {s X : SetR} {k : Nat} (h : ButT s X k) (hok : okS s = true) (hk : k < s.tasks.length) (hF : FormT s X k) (hc : (X.tasks.getD k default).cl = (s.cores.length : Int)) : Told s X k 16 := by
  obtain ⟨g1, g2, g3, g4⟩ := taskE_ok (((okS_iff s).1 hok).2 k hk)
  have e : taskE X k = 16 := by
    unfold taskE
    rw [hF.form, g1, hc, h.cores, if_neg (by simp), if_pos (by rw [inB_false]; omega)]
  obtain ⟨c1, c2⟩ := h.here hok hk e (by decide)
  refine ⟨c1, c2, h.unlike hk (fun hs => ?_)⟩
  rw [← hs.2.2.2.2.1, hc, inB_true] at g2
  omega
theorem ButT.part {s X : SetR} {k : Nat} (h : ButT s X k) (hok : okS s = true) (hk : k < s.tasks.length) (hF : FormT s X k) (hc : (X.tasks.getD k default).cl = (s.tasks.getD k default).cl) (hp : partsB (X.tasks.getD k default).parts s.homes.length = false) : Told s X k 15 := by
  obtain ⟨g1, g2, g3, g4⟩ := taskE_ok (((okS_iff s).1 hok).2 k hk)
  have t := h.taken hok hk (m := k) (Nat.le_refl _) hF.name hF.prio
  have e : taskE X k = 15 := by
    unfold taskE
    rw [hF.form, g1, hc, h.cores, g2, t, h.homes, hp]; simp
  obtain ⟨c1, c2⟩ := h.here hok hk e (by decide)
  refine ⟨c1, c2, h.unlike hk (fun hs => ?_)⟩
  rw [hs.2.2.2.2.2, g4] at hp
  cases hp
/-- what may not be is the first part -/
theorem parts_bad {ps : List PartM} {p : PartM} {r : Int} (h : partsB ps r = true) (hb : partB p r = false) : partsB (ps.set 0 p) r = false := by
  cases ps with
  | nil => exact absurd h (by simp [partsB, inB])
  | cons a ps =>
    rw [← Bool.not_eq_true]
    intro e
    unfold partsB at e
    rw [Bool.and_eq_true, List.all_eq_true] at e
    have := e.2 p (by simp)
    rw [hb] at this
    cases this
theorem part_long (p : PartM) (r : Int) : partB ⟨p.kind, 61, p.res⟩ r = false := by
  have e : inB 61 1 60 = false := rfl
  unfold partB
  dsimp only
  rw [e]
  simp
theorem part_res (n : Nat) : partB ⟨3, 1, (n : Int)⟩ n = false := by
  have e : inB (n : Int) 0 ((n : Int) - 1) = false := by rw [inB_false]; omega
  unfold partB
  rw [if_pos rfl, e]
  simp
theorem told_frame {s X : SetR} {e : Int} (h : frameV X = e) (he : e ≠ 0) (hd : sameS X s = false) : Told s X (-1) e := by
  refine ⟨?_, ?_, hd⟩
  · unfold chkAt; rw [if_pos (by rw [h]; exact he)]
  · unfold chkE; rw [if_pos (by rw [h]; exact he), h]
theorem told_proto {s X : SetR} (hok : okS s = true) (hp : X.proto = 4) : Told s X (-1) 10 := by
  obtain ⟨f1, -⟩ := frameV_ok ((okS_iff s).1 hok).1
  refine told_frame ?_ (by decide) ?_
  · unfold frameV; rw [hp, if_pos (by decide)]
  · have : (X.proto == s.proto) = false := by rw [beq_eq_false_iff_ne, hp]; have := inB_true.1 f1; omega
    unfold sameS; rw [this]; rfl
theorem told_cores {s X : SetR} (hok : okS s = true) (hp : X.proto = s.proto) (hc : X.cores = s.cores.set 0 0) : Told s X (-1) 16 := by
  obtain ⟨f1, f2, f3, -⟩ := frameV_ok ((okS_iff s).1 hok).1
  have hb : allB X.cores 1 3 = false := by
    rw [hc]
    cases e : s.cores with
    | nil => rw [e] at f2; exact absurd f2 (by decide)
    | cons a l => rfl
  refine told_frame ?_ (by decide) ?_
  · unfold frameV
    rw [hp, f1, hb, hc, List.length_set, f2]; simp
  · have : decide (X.cores = s.cores) = false := by
      rw [decide_eq_false_iff_not]; intro e; rw [e, f3] at hb; cases hb
    unfold sameS; rw [this]; simp
theorem told_none {s X : SetR} (hok : okS s = true) (hp : X.proto = s.proto) (hc : X.cores = s.cores) (hh : X.homes = s.homes) (ht : X.tasks = []) : Told s X (-1) 14 := by
  obtain ⟨f1, f2, f3, f4, f5, f6, -⟩ := frameV_ok ((okS_iff s).1 hok).1
  refine told_frame ?_ (by decide) ?_
  · unfold frameV
    rw [hp, f1, hc, f2, f3, hh, f5, ht, if_neg (by simp), if_neg (by simp), if_neg (by simp), if_neg (by omega)]; simp
  · unfold sameS
    rw [sameTs_len (by rw [ht]; simp; intro e; rw [← e] at f6; simp at f6)]
    simp
end Go.Proofs.Ytijdincpjdkgfaa
