/- canon: a set whose priorities are unlike has one form, however its tasks stand; turned round and back it is as it was. Plain numbers. -/
import Derived.Test.YtnfkebdbfflhdaaApart
import Derived.Test.YtnfkebdbfflhdaaRefCanon2
namespace Go.Proofs.Ytnfkebdbfflhdaa
open Go.ChangeShapes Go.WideShapes Go.ChangeAt Go.RowKit
set_option linter.unusedVariables false

theorem strict_uniq {α : Type} (key : α → Int) : ∀ (a b : List α), a.Perm b → a.Pairwise (fun x y => key x < key y) → b.Pairwise (fun x y => key x < key y) → a = b
  | [], b, h, _, _ => (List.Perm.nil_eq h)
  | x :: a, [], h, _, _ => absurd h.length_eq (by simp)
  | x :: a, y :: b, h, ha, hb => by
    have h1 := List.pairwise_cons.1 ha
    have h2 := List.pairwise_cons.1 hb
    have e : x = y := by
      have m1 : x ∈ y :: b := h.mem_iff.1 (by simp)
      have m2 : y ∈ x :: a := h.mem_iff.2 (by simp)
      rcases List.mem_cons.1 m1 with e | m1
      · exact e
      · rcases List.mem_cons.1 m2 with e | m2
        · exact e.symm
        · have := h2.1 x m1; have := h1.1 y m2; omega
    subst e
    rw [strict_uniq key a b (List.Perm.cons_inv h) h1.2 h2.2]
/-- the tasks of these numbers, besides where their parts lie -/
def coreAt (s : SetR) (z : Int) : TaskR := core (s.tasks.getD z.toNat default)
theorem arr_cores {s x : SetR} {zs : List Int} (h : Arr s x zs) : x.tasks.map core = zs.map (coreAt s) := h.tasks
theorem cores_range (s : SetR) : s.tasks.map core = ((List.range s.tasks.length).map (fun i : Nat => (i : Int))).map (coreAt s) := by
  rw [List.map_map]
  apply List.ext_getElem
  · simp
  · intro i h1 h2
    simp at h1
    simp [coreAt, List.getD, h1]
theorem arr_perm {s x : SetR} {zs : List Int} (h : Arr s x zs) (hz : zs.Perm ((List.range s.tasks.length).map (fun i : Nat => (i : Int)))) : (x.tasks.map core).Perm (s.tasks.map core) := by
  rw [arr_cores h, cores_range]; exact hz.map _
/-- no two priorities alike -/
def Unlike (s : SetR) : Prop := ((s.tasks.map core).map (·.prio)).Nodup
theorem unlike_ok {s : SetR} (ho : okS s = true) : Unlike s := by
  unfold Unlike
  rw [List.map_map]
  refine List.pairwise_iff_getElem.2 (fun i j hi hj hij => ?_)
  simp at hi hj
  have := (apart_of ho hi hj (by omega)).2
  rw [beq_eq_false_iff_ne] at this
  simpa [core, List.getD, hi, hj] using this
theorem unlike_arr {s x : SetR} {zs : List Int} (h : Arr s x zs) (hz : zs.Perm ((List.range s.tasks.length).map (fun i : Nat => (i : Int)))) (hu : Unlike s) : Unlike x := by
  unfold Unlike at *
  exact (((arr_perm h hz).map (·.prio)).nodup_iff).2 hu
theorem coreAt_prio {s : SetR} {p : Int × Int} (h : p ∈ isort (its s.tasks)) : (coreAt s p.2).prio = p.1 := by
  obtain ⟨i, hi, rfl⟩ := its_in ((isort_perm _).mem_iff.1 h)
  simp [coreAt, core]
/-- one form: in order, no two alike -/
theorem canon_srt {s x : SetR} (h : Arr s x (ordL s.tasks)) (hu : Unlike s) : (x.tasks.map core).Pairwise (fun a b => a.prio < b.prio) := by
  have hx := unlike_arr h (ordL_perm _) hu
  have hle : (x.tasks.map core).Pairwise (fun a b => a.prio ≤ b.prio) := by
    rw [arr_cores h]
    unfold ordL
    rw [List.map_map]
    refine List.pairwise_map.2 ((isort_srt (its s.tasks)).imp_of_mem (fun {a b} ha hb hab => ?_))
    simp only [Function.comp]
    rw [coreAt_prio ha, coreAt_prio hb]; exact hab
  have hne : (x.tasks.map core).Pairwise (fun a b => a.prio ≠ b.prio) := List.pairwise_map.1 hx
  exact (hle.and hne).imp (fun {a b} h => by have h1 := h.1; have h2 := h.2; omega)
/-- two sets with the same tasks have the same form -/
theorem canon_one {s t x y : SetR} (h1 : t.proto = s.proto) (h2 : t.cores = s.cores) (h3 : t.homes = s.homes) (hp : (t.tasks.map core).Perm (s.tasks.map core)) (hu : Unlike s) (hx : Arr s x (ordL s.tasks)) (hy : Arr t y (ordL t.tasks)) : sameS y x = true := by
  have hut : Unlike t := by unfold Unlike at *; exact ((hp.map (·.prio)).nodup_iff).2 hu
  refine same_cores (hy.proto.trans (h1.trans hx.proto.symm)) (hy.cores.trans (h2.trans hx.cores.symm)) (hy.homes.trans (h3.trans hx.homes.symm)) ?_
  refine strict_uniq (·.prio) _ _ ?_ (canon_srt hy hut) (canon_srt hx hu)
  exact ((arr_perm hy (ordL_perm _)).trans hp).trans (arr_perm hx (ordL_perm _)).symm
theorem turL_at {k n m i : Nat} (h : i < m) : (turL k n m).getD i 0 = (((k + i) % n : Nat) : Int) := by simp [turL, List.getD, h]
/-- the numbers turned round are all numbers -/
theorem turL_perm {k n : Nat} (hk : k ≤ n) : (turL k n n).Perm ((List.range n).map (fun i : Nat => (i : Int))) := by
  unfold turL
  have e : (List.range n).map (fun i => (((k + i) % n : Nat) : Int)) = ((List.range n).map (fun i => (k + i) % n)).map (fun i : Nat => (i : Int)) := by rw [List.map_map]; rfl
  rw [e]
  refine List.Perm.map _ ?_
  refine (List.perm_ext_iff_of_nodup ?_ List.nodup_range).2 (fun j => ?_)
  · refine List.pairwise_map.2 (List.nodup_range.imp_of_mem (fun {a b} ha hb hab => ?_))
    have ha := List.mem_range.1 ha
    have hb := List.mem_range.1 hb
    intro e
    have h1 : (k + a) % n = if k + a < n then k + a else k + a - n := by
      split
      · exact Nat.mod_eq_of_lt (by assumption)
      · rw [Nat.mod_eq_sub_mod (by omega), Nat.mod_eq_of_lt (by omega)]
    have h2 : (k + b) % n = if k + b < n then k + b else k + b - n := by
      split
      · exact Nat.mod_eq_of_lt (by assumption)
      · rw [Nat.mod_eq_sub_mod (by omega), Nat.mod_eq_of_lt (by omega)]
    rw [h1, h2] at e
    split at e <;> split at e <;> omega
  · constructor
    · intro h
      obtain ⟨i, hi, rfl⟩ := List.mem_map.1 h
      have := List.mem_range.1 hi
      exact List.mem_range.2 (Nat.mod_lt _ (by omega))
    · intro h
      have hj := List.mem_range.1 h
      refine List.mem_map.2 ⟨(j + (n - k)) % n, List.mem_range.2 (Nat.mod_lt _ (by omega)), ?_⟩
      rw [Nat.add_mod_mod, show k + (j + (n - k)) = j + n by omega, Nat.add_mod_right, Nat.mod_eq_of_lt hj]
theorem start_perm {b : Int} {s : SetR} : (turL (startN b s.tasks.length) s.tasks.length s.tasks.length).Perm ((List.range s.tasks.length).map (fun i : Nat => (i : Int))) := by
  rcases Nat.eq_zero_or_pos s.tasks.length with e | e
  · rw [e]; simp [turL]
  · exact turL_perm (Nat.le_of_lt (startN_lt e))
/-- there and back -/
theorem start_back {b : Int} {n i : Nat} (hn : 0 < n) (hi : i < n) : (startN b n + (startN (-b) n + i) % n) % n = i := by
  have h1 := startN_eq (b := b) hn
  have h2 := startN_eq (b := -b) hn
  have h3 : (((startN b n + (startN (-b) n + i) % n) % n : Nat) : Int) = (i : Int) := by
    simp only [Int.natCast_emod, Int.natCast_add]
    rw [h1, h2]
    have h0 : (0 : Int) ≤ (i : Int) := by omega
    have hi2 : (i : Int) < (n : Int) := by omega
    rw [Int.add_emod (b % (n : Int)), Int.emod_emod, Int.emod_emod, ← Int.add_emod]
    rw [show b + ((-b) % (n : Int) + (i : Int)) = (-b) % (n : Int) + (b + (i : Int)) by omega, Int.add_emod, Int.emod_emod, ← Int.add_emod, show -b + (b + (i : Int)) = (i : Int) by omega, Int.emod_eq_of_lt h0 hi2]
  omega
theorem move_back {b : Int} {s x y : SetR} (hx : Arr s x (turL (startN b s.tasks.length) s.tasks.length s.tasks.length)) (hy : Arr x y (turL (startN (-b) x.tasks.length) x.tasks.length x.tasks.length)) : sameS y s = true := by
  have hl : x.tasks.length = s.tasks.length := by rw [hx.len, turL_len]
  refine same_cores (hy.proto.trans hx.proto) (hy.cores.trans hx.cores) (hy.homes.trans hx.homes) ?_
  rw [arr_cores hy, hl]
  apply List.ext_getElem
  · simp [turL_len]
  · intro i h1 h2
    simp [turL_len] at h1
    have hn : 0 < s.tasks.length := by omega
    have e1 : (turL (startN (-b) s.tasks.length) s.tasks.length s.tasks.length)[i]'(by rw [turL_len]; exact h1) = (((startN (-b) s.tasks.length + i) % s.tasks.length : Nat) : Int) := by simp [turL]
    rw [List.getElem_map, e1]
    unfold coreAt
    rw [Int.toNat_natCast]
    have hq : (startN (-b) s.tasks.length + i) % s.tasks.length < s.tasks.length := Nat.mod_lt _ hn
    have e2 := congrArg (fun l => l.getD ((startN (-b) s.tasks.length + i) % s.tasks.length) default) (arr_cores hx)
    rw [mapD core (by omega), mapD (coreAt s) (by rw [turL_len]; exact hq)] at e2
    rw [e2]
    have e3 : (turL (startN b s.tasks.length) s.tasks.length s.tasks.length).getD ((startN (-b) s.tasks.length + i) % s.tasks.length) default = (i : Int) := by
      have := turL_at (k := startN b s.tasks.length) (n := s.tasks.length) hq
      rw [start_back hn h1] at this
      exact this
    rw [e3]
    simp [coreAt, List.getD, h1]
theorem Arr.few {s x : SetR} {zs : List Int} (h : Arr s x zs) (hf : FewS s) (hz : ∀ z ∈ zs, 0 ≤ z ∧ z < (s.tasks.length : Int)) (hl : zs.length = s.tasks.length) : FewS x := by
  refine ⟨by rw [h.cores]; exact hf.cores, by rw [h.homes]; exact hf.homes, by rw [h.len, hl]; exact hf.tasks, fun t ht => ?_⟩
  have hm : core t ∈ x.tasks.map core := List.mem_map.2 ⟨t, ht, rfl⟩
  rw [arr_cores h] at hm
  obtain ⟨z, hzm, e⟩ := List.mem_map.1 hm
  have := hz z hzm
  have e2 := congrArg TaskR.parts e
  simp only [coreAt, core] at e2
  rw [← e2]
  exact hf.parts _ (getD_mem (by omega))
end Go.Proofs.Ytnfkebdbfflhdaa
