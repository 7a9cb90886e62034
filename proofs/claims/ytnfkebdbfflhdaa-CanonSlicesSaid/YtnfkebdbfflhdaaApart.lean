/- Of a set that may be no two tasks have one name, or one priority. Plain numbers. -/
import Derived.Test.YtnfkebdbfflhdaaSound
namespace Go.Proofs.Ytnfkebdbfflhdaa
open Go.ChangeShapes Go.WideShapes Go.ChangeAt Go.RowKit
set_option linter.unusedVariables false
theorem like_no {a b : TaskR} (h : likeB a b = false) : ((b.name.toList == a.name.toList) = false ∧ (b.prio == a.prio) = false) := by
  unfold likeB at h
  rw [Bool.or_eq_false_iff] at h
  exact h
theorem bytes_comm (a b : ByteArray) : (a.toList == b.toList) = (b.toList == a.toList) := by
  rw [Bool.eq_iff_iff, beq_iff_eq, beq_iff_eq]; exact eq_comm
theorem apart_of {s : SetR} (ho : okS s = true) {i k : Nat} (hi : i < s.tasks.length) (hk : k < s.tasks.length) (hne : i ≠ k) : ((s.tasks.getD i default).name.toList == (s.tasks.getD k default).name.toList) = false ∧ ((s.tasks.getD i default).prio == (s.tasks.getD k default).prio) = false := by
  have hg := Good.of ho
  have key : ∀ i k, i < k → k < s.tasks.length → ((s.tasks.getD i default).name.toList == (s.tasks.getD k default).name.toList) = false ∧ ((s.tasks.getD i default).prio == (s.tasks.getD k default).prio) = false := fun i k hik hk => by
    have h := hg.apart k hk
    unfold takenB at h
    rw [List.any_eq_false] at h
    have hm : s.tasks.getD i default ∈ s.tasks.take k := by
      have e2 : (s.tasks.take k).getD i default = s.tasks.getD i default := by simp [List.getD, show i < k by omega]
      rw [← e2]; exact getD_mem (by rw [List.length_take]; omega)
    exact like_no (by simpa using h _ hm)
  rcases Nat.lt_or_ge i k with h | h
  · exact key i k h hk
  · obtain ⟨a, b⟩ := key k i (by omega) hi
    refine ⟨by rw [bytes_comm]; exact a, ?_⟩
    rw [beq_eq_false_iff_ne] at b ⊢
    exact fun e => b e.symm
end Go.Proofs.Ytnfkebdbfflhdaa
