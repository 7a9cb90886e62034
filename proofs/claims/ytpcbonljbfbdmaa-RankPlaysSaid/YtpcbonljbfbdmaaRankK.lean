/- rank: the values that law4's known meets. -/
import Derived.Test.YtpcbonljbfbdmaaRankI
import Derived.Test.YtpcbonljbfbdmaaRankD
namespace Go.Proofs.Ytpcbonljbfbdmaa
set_option linter.unusedVariables false
set_option linter.unusedSimpArgs false
theorem kn1 : riseL ([] ++ [(⟨5, 0, 3⟩ : EntM)]) ([] : List EntM).length = [⟨5, 0, 3⟩] := by rw [riseL]; rfl
theorem kn2 : riseL ([(⟨5, 0, 3⟩ : EntM)] ++ [⟨2, 1, 1⟩]) [(⟨5, 0, 3⟩ : EntM)].length = [⟨2, 1, 1⟩, ⟨5, 0, 3⟩] := by
  rw [riseL, dif_neg (by decide), if_neg (by decide), riseL]; rfl
theorem kn3 : riseL ([(⟨2, 1, 1⟩ : EntM), ⟨5, 0, 3⟩] ++ [⟨2, 2, 4⟩]) [(⟨2, 1, 1⟩ : EntM), ⟨5, 0, 3⟩].length = [⟨2, 1, 1⟩, ⟨5, 0, 3⟩, ⟨2, 2, 4⟩] := by
  rw [riseL, dif_neg (by decide), if_pos (by decide)]; rfl
theorem kn4 : removeL [(⟨2, 1, 1⟩ : EntM), ⟨5, 0, 3⟩, ⟨2, 2, 4⟩] 0 = [⟨2, 2, 4⟩, ⟨5, 0, 3⟩] := by
  unfold removeL
  rw [if_pos (by decide), riseL, dif_pos rfl, show cutL [(⟨2, 1, 1⟩ : EntM), ⟨5, 0, 3⟩, ⟨2, 2, 4⟩] 0 = [⟨2, 2, 4⟩, ⟨5, 0, 3⟩] from rfl, sinkL, dif_neg (by decide), if_pos (by decide)]
theorem kn5 : removeL [(⟨2, 2, 4⟩ : EntM), ⟨5, 0, 3⟩] 0 = [⟨5, 0, 3⟩] := by
  unfold removeL
  rw [if_pos (by decide), riseL, dif_pos rfl, show cutL [(⟨2, 2, 4⟩ : EntM), ⟨5, 0, 3⟩] 0 = [⟨5, 0, 3⟩] from rfl, sinkL, dif_pos (by decide)]
theorem kn6 : dropL [(⟨5, 0, 3⟩ : EntM)] 3 = [] := rfl
theorem kn7 : (bestE [(⟨5, 0, 3⟩ : EntM)] 3 1).isSome = true := rfl
end Go.Proofs.Ytpcbonljbfbdmaa
