/-
  No cell of these rows narrows 'for every input' (looked for: loops, veiled, ifaces, maps, wideKeys, modest, calm, conditions, laid).
  DERIVED. THE GIVEN ROWS OF THIS SEAT. 5 by the template 'for every input the law returns true; each argument reads behind the call as it read before'; 0 by the template 'total and deterministic' (their statements: YtgkhbindabbdhaaTotals.lean).
  GIVEN WITH THE SEED: the statements are not yours to turn. If you find one false, say at which input.
  Laid BY PROGRAM, IN A SANDBOX (cutbox-rows.mjs): the forced cells as the released guide's own fill.sh prints them over the translation d5f32a84f05ff62d… (all of the seat's roots in one cut). By AI agents, Wed Nov 11 2026. No macro, syntax, notation, axiom, sorry.
-/
import Derived.Test.YtgkhbindabbdhaaChecked
import GoSem.Claim
import GoSem.ClaimJoined
import GoSem.ClaimMapViews
import Derived.JoinedTies
import Derived.KernelRfl
namespace Go.Proofs.Ytgkhbindabbdhaa
/- THE CELL 'sum', in the pinned program and in every row, IS THE sha256 OF THE DUMP (.gsa) THAT YtgkhbindabbdhaaProg.lean LOADS. Nothing in Lean hashes anything: it is a label: what it is worth is what the hold of that sum in a sandbox is worth. -/
noncomputable def Try.pinned : Pinned := { name := "ytgkhbindabbdhaa", sum := "d5f32a84f05ff62dab4cff2d43b2ab07760a3a41e12dcd7d7814e9f26be484ba", checked := Try.checked }
namespace Rows
def none {H : Type} : Left H := { results := [], args := [] }

/-- 'swingbridgelaw12.CountTells': WHATEVER THE INPUT: true; the input reads as it did. -/
def countTellsSpec : ChangeSpec := { name := "countTells", fn := fun _ => fun
  | [d1, d2, d3, d4] => { results := [.lit (.bool true)], args := [d1, d2, d3, d4] }
  | _ => none }
def countTellsRow : OpenClaim := { program := "ytgkhbindabbdhaa", sum := "d5f32a84f05ff62dab4cff2d43b2ab07760a3a41e12dcd7d7814e9f26be484ba", func := "swingbridge/swingbridgelaw12.CountTells", spec := "countTells", apart := false }
def CountTellsSaid : Prop := countTellsRow.holds Try.pinned (OpenSpec.ofChange countTellsSpec)

/-- ITS FALSE NEIGHBOUR: 'it returns false'. Refute it at one input. -/
def countTellsWrong : ChangeSpec := { name := "countTells", fn := fun _ => fun
  | [d1, d2, d3, d4] => { results := [.lit (.bool false)], args := [d1, d2, d3, d4] }
  | _ => none }
def CountTellsWrongFalsely : Prop := countTellsRow.holds Try.pinned (OpenSpec.ofChange countTellsWrong)

/-- 'swingbridgelaw12.CountReleases': WHATEVER THE INPUT: true; the input reads as it did. -/
def countReleasesSpec : ChangeSpec := { name := "countReleases", fn := fun _ => fun
  | [d1, d2, d3, d4, d5] => { results := [.lit (.bool true)], args := [d1, d2, d3, d4, d5] }
  | _ => none }
def countReleasesRow : OpenClaim := { program := "ytgkhbindabbdhaa", sum := "d5f32a84f05ff62dab4cff2d43b2ab07760a3a41e12dcd7d7814e9f26be484ba", func := "swingbridge/swingbridgelaw12.CountReleases", spec := "countReleases", apart := false }
def CountReleasesSaid : Prop := countReleasesRow.holds Try.pinned (OpenSpec.ofChange countReleasesSpec)

/-- ITS FALSE NEIGHBOUR: 'it returns false'. Refute it at one input. -/
def countReleasesWrong : ChangeSpec := { name := "countReleases", fn := fun _ => fun
  | [d1, d2, d3, d4, d5] => { results := [.lit (.bool false)], args := [d1, d2, d3, d4, d5] }
  | _ => none }
def CountReleasesWrongFalsely : Prop := countReleasesRow.holds Try.pinned (OpenSpec.ofChange countReleasesWrong)

/-- 'swingbridgelaw12.CountRises': WHATEVER THE INPUT: true; the input reads as it did. -/
def countRisesSpec : ChangeSpec := { name := "countRises", fn := fun _ => fun
  | [d1, d2, d3, d4, d5] => { results := [.lit (.bool true)], args := [d1, d2, d3, d4, d5] }
  | _ => none }
def countRisesRow : OpenClaim := { program := "ytgkhbindabbdhaa", sum := "d5f32a84f05ff62dab4cff2d43b2ab07760a3a41e12dcd7d7814e9f26be484ba", func := "swingbridge/swingbridgelaw12.CountRises", spec := "countRises", apart := false }
def CountRisesSaid : Prop := countRisesRow.holds Try.pinned (OpenSpec.ofChange countRisesSpec)

/-- ITS FALSE NEIGHBOUR: 'it returns false'. Refute it at one input. -/
def countRisesWrong : ChangeSpec := { name := "countRises", fn := fun _ => fun
  | [d1, d2, d3, d4, d5] => { results := [.lit (.bool false)], args := [d1, d2, d3, d4, d5] }
  | _ => none }
def CountRisesWrongFalsely : Prop := countRisesRow.holds Try.pinned (OpenSpec.ofChange countRisesWrong)

/-- 'swingbridgelaw12.CountPeriods': WHATEVER THE INPUT: true; the input reads as it did. -/
def countPeriodsSpec : ChangeSpec := { name := "countPeriods", fn := fun _ => fun
  | [d1, d2, d3] => { results := [.lit (.bool true)], args := [d1, d2, d3] }
  | _ => none }
def countPeriodsRow : OpenClaim := { program := "ytgkhbindabbdhaa", sum := "d5f32a84f05ff62dab4cff2d43b2ab07760a3a41e12dcd7d7814e9f26be484ba", func := "swingbridge/swingbridgelaw12.CountPeriods", spec := "countPeriods", apart := false }
def CountPeriodsSaid : Prop := countPeriodsRow.holds Try.pinned (OpenSpec.ofChange countPeriodsSpec)

/-- ITS FALSE NEIGHBOUR: 'it returns false'. Refute it at one input. -/
def countPeriodsWrong : ChangeSpec := { name := "countPeriods", fn := fun _ => fun
  | [d1, d2, d3] => { results := [.lit (.bool false)], args := [d1, d2, d3] }
  | _ => none }
def CountPeriodsWrongFalsely : Prop := countPeriodsRow.holds Try.pinned (OpenSpec.ofChange countPeriodsWrong)

/-- 'swingbridgelaw12.CountMost': WHATEVER THE INPUT: true; the input reads as it did. -/
def countMostSpec : ChangeSpec := { name := "countMost", fn := fun _ => fun
  | [d1, d2, d3, d4] => { results := [.lit (.bool true)], args := [d1, d2, d3, d4] }
  | _ => none }
def countMostRow : OpenClaim := { program := "ytgkhbindabbdhaa", sum := "d5f32a84f05ff62dab4cff2d43b2ab07760a3a41e12dcd7d7814e9f26be484ba", func := "swingbridge/swingbridgelaw12.CountMost", spec := "countMost", apart := false }
def CountMostSaid : Prop := countMostRow.holds Try.pinned (OpenSpec.ofChange countMostSpec)

/-- ITS FALSE NEIGHBOUR: 'it returns false'. Refute it at one input. -/
def countMostWrong : ChangeSpec := { name := "countMost", fn := fun _ => fun
  | [d1, d2, d3, d4] => { results := [.lit (.bool false)], args := [d1, d2, d3, d4] }
  | _ => none }
def CountMostWrongFalsely : Prop := countMostRow.holds Try.pinned (OpenSpec.ofChange countMostWrong)

/- THE SECOND FORM. 'bulk': how many values and letters a reading holds, each counted each time it is reached (what is shared counts as often as it is met; a slice's spare places count too). A statement '..UptoSaid' is the law's where the arguments, and the package variables that the reading takes, are together of bulk at most 1048576: NARROWER than '..Said'. Prove '..Said' where nothing that the law and all that it calls make is longer than what came in: it says more and counts as full. Else prove '..UptoSaid'. A law counts once. -/
mutual
def uptoBulk {H : Type} : DataW H → Nat
  | .lit (.string bytes) => bytes.length + 1
  | .lit _ => 1
  | .nil => 1
  | .ptr d => uptoBulk d + 1
  | .slice elems spare => uptoBulkAll elems + uptoBulkAll spare + 1
  | .agg parts => uptoBulkAll parts + 1
  | .iface _ d => uptoBulk d + 1
  | .map entries => uptoBulkEntries entries + 1
  | .held _ => 1
def uptoBulkAll {H : Type} : List (DataW H) → Nat
  | [] => 0
  | d :: r => uptoBulk d + uptoBulkAll r
def uptoBulkEntries {H : Type} : List (Lit × DataW H) → Nat
  | [] => 0
  | x :: r => uptoBulkEntry x + uptoBulkEntries r
def uptoBulkEntry {H : Type} : Lit × DataW H → Nat
  | (.string bytes, d) => bytes.length + uptoBulk d + 1
  | (_, d) => uptoBulk d + 1
 end
def uptoSmall : (H : Type) → List (DataW H) → Bool := fun _ ds => decide (uptoBulkAll ds ≤ 1048576)
def OpenSpec.upto (s : _root_.Go.ChangeSpec) : _root_.Go.OpenSpec := { _root_.Go.OpenSpec.ofChange s with cond := some uptoSmall }

/-- 'swingbridgelaw12.CountTells', WHERE WHAT IT READS IS OF BULK AT MOST 1048576: true; the input reads as it did. -/
def countTellsUptoRow : OpenClaim := { program := "ytgkhbindabbdhaa", sum := "d5f32a84f05ff62dab4cff2d43b2ab07760a3a41e12dcd7d7814e9f26be484ba", func := "swingbridge/swingbridgelaw12.CountTells", spec := "countTells", apart := false, narrowed := true }
def CountTellsUptoSaid : Prop := countTellsUptoRow.holds Try.pinned (OpenSpec.upto countTellsSpec)

/-- 'swingbridgelaw12.CountReleases', WHERE WHAT IT READS IS OF BULK AT MOST 1048576: true; the input reads as it did. -/
def countReleasesUptoRow : OpenClaim := { program := "ytgkhbindabbdhaa", sum := "d5f32a84f05ff62dab4cff2d43b2ab07760a3a41e12dcd7d7814e9f26be484ba", func := "swingbridge/swingbridgelaw12.CountReleases", spec := "countReleases", apart := false, narrowed := true }
def CountReleasesUptoSaid : Prop := countReleasesUptoRow.holds Try.pinned (OpenSpec.upto countReleasesSpec)

/-- 'swingbridgelaw12.CountRises', WHERE WHAT IT READS IS OF BULK AT MOST 1048576: true; the input reads as it did. -/
def countRisesUptoRow : OpenClaim := { program := "ytgkhbindabbdhaa", sum := "d5f32a84f05ff62dab4cff2d43b2ab07760a3a41e12dcd7d7814e9f26be484ba", func := "swingbridge/swingbridgelaw12.CountRises", spec := "countRises", apart := false, narrowed := true }
def CountRisesUptoSaid : Prop := countRisesUptoRow.holds Try.pinned (OpenSpec.upto countRisesSpec)

/-- 'swingbridgelaw12.CountPeriods', WHERE WHAT IT READS IS OF BULK AT MOST 1048576: true; the input reads as it did. -/
def countPeriodsUptoRow : OpenClaim := { program := "ytgkhbindabbdhaa", sum := "d5f32a84f05ff62dab4cff2d43b2ab07760a3a41e12dcd7d7814e9f26be484ba", func := "swingbridge/swingbridgelaw12.CountPeriods", spec := "countPeriods", apart := false, narrowed := true }
def CountPeriodsUptoSaid : Prop := countPeriodsUptoRow.holds Try.pinned (OpenSpec.upto countPeriodsSpec)

/-- 'swingbridgelaw12.CountMost', WHERE WHAT IT READS IS OF BULK AT MOST 1048576: true; the input reads as it did. -/
def countMostUptoRow : OpenClaim := { program := "ytgkhbindabbdhaa", sum := "d5f32a84f05ff62dab4cff2d43b2ab07760a3a41e12dcd7d7814e9f26be484ba", func := "swingbridge/swingbridgelaw12.CountMost", spec := "countMost", apart := false, narrowed := true }
def CountMostUptoSaid : Prop := countMostUptoRow.holds Try.pinned (OpenSpec.upto countMostSpec)

end Rows
end Go.Proofs.Ytgkhbindabbdhaa
