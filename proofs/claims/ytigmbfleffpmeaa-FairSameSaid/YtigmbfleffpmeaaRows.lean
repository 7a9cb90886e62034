/-
  No cell of these rows narrows 'for every input' (looked for: loops, veiled, ifaces, maps, wideKeys, modest, calm, conditions, laid).
  DERIVED. THE GIVEN ROWS OF THIS SEAT. 10 by the template 'for every input the law returns true; each argument reads behind the call as it read before'; 0 by the template 'total and deterministic' (their statements: YtigmbfleffpmeaaTotals.lean).
  GIVEN WITH THE SEED: the statements are not yours to turn. If you find one false, say at which input.
  Laid BY PROGRAM, IN A SANDBOX (cutbox-rows.mjs): the forced cells as the released guide's own fill.sh prints them over the translation 609ed33a56b3f75c… (all of the seat's roots in one cut). By AI agents, Wed Nov 11 2026. No macro, syntax, notation, axiom, sorry.
-/
import Derived.Test.YtigmbfleffpmeaaChecked
import GoSem.Claim
import GoSem.ClaimJoined
import GoSem.ClaimMapViews
import Derived.JoinedTies
import Derived.KernelRfl
namespace Go.Proofs.Ytigmbfleffpmeaa
/- THE CELL 'sum', in the pinned program and in every row, IS THE sha256 OF THE DUMP (.gsa) THAT YtigmbfleffpmeaaProg.lean LOADS. Nothing in Lean hashes anything: it is a label: what it is worth is what the hold of that sum in a sandbox is worth. -/
noncomputable def Try.pinned : Pinned := { name := "ytigmbfleffpmeaa", sum := "609ed33a56b3f75cda776825090d02b82dbfd49e3ca023535c460948797bd54d", checked := Try.checked }
namespace Rows
def none {H : Type} : Left H := { results := [], args := [] }

/-- 'swingbridgelaw8.TaskTells': WHATEVER THE INPUT: true; the input reads as it did. -/
def taskTellsSpec : ChangeSpec := { name := "taskTells", fn := fun _ => fun
  | [d1, d2] => { results := [.lit (.bool true)], args := [d1, d2] }
  | _ => none }
def taskTellsRow : OpenClaim := { program := "ytigmbfleffpmeaa", sum := "609ed33a56b3f75cda776825090d02b82dbfd49e3ca023535c460948797bd54d", func := "swingbridge/swingbridgelaw8.TaskTells", spec := "taskTells", unfollowed := true, recurses := true, apart := false }
def TaskTellsSaid : Prop := taskTellsRow.holds Try.pinned (OpenSpec.ofChange taskTellsSpec)

/-- ITS FALSE NEIGHBOUR: 'it returns false'. Refute it at one input. -/
def taskTellsWrong : ChangeSpec := { name := "taskTells", fn := fun _ => fun
  | [d1, d2] => { results := [.lit (.bool false)], args := [d1, d2] }
  | _ => none }
def TaskTellsWrongFalsely : Prop := taskTellsRow.holds Try.pinned (OpenSpec.ofChange taskTellsWrong)

/-- 'swingbridgelaw8.TaskSpoils': WHATEVER THE INPUT: true; the input reads as it did. -/
def taskSpoilsSpec : ChangeSpec := { name := "taskSpoils", fn := fun _ => fun
  | [d1, d2, d3] => { results := [.lit (.bool true)], args := [d1, d2, d3] }
  | _ => none }
def taskSpoilsRow : OpenClaim := { program := "ytigmbfleffpmeaa", sum := "609ed33a56b3f75cda776825090d02b82dbfd49e3ca023535c460948797bd54d", func := "swingbridge/swingbridgelaw8.TaskSpoils", spec := "taskSpoils", unfollowed := true, recurses := true, apart := false }
def TaskSpoilsSaid : Prop := taskSpoilsRow.holds Try.pinned (OpenSpec.ofChange taskSpoilsSpec)

/-- ITS FALSE NEIGHBOUR: 'it returns false'. Refute it at one input. -/
def taskSpoilsWrong : ChangeSpec := { name := "taskSpoils", fn := fun _ => fun
  | [d1, d2, d3] => { results := [.lit (.bool false)], args := [d1, d2, d3] }
  | _ => none }
def TaskSpoilsWrongFalsely : Prop := taskSpoilsRow.holds Try.pinned (OpenSpec.ofChange taskSpoilsWrong)

/-- 'swingbridgelaw8.TaskTwice': WHATEVER THE INPUT: true; the input reads as it did. -/
def taskTwiceSpec : ChangeSpec := { name := "taskTwice", fn := fun _ => fun
  | [d1, d2, d3, d4] => { results := [.lit (.bool true)], args := [d1, d2, d3, d4] }
  | _ => none }
def taskTwiceRow : OpenClaim := { program := "ytigmbfleffpmeaa", sum := "609ed33a56b3f75cda776825090d02b82dbfd49e3ca023535c460948797bd54d", func := "swingbridge/swingbridgelaw8.TaskTwice", spec := "taskTwice", unfollowed := true, recurses := true, apart := false }
def TaskTwiceSaid : Prop := taskTwiceRow.holds Try.pinned (OpenSpec.ofChange taskTwiceSpec)

/-- ITS FALSE NEIGHBOUR: 'it returns false'. Refute it at one input. -/
def taskTwiceWrong : ChangeSpec := { name := "taskTwice", fn := fun _ => fun
  | [d1, d2, d3, d4] => { results := [.lit (.bool false)], args := [d1, d2, d3, d4] }
  | _ => none }
def TaskTwiceWrongFalsely : Prop := taskTwiceRow.holds Try.pinned (OpenSpec.ofChange taskTwiceWrong)

/-- 'swingbridgelaw8.TaskLimits': WHATEVER THE INPUT: true; the input reads as it did. -/
def taskLimitsSpec : ChangeSpec := { name := "taskLimits", fn := fun _ => fun
  | [d1, d2, d3, d4, d5] => { results := [.lit (.bool true)], args := [d1, d2, d3, d4, d5] }
  | _ => none }
def taskLimitsRow : OpenClaim := { program := "ytigmbfleffpmeaa", sum := "609ed33a56b3f75cda776825090d02b82dbfd49e3ca023535c460948797bd54d", func := "swingbridge/swingbridgelaw8.TaskLimits", spec := "taskLimits", unfollowed := true, recurses := true, apart := false }
def TaskLimitsSaid : Prop := taskLimitsRow.holds Try.pinned (OpenSpec.ofChange taskLimitsSpec)

/-- ITS FALSE NEIGHBOUR: 'it returns false'. Refute it at one input. -/
def taskLimitsWrong : ChangeSpec := { name := "taskLimits", fn := fun _ => fun
  | [d1, d2, d3, d4, d5] => { results := [.lit (.bool false)], args := [d1, d2, d3, d4, d5] }
  | _ => none }
def TaskLimitsWrongFalsely : Prop := taskLimitsRow.holds Try.pinned (OpenSpec.ofChange taskLimitsWrong)

/-- 'swingbridgelaw11.DemandParts': WHATEVER THE INPUT: true; the input reads as it did. -/
def demandPartsSpec : ChangeSpec := { name := "demandParts", fn := fun _ => fun
  | [d] => { results := [.lit (.bool true)], args := [d] }
  | _ => none }
def demandPartsRow : OpenClaim := { program := "ytigmbfleffpmeaa", sum := "609ed33a56b3f75cda776825090d02b82dbfd49e3ca023535c460948797bd54d", func := "swingbridge/swingbridgelaw11.DemandParts", spec := "demandParts", unfollowed := true, recurses := true, apart := false }
def DemandPartsSaid : Prop := demandPartsRow.holds Try.pinned (OpenSpec.ofChange demandPartsSpec)

/-- ITS FALSE NEIGHBOUR: 'it returns false'. Refute it at one input. -/
def demandPartsWrong : ChangeSpec := { name := "demandParts", fn := fun _ => fun
  | [d] => { results := [.lit (.bool false)], args := [d] }
  | _ => none }
def DemandPartsWrongFalsely : Prop := demandPartsRow.holds Try.pinned (OpenSpec.ofChange demandPartsWrong)

/-- 'swingbridgelaw11.DemandLocks': WHATEVER THE INPUT: true; the input reads as it did. -/
def demandLocksSpec : ChangeSpec := { name := "demandLocks", fn := fun _ => fun
  | [d1, d2, d3, d4] => { results := [.lit (.bool true)], args := [d1, d2, d3, d4] }
  | _ => none }
def demandLocksRow : OpenClaim := { program := "ytigmbfleffpmeaa", sum := "609ed33a56b3f75cda776825090d02b82dbfd49e3ca023535c460948797bd54d", func := "swingbridge/swingbridgelaw11.DemandLocks", spec := "demandLocks", unfollowed := true, recurses := true, apart := false }
def DemandLocksSaid : Prop := demandLocksRow.holds Try.pinned (OpenSpec.ofChange demandLocksSpec)

/-- ITS FALSE NEIGHBOUR: 'it returns false'. Refute it at one input. -/
def demandLocksWrong : ChangeSpec := { name := "demandLocks", fn := fun _ => fun
  | [d1, d2, d3, d4] => { results := [.lit (.bool false)], args := [d1, d2, d3, d4] }
  | _ => none }
def DemandLocksWrongFalsely : Prop := demandLocksRow.holds Try.pinned (OpenSpec.ofChange demandLocksWrong)

/-- 'swingbridgelaw13.FairTells': WHATEVER THE INPUT: true; the input reads as it did. -/
def fairTellsSpec : ChangeSpec := { name := "fairTells", fn := fun _ => fun
  | [d1, d2, d3] => { results := [.lit (.bool true)], args := [d1, d2, d3] }
  | _ => none }
def fairTellsRow : OpenClaim := { program := "ytigmbfleffpmeaa", sum := "609ed33a56b3f75cda776825090d02b82dbfd49e3ca023535c460948797bd54d", func := "swingbridge/swingbridgelaw13.FairTells", spec := "fairTells", unfollowed := true, recurses := true, apart := false }
def FairTellsSaid : Prop := fairTellsRow.holds Try.pinned (OpenSpec.ofChange fairTellsSpec)

/-- ITS FALSE NEIGHBOUR: 'it returns false'. Refute it at one input. -/
def fairTellsWrong : ChangeSpec := { name := "fairTells", fn := fun _ => fun
  | [d1, d2, d3] => { results := [.lit (.bool false)], args := [d1, d2, d3] }
  | _ => none }
def FairTellsWrongFalsely : Prop := fairTellsRow.holds Try.pinned (OpenSpec.ofChange fairTellsWrong)

/-- 'swingbridgelaw13.FairSums': WHATEVER THE INPUT: true; the input reads as it did. -/
def fairSumsSpec : ChangeSpec := { name := "fairSums", fn := fun _ => fun
  | [d] => { results := [.lit (.bool true)], args := [d] }
  | _ => none }
def fairSumsRow : OpenClaim := { program := "ytigmbfleffpmeaa", sum := "609ed33a56b3f75cda776825090d02b82dbfd49e3ca023535c460948797bd54d", func := "swingbridge/swingbridgelaw13.FairSums", spec := "fairSums", unfollowed := true, recurses := true, apart := false }
def FairSumsSaid : Prop := fairSumsRow.holds Try.pinned (OpenSpec.ofChange fairSumsSpec)

/-- ITS FALSE NEIGHBOUR: 'it returns false'. Refute it at one input. -/
def fairSumsWrong : ChangeSpec := { name := "fairSums", fn := fun _ => fun
  | [d] => { results := [.lit (.bool false)], args := [d] }
  | _ => none }
def FairSumsWrongFalsely : Prop := fairSumsRow.holds Try.pinned (OpenSpec.ofChange fairSumsWrong)

/-- 'swingbridgelaw13.FairSame': WHATEVER THE INPUT: true; the input reads as it did. -/
def fairSameSpec : ChangeSpec := { name := "fairSame", fn := fun _ => fun
  | [d1, d2, d3] => { results := [.lit (.bool true)], args := [d1, d2, d3] }
  | _ => none }
def fairSameRow : OpenClaim := { program := "ytigmbfleffpmeaa", sum := "609ed33a56b3f75cda776825090d02b82dbfd49e3ca023535c460948797bd54d", func := "swingbridge/swingbridgelaw13.FairSame", spec := "fairSame", unfollowed := true, recurses := true, apart := false }
def FairSameSaid : Prop := fairSameRow.holds Try.pinned (OpenSpec.ofChange fairSameSpec)

/-- ITS FALSE NEIGHBOUR: 'it returns false'. Refute it at one input. -/
def fairSameWrong : ChangeSpec := { name := "fairSame", fn := fun _ => fun
  | [d1, d2, d3] => { results := [.lit (.bool false)], args := [d1, d2, d3] }
  | _ => none }
def FairSameWrongFalsely : Prop := fairSameRow.holds Try.pinned (OpenSpec.ofChange fairSameWrong)

/-- 'swingbridgelaw13.FairCrowd': WHATEVER THE INPUT: true; the input reads as it did. -/
def fairCrowdSpec : ChangeSpec := { name := "fairCrowd", fn := fun _ => fun
  | [d1, d2] => { results := [.lit (.bool true)], args := [d1, d2] }
  | _ => none }
def fairCrowdRow : OpenClaim := { program := "ytigmbfleffpmeaa", sum := "609ed33a56b3f75cda776825090d02b82dbfd49e3ca023535c460948797bd54d", func := "swingbridge/swingbridgelaw13.FairCrowd", spec := "fairCrowd", unfollowed := true, recurses := true, apart := false }
def FairCrowdSaid : Prop := fairCrowdRow.holds Try.pinned (OpenSpec.ofChange fairCrowdSpec)

/-- ITS FALSE NEIGHBOUR: 'it returns false'. Refute it at one input. -/
def fairCrowdWrong : ChangeSpec := { name := "fairCrowd", fn := fun _ => fun
  | [d1, d2] => { results := [.lit (.bool false)], args := [d1, d2] }
  | _ => none }
def FairCrowdWrongFalsely : Prop := fairCrowdRow.holds Try.pinned (OpenSpec.ofChange fairCrowdWrong)

/- THE SECOND FORM. 'bulk': how many values and letters a reading holds, each counted each time it is reached (what is shared counts as often as it is met; a slice's spare places count too). A statement '..UptoSaid' is the law's where the arguments, and the package variables that the reading takes, are together of bulk at most 1048576: NARROWER than '..Said'. Prove '..Said' where nothing that the law and all that it calls make is longer than what came in: it says more and counts as full. Else prove '..UptoSaid'. A law counts once. -/
mutual
def uptoBulk {H : Type} : DataW H → Nat
  | .lit (.string bytes) => bytes.length + 1
  | .lit _ => 1
  | .nil => 1
  | .ptr d => uptoBulk d + 1
  | .slice elems spare => uptoBulkAll elems + uptoBulkAll spare + 1
  | .agg parts => uptoBulkAll parts + 1
  | .iface _ d => uptoBulk d + 1
  | .map entries => uptoBulkEntries entries + 1
  | .held _ => 1
def uptoBulkAll {H : Type} : List (DataW H) → Nat
  | [] => 0
  | d :: r => uptoBulk d + uptoBulkAll r
def uptoBulkEntries {H : Type} : List (Lit × DataW H) → Nat
  | [] => 0
  | x :: r => uptoBulkEntry x + uptoBulkEntries r
def uptoBulkEntry {H : Type} : Lit × DataW H → Nat
  | (.string bytes, d) => bytes.length + uptoBulk d + 1
  | (_, d) => uptoBulk d + 1
 end
def uptoSmall : (H : Type) → List (DataW H) → Bool := fun _ ds => decide (uptoBulkAll ds ≤ 1048576)
def OpenSpec.upto (s : _root_.Go.ChangeSpec) : _root_.Go.OpenSpec := { _root_.Go.OpenSpec.ofChange s with cond := some uptoSmall }

/-- 'swingbridgelaw8.TaskTells', WHERE WHAT IT READS IS OF BULK AT MOST 1048576: true; the input reads as it did. -/
def taskTellsUptoRow : OpenClaim := { program := "ytigmbfleffpmeaa", sum := "609ed33a56b3f75cda776825090d02b82dbfd49e3ca023535c460948797bd54d", func := "swingbridge/swingbridgelaw8.TaskTells", spec := "taskTells", unfollowed := true, recurses := true, apart := false, narrowed := true }
def TaskTellsUptoSaid : Prop := taskTellsUptoRow.holds Try.pinned (OpenSpec.upto taskTellsSpec)

/-- 'swingbridgelaw8.TaskSpoils', WHERE WHAT IT READS IS OF BULK AT MOST 1048576: true; the input reads as it did. -/
def taskSpoilsUptoRow : OpenClaim := { program := "ytigmbfleffpmeaa", sum := "609ed33a56b3f75cda776825090d02b82dbfd49e3ca023535c460948797bd54d", func := "swingbridge/swingbridgelaw8.TaskSpoils", spec := "taskSpoils", unfollowed := true, recurses := true, apart := false, narrowed := true }
def TaskSpoilsUptoSaid : Prop := taskSpoilsUptoRow.holds Try.pinned (OpenSpec.upto taskSpoilsSpec)

/-- 'swingbridgelaw8.TaskTwice', WHERE WHAT IT READS IS OF BULK AT MOST 1048576: true; the input reads as it did. -/
def taskTwiceUptoRow : OpenClaim := { program := "ytigmbfleffpmeaa", sum := "609ed33a56b3f75cda776825090d02b82dbfd49e3ca023535c460948797bd54d", func := "swingbridge/swingbridgelaw8.TaskTwice", spec := "taskTwice", unfollowed := true, recurses := true, apart := false, narrowed := true }
def TaskTwiceUptoSaid : Prop := taskTwiceUptoRow.holds Try.pinned (OpenSpec.upto taskTwiceSpec)

/-- 'swingbridgelaw8.TaskLimits', WHERE WHAT IT READS IS OF BULK AT MOST 1048576: true; the input reads as it did. -/
def taskLimitsUptoRow : OpenClaim := { program := "ytigmbfleffpmeaa", sum := "609ed33a56b3f75cda776825090d02b82dbfd49e3ca023535c460948797bd54d", func := "swingbridge/swingbridgelaw8.TaskLimits", spec := "taskLimits", unfollowed := true, recurses := true, apart := false, narrowed := true }
def TaskLimitsUptoSaid : Prop := taskLimitsUptoRow.holds Try.pinned (OpenSpec.upto taskLimitsSpec)

/-- 'swingbridgelaw11.DemandParts', WHERE WHAT IT READS IS OF BULK AT MOST 1048576: true; the input reads as it did. -/
def demandPartsUptoRow : OpenClaim := { program := "ytigmbfleffpmeaa", sum := "609ed33a56b3f75cda776825090d02b82dbfd49e3ca023535c460948797bd54d", func := "swingbridge/swingbridgelaw11.DemandParts", spec := "demandParts", unfollowed := true, recurses := true, apart := false, narrowed := true }
def DemandPartsUptoSaid : Prop := demandPartsUptoRow.holds Try.pinned (OpenSpec.upto demandPartsSpec)

/-- 'swingbridgelaw11.DemandLocks', WHERE WHAT IT READS IS OF BULK AT MOST 1048576: true; the input reads as it did. -/
def demandLocksUptoRow : OpenClaim := { program := "ytigmbfleffpmeaa", sum := "609ed33a56b3f75cda776825090d02b82dbfd49e3ca023535c460948797bd54d", func := "swingbridge/swingbridgelaw11.DemandLocks", spec := "demandLocks", unfollowed := true, recurses := true, apart := false, narrowed := true }
def DemandLocksUptoSaid : Prop := demandLocksUptoRow.holds Try.pinned (OpenSpec.upto demandLocksSpec)

/-- 'swingbridgelaw13.FairTells', WHERE WHAT IT READS IS OF BULK AT MOST 1048576: true; the input reads as it did. -/
def fairTellsUptoRow : OpenClaim := { program := "ytigmbfleffpmeaa", sum := "609ed33a56b3f75cda776825090d02b82dbfd49e3ca023535c460948797bd54d", func := "swingbridge/swingbridgelaw13.FairTells", spec := "fairTells", unfollowed := true, recurses := true, apart := false, narrowed := true }
def FairTellsUptoSaid : Prop := fairTellsUptoRow.holds Try.pinned (OpenSpec.upto fairTellsSpec)

/-- 'swingbridgelaw13.FairSums', WHERE WHAT IT READS IS OF BULK AT MOST 1048576: true; the input reads as it did. -/
def fairSumsUptoRow : OpenClaim := { program := "ytigmbfleffpmeaa", sum := "609ed33a56b3f75cda776825090d02b82dbfd49e3ca023535c460948797bd54d", func := "swingbridge/swingbridgelaw13.FairSums", spec := "fairSums", unfollowed := true, recurses := true, apart := false, narrowed := true }
def FairSumsUptoSaid : Prop := fairSumsUptoRow.holds Try.pinned (OpenSpec.upto fairSumsSpec)

/-- 'swingbridgelaw13.FairSame', WHERE WHAT IT READS IS OF BULK AT MOST 1048576: true; the input reads as it did. -/
def fairSameUptoRow : OpenClaim := { program := "ytigmbfleffpmeaa", sum := "609ed33a56b3f75cda776825090d02b82dbfd49e3ca023535c460948797bd54d", func := "swingbridge/swingbridgelaw13.FairSame", spec := "fairSame", unfollowed := true, recurses := true, apart := false, narrowed := true }
def FairSameUptoSaid : Prop := fairSameUptoRow.holds Try.pinned (OpenSpec.upto fairSameSpec)

/-- 'swingbridgelaw13.FairCrowd', WHERE WHAT IT READS IS OF BULK AT MOST 1048576: true; the input reads as it did. -/
def fairCrowdUptoRow : OpenClaim := { program := "ytigmbfleffpmeaa", sum := "609ed33a56b3f75cda776825090d02b82dbfd49e3ca023535c460948797bd54d", func := "swingbridge/swingbridgelaw13.FairCrowd", spec := "fairCrowd", unfollowed := true, recurses := true, apart := false, narrowed := true }
def FairCrowdUptoSaid : Prop := fairCrowdUptoRow.holds Try.pinned (OpenSpec.upto fairCrowdSpec)

end Rows
end Go.Proofs.Ytigmbfleffpmeaa
