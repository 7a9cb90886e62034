/-
  No cell of these rows narrows 'for every input' (looked for: loops, veiled, ifaces, maps, wideKeys, modest, calm, conditions, laid).
  DERIVED. THE GIVEN ROWS OF THIS SEAT. 9 by the template 'for every input the law returns true; each argument reads behind the call as it read before'; 0 by the template 'total and deterministic' (their statements: YtindcpgmfdkpcaaTotals.lean).
  GIVEN WITH THE SEED: the statements are not yours to turn. If you find one false, say at which input.
  Laid BY PROGRAM, IN A SANDBOX (cutbox-rows.mjs): the forced cells as the released guide's own fill.sh prints them over the translation e8ce74d0098d8d7d… (all of the seat's roots in one cut). By AI agents, Wed Nov 11 2026. No macro, syntax, notation, axiom, sorry.
-/
import Derived.Test.YtindcpgmfdkpcaaChecked
import GoSem.Claim
import GoSem.ClaimJoined
import GoSem.ClaimMapViews
import Derived.JoinedTies
import Derived.KernelRfl
namespace Go.Proofs.Ytindcpgmfdkpcaa
/- THE CELL 'sum', in the pinned program and in every row, IS THE sha256 OF THE DUMP (.gsa) THAT YtindcpgmfdkpcaaProg.lean LOADS. Nothing in Lean hashes anything: it is a label: what it is worth is what the hold of that sum in a sandbox is worth. -/
noncomputable def Try.pinned : Pinned := { name := "ytindcpgmfdkpcaa", sum := "e8ce74d0098d8d7d979deadf73701dbf5a1b184a13690fd4cbeef60ca77ef979", checked := Try.checked }
namespace Rows
def none {H : Type} : Left H := { results := [], args := [] }

/-- 'swingbridgelaw8.TaskLimits': WHATEVER THE INPUT: true; the input reads as it did. -/
def taskLimitsSpec : ChangeSpec := { name := "taskLimits", fn := fun _ => fun
  | [d1, d2, d3, d4, d5] => { results := [.lit (.bool true)], args := [d1, d2, d3, d4, d5] }
  | _ => none }
def taskLimitsRow : OpenClaim := { program := "ytindcpgmfdkpcaa", sum := "e8ce74d0098d8d7d979deadf73701dbf5a1b184a13690fd4cbeef60ca77ef979", func := "swingbridge/swingbridgelaw8.TaskLimits", spec := "taskLimits", unfollowed := true, recurses := true, apart := false }
def TaskLimitsSaid : Prop := taskLimitsRow.holds Try.pinned (OpenSpec.ofChange taskLimitsSpec)

/-- ITS FALSE NEIGHBOUR: 'it returns false'. Refute it at one input. -/
def taskLimitsWrong : ChangeSpec := { name := "taskLimits", fn := fun _ => fun
  | [d1, d2, d3, d4, d5] => { results := [.lit (.bool false)], args := [d1, d2, d3, d4, d5] }
  | _ => none }
def TaskLimitsWrongFalsely : Prop := taskLimitsRow.holds Try.pinned (OpenSpec.ofChange taskLimitsWrong)

/-- 'swingbridgelaw13.FairCrowd': WHATEVER THE INPUT: true; the input reads as it did. -/
def fairCrowdSpec : ChangeSpec := { name := "fairCrowd", fn := fun _ => fun
  | [d1, d2] => { results := [.lit (.bool true)], args := [d1, d2] }
  | _ => none }
def fairCrowdRow : OpenClaim := { program := "ytindcpgmfdkpcaa", sum := "e8ce74d0098d8d7d979deadf73701dbf5a1b184a13690fd4cbeef60ca77ef979", func := "swingbridge/swingbridgelaw13.FairCrowd", spec := "fairCrowd", unfollowed := true, recurses := true, apart := false }
def FairCrowdSaid : Prop := fairCrowdRow.holds Try.pinned (OpenSpec.ofChange fairCrowdSpec)

/-- ITS FALSE NEIGHBOUR: 'it returns false'. Refute it at one input. -/
def fairCrowdWrong : ChangeSpec := { name := "fairCrowd", fn := fun _ => fun
  | [d1, d2] => { results := [.lit (.bool false)], args := [d1, d2] }
  | _ => none }
def FairCrowdWrongFalsely : Prop := fairCrowdRow.holds Try.pinned (OpenSpec.ofChange fairCrowdWrong)

/-- 'swingbridgelaw15.TokenRounds': WHATEVER THE INPUT: true; the input reads as it did. -/
def tokenRoundsSpec : ChangeSpec := { name := "tokenRounds", fn := fun _ => fun
  | [d1, d2, d3] => { results := [.lit (.bool true)], args := [d1, d2, d3] }
  | _ => none }
def tokenRoundsRow : OpenClaim := { program := "ytindcpgmfdkpcaa", sum := "e8ce74d0098d8d7d979deadf73701dbf5a1b184a13690fd4cbeef60ca77ef979", func := "swingbridge/swingbridgelaw15.TokenRounds", spec := "tokenRounds", unfollowed := true, recurses := true, apart := false }
def TokenRoundsSaid : Prop := tokenRoundsRow.holds Try.pinned (OpenSpec.ofChange tokenRoundsSpec)

/-- ITS FALSE NEIGHBOUR: 'it returns false'. Refute it at one input. -/
def tokenRoundsWrong : ChangeSpec := { name := "tokenRounds", fn := fun _ => fun
  | [d1, d2, d3] => { results := [.lit (.bool false)], args := [d1, d2, d3] }
  | _ => none }
def TokenRoundsWrongFalsely : Prop := tokenRoundsRow.holds Try.pinned (OpenSpec.ofChange tokenRoundsWrong)

/-- 'swingbridgelaw16.WaitLeast': WHATEVER THE INPUT: true; the input reads as it did. -/
def waitLeastSpec : ChangeSpec := { name := "waitLeast", fn := fun _ => fun
  | [d1, d2, d3, d4, d5] => { results := [.lit (.bool true)], args := [d1, d2, d3, d4, d5] }
  | _ => none }
def waitLeastRow : OpenClaim := { program := "ytindcpgmfdkpcaa", sum := "e8ce74d0098d8d7d979deadf73701dbf5a1b184a13690fd4cbeef60ca77ef979", func := "swingbridge/swingbridgelaw16.WaitLeast", spec := "waitLeast", unfollowed := true, recurses := true, apart := false }
def WaitLeastSaid : Prop := waitLeastRow.holds Try.pinned (OpenSpec.ofChange waitLeastSpec)

/-- ITS FALSE NEIGHBOUR: 'it returns false'. Refute it at one input. -/
def waitLeastWrong : ChangeSpec := { name := "waitLeast", fn := fun _ => fun
  | [d1, d2, d3, d4, d5] => { results := [.lit (.bool false)], args := [d1, d2, d3, d4, d5] }
  | _ => none }
def WaitLeastWrongFalsely : Prop := waitLeastRow.holds Try.pinned (OpenSpec.ofChange waitLeastWrong)

/-- 'swingbridgelaw16.WaitProtocols': WHATEVER THE INPUT: true; the input reads as it did. -/
def waitProtocolsSpec : ChangeSpec := { name := "waitProtocols", fn := fun _ => fun
  | [d1, d2, d3] => { results := [.lit (.bool true)], args := [d1, d2, d3] }
  | _ => none }
def waitProtocolsRow : OpenClaim := { program := "ytindcpgmfdkpcaa", sum := "e8ce74d0098d8d7d979deadf73701dbf5a1b184a13690fd4cbeef60ca77ef979", func := "swingbridge/swingbridgelaw16.WaitProtocols", spec := "waitProtocols", unfollowed := true, recurses := true, apart := false }
def WaitProtocolsSaid : Prop := waitProtocolsRow.holds Try.pinned (OpenSpec.ofChange waitProtocolsSpec)

/-- ITS FALSE NEIGHBOUR: 'it returns false'. Refute it at one input. -/
def waitProtocolsWrong : ChangeSpec := { name := "waitProtocols", fn := fun _ => fun
  | [d1, d2, d3] => { results := [.lit (.bool false)], args := [d1, d2, d3] }
  | _ => none }
def WaitProtocolsWrongFalsely : Prop := waitProtocolsRow.holds Try.pinned (OpenSpec.ofChange waitProtocolsWrong)

/-- 'swingbridgelaw17.BoundRises': WHATEVER THE INPUT: true; the input reads as it did. -/
def boundRisesSpec : ChangeSpec := { name := "boundRises", fn := fun _ => fun
  | [d1, d2, d3, d4] => { results := [.lit (.bool true)], args := [d1, d2, d3, d4] }
  | _ => none }
def boundRisesRow : OpenClaim := { program := "ytindcpgmfdkpcaa", sum := "e8ce74d0098d8d7d979deadf73701dbf5a1b184a13690fd4cbeef60ca77ef979", func := "swingbridge/swingbridgelaw17.BoundRises", spec := "boundRises", unfollowed := true, recurses := true, apart := false }
def BoundRisesSaid : Prop := boundRisesRow.holds Try.pinned (OpenSpec.ofChange boundRisesSpec)

/-- ITS FALSE NEIGHBOUR: 'it returns false'. Refute it at one input. -/
def boundRisesWrong : ChangeSpec := { name := "boundRises", fn := fun _ => fun
  | [d1, d2, d3, d4] => { results := [.lit (.bool false)], args := [d1, d2, d3, d4] }
  | _ => none }
def BoundRisesWrongFalsely : Prop := boundRisesRow.holds Try.pinned (OpenSpec.ofChange boundRisesWrong)

/-- 'swingbridgelaw17.BoundAlone': WHATEVER THE INPUT: true; the input reads as it did. -/
def boundAloneSpec : ChangeSpec := { name := "boundAlone", fn := fun _ => fun
  | [d1, d2, d3, d4, d5, d6] => { results := [.lit (.bool true)], args := [d1, d2, d3, d4, d5, d6] }
  | _ => none }
def boundAloneRow : OpenClaim := { program := "ytindcpgmfdkpcaa", sum := "e8ce74d0098d8d7d979deadf73701dbf5a1b184a13690fd4cbeef60ca77ef979", func := "swingbridge/swingbridgelaw17.BoundAlone", spec := "boundAlone", unfollowed := true, recurses := true, apart := false }
def BoundAloneSaid : Prop := boundAloneRow.holds Try.pinned (OpenSpec.ofChange boundAloneSpec)

/-- ITS FALSE NEIGHBOUR: 'it returns false'. Refute it at one input. -/
def boundAloneWrong : ChangeSpec := { name := "boundAlone", fn := fun _ => fun
  | [d1, d2, d3, d4, d5, d6] => { results := [.lit (.bool false)], args := [d1, d2, d3, d4, d5, d6] }
  | _ => none }
def BoundAloneWrongFalsely : Prop := boundAloneRow.holds Try.pinned (OpenSpec.ofChange boundAloneWrong)

/-- 'swingbridgelaw17.BoundHigher': WHATEVER THE INPUT: true; the input reads as it did. -/
def boundHigherSpec : ChangeSpec := { name := "boundHigher", fn := fun _ => fun
  | [d1, d2, d3, d4, d5, d6] => { results := [.lit (.bool true)], args := [d1, d2, d3, d4, d5, d6] }
  | _ => none }
def boundHigherRow : OpenClaim := { program := "ytindcpgmfdkpcaa", sum := "e8ce74d0098d8d7d979deadf73701dbf5a1b184a13690fd4cbeef60ca77ef979", func := "swingbridge/swingbridgelaw17.BoundHigher", spec := "boundHigher", unfollowed := true, recurses := true, apart := false }
def BoundHigherSaid : Prop := boundHigherRow.holds Try.pinned (OpenSpec.ofChange boundHigherSpec)

/-- ITS FALSE NEIGHBOUR: 'it returns false'. Refute it at one input. -/
def boundHigherWrong : ChangeSpec := { name := "boundHigher", fn := fun _ => fun
  | [d1, d2, d3, d4, d5, d6] => { results := [.lit (.bool false)], args := [d1, d2, d3, d4, d5, d6] }
  | _ => none }
def BoundHigherWrongFalsely : Prop := boundHigherRow.holds Try.pinned (OpenSpec.ofChange boundHigherWrong)

/-- 'swingbridgelaw17.BoundSleeps': WHATEVER THE INPUT: true; the input reads as it did. -/
def boundSleepsSpec : ChangeSpec := { name := "boundSleeps", fn := fun _ => fun
  | [d1, d2, d3] => { results := [.lit (.bool true)], args := [d1, d2, d3] }
  | _ => none }
def boundSleepsRow : OpenClaim := { program := "ytindcpgmfdkpcaa", sum := "e8ce74d0098d8d7d979deadf73701dbf5a1b184a13690fd4cbeef60ca77ef979", func := "swingbridge/swingbridgelaw17.BoundSleeps", spec := "boundSleeps", unfollowed := true, recurses := true, apart := false }
def BoundSleepsSaid : Prop := boundSleepsRow.holds Try.pinned (OpenSpec.ofChange boundSleepsSpec)

/-- ITS FALSE NEIGHBOUR: 'it returns false'. Refute it at one input. -/
def boundSleepsWrong : ChangeSpec := { name := "boundSleeps", fn := fun _ => fun
  | [d1, d2, d3] => { results := [.lit (.bool false)], args := [d1, d2, d3] }
  | _ => none }
def BoundSleepsWrongFalsely : Prop := boundSleepsRow.holds Try.pinned (OpenSpec.ofChange boundSleepsWrong)

/- THE SECOND FORM. 'bulk': how many values and letters a reading holds, each counted each time it is reached (what is shared counts as often as it is met; a slice's spare places count too). A statement '..UptoSaid' is the law's where the arguments, and the package variables that the reading takes, are together of bulk at most 1048576: NARROWER than '..Said'. Prove '..Said' where nothing that the law and all that it calls make is longer than what came in: it says more and counts as full. Else prove '..UptoSaid'. A law counts once. -/
mutual
def uptoBulk {H : Type} : DataW H → Nat
  | .lit (.string bytes) => bytes.length + 1
  | .lit _ => 1
  | .nil => 1
  | .ptr d => uptoBulk d + 1
  | .slice elems spare => uptoBulkAll elems + uptoBulkAll spare + 1
  | .agg parts => uptoBulkAll parts + 1
  | .iface _ d => uptoBulk d + 1
  | .map entries => uptoBulkEntries entries + 1
  | .held _ => 1
def uptoBulkAll {H : Type} : List (DataW H) → Nat
  | [] => 0
  | d :: r => uptoBulk d + uptoBulkAll r
def uptoBulkEntries {H : Type} : List (Lit × DataW H) → Nat
  | [] => 0
  | x :: r => uptoBulkEntry x + uptoBulkEntries r
def uptoBulkEntry {H : Type} : Lit × DataW H → Nat
  | (.string bytes, d) => bytes.length + uptoBulk d + 1
  | (_, d) => uptoBulk d + 1
 end
def uptoSmall : (H : Type) → List (DataW H) → Bool := fun _ ds => decide (uptoBulkAll ds ≤ 1048576)
def OpenSpec.upto (s : _root_.Go.ChangeSpec) : _root_.Go.OpenSpec := { _root_.Go.OpenSpec.ofChange s with cond := some uptoSmall }

/-- 'swingbridgelaw8.TaskLimits', WHERE WHAT IT READS IS OF BULK AT MOST 1048576: true; the input reads as it did. -/
def taskLimitsUptoRow : OpenClaim := { program := "ytindcpgmfdkpcaa", sum := "e8ce74d0098d8d7d979deadf73701dbf5a1b184a13690fd4cbeef60ca77ef979", func := "swingbridge/swingbridgelaw8.TaskLimits", spec := "taskLimits", unfollowed := true, recurses := true, apart := false, narrowed := true }
def TaskLimitsUptoSaid : Prop := taskLimitsUptoRow.holds Try.pinned (OpenSpec.upto taskLimitsSpec)

/-- 'swingbridgelaw13.FairCrowd', WHERE WHAT IT READS IS OF BULK AT MOST 1048576: true; the input reads as it did. -/
def fairCrowdUptoRow : OpenClaim := { program := "ytindcpgmfdkpcaa", sum := "e8ce74d0098d8d7d979deadf73701dbf5a1b184a13690fd4cbeef60ca77ef979", func := "swingbridge/swingbridgelaw13.FairCrowd", spec := "fairCrowd", unfollowed := true, recurses := true, apart := false, narrowed := true }
def FairCrowdUptoSaid : Prop := fairCrowdUptoRow.holds Try.pinned (OpenSpec.upto fairCrowdSpec)

/-- 'swingbridgelaw15.TokenRounds', WHERE WHAT IT READS IS OF BULK AT MOST 1048576: true; the input reads as it did. -/
def tokenRoundsUptoRow : OpenClaim := { program := "ytindcpgmfdkpcaa", sum := "e8ce74d0098d8d7d979deadf73701dbf5a1b184a13690fd4cbeef60ca77ef979", func := "swingbridge/swingbridgelaw15.TokenRounds", spec := "tokenRounds", unfollowed := true, recurses := true, apart := false, narrowed := true }
def TokenRoundsUptoSaid : Prop := tokenRoundsUptoRow.holds Try.pinned (OpenSpec.upto tokenRoundsSpec)

/-- 'swingbridgelaw16.WaitLeast', WHERE WHAT IT READS IS OF BULK AT MOST 1048576: true; the input reads as it did. -/
def waitLeastUptoRow : OpenClaim := { program := "ytindcpgmfdkpcaa", sum := "e8ce74d0098d8d7d979deadf73701dbf5a1b184a13690fd4cbeef60ca77ef979", func := "swingbridge/swingbridgelaw16.WaitLeast", spec := "waitLeast", unfollowed := true, recurses := true, apart := false, narrowed := true }
def WaitLeastUptoSaid : Prop := waitLeastUptoRow.holds Try.pinned (OpenSpec.upto waitLeastSpec)

/-- 'swingbridgelaw16.WaitProtocols', WHERE WHAT IT READS IS OF BULK AT MOST 1048576: true; the input reads as it did. -/
def waitProtocolsUptoRow : OpenClaim := { program := "ytindcpgmfdkpcaa", sum := "e8ce74d0098d8d7d979deadf73701dbf5a1b184a13690fd4cbeef60ca77ef979", func := "swingbridge/swingbridgelaw16.WaitProtocols", spec := "waitProtocols", unfollowed := true, recurses := true, apart := false, narrowed := true }
def WaitProtocolsUptoSaid : Prop := waitProtocolsUptoRow.holds Try.pinned (OpenSpec.upto waitProtocolsSpec)

/-- 'swingbridgelaw17.BoundRises', WHERE WHAT IT READS IS OF BULK AT MOST 1048576: true; the input reads as it did. -/
def boundRisesUptoRow : OpenClaim := { program := "ytindcpgmfdkpcaa", sum := "e8ce74d0098d8d7d979deadf73701dbf5a1b184a13690fd4cbeef60ca77ef979", func := "swingbridge/swingbridgelaw17.BoundRises", spec := "boundRises", unfollowed := true, recurses := true, apart := false, narrowed := true }
def BoundRisesUptoSaid : Prop := boundRisesUptoRow.holds Try.pinned (OpenSpec.upto boundRisesSpec)

/-- 'swingbridgelaw17.BoundAlone', WHERE WHAT IT READS IS OF BULK AT MOST 1048576: true; the input reads as it did. -/
def boundAloneUptoRow : OpenClaim := { program := "ytindcpgmfdkpcaa", sum := "e8ce74d0098d8d7d979deadf73701dbf5a1b184a13690fd4cbeef60ca77ef979", func := "swingbridge/swingbridgelaw17.BoundAlone", spec := "boundAlone", unfollowed := true, recurses := true, apart := false, narrowed := true }
def BoundAloneUptoSaid : Prop := boundAloneUptoRow.holds Try.pinned (OpenSpec.upto boundAloneSpec)

/-- 'swingbridgelaw17.BoundHigher', WHERE WHAT IT READS IS OF BULK AT MOST 1048576: true; the input reads as it did. -/
def boundHigherUptoRow : OpenClaim := { program := "ytindcpgmfdkpcaa", sum := "e8ce74d0098d8d7d979deadf73701dbf5a1b184a13690fd4cbeef60ca77ef979", func := "swingbridge/swingbridgelaw17.BoundHigher", spec := "boundHigher", unfollowed := true, recurses := true, apart := false, narrowed := true }
def BoundHigherUptoSaid : Prop := boundHigherUptoRow.holds Try.pinned (OpenSpec.upto boundHigherSpec)

/-- 'swingbridgelaw17.BoundSleeps', WHERE WHAT IT READS IS OF BULK AT MOST 1048576: true; the input reads as it did. -/
def boundSleepsUptoRow : OpenClaim := { program := "ytindcpgmfdkpcaa", sum := "e8ce74d0098d8d7d979deadf73701dbf5a1b184a13690fd4cbeef60ca77ef979", func := "swingbridge/swingbridgelaw17.BoundSleeps", spec := "boundSleeps", unfollowed := true, recurses := true, apart := false, narrowed := true }
def BoundSleepsUptoSaid : Prop := boundSleepsUptoRow.holds Try.pinned (OpenSpec.upto boundSleepsSpec)

end Rows
end Go.Proofs.Ytindcpgmfdkpcaa
