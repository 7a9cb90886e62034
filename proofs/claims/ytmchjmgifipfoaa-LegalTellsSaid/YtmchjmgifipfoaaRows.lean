/-
  No cell of these rows narrows 'for every input' (looked for: loops, veiled, ifaces, maps, wideKeys, modest, calm, conditions, laid).
  DERIVED. THE GIVEN ROWS OF THIS SEAT. 6 by the template 'for every input the law returns true; each argument reads behind the call as it read before'; 0 by the template 'total and deterministic' (their statements: YtmchjmgifipfoaaTotals.lean).
  GIVEN WITH THE SEED: the statements are not yours to turn. If you find one false, say at which input.
  Laid BY PROGRAM, IN A SANDBOX (cutbox-rows.mjs): the forced cells as the released guide's own fill.sh prints them over the translation ed894965e7c608ff… (all of the seat's roots in one cut). By AI agents, Wed Nov 11 2026. No macro, syntax, notation, axiom, sorry.
-/
import Derived.Test.YtmchjmgifipfoaaChecked
import GoSem.Claim
import GoSem.ClaimJoined
import GoSem.ClaimMapViews
import Derived.JoinedTies
import Derived.KernelRfl
namespace Go.Proofs.Ytmchjmgifipfoaa
/- THE CELL 'sum', in the pinned program and in every row, IS THE sha256 OF THE DUMP (.gsa) THAT YtmchjmgifipfoaaProg.lean LOADS. Nothing in Lean hashes anything: it is a label: what it is worth is what the hold of that sum in a sandbox is worth. -/
noncomputable def Try.pinned : Pinned := { name := "ytmchjmgifipfoaa", sum := "ed894965e7c608ffd17c84affa0153f35b451d56b9aca11943dd96819fff2eb9", checked := Try.checked }
namespace Rows
def none {H : Type} : Left H := { results := [], args := [] }

/-- 'swingbridgelaw25.LegalShapes': WHATEVER THE INPUT: true; the input reads as it did. -/
def legalShapesSpec : ChangeSpec := { name := "legalShapes", fn := fun _ => fun
  | [d1, d2] => { results := [.lit (.bool true)], args := [d1, d2] }
  | _ => none }
def legalShapesRow : OpenClaim := { program := "ytmchjmgifipfoaa", sum := "ed894965e7c608ffd17c84affa0153f35b451d56b9aca11943dd96819fff2eb9", func := "swingbridge/swingbridgelaw25.LegalShapes", spec := "legalShapes", unfollowed := true, recurses := true, apart := false }
def LegalShapesSaid : Prop := legalShapesRow.holds Try.pinned (OpenSpec.ofChange legalShapesSpec)

/-- ITS FALSE NEIGHBOUR: 'it returns false'. Refute it at one input. -/
def legalShapesWrong : ChangeSpec := { name := "legalShapes", fn := fun _ => fun
  | [d1, d2] => { results := [.lit (.bool false)], args := [d1, d2] }
  | _ => none }
def LegalShapesWrongFalsely : Prop := legalShapesRow.holds Try.pinned (OpenSpec.ofChange legalShapesWrong)

/-- 'swingbridgelaw25.LegalHolders': WHATEVER THE INPUT: true; the input reads as it did. -/
def legalHoldersSpec : ChangeSpec := { name := "legalHolders", fn := fun _ => fun
  | [d1, d2, d3, d4] => { results := [.lit (.bool true)], args := [d1, d2, d3, d4] }
  | _ => none }
def legalHoldersRow : OpenClaim := { program := "ytmchjmgifipfoaa", sum := "ed894965e7c608ffd17c84affa0153f35b451d56b9aca11943dd96819fff2eb9", func := "swingbridge/swingbridgelaw25.LegalHolders", spec := "legalHolders", unfollowed := true, recurses := true, apart := false }
def LegalHoldersSaid : Prop := legalHoldersRow.holds Try.pinned (OpenSpec.ofChange legalHoldersSpec)

/-- ITS FALSE NEIGHBOUR: 'it returns false'. Refute it at one input. -/
def legalHoldersWrong : ChangeSpec := { name := "legalHolders", fn := fun _ => fun
  | [d1, d2, d3, d4] => { results := [.lit (.bool false)], args := [d1, d2, d3, d4] }
  | _ => none }
def LegalHoldersWrongFalsely : Prop := legalHoldersRow.holds Try.pinned (OpenSpec.ofChange legalHoldersWrong)

/-- 'swingbridgelaw25.LegalBusy': WHATEVER THE INPUT: true; the input reads as it did. -/
def legalBusySpec : ChangeSpec := { name := "legalBusy", fn := fun _ => fun
  | [d1, d2, d3, d4] => { results := [.lit (.bool true)], args := [d1, d2, d3, d4] }
  | _ => none }
def legalBusyRow : OpenClaim := { program := "ytmchjmgifipfoaa", sum := "ed894965e7c608ffd17c84affa0153f35b451d56b9aca11943dd96819fff2eb9", func := "swingbridge/swingbridgelaw25.LegalBusy", spec := "legalBusy", unfollowed := true, recurses := true, apart := false }
def LegalBusySaid : Prop := legalBusyRow.holds Try.pinned (OpenSpec.ofChange legalBusySpec)

/-- ITS FALSE NEIGHBOUR: 'it returns false'. Refute it at one input. -/
def legalBusyWrong : ChangeSpec := { name := "legalBusy", fn := fun _ => fun
  | [d1, d2, d3, d4] => { results := [.lit (.bool false)], args := [d1, d2, d3, d4] }
  | _ => none }
def LegalBusyWrongFalsely : Prop := legalBusyRow.holds Try.pinned (OpenSpec.ofChange legalBusyWrong)

/-- 'swingbridgelaw26.DelayShapes': WHATEVER THE INPUT: true; the input reads as it did. -/
def delayShapesSpec : ChangeSpec := { name := "delayShapes", fn := fun _ => fun
  | [d1, d2, d3, d4, d5, d6] => { results := [.lit (.bool true)], args := [d1, d2, d3, d4, d5, d6] }
  | _ => none }
def delayShapesRow : OpenClaim := { program := "ytmchjmgifipfoaa", sum := "ed894965e7c608ffd17c84affa0153f35b451d56b9aca11943dd96819fff2eb9", func := "swingbridge/swingbridgelaw26.DelayShapes", spec := "delayShapes", unfollowed := true, recurses := true, apart := false }
def DelayShapesSaid : Prop := delayShapesRow.holds Try.pinned (OpenSpec.ofChange delayShapesSpec)

/-- ITS FALSE NEIGHBOUR: 'it returns false'. Refute it at one input. -/
def delayShapesWrong : ChangeSpec := { name := "delayShapes", fn := fun _ => fun
  | [d1, d2, d3, d4, d5, d6] => { results := [.lit (.bool false)], args := [d1, d2, d3, d4, d5, d6] }
  | _ => none }
def DelayShapesWrongFalsely : Prop := delayShapesRow.holds Try.pinned (OpenSpec.ofChange delayShapesWrong)

/-- 'swingbridgelaw26.DelayTells': WHATEVER THE INPUT: true; the input reads as it did. -/
def delayTellsSpec : ChangeSpec := { name := "delayTells", fn := fun _ => fun
  | [d1, d2, d3, d4] => { results := [.lit (.bool true)], args := [d1, d2, d3, d4] }
  | _ => none }
def delayTellsRow : OpenClaim := { program := "ytmchjmgifipfoaa", sum := "ed894965e7c608ffd17c84affa0153f35b451d56b9aca11943dd96819fff2eb9", func := "swingbridge/swingbridgelaw26.DelayTells", spec := "delayTells", unfollowed := true, recurses := true, apart := false }
def DelayTellsSaid : Prop := delayTellsRow.holds Try.pinned (OpenSpec.ofChange delayTellsSpec)

/-- ITS FALSE NEIGHBOUR: 'it returns false'. Refute it at one input. -/
def delayTellsWrong : ChangeSpec := { name := "delayTells", fn := fun _ => fun
  | [d1, d2, d3, d4] => { results := [.lit (.bool false)], args := [d1, d2, d3, d4] }
  | _ => none }
def DelayTellsWrongFalsely : Prop := delayTellsRow.holds Try.pinned (OpenSpec.ofChange delayTellsWrong)

/-- 'swingbridgelaw25.LegalTells': WHATEVER THE INPUT: true; the input reads as it did. -/
def legalTellsSpec : ChangeSpec := { name := "legalTells", fn := fun _ => fun
  | [d1, d2, d3, d4, d5] => { results := [.lit (.bool true)], args := [d1, d2, d3, d4, d5] }
  | _ => none }
def legalTellsRow : OpenClaim := { program := "ytmchjmgifipfoaa", sum := "ed894965e7c608ffd17c84affa0153f35b451d56b9aca11943dd96819fff2eb9", func := "swingbridge/swingbridgelaw25.LegalTells", spec := "legalTells", unfollowed := true, recurses := true, apart := false }
def LegalTellsSaid : Prop := legalTellsRow.holds Try.pinned (OpenSpec.ofChange legalTellsSpec)

/-- ITS FALSE NEIGHBOUR: 'it returns false'. Refute it at one input. -/
def legalTellsWrong : ChangeSpec := { name := "legalTells", fn := fun _ => fun
  | [d1, d2, d3, d4, d5] => { results := [.lit (.bool false)], args := [d1, d2, d3, d4, d5] }
  | _ => none }
def LegalTellsWrongFalsely : Prop := legalTellsRow.holds Try.pinned (OpenSpec.ofChange legalTellsWrong)

/- THE SECOND FORM. 'bulk': how many values and letters a reading holds, each counted each time it is reached (what is shared counts as often as it is met; a slice's spare places count too). A statement '..UptoSaid' is the law's where the arguments, and the package variables that the reading takes, are together of bulk at most 1048576: NARROWER than '..Said'. Prove '..Said' where nothing that the law and all that it calls make is longer than what came in: it says more and counts as full. Else prove '..UptoSaid'. A law counts once. -/
mutual
def uptoBulk {H : Type} : DataW H → Nat
  | .lit (.string bytes) => bytes.length + 1
  | .lit _ => 1
  | .nil => 1
  | .ptr d => uptoBulk d + 1
  | .slice elems spare => uptoBulkAll elems + uptoBulkAll spare + 1
  | .agg parts => uptoBulkAll parts + 1
  | .iface _ d => uptoBulk d + 1
  | .map entries => uptoBulkEntries entries + 1
  | .held _ => 1
def uptoBulkAll {H : Type} : List (DataW H) → Nat
  | [] => 0
  | d :: r => uptoBulk d + uptoBulkAll r
def uptoBulkEntries {H : Type} : List (Lit × DataW H) → Nat
  | [] => 0
  | x :: r => uptoBulkEntry x + uptoBulkEntries r
def uptoBulkEntry {H : Type} : Lit × DataW H → Nat
  | (.string bytes, d) => bytes.length + uptoBulk d + 1
  | (_, d) => uptoBulk d + 1
 end
def uptoSmall : (H : Type) → List (DataW H) → Bool := fun _ ds => decide (uptoBulkAll ds ≤ 1048576)
def OpenSpec.upto (s : _root_.Go.ChangeSpec) : _root_.Go.OpenSpec := { _root_.Go.OpenSpec.ofChange s with cond := some uptoSmall }

/-- 'swingbridgelaw25.LegalShapes', WHERE WHAT IT READS IS OF BULK AT MOST 1048576: true; the input reads as it did. -/
def legalShapesUptoRow : OpenClaim := { program := "ytmchjmgifipfoaa", sum := "ed894965e7c608ffd17c84affa0153f35b451d56b9aca11943dd96819fff2eb9", func := "swingbridge/swingbridgelaw25.LegalShapes", spec := "legalShapes", unfollowed := true, recurses := true, apart := false, narrowed := true }
def LegalShapesUptoSaid : Prop := legalShapesUptoRow.holds Try.pinned (OpenSpec.upto legalShapesSpec)

/-- 'swingbridgelaw25.LegalHolders', WHERE WHAT IT READS IS OF BULK AT MOST 1048576: true; the input reads as it did. -/
def legalHoldersUptoRow : OpenClaim := { program := "ytmchjmgifipfoaa", sum := "ed894965e7c608ffd17c84affa0153f35b451d56b9aca11943dd96819fff2eb9", func := "swingbridge/swingbridgelaw25.LegalHolders", spec := "legalHolders", unfollowed := true, recurses := true, apart := false, narrowed := true }
def LegalHoldersUptoSaid : Prop := legalHoldersUptoRow.holds Try.pinned (OpenSpec.upto legalHoldersSpec)

/-- 'swingbridgelaw25.LegalBusy', WHERE WHAT IT READS IS OF BULK AT MOST 1048576: true; the input reads as it did. -/
def legalBusyUptoRow : OpenClaim := { program := "ytmchjmgifipfoaa", sum := "ed894965e7c608ffd17c84affa0153f35b451d56b9aca11943dd96819fff2eb9", func := "swingbridge/swingbridgelaw25.LegalBusy", spec := "legalBusy", unfollowed := true, recurses := true, apart := false, narrowed := true }
def LegalBusyUptoSaid : Prop := legalBusyUptoRow.holds Try.pinned (OpenSpec.upto legalBusySpec)

/-- 'swingbridgelaw26.DelayShapes', WHERE WHAT IT READS IS OF BULK AT MOST 1048576: true; the input reads as it did. -/
def delayShapesUptoRow : OpenClaim := { program := "ytmchjmgifipfoaa", sum := "ed894965e7c608ffd17c84affa0153f35b451d56b9aca11943dd96819fff2eb9", func := "swingbridge/swingbridgelaw26.DelayShapes", spec := "delayShapes", unfollowed := true, recurses := true, apart := false, narrowed := true }
def DelayShapesUptoSaid : Prop := delayShapesUptoRow.holds Try.pinned (OpenSpec.upto delayShapesSpec)

/-- 'swingbridgelaw26.DelayTells', WHERE WHAT IT READS IS OF BULK AT MOST 1048576: true; the input reads as it did. -/
def delayTellsUptoRow : OpenClaim := { program := "ytmchjmgifipfoaa", sum := "ed894965e7c608ffd17c84affa0153f35b451d56b9aca11943dd96819fff2eb9", func := "swingbridge/swingbridgelaw26.DelayTells", spec := "delayTells", unfollowed := true, recurses := true, apart := false, narrowed := true }
def DelayTellsUptoSaid : Prop := delayTellsUptoRow.holds Try.pinned (OpenSpec.upto delayTellsSpec)

/-- 'swingbridgelaw25.LegalTells', WHERE WHAT IT READS IS OF BULK AT MOST 1048576: true; the input reads as it did. -/
def legalTellsUptoRow : OpenClaim := { program := "ytmchjmgifipfoaa", sum := "ed894965e7c608ffd17c84affa0153f35b451d56b9aca11943dd96819fff2eb9", func := "swingbridge/swingbridgelaw25.LegalTells", spec := "legalTells", unfollowed := true, recurses := true, apart := false, narrowed := true }
def LegalTellsUptoSaid : Prop := legalTellsUptoRow.holds Try.pinned (OpenSpec.upto legalTellsSpec)

end Rows
end Go.Proofs.Ytmchjmgifipfoaa
