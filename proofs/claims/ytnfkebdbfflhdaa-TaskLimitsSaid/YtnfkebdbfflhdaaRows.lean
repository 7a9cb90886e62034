/-
  No cell of these rows narrows 'for every input' (looked for: loops, veiled, ifaces, maps, wideKeys, modest, calm, conditions, laid).
  DERIVED. THE GIVEN ROWS OF THIS SEAT. 4 by the template 'for every input the law returns true; each argument reads behind the call as it read before'; 0 by the template 'total and deterministic' (their statements: YtnfkebdbfflhdaaTotals.lean).
  GIVEN WITH THE SEED: the statements are not yours to turn. If you find one false, say at which input.
  Laid BY PROGRAM, IN A SANDBOX (cutbox-rows.mjs): the forced cells as the released guide's own fill.sh prints them over the translation 044735782e4cbc30… (all of the seat's roots in one cut). By AI agents, Wed Nov 11 2026. No macro, syntax, notation, axiom, sorry.
-/
import Derived.Test.YtnfkebdbfflhdaaChecked
import GoSem.Claim
import GoSem.ClaimJoined
import GoSem.ClaimMapViews
import Derived.JoinedTies
import Derived.KernelRfl
namespace Go.Proofs.Ytnfkebdbfflhdaa
/- THE CELL 'sum', in the pinned program and in every row, IS THE sha256 OF THE DUMP (.gsa) THAT YtnfkebdbfflhdaaProg.lean LOADS. Nothing in Lean hashes anything: it is a label: what it is worth is what the hold of that sum in a sandbox is worth. -/
noncomputable def Try.pinned : Pinned := { name := "ytnfkebdbfflhdaa", sum := "044735782e4cbc3096c133709d592bbc0b154a37e0bfa938f1a847e80d0e328b", checked := Try.checked }
namespace Rows
def none {H : Type} : Left H := { results := [], args := [] }

/-- 'swingbridgelaw10.CanonTells': WHATEVER THE INPUT: true; the input reads as it did. -/
def canonTellsSpec : ChangeSpec := { name := "canonTells", fn := fun _ => fun
  | [d1, d2] => { results := [.lit (.bool true)], args := [d1, d2] }
  | _ => none }
def canonTellsRow : OpenClaim := { program := "ytnfkebdbfflhdaa", sum := "044735782e4cbc3096c133709d592bbc0b154a37e0bfa938f1a847e80d0e328b", func := "swingbridge/swingbridgelaw10.CanonTells", spec := "canonTells", recurses := true, apart := false }
def CanonTellsSaid : Prop := canonTellsRow.holds Try.pinned (OpenSpec.ofChange canonTellsSpec)

/-- ITS FALSE NEIGHBOUR: 'it returns false'. Refute it at one input. -/
def canonTellsWrong : ChangeSpec := { name := "canonTells", fn := fun _ => fun
  | [d1, d2] => { results := [.lit (.bool false)], args := [d1, d2] }
  | _ => none }
def CanonTellsWrongFalsely : Prop := canonTellsRow.holds Try.pinned (OpenSpec.ofChange canonTellsWrong)

/-- 'swingbridgelaw10.CanonOne': WHATEVER THE INPUT: true; the input reads as it did. -/
def canonOneSpec : ChangeSpec := { name := "canonOne", fn := fun _ => fun
  | [d1, d2] => { results := [.lit (.bool true)], args := [d1, d2] }
  | _ => none }
def canonOneRow : OpenClaim := { program := "ytnfkebdbfflhdaa", sum := "044735782e4cbc3096c133709d592bbc0b154a37e0bfa938f1a847e80d0e328b", func := "swingbridge/swingbridgelaw10.CanonOne", spec := "canonOne", recurses := true, apart := false }
def CanonOneSaid : Prop := canonOneRow.holds Try.pinned (OpenSpec.ofChange canonOneSpec)

/-- ITS FALSE NEIGHBOUR: 'it returns false'. Refute it at one input. -/
def canonOneWrong : ChangeSpec := { name := "canonOne", fn := fun _ => fun
  | [d1, d2] => { results := [.lit (.bool false)], args := [d1, d2] }
  | _ => none }
def CanonOneWrongFalsely : Prop := canonOneRow.holds Try.pinned (OpenSpec.ofChange canonOneWrong)

/-- 'swingbridgelaw10.CanonSlices': WHATEVER THE INPUT: true; the input reads as it did. -/
def canonSlicesSpec : ChangeSpec := { name := "canonSlices", fn := fun _ => fun
  | [d1, d2] => { results := [.lit (.bool true)], args := [d1, d2] }
  | _ => none }
def canonSlicesRow : OpenClaim := { program := "ytnfkebdbfflhdaa", sum := "044735782e4cbc3096c133709d592bbc0b154a37e0bfa938f1a847e80d0e328b", func := "swingbridge/swingbridgelaw10.CanonSlices", spec := "canonSlices", recurses := true, apart := false }
def CanonSlicesSaid : Prop := canonSlicesRow.holds Try.pinned (OpenSpec.ofChange canonSlicesSpec)

/-- ITS FALSE NEIGHBOUR: 'it returns false'. Refute it at one input. -/
def canonSlicesWrong : ChangeSpec := { name := "canonSlices", fn := fun _ => fun
  | [d1, d2] => { results := [.lit (.bool false)], args := [d1, d2] }
  | _ => none }
def CanonSlicesWrongFalsely : Prop := canonSlicesRow.holds Try.pinned (OpenSpec.ofChange canonSlicesWrong)

/-- 'swingbridgelaw8.TaskLimits': WHATEVER THE INPUT: true; the input reads as it did. -/
def taskLimitsSpec : ChangeSpec := { name := "taskLimits", fn := fun _ => fun
  | [d1, d2, d3, d4, d5] => { results := [.lit (.bool true)], args := [d1, d2, d3, d4, d5] }
  | _ => none }
def taskLimitsRow : OpenClaim := { program := "ytnfkebdbfflhdaa", sum := "044735782e4cbc3096c133709d592bbc0b154a37e0bfa938f1a847e80d0e328b", func := "swingbridge/swingbridgelaw8.TaskLimits", spec := "taskLimits", unfollowed := true, recurses := true, apart := false }
def TaskLimitsSaid : Prop := taskLimitsRow.holds Try.pinned (OpenSpec.ofChange taskLimitsSpec)

/-- ITS FALSE NEIGHBOUR: 'it returns false'. Refute it at one input. -/
def taskLimitsWrong : ChangeSpec := { name := "taskLimits", fn := fun _ => fun
  | [d1, d2, d3, d4, d5] => { results := [.lit (.bool false)], args := [d1, d2, d3, d4, d5] }
  | _ => none }
def TaskLimitsWrongFalsely : Prop := taskLimitsRow.holds Try.pinned (OpenSpec.ofChange taskLimitsWrong)

/- THE SECOND FORM. 'bulk': how many values and letters a reading holds, each counted each time it is reached (what is shared counts as often as it is met; a slice's spare places count too). A statement '..UptoSaid' is the law's where the arguments, and the package variables that the reading takes, are together of bulk at most 1048576: NARROWER than '..Said'. Prove '..Said' where nothing that the law and all that it calls make is longer than what came in: it says more and counts as full. Else prove '..UptoSaid'. A law counts once. -/
mutual
def uptoBulk {H : Type} : DataW H → Nat
  | .lit (.string bytes) => bytes.length + 1
  | .lit _ => 1
  | .nil => 1
  | .ptr d => uptoBulk d + 1
  | .slice elems spare => uptoBulkAll elems + uptoBulkAll spare + 1
  | .agg parts => uptoBulkAll parts + 1
  | .iface _ d => uptoBulk d + 1
  | .map entries => uptoBulkEntries entries + 1
  | .held _ => 1
def uptoBulkAll {H : Type} : List (DataW H) → Nat
  | [] => 0
  | d :: r => uptoBulk d + uptoBulkAll r
def uptoBulkEntries {H : Type} : List (Lit × DataW H) → Nat
  | [] => 0
  | x :: r => uptoBulkEntry x + uptoBulkEntries r
def uptoBulkEntry {H : Type} : Lit × DataW H → Nat
  | (.string bytes, d) => bytes.length + uptoBulk d + 1
  | (_, d) => uptoBulk d + 1
 end
def uptoSmall : (H : Type) → List (DataW H) → Bool := fun _ ds => decide (uptoBulkAll ds ≤ 1048576)
def OpenSpec.upto (s : _root_.Go.ChangeSpec) : _root_.Go.OpenSpec := { _root_.Go.OpenSpec.ofChange s with cond := some uptoSmall }

/-- 'swingbridgelaw10.CanonTells', WHERE WHAT IT READS IS OF BULK AT MOST 1048576: true; the input reads as it did. -/
def canonTellsUptoRow : OpenClaim := { program := "ytnfkebdbfflhdaa", sum := "044735782e4cbc3096c133709d592bbc0b154a37e0bfa938f1a847e80d0e328b", func := "swingbridge/swingbridgelaw10.CanonTells", spec := "canonTells", recurses := true, apart := false, narrowed := true }
def CanonTellsUptoSaid : Prop := canonTellsUptoRow.holds Try.pinned (OpenSpec.upto canonTellsSpec)

/-- 'swingbridgelaw10.CanonOne', WHERE WHAT IT READS IS OF BULK AT MOST 1048576: true; the input reads as it did. -/
def canonOneUptoRow : OpenClaim := { program := "ytnfkebdbfflhdaa", sum := "044735782e4cbc3096c133709d592bbc0b154a37e0bfa938f1a847e80d0e328b", func := "swingbridge/swingbridgelaw10.CanonOne", spec := "canonOne", recurses := true, apart := false, narrowed := true }
def CanonOneUptoSaid : Prop := canonOneUptoRow.holds Try.pinned (OpenSpec.upto canonOneSpec)

/-- 'swingbridgelaw10.CanonSlices', WHERE WHAT IT READS IS OF BULK AT MOST 1048576: true; the input reads as it did. -/
def canonSlicesUptoRow : OpenClaim := { program := "ytnfkebdbfflhdaa", sum := "044735782e4cbc3096c133709d592bbc0b154a37e0bfa938f1a847e80d0e328b", func := "swingbridge/swingbridgelaw10.CanonSlices", spec := "canonSlices", recurses := true, apart := false, narrowed := true }
def CanonSlicesUptoSaid : Prop := canonSlicesUptoRow.holds Try.pinned (OpenSpec.upto canonSlicesSpec)

/-- 'swingbridgelaw8.TaskLimits', WHERE WHAT IT READS IS OF BULK AT MOST 1048576: true; the input reads as it did. -/
def taskLimitsUptoRow : OpenClaim := { program := "ytnfkebdbfflhdaa", sum := "044735782e4cbc3096c133709d592bbc0b154a37e0bfa938f1a847e80d0e328b", func := "swingbridge/swingbridgelaw8.TaskLimits", spec := "taskLimits", unfollowed := true, recurses := true, apart := false, narrowed := true }
def TaskLimitsUptoSaid : Prop := taskLimitsUptoRow.holds Try.pinned (OpenSpec.upto taskLimitsSpec)

end Rows
end Go.Proofs.Ytnfkebdbfflhdaa
