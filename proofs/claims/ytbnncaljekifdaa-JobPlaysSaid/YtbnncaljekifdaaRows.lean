/-
  No cell of these rows narrows 'for every input' (looked for: loops, veiled, ifaces, maps, wideKeys, modest, calm, conditions, laid).
  DERIVED. THE GIVEN ROWS OF THIS SEAT. 9 by the template 'for every input the law returns true; each argument reads behind the call as it read before'; 0 by the template 'total and deterministic' (their statements: YtbnncaljekifdaaTotals.lean).
  GIVEN WITH THE SEED: the statements are not yours to turn. If you find one false, say at which input.
  Laid BY PROGRAM, IN A SANDBOX (cutbox-rows.mjs): the forced cells as the released guide's own fill.sh prints them over the translation e226723e7b4b8171… (all of the seat's roots in one cut). By AI agents, Wed Nov 11 2026. No macro, syntax, notation, axiom, sorry.
-/
import Derived.Test.YtbnncaljekifdaaChecked
import GoSem.Claim
import GoSem.ClaimJoined
import GoSem.ClaimMapViews
import Derived.JoinedTies
import Derived.KernelRfl
namespace Go.Proofs.Ytbnncaljekifdaa
/- THE CELL 'sum', in the pinned program and in every row, IS THE sha256 OF THE DUMP (.gsa) THAT YtbnncaljekifdaaProg.lean LOADS. Nothing in Lean hashes anything: it is a label: what it is worth is what the hold of that sum in a sandbox is worth. -/
noncomputable def Try.pinned : Pinned := { name := "ytbnncaljekifdaa", sum := "e226723e7b4b81719a321b0aba5c2513f0af0ff849bf220fce65c697a52dff66", checked := Try.checked }
namespace Rows
def none {H : Type} : Left H := { results := [], args := [] }

/-- 'swingbridgelaw20.TapePlays': WHATEVER THE INPUT: true; the input reads as it did. -/
def tapePlaysSpec : ChangeSpec := { name := "tapePlays", fn := fun _ => fun
  | [d1, d2, d3] => { results := [.lit (.bool true)], args := [d1, d2, d3] }
  | _ => none }
def tapePlaysRow : OpenClaim := { program := "ytbnncaljekifdaa", sum := "e226723e7b4b81719a321b0aba5c2513f0af0ff849bf220fce65c697a52dff66", func := "swingbridge/swingbridgelaw20.TapePlays", spec := "tapePlays", apart := false }
def TapePlaysSaid : Prop := tapePlaysRow.holds Try.pinned (OpenSpec.ofChange tapePlaysSpec)

/-- ITS FALSE NEIGHBOUR: 'it returns false'. Refute it at one input. -/
def tapePlaysWrong : ChangeSpec := { name := "tapePlays", fn := fun _ => fun
  | [d1, d2, d3] => { results := [.lit (.bool false)], args := [d1, d2, d3] }
  | _ => none }
def TapePlaysWrongFalsely : Prop := tapePlaysRow.holds Try.pinned (OpenSpec.ofChange tapePlaysWrong)

/-- 'swingbridgelaw20.TapeBetween': WHATEVER THE INPUT: true; the input reads as it did. -/
def tapeBetweenSpec : ChangeSpec := { name := "tapeBetween", fn := fun _ => fun
  | [d1, d2, d3] => { results := [.lit (.bool true)], args := [d1, d2, d3] }
  | _ => none }
def tapeBetweenRow : OpenClaim := { program := "ytbnncaljekifdaa", sum := "e226723e7b4b81719a321b0aba5c2513f0af0ff849bf220fce65c697a52dff66", func := "swingbridge/swingbridgelaw20.TapeBetween", spec := "tapeBetween", apart := false }
def TapeBetweenSaid : Prop := tapeBetweenRow.holds Try.pinned (OpenSpec.ofChange tapeBetweenSpec)

/-- ITS FALSE NEIGHBOUR: 'it returns false'. Refute it at one input. -/
def tapeBetweenWrong : ChangeSpec := { name := "tapeBetween", fn := fun _ => fun
  | [d1, d2, d3] => { results := [.lit (.bool false)], args := [d1, d2, d3] }
  | _ => none }
def TapeBetweenWrongFalsely : Prop := tapeBetweenRow.holds Try.pinned (OpenSpec.ofChange tapeBetweenWrong)

/-- 'swingbridgelaw20.TapeNothing': WHATEVER THE INPUT: true; the input reads as it did. -/
def tapeNothingSpec : ChangeSpec := { name := "tapeNothing", fn := fun _ => fun
  | [d1, d2, d3] => { results := [.lit (.bool true)], args := [d1, d2, d3] }
  | _ => none }
def tapeNothingRow : OpenClaim := { program := "ytbnncaljekifdaa", sum := "e226723e7b4b81719a321b0aba5c2513f0af0ff849bf220fce65c697a52dff66", func := "swingbridge/swingbridgelaw20.TapeNothing", spec := "tapeNothing", apart := false }
def TapeNothingSaid : Prop := tapeNothingRow.holds Try.pinned (OpenSpec.ofChange tapeNothingSpec)

/-- ITS FALSE NEIGHBOUR: 'it returns false'. Refute it at one input. -/
def tapeNothingWrong : ChangeSpec := { name := "tapeNothing", fn := fun _ => fun
  | [d1, d2, d3] => { results := [.lit (.bool false)], args := [d1, d2, d3] }
  | _ => none }
def TapeNothingWrongFalsely : Prop := tapeNothingRow.holds Try.pinned (OpenSpec.ofChange tapeNothingWrong)

/-- 'swingbridgelaw21.JobPlays': WHATEVER THE INPUT: true; the input reads as it did. -/
def jobPlaysSpec : ChangeSpec := { name := "jobPlays", fn := fun _ => fun
  | [d1, d2, d3, d4] => { results := [.lit (.bool true)], args := [d1, d2, d3, d4] }
  | _ => none }
def jobPlaysRow : OpenClaim := { program := "ytbnncaljekifdaa", sum := "e226723e7b4b81719a321b0aba5c2513f0af0ff849bf220fce65c697a52dff66", func := "swingbridge/swingbridgelaw21.JobPlays", spec := "jobPlays", apart := false }
def JobPlaysSaid : Prop := jobPlaysRow.holds Try.pinned (OpenSpec.ofChange jobPlaysSpec)

/-- ITS FALSE NEIGHBOUR: 'it returns false'. Refute it at one input. -/
def jobPlaysWrong : ChangeSpec := { name := "jobPlays", fn := fun _ => fun
  | [d1, d2, d3, d4] => { results := [.lit (.bool false)], args := [d1, d2, d3, d4] }
  | _ => none }
def JobPlaysWrongFalsely : Prop := jobPlaysRow.holds Try.pinned (OpenSpec.ofChange jobPlaysWrong)

/-- 'swingbridgelaw21.JobLengths': WHATEVER THE INPUT: true; the input reads as it did. -/
def jobLengthsSpec : ChangeSpec := { name := "jobLengths", fn := fun _ => fun
  | [d1, d2] => { results := [.lit (.bool true)], args := [d1, d2] }
  | _ => none }
def jobLengthsRow : OpenClaim := { program := "ytbnncaljekifdaa", sum := "e226723e7b4b81719a321b0aba5c2513f0af0ff849bf220fce65c697a52dff66", func := "swingbridge/swingbridgelaw21.JobLengths", spec := "jobLengths", apart := false }
def JobLengthsSaid : Prop := jobLengthsRow.holds Try.pinned (OpenSpec.ofChange jobLengthsSpec)

/-- ITS FALSE NEIGHBOUR: 'it returns false'. Refute it at one input. -/
def jobLengthsWrong : ChangeSpec := { name := "jobLengths", fn := fun _ => fun
  | [d1, d2] => { results := [.lit (.bool false)], args := [d1, d2] }
  | _ => none }
def JobLengthsWrongFalsely : Prop := jobLengthsRow.holds Try.pinned (OpenSpec.ofChange jobLengthsWrong)

/-- 'swingbridgelaw21.JobFull': WHATEVER THE INPUT: true; the input reads as it did. -/
def jobFullSpec : ChangeSpec := { name := "jobFull", fn := fun _ => fun
  | [d1, d2] => { results := [.lit (.bool true)], args := [d1, d2] }
  | _ => none }
def jobFullRow : OpenClaim := { program := "ytbnncaljekifdaa", sum := "e226723e7b4b81719a321b0aba5c2513f0af0ff849bf220fce65c697a52dff66", func := "swingbridge/swingbridgelaw21.JobFull", spec := "jobFull", apart := false }
def JobFullSaid : Prop := jobFullRow.holds Try.pinned (OpenSpec.ofChange jobFullSpec)

/-- ITS FALSE NEIGHBOUR: 'it returns false'. Refute it at one input. -/
def jobFullWrong : ChangeSpec := { name := "jobFull", fn := fun _ => fun
  | [d1, d2] => { results := [.lit (.bool false)], args := [d1, d2] }
  | _ => none }
def JobFullWrongFalsely : Prop := jobFullRow.holds Try.pinned (OpenSpec.ofChange jobFullWrong)

/-- 'swingbridgelaw22.TurnTells': WHATEVER THE INPUT: true; the input reads as it did. -/
def turnTellsSpec : ChangeSpec := { name := "turnTells", fn := fun _ => fun
  | [d1, d2, d3, d4] => { results := [.lit (.bool true)], args := [d1, d2, d3, d4] }
  | _ => none }
def turnTellsRow : OpenClaim := { program := "ytbnncaljekifdaa", sum := "e226723e7b4b81719a321b0aba5c2513f0af0ff849bf220fce65c697a52dff66", func := "swingbridge/swingbridgelaw22.TurnTells", spec := "turnTells", unfollowed := true, recurses := true, apart := false }
def TurnTellsSaid : Prop := turnTellsRow.holds Try.pinned (OpenSpec.ofChange turnTellsSpec)

/-- ITS FALSE NEIGHBOUR: 'it returns false'. Refute it at one input. -/
def turnTellsWrong : ChangeSpec := { name := "turnTells", fn := fun _ => fun
  | [d1, d2, d3, d4] => { results := [.lit (.bool false)], args := [d1, d2, d3, d4] }
  | _ => none }
def TurnTellsWrongFalsely : Prop := turnTellsRow.holds Try.pinned (OpenSpec.ofChange turnTellsWrong)

/-- 'swingbridgelaw22.TurnOrder': WHATEVER THE INPUT: true; the input reads as it did. -/
def turnOrderSpec : ChangeSpec := { name := "turnOrder", fn := fun _ => fun
  | [d1, d2, d3, d4, d5] => { results := [.lit (.bool true)], args := [d1, d2, d3, d4, d5] }
  | _ => none }
def turnOrderRow : OpenClaim := { program := "ytbnncaljekifdaa", sum := "e226723e7b4b81719a321b0aba5c2513f0af0ff849bf220fce65c697a52dff66", func := "swingbridge/swingbridgelaw22.TurnOrder", spec := "turnOrder", unfollowed := true, recurses := true, apart := false }
def TurnOrderSaid : Prop := turnOrderRow.holds Try.pinned (OpenSpec.ofChange turnOrderSpec)

/-- ITS FALSE NEIGHBOUR: 'it returns false'. Refute it at one input. -/
def turnOrderWrong : ChangeSpec := { name := "turnOrder", fn := fun _ => fun
  | [d1, d2, d3, d4, d5] => { results := [.lit (.bool false)], args := [d1, d2, d3, d4, d5] }
  | _ => none }
def TurnOrderWrongFalsely : Prop := turnOrderRow.holds Try.pinned (OpenSpec.ofChange turnOrderWrong)

/-- 'swingbridgelaw22.TurnBoosts': WHATEVER THE INPUT: true; the input reads as it did. -/
def turnBoostsSpec : ChangeSpec := { name := "turnBoosts", fn := fun _ => fun
  | [d1, d2, d3] => { results := [.lit (.bool true)], args := [d1, d2, d3] }
  | _ => none }
def turnBoostsRow : OpenClaim := { program := "ytbnncaljekifdaa", sum := "e226723e7b4b81719a321b0aba5c2513f0af0ff849bf220fce65c697a52dff66", func := "swingbridge/swingbridgelaw22.TurnBoosts", spec := "turnBoosts", unfollowed := true, recurses := true, apart := false }
def TurnBoostsSaid : Prop := turnBoostsRow.holds Try.pinned (OpenSpec.ofChange turnBoostsSpec)

/-- ITS FALSE NEIGHBOUR: 'it returns false'. Refute it at one input. -/
def turnBoostsWrong : ChangeSpec := { name := "turnBoosts", fn := fun _ => fun
  | [d1, d2, d3] => { results := [.lit (.bool false)], args := [d1, d2, d3] }
  | _ => none }
def TurnBoostsWrongFalsely : Prop := turnBoostsRow.holds Try.pinned (OpenSpec.ofChange turnBoostsWrong)

/- THE SECOND FORM. 'bulk': how many values and letters a reading holds, each counted each time it is reached (what is shared counts as often as it is met; a slice's spare places count too). A statement '..UptoSaid' is the law's where the arguments, and the package variables that the reading takes, are together of bulk at most 1048576: NARROWER than '..Said'. Prove '..Said' where nothing that the law and all that it calls make is longer than what came in: it says more and counts as full. Else prove '..UptoSaid'. A law counts once. -/
mutual
def uptoBulk {H : Type} : DataW H → Nat
  | .lit (.string bytes) => bytes.length + 1
  | .lit _ => 1
  | .nil => 1
  | .ptr d => uptoBulk d + 1
  | .slice elems spare => uptoBulkAll elems + uptoBulkAll spare + 1
  | .agg parts => uptoBulkAll parts + 1
  | .iface _ d => uptoBulk d + 1
  | .map entries => uptoBulkEntries entries + 1
  | .held _ => 1
def uptoBulkAll {H : Type} : List (DataW H) → Nat
  | [] => 0
  | d :: r => uptoBulk d + uptoBulkAll r
def uptoBulkEntries {H : Type} : List (Lit × DataW H) → Nat
  | [] => 0
  | x :: r => uptoBulkEntry x + uptoBulkEntries r
def uptoBulkEntry {H : Type} : Lit × DataW H → Nat
  | (.string bytes, d) => bytes.length + uptoBulk d + 1
  | (_, d) => uptoBulk d + 1
 end
def uptoSmall : (H : Type) → List (DataW H) → Bool := fun _ ds => decide (uptoBulkAll ds ≤ 1048576)
def OpenSpec.upto (s : _root_.Go.ChangeSpec) : _root_.Go.OpenSpec := { _root_.Go.OpenSpec.ofChange s with cond := some uptoSmall }

/-- 'swingbridgelaw20.TapePlays', WHERE WHAT IT READS IS OF BULK AT MOST 1048576: true; the input reads as it did. -/
def tapePlaysUptoRow : OpenClaim := { program := "ytbnncaljekifdaa", sum := "e226723e7b4b81719a321b0aba5c2513f0af0ff849bf220fce65c697a52dff66", func := "swingbridge/swingbridgelaw20.TapePlays", spec := "tapePlays", apart := false, narrowed := true }
def TapePlaysUptoSaid : Prop := tapePlaysUptoRow.holds Try.pinned (OpenSpec.upto tapePlaysSpec)

/-- 'swingbridgelaw20.TapeBetween', WHERE WHAT IT READS IS OF BULK AT MOST 1048576: true; the input reads as it did. -/
def tapeBetweenUptoRow : OpenClaim := { program := "ytbnncaljekifdaa", sum := "e226723e7b4b81719a321b0aba5c2513f0af0ff849bf220fce65c697a52dff66", func := "swingbridge/swingbridgelaw20.TapeBetween", spec := "tapeBetween", apart := false, narrowed := true }
def TapeBetweenUptoSaid : Prop := tapeBetweenUptoRow.holds Try.pinned (OpenSpec.upto tapeBetweenSpec)

/-- 'swingbridgelaw20.TapeNothing', WHERE WHAT IT READS IS OF BULK AT MOST 1048576: true; the input reads as it did. -/
def tapeNothingUptoRow : OpenClaim := { program := "ytbnncaljekifdaa", sum := "e226723e7b4b81719a321b0aba5c2513f0af0ff849bf220fce65c697a52dff66", func := "swingbridge/swingbridgelaw20.TapeNothing", spec := "tapeNothing", apart := false, narrowed := true }
def TapeNothingUptoSaid : Prop := tapeNothingUptoRow.holds Try.pinned (OpenSpec.upto tapeNothingSpec)

/-- 'swingbridgelaw21.JobPlays', WHERE WHAT IT READS IS OF BULK AT MOST 1048576: true; the input reads as it did. -/
def jobPlaysUptoRow : OpenClaim := { program := "ytbnncaljekifdaa", sum := "e226723e7b4b81719a321b0aba5c2513f0af0ff849bf220fce65c697a52dff66", func := "swingbridge/swingbridgelaw21.JobPlays", spec := "jobPlays", apart := false, narrowed := true }
def JobPlaysUptoSaid : Prop := jobPlaysUptoRow.holds Try.pinned (OpenSpec.upto jobPlaysSpec)

/-- 'swingbridgelaw21.JobLengths', WHERE WHAT IT READS IS OF BULK AT MOST 1048576: true; the input reads as it did. -/
def jobLengthsUptoRow : OpenClaim := { program := "ytbnncaljekifdaa", sum := "e226723e7b4b81719a321b0aba5c2513f0af0ff849bf220fce65c697a52dff66", func := "swingbridge/swingbridgelaw21.JobLengths", spec := "jobLengths", apart := false, narrowed := true }
def JobLengthsUptoSaid : Prop := jobLengthsUptoRow.holds Try.pinned (OpenSpec.upto jobLengthsSpec)

/-- 'swingbridgelaw21.JobFull', WHERE WHAT IT READS IS OF BULK AT MOST 1048576: true; the input reads as it did. -/
def jobFullUptoRow : OpenClaim := { program := "ytbnncaljekifdaa", sum := "e226723e7b4b81719a321b0aba5c2513f0af0ff849bf220fce65c697a52dff66", func := "swingbridge/swingbridgelaw21.JobFull", spec := "jobFull", apart := false, narrowed := true }
def JobFullUptoSaid : Prop := jobFullUptoRow.holds Try.pinned (OpenSpec.upto jobFullSpec)

/-- 'swingbridgelaw22.TurnTells', WHERE WHAT IT READS IS OF BULK AT MOST 1048576: true; the input reads as it did. -/
def turnTellsUptoRow : OpenClaim := { program := "ytbnncaljekifdaa", sum := "e226723e7b4b81719a321b0aba5c2513f0af0ff849bf220fce65c697a52dff66", func := "swingbridge/swingbridgelaw22.TurnTells", spec := "turnTells", unfollowed := true, recurses := true, apart := false, narrowed := true }
def TurnTellsUptoSaid : Prop := turnTellsUptoRow.holds Try.pinned (OpenSpec.upto turnTellsSpec)

/-- 'swingbridgelaw22.TurnOrder', WHERE WHAT IT READS IS OF BULK AT MOST 1048576: true; the input reads as it did. -/
def turnOrderUptoRow : OpenClaim := { program := "ytbnncaljekifdaa", sum := "e226723e7b4b81719a321b0aba5c2513f0af0ff849bf220fce65c697a52dff66", func := "swingbridge/swingbridgelaw22.TurnOrder", spec := "turnOrder", unfollowed := true, recurses := true, apart := false, narrowed := true }
def TurnOrderUptoSaid : Prop := turnOrderUptoRow.holds Try.pinned (OpenSpec.upto turnOrderSpec)

/-- 'swingbridgelaw22.TurnBoosts', WHERE WHAT IT READS IS OF BULK AT MOST 1048576: true; the input reads as it did. -/
def turnBoostsUptoRow : OpenClaim := { program := "ytbnncaljekifdaa", sum := "e226723e7b4b81719a321b0aba5c2513f0af0ff849bf220fce65c697a52dff66", func := "swingbridge/swingbridgelaw22.TurnBoosts", spec := "turnBoosts", unfollowed := true, recurses := true, apart := false, narrowed := true }
def TurnBoostsUptoSaid : Prop := turnBoostsUptoRow.holds Try.pinned (OpenSpec.upto turnBoostsSpec)

end Rows
end Go.Proofs.Ytbnncaljekifdaa
