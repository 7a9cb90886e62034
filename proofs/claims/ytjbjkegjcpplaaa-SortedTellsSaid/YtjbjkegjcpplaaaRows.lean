/-
  No cell of these rows narrows 'for every input' (looked for: loops, veiled, ifaces, maps, wideKeys, modest, calm, conditions, laid).
  DERIVED. THE GIVEN ROWS OF THIS SEAT. 9 by the template 'for every input the law returns true; each argument reads behind the call as it read before'; 0 by the template 'total and deterministic' (their statements: YtjbjkegjcpplaaaTotals.lean).
  GIVEN WITH THE SEED: the statements are not yours to turn. If you find one false, say at which input.
  Laid BY PROGRAM, IN A SANDBOX (cutbox-rows.mjs): the forced cells as the released guide's own fill.sh prints them over the translation f670fcc6737028db… (all of the seat's roots in one cut). By AI agents, Wed Nov 11 2026. No macro, syntax, notation, axiom, sorry.
-/
import Derived.Test.YtjbjkegjcpplaaaChecked
import GoSem.Claim
import GoSem.ClaimJoined
import GoSem.ClaimMapViews
import Derived.JoinedTies
import Derived.KernelRfl
namespace Go.Proofs.Ytjbjkegjcpplaaa
/- THE CELL 'sum', in the pinned program and in every row, IS THE sha256 OF THE DUMP (.gsa) THAT YtjbjkegjcpplaaaProg.lean LOADS. Nothing in Lean hashes anything: it is a label: what it is worth is what the hold of that sum in a sandbox is worth. -/
noncomputable def Try.pinned : Pinned := { name := "ytjbjkegjcpplaaa", sum := "f670fcc6737028db5c361c3b33de2014a241e7443bb3f511773693c0b3437e9f", checked := Try.checked }
namespace Rows
def none {H : Type} : Left H := { results := [], args := [] }

/-- 'swingbridgelaw2.SortedTells': WHATEVER THE INPUT: true; the input reads as it did. -/
def sortedTellsSpec : ChangeSpec := { name := "sortedTells", fn := fun _ => fun
  | [d1, d2, d3, d4] => { results := [.lit (.bool true)], args := [d1, d2, d3, d4] }
  | _ => none }
def sortedTellsRow : OpenClaim := { program := "ytjbjkegjcpplaaa", sum := "f670fcc6737028db5c361c3b33de2014a241e7443bb3f511773693c0b3437e9f", func := "swingbridge/swingbridgelaw2.SortedTells", spec := "sortedTells", unfollowed := true, recurses := true, apart := false }
def SortedTellsSaid : Prop := sortedTellsRow.holds Try.pinned (OpenSpec.ofChange sortedTellsSpec)

/-- ITS FALSE NEIGHBOUR: 'it returns false'. Refute it at one input. -/
def sortedTellsWrong : ChangeSpec := { name := "sortedTells", fn := fun _ => fun
  | [d1, d2, d3, d4] => { results := [.lit (.bool false)], args := [d1, d2, d3, d4] }
  | _ => none }
def SortedTellsWrongFalsely : Prop := sortedTellsRow.holds Try.pinned (OpenSpec.ofChange sortedTellsWrong)

/-- 'swingbridgelaw2.SortedRules': WHATEVER THE INPUT: true; the input reads as it did. -/
def sortedRulesSpec : ChangeSpec := { name := "sortedRules", fn := fun _ => fun
  | [d] => { results := [.lit (.bool true)], args := [d] }
  | _ => none }
def sortedRulesRow : OpenClaim := { program := "ytjbjkegjcpplaaa", sum := "f670fcc6737028db5c361c3b33de2014a241e7443bb3f511773693c0b3437e9f", func := "swingbridge/swingbridgelaw2.SortedRules", spec := "sortedRules", unfollowed := true, recurses := true, apart := false }
def SortedRulesSaid : Prop := sortedRulesRow.holds Try.pinned (OpenSpec.ofChange sortedRulesSpec)

/-- ITS FALSE NEIGHBOUR: 'it returns false'. Refute it at one input. -/
def sortedRulesWrong : ChangeSpec := { name := "sortedRules", fn := fun _ => fun
  | [d] => { results := [.lit (.bool false)], args := [d] }
  | _ => none }
def SortedRulesWrongFalsely : Prop := sortedRulesRow.holds Try.pinned (OpenSpec.ofChange sortedRulesWrong)

/-- 'swingbridgelaw2.SortedTops': WHATEVER THE INPUT: true; the input reads as it did. -/
def sortedTopsSpec : ChangeSpec := { name := "sortedTops", fn := fun _ => fun
  | [d1, d2] => { results := [.lit (.bool true)], args := [d1, d2] }
  | _ => none }
def sortedTopsRow : OpenClaim := { program := "ytjbjkegjcpplaaa", sum := "f670fcc6737028db5c361c3b33de2014a241e7443bb3f511773693c0b3437e9f", func := "swingbridge/swingbridgelaw2.SortedTops", spec := "sortedTops", unfollowed := true, recurses := true, apart := false }
def SortedTopsSaid : Prop := sortedTopsRow.holds Try.pinned (OpenSpec.ofChange sortedTopsSpec)

/-- ITS FALSE NEIGHBOUR: 'it returns false'. Refute it at one input. -/
def sortedTopsWrong : ChangeSpec := { name := "sortedTops", fn := fun _ => fun
  | [d1, d2] => { results := [.lit (.bool false)], args := [d1, d2] }
  | _ => none }
def SortedTopsWrongFalsely : Prop := sortedTopsRow.holds Try.pinned (OpenSpec.ofChange sortedTopsWrong)

/-- 'swingbridgelaw2.SortedOnes': WHATEVER THE INPUT: true; the input reads as it did. -/
def sortedOnesSpec : ChangeSpec := { name := "sortedOnes", fn := fun _ => fun
  | [d] => { results := [.lit (.bool true)], args := [d] }
  | _ => none }
def sortedOnesRow : OpenClaim := { program := "ytjbjkegjcpplaaa", sum := "f670fcc6737028db5c361c3b33de2014a241e7443bb3f511773693c0b3437e9f", func := "swingbridge/swingbridgelaw2.SortedOnes", spec := "sortedOnes", unfollowed := true, recurses := true, apart := false }
def SortedOnesSaid : Prop := sortedOnesRow.holds Try.pinned (OpenSpec.ofChange sortedOnesSpec)

/-- ITS FALSE NEIGHBOUR: 'it returns false'. Refute it at one input. -/
def sortedOnesWrong : ChangeSpec := { name := "sortedOnes", fn := fun _ => fun
  | [d] => { results := [.lit (.bool false)], args := [d] }
  | _ => none }
def SortedOnesWrongFalsely : Prop := sortedOnesRow.holds Try.pinned (OpenSpec.ofChange sortedOnesWrong)

/-- 'swingbridgelaw2.SortedSums': WHATEVER THE INPUT: true; the input reads as it did. -/
def sortedSumsSpec : ChangeSpec := { name := "sortedSums", fn := fun _ => fun
  | [d1, d2, d3] => { results := [.lit (.bool true)], args := [d1, d2, d3] }
  | _ => none }
def sortedSumsRow : OpenClaim := { program := "ytjbjkegjcpplaaa", sum := "f670fcc6737028db5c361c3b33de2014a241e7443bb3f511773693c0b3437e9f", func := "swingbridge/swingbridgelaw2.SortedSums", spec := "sortedSums", unfollowed := true, recurses := true, apart := false }
def SortedSumsSaid : Prop := sortedSumsRow.holds Try.pinned (OpenSpec.ofChange sortedSumsSpec)

/-- ITS FALSE NEIGHBOUR: 'it returns false'. Refute it at one input. -/
def sortedSumsWrong : ChangeSpec := { name := "sortedSums", fn := fun _ => fun
  | [d1, d2, d3] => { results := [.lit (.bool false)], args := [d1, d2, d3] }
  | _ => none }
def SortedSumsWrongFalsely : Prop := sortedSumsRow.holds Try.pinned (OpenSpec.ofChange sortedSumsWrong)

/-- 'swingbridgelaw3.LinePlays': WHATEVER THE INPUT: true; the input reads as it did. -/
def linePlaysSpec : ChangeSpec := { name := "linePlays", fn := fun _ => fun
  | [d1, d2] => { results := [.lit (.bool true)], args := [d1, d2] }
  | _ => none }
def linePlaysRow : OpenClaim := { program := "ytjbjkegjcpplaaa", sum := "f670fcc6737028db5c361c3b33de2014a241e7443bb3f511773693c0b3437e9f", func := "swingbridge/swingbridgelaw3.LinePlays", spec := "linePlays", apart := false }
def LinePlaysSaid : Prop := linePlaysRow.holds Try.pinned (OpenSpec.ofChange linePlaysSpec)

/-- ITS FALSE NEIGHBOUR: 'it returns false'. Refute it at one input. -/
def linePlaysWrong : ChangeSpec := { name := "linePlays", fn := fun _ => fun
  | [d1, d2] => { results := [.lit (.bool false)], args := [d1, d2] }
  | _ => none }
def LinePlaysWrongFalsely : Prop := linePlaysRow.holds Try.pinned (OpenSpec.ofChange linePlaysWrong)

/-- 'swingbridgelaw3.LineOrder': WHATEVER THE INPUT: true; the input reads as it did. -/
def lineOrderSpec : ChangeSpec := { name := "lineOrder", fn := fun _ => fun
  | [d1, d2] => { results := [.lit (.bool true)], args := [d1, d2] }
  | _ => none }
def lineOrderRow : OpenClaim := { program := "ytjbjkegjcpplaaa", sum := "f670fcc6737028db5c361c3b33de2014a241e7443bb3f511773693c0b3437e9f", func := "swingbridge/swingbridgelaw3.LineOrder", spec := "lineOrder", apart := false }
def LineOrderSaid : Prop := lineOrderRow.holds Try.pinned (OpenSpec.ofChange lineOrderSpec)

/-- ITS FALSE NEIGHBOUR: 'it returns false'. Refute it at one input. -/
def lineOrderWrong : ChangeSpec := { name := "lineOrder", fn := fun _ => fun
  | [d1, d2] => { results := [.lit (.bool false)], args := [d1, d2] }
  | _ => none }
def LineOrderWrongFalsely : Prop := lineOrderRow.holds Try.pinned (OpenSpec.ofChange lineOrderWrong)

/-- 'swingbridgelaw3.LineFull': WHATEVER THE INPUT: true; the input reads as it did. -/
def lineFullSpec : ChangeSpec := { name := "lineFull", fn := fun _ => fun
  | [d1, d2] => { results := [.lit (.bool true)], args := [d1, d2] }
  | _ => none }
def lineFullRow : OpenClaim := { program := "ytjbjkegjcpplaaa", sum := "f670fcc6737028db5c361c3b33de2014a241e7443bb3f511773693c0b3437e9f", func := "swingbridge/swingbridgelaw3.LineFull", spec := "lineFull", apart := false }
def LineFullSaid : Prop := lineFullRow.holds Try.pinned (OpenSpec.ofChange lineFullSpec)

/-- ITS FALSE NEIGHBOUR: 'it returns false'. Refute it at one input. -/
def lineFullWrong : ChangeSpec := { name := "lineFull", fn := fun _ => fun
  | [d1, d2] => { results := [.lit (.bool false)], args := [d1, d2] }
  | _ => none }
def LineFullWrongFalsely : Prop := lineFullRow.holds Try.pinned (OpenSpec.ofChange lineFullWrong)

/-- 'swingbridgelaw3.LineTwice': WHATEVER THE INPUT: true; the input reads as it did. -/
def lineTwiceSpec : ChangeSpec := { name := "lineTwice", fn := fun _ => fun
  | [d1, d2] => { results := [.lit (.bool true)], args := [d1, d2] }
  | _ => none }
def lineTwiceRow : OpenClaim := { program := "ytjbjkegjcpplaaa", sum := "f670fcc6737028db5c361c3b33de2014a241e7443bb3f511773693c0b3437e9f", func := "swingbridge/swingbridgelaw3.LineTwice", spec := "lineTwice", apart := false }
def LineTwiceSaid : Prop := lineTwiceRow.holds Try.pinned (OpenSpec.ofChange lineTwiceSpec)

/-- ITS FALSE NEIGHBOUR: 'it returns false'. Refute it at one input. -/
def lineTwiceWrong : ChangeSpec := { name := "lineTwice", fn := fun _ => fun
  | [d1, d2] => { results := [.lit (.bool false)], args := [d1, d2] }
  | _ => none }
def LineTwiceWrongFalsely : Prop := lineTwiceRow.holds Try.pinned (OpenSpec.ofChange lineTwiceWrong)

/- THE SECOND FORM. 'bulk': how many values and letters a reading holds, each counted each time it is reached (what is shared counts as often as it is met; a slice's spare places count too). A statement '..UptoSaid' is the law's where the arguments, and the package variables that the reading takes, are together of bulk at most 1048576: NARROWER than '..Said'. Prove '..Said' where nothing that the law and all that it calls make is longer than what came in: it says more and counts as full. Else prove '..UptoSaid'. A law counts once. -/
mutual
def uptoBulk {H : Type} : DataW H → Nat
  | .lit (.string bytes) => bytes.length + 1
  | .lit _ => 1
  | .nil => 1
  | .ptr d => uptoBulk d + 1
  | .slice elems spare => uptoBulkAll elems + uptoBulkAll spare + 1
  | .agg parts => uptoBulkAll parts + 1
  | .iface _ d => uptoBulk d + 1
  | .map entries => uptoBulkEntries entries + 1
  | .held _ => 1
def uptoBulkAll {H : Type} : List (DataW H) → Nat
  | [] => 0
  | d :: r => uptoBulk d + uptoBulkAll r
def uptoBulkEntries {H : Type} : List (Lit × DataW H) → Nat
  | [] => 0
  | x :: r => uptoBulkEntry x + uptoBulkEntries r
def uptoBulkEntry {H : Type} : Lit × DataW H → Nat
  | (.string bytes, d) => bytes.length + uptoBulk d + 1
  | (_, d) => uptoBulk d + 1
 end
def uptoSmall : (H : Type) → List (DataW H) → Bool := fun _ ds => decide (uptoBulkAll ds ≤ 1048576)
def OpenSpec.upto (s : _root_.Go.ChangeSpec) : _root_.Go.OpenSpec := { _root_.Go.OpenSpec.ofChange s with cond := some uptoSmall }

/-- 'swingbridgelaw2.SortedTells', WHERE WHAT IT READS IS OF BULK AT MOST 1048576: true; the input reads as it did. -/
def sortedTellsUptoRow : OpenClaim := { program := "ytjbjkegjcpplaaa", sum := "f670fcc6737028db5c361c3b33de2014a241e7443bb3f511773693c0b3437e9f", func := "swingbridge/swingbridgelaw2.SortedTells", spec := "sortedTells", unfollowed := true, recurses := true, apart := false, narrowed := true }
def SortedTellsUptoSaid : Prop := sortedTellsUptoRow.holds Try.pinned (OpenSpec.upto sortedTellsSpec)

/-- 'swingbridgelaw2.SortedRules', WHERE WHAT IT READS IS OF BULK AT MOST 1048576: true; the input reads as it did. -/
def sortedRulesUptoRow : OpenClaim := { program := "ytjbjkegjcpplaaa", sum := "f670fcc6737028db5c361c3b33de2014a241e7443bb3f511773693c0b3437e9f", func := "swingbridge/swingbridgelaw2.SortedRules", spec := "sortedRules", unfollowed := true, recurses := true, apart := false, narrowed := true }
def SortedRulesUptoSaid : Prop := sortedRulesUptoRow.holds Try.pinned (OpenSpec.upto sortedRulesSpec)

/-- 'swingbridgelaw2.SortedTops', WHERE WHAT IT READS IS OF BULK AT MOST 1048576: true; the input reads as it did. -/
def sortedTopsUptoRow : OpenClaim := { program := "ytjbjkegjcpplaaa", sum := "f670fcc6737028db5c361c3b33de2014a241e7443bb3f511773693c0b3437e9f", func := "swingbridge/swingbridgelaw2.SortedTops", spec := "sortedTops", unfollowed := true, recurses := true, apart := false, narrowed := true }
def SortedTopsUptoSaid : Prop := sortedTopsUptoRow.holds Try.pinned (OpenSpec.upto sortedTopsSpec)

/-- 'swingbridgelaw2.SortedOnes', WHERE WHAT IT READS IS OF BULK AT MOST 1048576: true; the input reads as it did. -/
def sortedOnesUptoRow : OpenClaim := { program := "ytjbjkegjcpplaaa", sum := "f670fcc6737028db5c361c3b33de2014a241e7443bb3f511773693c0b3437e9f", func := "swingbridge/swingbridgelaw2.SortedOnes", spec := "sortedOnes", unfollowed := true, recurses := true, apart := false, narrowed := true }
def SortedOnesUptoSaid : Prop := sortedOnesUptoRow.holds Try.pinned (OpenSpec.upto sortedOnesSpec)

/-- 'swingbridgelaw2.SortedSums', WHERE WHAT IT READS IS OF BULK AT MOST 1048576: true; the input reads as it did. -/
def sortedSumsUptoRow : OpenClaim := { program := "ytjbjkegjcpplaaa", sum := "f670fcc6737028db5c361c3b33de2014a241e7443bb3f511773693c0b3437e9f", func := "swingbridge/swingbridgelaw2.SortedSums", spec := "sortedSums", unfollowed := true, recurses := true, apart := false, narrowed := true }
def SortedSumsUptoSaid : Prop := sortedSumsUptoRow.holds Try.pinned (OpenSpec.upto sortedSumsSpec)

/-- 'swingbridgelaw3.LinePlays', WHERE WHAT IT READS IS OF BULK AT MOST 1048576: true; the input reads as it did. -/
def linePlaysUptoRow : OpenClaim := { program := "ytjbjkegjcpplaaa", sum := "f670fcc6737028db5c361c3b33de2014a241e7443bb3f511773693c0b3437e9f", func := "swingbridge/swingbridgelaw3.LinePlays", spec := "linePlays", apart := false, narrowed := true }
def LinePlaysUptoSaid : Prop := linePlaysUptoRow.holds Try.pinned (OpenSpec.upto linePlaysSpec)

/-- 'swingbridgelaw3.LineOrder', WHERE WHAT IT READS IS OF BULK AT MOST 1048576: true; the input reads as it did. -/
def lineOrderUptoRow : OpenClaim := { program := "ytjbjkegjcpplaaa", sum := "f670fcc6737028db5c361c3b33de2014a241e7443bb3f511773693c0b3437e9f", func := "swingbridge/swingbridgelaw3.LineOrder", spec := "lineOrder", apart := false, narrowed := true }
def LineOrderUptoSaid : Prop := lineOrderUptoRow.holds Try.pinned (OpenSpec.upto lineOrderSpec)

/-- 'swingbridgelaw3.LineFull', WHERE WHAT IT READS IS OF BULK AT MOST 1048576: true; the input reads as it did. -/
def lineFullUptoRow : OpenClaim := { program := "ytjbjkegjcpplaaa", sum := "f670fcc6737028db5c361c3b33de2014a241e7443bb3f511773693c0b3437e9f", func := "swingbridge/swingbridgelaw3.LineFull", spec := "lineFull", apart := false, narrowed := true }
def LineFullUptoSaid : Prop := lineFullUptoRow.holds Try.pinned (OpenSpec.upto lineFullSpec)

/-- 'swingbridgelaw3.LineTwice', WHERE WHAT IT READS IS OF BULK AT MOST 1048576: true; the input reads as it did. -/
def lineTwiceUptoRow : OpenClaim := { program := "ytjbjkegjcpplaaa", sum := "f670fcc6737028db5c361c3b33de2014a241e7443bb3f511773693c0b3437e9f", func := "swingbridge/swingbridgelaw3.LineTwice", spec := "lineTwice", apart := false, narrowed := true }
def LineTwiceUptoSaid : Prop := lineTwiceUptoRow.holds Try.pinned (OpenSpec.upto lineTwiceSpec)

end Rows
end Go.Proofs.Ytjbjkegjcpplaaa
