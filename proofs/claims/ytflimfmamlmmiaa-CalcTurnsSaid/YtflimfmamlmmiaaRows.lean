/-
  No cell of these rows narrows 'for every input' (looked for: loops, veiled, ifaces, maps, wideKeys, modest, calm, conditions, laid).
  DERIVED. THE GIVEN ROWS OF THIS SEAT. 7 by the template 'for every input the law returns true; each argument reads behind the call as it read before'; 0 by the template 'total and deterministic' (their statements: YtflimfmamlmmiaaTotals.lean).
  GIVEN WITH THE SEED: the statements are not yours to turn. If you find one false, say at which input.
  Laid BY PROGRAM, IN A SANDBOX (cutbox-rows.mjs): the forced cells as the released guide's own fill.sh prints them over the translation 9ecdf1b566690464… (all of the seat's roots in one cut). By AI agents, Wed Nov 11 2026. No macro, syntax, notation, axiom, sorry.
-/
import Derived.Test.YtflimfmamlmmiaaChecked
import GoSem.Claim
import GoSem.ClaimJoined
import GoSem.ClaimMapViews
import Derived.JoinedTies
import Derived.KernelRfl
namespace Go.Proofs.Ytflimfmamlmmiaa
/- THE CELL 'sum', in the pinned program and in every row, IS THE sha256 OF THE DUMP (.gsa) THAT YtflimfmamlmmiaaProg.lean LOADS. Nothing in Lean hashes anything: it is a label: what it is worth is what the hold of that sum in a sandbox is worth. -/
noncomputable def Try.pinned : Pinned := { name := "ytflimfmamlmmiaa", sum := "9ecdf1b566690464ee6345d838d77e74e33b9ed2ba842ed9724945c4d7909713", checked := Try.checked }
namespace Rows
def none {H : Type} : Left H := { results := [], args := [] }

/-- 'swingbridgelaw1.CalcTells': WHATEVER THE INPUT: true; the input reads as it did. -/
def calcTellsSpec : ChangeSpec := { name := "calcTells", fn := fun _ => fun
  | [d1, d2, d3] => { results := [.lit (.bool true)], args := [d1, d2, d3] }
  | _ => none }
def calcTellsRow : OpenClaim := { program := "ytflimfmamlmmiaa", sum := "9ecdf1b566690464ee6345d838d77e74e33b9ed2ba842ed9724945c4d7909713", func := "swingbridge/swingbridgelaw1.CalcTells", spec := "calcTells", apart := false }
def CalcTellsSaid : Prop := calcTellsRow.holds Try.pinned (OpenSpec.ofChange calcTellsSpec)

/-- ITS FALSE NEIGHBOUR: 'it returns false'. Refute it at one input. -/
def calcTellsWrong : ChangeSpec := { name := "calcTells", fn := fun _ => fun
  | [d1, d2, d3] => { results := [.lit (.bool false)], args := [d1, d2, d3] }
  | _ => none }
def CalcTellsWrongFalsely : Prop := calcTellsRow.holds Try.pinned (OpenSpec.ofChange calcTellsWrong)

/-- 'swingbridgelaw1.CalcSums': WHATEVER THE INPUT: true; the input reads as it did. -/
def calcSumsSpec : ChangeSpec := { name := "calcSums", fn := fun _ => fun
  | [d] => { results := [.lit (.bool true)], args := [d] }
  | _ => none }
def calcSumsRow : OpenClaim := { program := "ytflimfmamlmmiaa", sum := "9ecdf1b566690464ee6345d838d77e74e33b9ed2ba842ed9724945c4d7909713", func := "swingbridge/swingbridgelaw1.CalcSums", spec := "calcSums", apart := false }
def CalcSumsSaid : Prop := calcSumsRow.holds Try.pinned (OpenSpec.ofChange calcSumsSpec)

/-- ITS FALSE NEIGHBOUR: 'it returns false'. Refute it at one input. -/
def calcSumsWrong : ChangeSpec := { name := "calcSums", fn := fun _ => fun
  | [d] => { results := [.lit (.bool false)], args := [d] }
  | _ => none }
def CalcSumsWrongFalsely : Prop := calcSumsRow.holds Try.pinned (OpenSpec.ofChange calcSumsWrong)

/-- 'swingbridgelaw1.CalcRules': WHATEVER THE INPUT: true; the input reads as it did. -/
def calcRulesSpec : ChangeSpec := { name := "calcRules", fn := fun _ => fun
  | [d1, d2] => { results := [.lit (.bool true)], args := [d1, d2] }
  | _ => none }
def calcRulesRow : OpenClaim := { program := "ytflimfmamlmmiaa", sum := "9ecdf1b566690464ee6345d838d77e74e33b9ed2ba842ed9724945c4d7909713", func := "swingbridge/swingbridgelaw1.CalcRules", spec := "calcRules", apart := false }
def CalcRulesSaid : Prop := calcRulesRow.holds Try.pinned (OpenSpec.ofChange calcRulesSpec)

/-- ITS FALSE NEIGHBOUR: 'it returns false'. Refute it at one input. -/
def calcRulesWrong : ChangeSpec := { name := "calcRules", fn := fun _ => fun
  | [d1, d2] => { results := [.lit (.bool false)], args := [d1, d2] }
  | _ => none }
def CalcRulesWrongFalsely : Prop := calcRulesRow.holds Try.pinned (OpenSpec.ofChange calcRulesWrong)

/-- 'swingbridgelaw1.CalcTurns': WHATEVER THE INPUT: true; the input reads as it did. -/
def calcTurnsSpec : ChangeSpec := { name := "calcTurns", fn := fun _ => fun
  | [d1, d2, d3] => { results := [.lit (.bool true)], args := [d1, d2, d3] }
  | _ => none }
def calcTurnsRow : OpenClaim := { program := "ytflimfmamlmmiaa", sum := "9ecdf1b566690464ee6345d838d77e74e33b9ed2ba842ed9724945c4d7909713", func := "swingbridge/swingbridgelaw1.CalcTurns", spec := "calcTurns", apart := false }
def CalcTurnsSaid : Prop := calcTurnsRow.holds Try.pinned (OpenSpec.ofChange calcTurnsSpec)

/-- ITS FALSE NEIGHBOUR: 'it returns false'. Refute it at one input. -/
def calcTurnsWrong : ChangeSpec := { name := "calcTurns", fn := fun _ => fun
  | [d1, d2, d3] => { results := [.lit (.bool false)], args := [d1, d2, d3] }
  | _ => none }
def CalcTurnsWrongFalsely : Prop := calcTurnsRow.holds Try.pinned (OpenSpec.ofChange calcTurnsWrong)

/-- 'swingbridgelaw1.CalcEnds': WHATEVER THE INPUT: true; the input reads as it did. -/
def calcEndsSpec : ChangeSpec := { name := "calcEnds", fn := fun _ => fun
  | [d] => { results := [.lit (.bool true)], args := [d] }
  | _ => none }
def calcEndsRow : OpenClaim := { program := "ytflimfmamlmmiaa", sum := "9ecdf1b566690464ee6345d838d77e74e33b9ed2ba842ed9724945c4d7909713", func := "swingbridge/swingbridgelaw1.CalcEnds", spec := "calcEnds", apart := false }
def CalcEndsSaid : Prop := calcEndsRow.holds Try.pinned (OpenSpec.ofChange calcEndsSpec)

/-- ITS FALSE NEIGHBOUR: 'it returns false'. Refute it at one input. -/
def calcEndsWrong : ChangeSpec := { name := "calcEnds", fn := fun _ => fun
  | [d] => { results := [.lit (.bool false)], args := [d] }
  | _ => none }
def CalcEndsWrongFalsely : Prop := calcEndsRow.holds Try.pinned (OpenSpec.ofChange calcEndsWrong)

/-- 'swingbridgelaw1.CalcUp': WHATEVER THE INPUT: true; the input reads as it did. -/
def calcUpSpec : ChangeSpec := { name := "calcUp", fn := fun _ => fun
  | [d1, d2] => { results := [.lit (.bool true)], args := [d1, d2] }
  | _ => none }
def calcUpRow : OpenClaim := { program := "ytflimfmamlmmiaa", sum := "9ecdf1b566690464ee6345d838d77e74e33b9ed2ba842ed9724945c4d7909713", func := "swingbridge/swingbridgelaw1.CalcUp", spec := "calcUp", apart := false }
def CalcUpSaid : Prop := calcUpRow.holds Try.pinned (OpenSpec.ofChange calcUpSpec)

/-- ITS FALSE NEIGHBOUR: 'it returns false'. Refute it at one input. -/
def calcUpWrong : ChangeSpec := { name := "calcUp", fn := fun _ => fun
  | [d1, d2] => { results := [.lit (.bool false)], args := [d1, d2] }
  | _ => none }
def CalcUpWrongFalsely : Prop := calcUpRow.holds Try.pinned (OpenSpec.ofChange calcUpWrong)

/-- 'swingbridgelaw1.CalcClips': WHATEVER THE INPUT: true; the input reads as it did. -/
def calcClipsSpec : ChangeSpec := { name := "calcClips", fn := fun _ => fun
  | [d1, d2, d3] => { results := [.lit (.bool true)], args := [d1, d2, d3] }
  | _ => none }
def calcClipsRow : OpenClaim := { program := "ytflimfmamlmmiaa", sum := "9ecdf1b566690464ee6345d838d77e74e33b9ed2ba842ed9724945c4d7909713", func := "swingbridge/swingbridgelaw1.CalcClips", spec := "calcClips", apart := false }
def CalcClipsSaid : Prop := calcClipsRow.holds Try.pinned (OpenSpec.ofChange calcClipsSpec)

/-- ITS FALSE NEIGHBOUR: 'it returns false'. Refute it at one input. -/
def calcClipsWrong : ChangeSpec := { name := "calcClips", fn := fun _ => fun
  | [d1, d2, d3] => { results := [.lit (.bool false)], args := [d1, d2, d3] }
  | _ => none }
def CalcClipsWrongFalsely : Prop := calcClipsRow.holds Try.pinned (OpenSpec.ofChange calcClipsWrong)

/- THE SECOND FORM. 'bulk': how many values and letters a reading holds, each counted each time it is reached (what is shared counts as often as it is met; a slice's spare places count too). A statement '..UptoSaid' is the law's where the arguments, and the package variables that the reading takes, are together of bulk at most 1048576: NARROWER than '..Said'. Prove '..Said' where nothing that the law and all that it calls make is longer than what came in: it says more and counts as full. Else prove '..UptoSaid'. A law counts once. -/
mutual
def uptoBulk {H : Type} : DataW H → Nat
  | .lit (.string bytes) => bytes.length + 1
  | .lit _ => 1
  | .nil => 1
  | .ptr d => uptoBulk d + 1
  | .slice elems spare => uptoBulkAll elems + uptoBulkAll spare + 1
  | .agg parts => uptoBulkAll parts + 1
  | .iface _ d => uptoBulk d + 1
  | .map entries => uptoBulkEntries entries + 1
  | .held _ => 1
def uptoBulkAll {H : Type} : List (DataW H) → Nat
  | [] => 0
  | d :: r => uptoBulk d + uptoBulkAll r
def uptoBulkEntries {H : Type} : List (Lit × DataW H) → Nat
  | [] => 0
  | x :: r => uptoBulkEntry x + uptoBulkEntries r
def uptoBulkEntry {H : Type} : Lit × DataW H → Nat
  | (.string bytes, d) => bytes.length + uptoBulk d + 1
  | (_, d) => uptoBulk d + 1
 end
def uptoSmall : (H : Type) → List (DataW H) → Bool := fun _ ds => decide (uptoBulkAll ds ≤ 1048576)
def OpenSpec.upto (s : _root_.Go.ChangeSpec) : _root_.Go.OpenSpec := { _root_.Go.OpenSpec.ofChange s with cond := some uptoSmall }

/-- 'swingbridgelaw1.CalcTells', WHERE WHAT IT READS IS OF BULK AT MOST 1048576: true; the input reads as it did. -/
def calcTellsUptoRow : OpenClaim := { program := "ytflimfmamlmmiaa", sum := "9ecdf1b566690464ee6345d838d77e74e33b9ed2ba842ed9724945c4d7909713", func := "swingbridge/swingbridgelaw1.CalcTells", spec := "calcTells", apart := false, narrowed := true }
def CalcTellsUptoSaid : Prop := calcTellsUptoRow.holds Try.pinned (OpenSpec.upto calcTellsSpec)

/-- 'swingbridgelaw1.CalcSums', WHERE WHAT IT READS IS OF BULK AT MOST 1048576: true; the input reads as it did. -/
def calcSumsUptoRow : OpenClaim := { program := "ytflimfmamlmmiaa", sum := "9ecdf1b566690464ee6345d838d77e74e33b9ed2ba842ed9724945c4d7909713", func := "swingbridge/swingbridgelaw1.CalcSums", spec := "calcSums", apart := false, narrowed := true }
def CalcSumsUptoSaid : Prop := calcSumsUptoRow.holds Try.pinned (OpenSpec.upto calcSumsSpec)

/-- 'swingbridgelaw1.CalcRules', WHERE WHAT IT READS IS OF BULK AT MOST 1048576: true; the input reads as it did. -/
def calcRulesUptoRow : OpenClaim := { program := "ytflimfmamlmmiaa", sum := "9ecdf1b566690464ee6345d838d77e74e33b9ed2ba842ed9724945c4d7909713", func := "swingbridge/swingbridgelaw1.CalcRules", spec := "calcRules", apart := false, narrowed := true }
def CalcRulesUptoSaid : Prop := calcRulesUptoRow.holds Try.pinned (OpenSpec.upto calcRulesSpec)

/-- 'swingbridgelaw1.CalcTurns', WHERE WHAT IT READS IS OF BULK AT MOST 1048576: true; the input reads as it did. -/
def calcTurnsUptoRow : OpenClaim := { program := "ytflimfmamlmmiaa", sum := "9ecdf1b566690464ee6345d838d77e74e33b9ed2ba842ed9724945c4d7909713", func := "swingbridge/swingbridgelaw1.CalcTurns", spec := "calcTurns", apart := false, narrowed := true }
def CalcTurnsUptoSaid : Prop := calcTurnsUptoRow.holds Try.pinned (OpenSpec.upto calcTurnsSpec)

/-- 'swingbridgelaw1.CalcEnds', WHERE WHAT IT READS IS OF BULK AT MOST 1048576: true; the input reads as it did. -/
def calcEndsUptoRow : OpenClaim := { program := "ytflimfmamlmmiaa", sum := "9ecdf1b566690464ee6345d838d77e74e33b9ed2ba842ed9724945c4d7909713", func := "swingbridge/swingbridgelaw1.CalcEnds", spec := "calcEnds", apart := false, narrowed := true }
def CalcEndsUptoSaid : Prop := calcEndsUptoRow.holds Try.pinned (OpenSpec.upto calcEndsSpec)

/-- 'swingbridgelaw1.CalcUp', WHERE WHAT IT READS IS OF BULK AT MOST 1048576: true; the input reads as it did. -/
def calcUpUptoRow : OpenClaim := { program := "ytflimfmamlmmiaa", sum := "9ecdf1b566690464ee6345d838d77e74e33b9ed2ba842ed9724945c4d7909713", func := "swingbridge/swingbridgelaw1.CalcUp", spec := "calcUp", apart := false, narrowed := true }
def CalcUpUptoSaid : Prop := calcUpUptoRow.holds Try.pinned (OpenSpec.upto calcUpSpec)

/-- 'swingbridgelaw1.CalcClips', WHERE WHAT IT READS IS OF BULK AT MOST 1048576: true; the input reads as it did. -/
def calcClipsUptoRow : OpenClaim := { program := "ytflimfmamlmmiaa", sum := "9ecdf1b566690464ee6345d838d77e74e33b9ed2ba842ed9724945c4d7909713", func := "swingbridge/swingbridgelaw1.CalcClips", spec := "calcClips", apart := false, narrowed := true }
def CalcClipsUptoSaid : Prop := calcClipsUptoRow.holds Try.pinned (OpenSpec.upto calcClipsSpec)

end Rows
end Go.Proofs.Ytflimfmamlmmiaa
