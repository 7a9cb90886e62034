/-
  No cell of these rows narrows 'for every input' (looked for: loops, veiled, ifaces, maps, wideKeys, modest, calm, conditions, laid).
  DERIVED. THE GIVEN ROWS OF THIS SEAT. 4 by the template 'for every input the law returns true; each argument reads behind the call as it read before'; 0 by the template 'total and deterministic' (their statements: YtpcbonljbfbdmaaTotals.lean).
  GIVEN WITH THE SEED: the statements are not yours to turn. If you find one false, say at which input.
  Laid BY PROGRAM, IN A SANDBOX (cutbox-rows.mjs): the forced cells as the released guide's own fill.sh prints them over the translation 41d597fee516e644… (all of the seat's roots in one cut). By AI agents, Wed Nov 11 2026. No macro, syntax, notation, axiom, sorry.
-/
import Derived.Test.YtpcbonljbfbdmaaChecked
import GoSem.Claim
import GoSem.ClaimJoined
import GoSem.ClaimMapViews
import Derived.JoinedTies
import Derived.KernelRfl
namespace Go.Proofs.Ytpcbonljbfbdmaa
/- THE CELL 'sum', in the pinned program and in every row, IS THE sha256 OF THE DUMP (.gsa) THAT YtpcbonljbfbdmaaProg.lean LOADS. Nothing in Lean hashes anything: it is a label: what it is worth is what the hold of that sum in a sandbox is worth. -/
noncomputable def Try.pinned : Pinned := { name := "ytpcbonljbfbdmaa", sum := "41d597fee516e644a3fa492d45f63ca74f134059934a3713609f78f1f57d3622", checked := Try.checked }
namespace Rows
def none {H : Type} : Left H := { results := [], args := [] }

/-- 'swingbridgelaw4.RankPlays': WHATEVER THE INPUT: true; the input reads as it did. -/
def rankPlaysSpec : ChangeSpec := { name := "rankPlays", fn := fun _ => fun
  | [d1, d2] => { results := [.lit (.bool true)], args := [d1, d2] }
  | _ => none }
def rankPlaysRow : OpenClaim := { program := "ytpcbonljbfbdmaa", sum := "41d597fee516e644a3fa492d45f63ca74f134059934a3713609f78f1f57d3622", func := "swingbridge/swingbridgelaw4.RankPlays", spec := "rankPlays", unfollowed := true, recurses := true, apart := false }
def RankPlaysSaid : Prop := rankPlaysRow.holds Try.pinned (OpenSpec.ofChange rankPlaysSpec)

/-- ITS FALSE NEIGHBOUR: 'it returns false'. Refute it at one input. -/
def rankPlaysWrong : ChangeSpec := { name := "rankPlays", fn := fun _ => fun
  | [d1, d2] => { results := [.lit (.bool false)], args := [d1, d2] }
  | _ => none }
def RankPlaysWrongFalsely : Prop := rankPlaysRow.holds Try.pinned (OpenSpec.ofChange rankPlaysWrong)

/-- 'swingbridgelaw4.RankSorts': WHATEVER THE INPUT: true; the input reads as it did. -/
def rankSortsSpec : ChangeSpec := { name := "rankSorts", fn := fun _ => fun
  | [d] => { results := [.lit (.bool true)], args := [d] }
  | _ => none }
def rankSortsRow : OpenClaim := { program := "ytpcbonljbfbdmaa", sum := "41d597fee516e644a3fa492d45f63ca74f134059934a3713609f78f1f57d3622", func := "swingbridge/swingbridgelaw4.RankSorts", spec := "rankSorts", unfollowed := true, recurses := true, apart := false }
def RankSortsSaid : Prop := rankSortsRow.holds Try.pinned (OpenSpec.ofChange rankSortsSpec)

/-- ITS FALSE NEIGHBOUR: 'it returns false'. Refute it at one input. -/
def rankSortsWrong : ChangeSpec := { name := "rankSorts", fn := fun _ => fun
  | [d] => { results := [.lit (.bool false)], args := [d] }
  | _ => none }
def RankSortsWrongFalsely : Prop := rankSortsRow.holds Try.pinned (OpenSpec.ofChange rankSortsWrong)

/-- 'swingbridgelaw4.RankMixed': WHATEVER THE INPUT: true; the input reads as it did. -/
def rankMixedSpec : ChangeSpec := { name := "rankMixed", fn := fun _ => fun
  | [d1, d2] => { results := [.lit (.bool true)], args := [d1, d2] }
  | _ => none }
def rankMixedRow : OpenClaim := { program := "ytpcbonljbfbdmaa", sum := "41d597fee516e644a3fa492d45f63ca74f134059934a3713609f78f1f57d3622", func := "swingbridge/swingbridgelaw4.RankMixed", spec := "rankMixed", unfollowed := true, recurses := true, apart := false }
def RankMixedSaid : Prop := rankMixedRow.holds Try.pinned (OpenSpec.ofChange rankMixedSpec)

/-- ITS FALSE NEIGHBOUR: 'it returns false'. Refute it at one input. -/
def rankMixedWrong : ChangeSpec := { name := "rankMixed", fn := fun _ => fun
  | [d1, d2] => { results := [.lit (.bool false)], args := [d1, d2] }
  | _ => none }
def RankMixedWrongFalsely : Prop := rankMixedRow.holds Try.pinned (OpenSpec.ofChange rankMixedWrong)

/-- 'swingbridgelaw4.RankDrops': WHATEVER THE INPUT: true; the input reads as it did. -/
def rankDropsSpec : ChangeSpec := { name := "rankDrops", fn := fun _ => fun
  | [d1, d2] => { results := [.lit (.bool true)], args := [d1, d2] }
  | _ => none }
def rankDropsRow : OpenClaim := { program := "ytpcbonljbfbdmaa", sum := "41d597fee516e644a3fa492d45f63ca74f134059934a3713609f78f1f57d3622", func := "swingbridge/swingbridgelaw4.RankDrops", spec := "rankDrops", unfollowed := true, recurses := true, apart := false }
def RankDropsSaid : Prop := rankDropsRow.holds Try.pinned (OpenSpec.ofChange rankDropsSpec)

/-- ITS FALSE NEIGHBOUR: 'it returns false'. Refute it at one input. -/
def rankDropsWrong : ChangeSpec := { name := "rankDrops", fn := fun _ => fun
  | [d1, d2] => { results := [.lit (.bool false)], args := [d1, d2] }
  | _ => none }
def RankDropsWrongFalsely : Prop := rankDropsRow.holds Try.pinned (OpenSpec.ofChange rankDropsWrong)

/- THE SECOND FORM. 'bulk': how many values and letters a reading holds, each counted each time it is reached (what is shared counts as often as it is met; a slice's spare places count too). A statement '..UptoSaid' is the law's where the arguments, and the package variables that the reading takes, are together of bulk at most 1048576: NARROWER than '..Said'. Prove '..Said' where nothing that the law and all that it calls make is longer than what came in: it says more and counts as full. Else prove '..UptoSaid'. A law counts once. -/
mutual
def uptoBulk {H : Type} : DataW H → Nat
  | .lit (.string bytes) => bytes.length + 1
  | .lit _ => 1
  | .nil => 1
  | .ptr d => uptoBulk d + 1
  | .slice elems spare => uptoBulkAll elems + uptoBulkAll spare + 1
  | .agg parts => uptoBulkAll parts + 1
  | .iface _ d => uptoBulk d + 1
  | .map entries => uptoBulkEntries entries + 1
  | .held _ => 1
def uptoBulkAll {H : Type} : List (DataW H) → Nat
  | [] => 0
  | d :: r => uptoBulk d + uptoBulkAll r
def uptoBulkEntries {H : Type} : List (Lit × DataW H) → Nat
  | [] => 0
  | x :: r => uptoBulkEntry x + uptoBulkEntries r
def uptoBulkEntry {H : Type} : Lit × DataW H → Nat
  | (.string bytes, d) => bytes.length + uptoBulk d + 1
  | (_, d) => uptoBulk d + 1
 end
def uptoSmall : (H : Type) → List (DataW H) → Bool := fun _ ds => decide (uptoBulkAll ds ≤ 1048576)
def OpenSpec.upto (s : _root_.Go.ChangeSpec) : _root_.Go.OpenSpec := { _root_.Go.OpenSpec.ofChange s with cond := some uptoSmall }

/-- 'swingbridgelaw4.RankPlays', WHERE WHAT IT READS IS OF BULK AT MOST 1048576: true; the input reads as it did. -/
def rankPlaysUptoRow : OpenClaim := { program := "ytpcbonljbfbdmaa", sum := "41d597fee516e644a3fa492d45f63ca74f134059934a3713609f78f1f57d3622", func := "swingbridge/swingbridgelaw4.RankPlays", spec := "rankPlays", unfollowed := true, recurses := true, apart := false, narrowed := true }
def RankPlaysUptoSaid : Prop := rankPlaysUptoRow.holds Try.pinned (OpenSpec.upto rankPlaysSpec)

/-- 'swingbridgelaw4.RankSorts', WHERE WHAT IT READS IS OF BULK AT MOST 1048576: true; the input reads as it did. -/
def rankSortsUptoRow : OpenClaim := { program := "ytpcbonljbfbdmaa", sum := "41d597fee516e644a3fa492d45f63ca74f134059934a3713609f78f1f57d3622", func := "swingbridge/swingbridgelaw4.RankSorts", spec := "rankSorts", unfollowed := true, recurses := true, apart := false, narrowed := true }
def RankSortsUptoSaid : Prop := rankSortsUptoRow.holds Try.pinned (OpenSpec.upto rankSortsSpec)

/-- 'swingbridgelaw4.RankMixed', WHERE WHAT IT READS IS OF BULK AT MOST 1048576: true; the input reads as it did. -/
def rankMixedUptoRow : OpenClaim := { program := "ytpcbonljbfbdmaa", sum := "41d597fee516e644a3fa492d45f63ca74f134059934a3713609f78f1f57d3622", func := "swingbridge/swingbridgelaw4.RankMixed", spec := "rankMixed", unfollowed := true, recurses := true, apart := false, narrowed := true }
def RankMixedUptoSaid : Prop := rankMixedUptoRow.holds Try.pinned (OpenSpec.upto rankMixedSpec)

/-- 'swingbridgelaw4.RankDrops', WHERE WHAT IT READS IS OF BULK AT MOST 1048576: true; the input reads as it did. -/
def rankDropsUptoRow : OpenClaim := { program := "ytpcbonljbfbdmaa", sum := "41d597fee516e644a3fa492d45f63ca74f134059934a3713609f78f1f57d3622", func := "swingbridge/swingbridgelaw4.RankDrops", spec := "rankDrops", unfollowed := true, recurses := true, apart := false, narrowed := true }
def RankDropsUptoSaid : Prop := rankDropsUptoRow.holds Try.pinned (OpenSpec.upto rankDropsSpec)

end Rows
end Go.Proofs.Ytpcbonljbfbdmaa
