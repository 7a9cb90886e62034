/-
  No cell of these rows narrows 'for every input' (looked for: loops, veiled, ifaces, maps, wideKeys, modest, calm, conditions, laid).
  DERIVED. THE GIVEN ROWS OF THIS SEAT. 6 by the template 'for every input the law returns true; each argument reads behind the call as it read before'; 0 by the template 'total and deterministic' (their statements: YtpnghhaflgkgfaaTotals.lean).
  GIVEN WITH THE SEED: the statements are not yours to turn. If you find one false, say at which input.
  Laid BY PROGRAM, IN A SANDBOX (cutbox-rows.mjs): the forced cells as the released guide's own fill.sh prints them over the translation 78adc012f3c43edd… (all of the seat's roots in one cut). By AI agents, Wed Nov 11 2026. No macro, syntax, notation, axiom, sorry.
-/
import Derived.Test.YtpnghhaflgkgfaaChecked
import GoSem.Claim
import GoSem.ClaimJoined
import GoSem.ClaimMapViews
import Derived.JoinedTies
import Derived.KernelRfl
namespace Go.Proofs.Ytpnghhaflgkgfaa
/- THE CELL 'sum', in the pinned program and in every row, IS THE sha256 OF THE DUMP (.gsa) THAT YtpnghhaflgkgfaaProg.lean LOADS. Nothing in Lean hashes anything: it is a label: what it is worth is what the hold of that sum in a sandbox is worth. -/
noncomputable def Try.pinned : Pinned := { name := "ytpnghhaflgkgfaa", sum := "78adc012f3c43eddbd6455437a0189e8adb59fd998679493509146dee39cc71c", checked := Try.checked }
namespace Rows
def none {H : Type} : Left H := { results := [], args := [] }

/-- 'swingbridgelaw18.AdmitHolds': WHATEVER THE INPUT: true; the input reads as it did. -/
def admitHoldsSpec : ChangeSpec := { name := "admitHolds", fn := fun _ => fun
  | [d1, d2] => { results := [.lit (.bool true)], args := [d1, d2] }
  | _ => none }
def admitHoldsRow : OpenClaim := { program := "ytpnghhaflgkgfaa", sum := "78adc012f3c43eddbd6455437a0189e8adb59fd998679493509146dee39cc71c", func := "swingbridge/swingbridgelaw18.AdmitHolds", spec := "admitHolds", unfollowed := true, recurses := true, apart := false }
def AdmitHoldsSaid : Prop := admitHoldsRow.holds Try.pinned (OpenSpec.ofChange admitHoldsSpec)

/-- ITS FALSE NEIGHBOUR: 'it returns false'. Refute it at one input. -/
def admitHoldsWrong : ChangeSpec := { name := "admitHolds", fn := fun _ => fun
  | [d1, d2] => { results := [.lit (.bool false)], args := [d1, d2] }
  | _ => none }
def AdmitHoldsWrongFalsely : Prop := admitHoldsRow.holds Try.pinned (OpenSpec.ofChange admitHoldsWrong)

/-- 'swingbridgelaw18.AdmitTurns': WHATEVER THE INPUT: true; the input reads as it did. -/
def admitTurnsSpec : ChangeSpec := { name := "admitTurns", fn := fun _ => fun
  | [d1, d2] => { results := [.lit (.bool true)], args := [d1, d2] }
  | _ => none }
def admitTurnsRow : OpenClaim := { program := "ytpnghhaflgkgfaa", sum := "78adc012f3c43eddbd6455437a0189e8adb59fd998679493509146dee39cc71c", func := "swingbridge/swingbridgelaw18.AdmitTurns", spec := "admitTurns", unfollowed := true, recurses := true, apart := false }
def AdmitTurnsSaid : Prop := admitTurnsRow.holds Try.pinned (OpenSpec.ofChange admitTurnsSpec)

/-- ITS FALSE NEIGHBOUR: 'it returns false'. Refute it at one input. -/
def admitTurnsWrong : ChangeSpec := { name := "admitTurns", fn := fun _ => fun
  | [d1, d2] => { results := [.lit (.bool false)], args := [d1, d2] }
  | _ => none }
def AdmitTurnsWrongFalsely : Prop := admitTurnsRow.holds Try.pinned (OpenSpec.ofChange admitTurnsWrong)

/-- 'swingbridgelaw18.AdmitSlack': WHATEVER THE INPUT: true; the input reads as it did. -/
def admitSlackSpec : ChangeSpec := { name := "admitSlack", fn := fun _ => fun
  | [d1, d2, d3] => { results := [.lit (.bool true)], args := [d1, d2, d3] }
  | _ => none }
def admitSlackRow : OpenClaim := { program := "ytpnghhaflgkgfaa", sum := "78adc012f3c43eddbd6455437a0189e8adb59fd998679493509146dee39cc71c", func := "swingbridge/swingbridgelaw18.AdmitSlack", spec := "admitSlack", unfollowed := true, recurses := true, apart := false }
def AdmitSlackSaid : Prop := admitSlackRow.holds Try.pinned (OpenSpec.ofChange admitSlackSpec)

/-- ITS FALSE NEIGHBOUR: 'it returns false'. Refute it at one input. -/
def admitSlackWrong : ChangeSpec := { name := "admitSlack", fn := fun _ => fun
  | [d1, d2, d3] => { results := [.lit (.bool false)], args := [d1, d2, d3] }
  | _ => none }
def AdmitSlackWrongFalsely : Prop := admitSlackRow.holds Try.pinned (OpenSpec.ofChange admitSlackWrong)

/-- 'swingbridgelaw18.AdmitAlone': WHATEVER THE INPUT: true; the input reads as it did. -/
def admitAloneSpec : ChangeSpec := { name := "admitAlone", fn := fun _ => fun
  | [d1, d2, d3, d4, d5] => { results := [.lit (.bool true)], args := [d1, d2, d3, d4, d5] }
  | _ => none }
def admitAloneRow : OpenClaim := { program := "ytpnghhaflgkgfaa", sum := "78adc012f3c43eddbd6455437a0189e8adb59fd998679493509146dee39cc71c", func := "swingbridge/swingbridgelaw18.AdmitAlone", spec := "admitAlone", unfollowed := true, recurses := true, apart := false }
def AdmitAloneSaid : Prop := admitAloneRow.holds Try.pinned (OpenSpec.ofChange admitAloneSpec)

/-- ITS FALSE NEIGHBOUR: 'it returns false'. Refute it at one input. -/
def admitAloneWrong : ChangeSpec := { name := "admitAlone", fn := fun _ => fun
  | [d1, d2, d3, d4, d5] => { results := [.lit (.bool false)], args := [d1, d2, d3, d4, d5] }
  | _ => none }
def AdmitAloneWrongFalsely : Prop := admitAloneRow.holds Try.pinned (OpenSpec.ofChange admitAloneWrong)

/-- 'swingbridgelaw18.AdmitTwo': WHATEVER THE INPUT: true; the input reads as it did. -/
def admitTwoSpec : ChangeSpec := { name := "admitTwo", fn := fun _ => fun
  | [d1, d2, d3] => { results := [.lit (.bool true)], args := [d1, d2, d3] }
  | _ => none }
def admitTwoRow : OpenClaim := { program := "ytpnghhaflgkgfaa", sum := "78adc012f3c43eddbd6455437a0189e8adb59fd998679493509146dee39cc71c", func := "swingbridge/swingbridgelaw18.AdmitTwo", spec := "admitTwo", unfollowed := true, recurses := true, apart := false }
def AdmitTwoSaid : Prop := admitTwoRow.holds Try.pinned (OpenSpec.ofChange admitTwoSpec)

/-- ITS FALSE NEIGHBOUR: 'it returns false'. Refute it at one input. -/
def admitTwoWrong : ChangeSpec := { name := "admitTwo", fn := fun _ => fun
  | [d1, d2, d3] => { results := [.lit (.bool false)], args := [d1, d2, d3] }
  | _ => none }
def AdmitTwoWrongFalsely : Prop := admitTwoRow.holds Try.pinned (OpenSpec.ofChange admitTwoWrong)

/-- 'swingbridgelaw18.AdmitReference': WHATEVER THE INPUT: true; the input reads as it did. -/
def admitReferenceSpec : ChangeSpec := { name := "admitReference", fn := fun _ => fun
  | [d1, d2] => { results := [.lit (.bool true)], args := [d1, d2] }
  | _ => none }
def admitReferenceRow : OpenClaim := { program := "ytpnghhaflgkgfaa", sum := "78adc012f3c43eddbd6455437a0189e8adb59fd998679493509146dee39cc71c", func := "swingbridge/swingbridgelaw18.AdmitReference", spec := "admitReference", unfollowed := true, recurses := true, apart := false }
def AdmitReferenceSaid : Prop := admitReferenceRow.holds Try.pinned (OpenSpec.ofChange admitReferenceSpec)

/-- ITS FALSE NEIGHBOUR: 'it returns false'. Refute it at one input. -/
def admitReferenceWrong : ChangeSpec := { name := "admitReference", fn := fun _ => fun
  | [d1, d2] => { results := [.lit (.bool false)], args := [d1, d2] }
  | _ => none }
def AdmitReferenceWrongFalsely : Prop := admitReferenceRow.holds Try.pinned (OpenSpec.ofChange admitReferenceWrong)

/- THE SECOND FORM. 'bulk': how many values and letters a reading holds, each counted each time it is reached (what is shared counts as often as it is met; a slice's spare places count too). A statement '..UptoSaid' is the law's where the arguments, and the package variables that the reading takes, are together of bulk at most 1048576: NARROWER than '..Said'. Prove '..Said' where nothing that the law and all that it calls make is longer than what came in: it says more and counts as full. Else prove '..UptoSaid'. A law counts once. -/
mutual
def uptoBulk {H : Type} : DataW H → Nat
  | .lit (.string bytes) => bytes.length + 1
  | .lit _ => 1
  | .nil => 1
  | .ptr d => uptoBulk d + 1
  | .slice elems spare => uptoBulkAll elems + uptoBulkAll spare + 1
  | .agg parts => uptoBulkAll parts + 1
  | .iface _ d => uptoBulk d + 1
  | .map entries => uptoBulkEntries entries + 1
  | .held _ => 1
def uptoBulkAll {H : Type} : List (DataW H) → Nat
  | [] => 0
  | d :: r => uptoBulk d + uptoBulkAll r
def uptoBulkEntries {H : Type} : List (Lit × DataW H) → Nat
  | [] => 0
  | x :: r => uptoBulkEntry x + uptoBulkEntries r
def uptoBulkEntry {H : Type} : Lit × DataW H → Nat
  | (.string bytes, d) => bytes.length + uptoBulk d + 1
  | (_, d) => uptoBulk d + 1
 end
def uptoSmall : (H : Type) → List (DataW H) → Bool := fun _ ds => decide (uptoBulkAll ds ≤ 1048576)
def OpenSpec.upto (s : _root_.Go.ChangeSpec) : _root_.Go.OpenSpec := { _root_.Go.OpenSpec.ofChange s with cond := some uptoSmall }

/-- 'swingbridgelaw18.AdmitHolds', WHERE WHAT IT READS IS OF BULK AT MOST 1048576: true; the input reads as it did. -/
def admitHoldsUptoRow : OpenClaim := { program := "ytpnghhaflgkgfaa", sum := "78adc012f3c43eddbd6455437a0189e8adb59fd998679493509146dee39cc71c", func := "swingbridge/swingbridgelaw18.AdmitHolds", spec := "admitHolds", unfollowed := true, recurses := true, apart := false, narrowed := true }
def AdmitHoldsUptoSaid : Prop := admitHoldsUptoRow.holds Try.pinned (OpenSpec.upto admitHoldsSpec)

/-- 'swingbridgelaw18.AdmitTurns', WHERE WHAT IT READS IS OF BULK AT MOST 1048576: true; the input reads as it did. -/
def admitTurnsUptoRow : OpenClaim := { program := "ytpnghhaflgkgfaa", sum := "78adc012f3c43eddbd6455437a0189e8adb59fd998679493509146dee39cc71c", func := "swingbridge/swingbridgelaw18.AdmitTurns", spec := "admitTurns", unfollowed := true, recurses := true, apart := false, narrowed := true }
def AdmitTurnsUptoSaid : Prop := admitTurnsUptoRow.holds Try.pinned (OpenSpec.upto admitTurnsSpec)

/-- 'swingbridgelaw18.AdmitSlack', WHERE WHAT IT READS IS OF BULK AT MOST 1048576: true; the input reads as it did. -/
def admitSlackUptoRow : OpenClaim := { program := "ytpnghhaflgkgfaa", sum := "78adc012f3c43eddbd6455437a0189e8adb59fd998679493509146dee39cc71c", func := "swingbridge/swingbridgelaw18.AdmitSlack", spec := "admitSlack", unfollowed := true, recurses := true, apart := false, narrowed := true }
def AdmitSlackUptoSaid : Prop := admitSlackUptoRow.holds Try.pinned (OpenSpec.upto admitSlackSpec)

/-- 'swingbridgelaw18.AdmitAlone', WHERE WHAT IT READS IS OF BULK AT MOST 1048576: true; the input reads as it did. -/
def admitAloneUptoRow : OpenClaim := { program := "ytpnghhaflgkgfaa", sum := "78adc012f3c43eddbd6455437a0189e8adb59fd998679493509146dee39cc71c", func := "swingbridge/swingbridgelaw18.AdmitAlone", spec := "admitAlone", unfollowed := true, recurses := true, apart := false, narrowed := true }
def AdmitAloneUptoSaid : Prop := admitAloneUptoRow.holds Try.pinned (OpenSpec.upto admitAloneSpec)

/-- 'swingbridgelaw18.AdmitTwo', WHERE WHAT IT READS IS OF BULK AT MOST 1048576: true; the input reads as it did. -/
def admitTwoUptoRow : OpenClaim := { program := "ytpnghhaflgkgfaa", sum := "78adc012f3c43eddbd6455437a0189e8adb59fd998679493509146dee39cc71c", func := "swingbridge/swingbridgelaw18.AdmitTwo", spec := "admitTwo", unfollowed := true, recurses := true, apart := false, narrowed := true }
def AdmitTwoUptoSaid : Prop := admitTwoUptoRow.holds Try.pinned (OpenSpec.upto admitTwoSpec)

/-- 'swingbridgelaw18.AdmitReference', WHERE WHAT IT READS IS OF BULK AT MOST 1048576: true; the input reads as it did. -/
def admitReferenceUptoRow : OpenClaim := { program := "ytpnghhaflgkgfaa", sum := "78adc012f3c43eddbd6455437a0189e8adb59fd998679493509146dee39cc71c", func := "swingbridge/swingbridgelaw18.AdmitReference", spec := "admitReference", unfollowed := true, recurses := true, apart := false, narrowed := true }
def AdmitReferenceUptoSaid : Prop := admitReferenceUptoRow.holds Try.pinned (OpenSpec.upto admitReferenceSpec)

end Rows
end Go.Proofs.Ytpnghhaflgkgfaa
