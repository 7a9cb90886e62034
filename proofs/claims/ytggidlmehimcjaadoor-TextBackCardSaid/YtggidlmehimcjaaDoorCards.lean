/-
  DERIVED. GIVEN WITH THE SEED: THE CARDS: each row of YtggidlmehimcjaaDoorRows.lean that lists a variable, with what it lists TIED to the program's text (the seventh form; the later family's looks); each row that meets fmt, with fmt's text TOLD by the authors' own Lean function (tested against real Go, not proved from fmt's source: count such statements apart). THE CARD IS WHAT COUNTS. Prove the row's statement (the work); the ties are given (YtggidlmehimcjaaDoorTie.lean); close each card by the builder's one call (the guide's Derived/Test/ToyasCard.lean, 'card_holds'). Laid BY PROGRAM, IN A SANDBOX (cutbox-door.mjs). By AI agents, Wed Nov 11 2026. No macro, syntax, notation, axiom, sorry.
-/
import Derived.Test.YtggidlmehimcjaaDoorRows
import GoSem.ClaimSeven
namespace Go.Proofs.YtggidlmehimcjaaDoor
namespace Rows

/-- THE TIED CARD OF 'swingbridgelaw9.TextBack'. -/
def textBackCard : Claim7 := { stood := { row := textBackRow, standIns := [], harness := (true, "31bf0271daabb12f75d2d3dcdb5711a3ac54dcda70b669fd0f20e4f13d272f58"), looks := false }, kinds := [], alts := [], laidByText := true, laidKinds := [.data, .data, .data, .data, .pinned], laidTests := true, laidLooks := .later }
def TextBackCardSaid : Prop := Claim7.holds Tryd.pinned (.plain (OpenSpec.ofChange textBackSpec)) textBackCard

/-- THE TIED CARD OF 'swingbridgelaw9.TextSpoilt'. -/
def textSpoiltCard : Claim7 := { stood := { row := textSpoiltRow, standIns := [], harness := (true, "31bf0271daabb12f75d2d3dcdb5711a3ac54dcda70b669fd0f20e4f13d272f58"), looks := false }, kinds := [], alts := [], laidByText := true, laidKinds := [.data, .data, .data, .data, .pinned], laidTests := true, laidLooks := .later }
def TextSpoiltCardSaid : Prop := Claim7.holds Tryd.pinned (.plain (OpenSpec.ofChange textSpoiltSpec)) textSpoiltCard

/-- THE TIED CARD OF 'swingbridgelaw9.TextNumbers'. -/
def textNumbersCard : Claim7 := { stood := { row := textNumbersRow, standIns := [], harness := (true, "31bf0271daabb12f75d2d3dcdb5711a3ac54dcda70b669fd0f20e4f13d272f58"), looks := false }, kinds := [], alts := [], laidByText := true, laidKinds := [.data, .data, .data, .data, .pinned], laidTests := true, laidLooks := .later }
def TextNumbersCardSaid : Prop := Claim7.holds Tryd.pinned (.plain (OpenSpec.ofChange textNumbersSpec)) textNumbersCard

/-- THE TIED CARD OF 'swingbridgelaw9.TextNested'. -/
def textNestedCard : Claim7 := { stood := { row := textNestedRow, standIns := [], harness := (true, "31bf0271daabb12f75d2d3dcdb5711a3ac54dcda70b669fd0f20e4f13d272f58"), looks := false }, kinds := [], alts := [], laidByText := true, laidKinds := [.data, .data, .data, .data, .pinned], laidTests := true, laidLooks := .later }
def TextNestedCardSaid : Prop := Claim7.holds Tryd.pinned (.plain (OpenSpec.ofChange textNestedSpec)) textNestedCard

/-- THE SECOND FORM's CARD OF 'swingbridgelaw9.TextBack'. -/
def textBackUptoCard : Claim7 := { stood := { row := textBackUptoRow, standIns := [], harness := (true, "31bf0271daabb12f75d2d3dcdb5711a3ac54dcda70b669fd0f20e4f13d272f58"), looks := false }, kinds := [], alts := [], laidByText := true, laidKinds := [.data, .data, .data, .data, .pinned], laidTests := true, laidLooks := .later }
def TextBackUptoCardSaid : Prop := Claim7.holds Tryd.pinned (.plain (OpenSpec.upto textBackSpec)) textBackUptoCard

/-- THE SECOND FORM's CARD OF 'swingbridgelaw9.TextSpoilt'. -/
def textSpoiltUptoCard : Claim7 := { stood := { row := textSpoiltUptoRow, standIns := [], harness := (true, "31bf0271daabb12f75d2d3dcdb5711a3ac54dcda70b669fd0f20e4f13d272f58"), looks := false }, kinds := [], alts := [], laidByText := true, laidKinds := [.data, .data, .data, .data, .pinned], laidTests := true, laidLooks := .later }
def TextSpoiltUptoCardSaid : Prop := Claim7.holds Tryd.pinned (.plain (OpenSpec.upto textSpoiltSpec)) textSpoiltUptoCard

/-- THE SECOND FORM's CARD OF 'swingbridgelaw9.TextNumbers'. -/
def textNumbersUptoCard : Claim7 := { stood := { row := textNumbersUptoRow, standIns := [], harness := (true, "31bf0271daabb12f75d2d3dcdb5711a3ac54dcda70b669fd0f20e4f13d272f58"), looks := false }, kinds := [], alts := [], laidByText := true, laidKinds := [.data, .data, .data, .data, .pinned], laidTests := true, laidLooks := .later }
def TextNumbersUptoCardSaid : Prop := Claim7.holds Tryd.pinned (.plain (OpenSpec.upto textNumbersSpec)) textNumbersUptoCard

/-- THE SECOND FORM's CARD OF 'swingbridgelaw9.TextNested'. -/
def textNestedUptoCard : Claim7 := { stood := { row := textNestedUptoRow, standIns := [], harness := (true, "31bf0271daabb12f75d2d3dcdb5711a3ac54dcda70b669fd0f20e4f13d272f58"), looks := false }, kinds := [], alts := [], laidByText := true, laidKinds := [.data, .data, .data, .data, .pinned], laidTests := true, laidLooks := .later }
def TextNestedUptoCardSaid : Prop := Claim7.holds Tryd.pinned (.plain (OpenSpec.upto textNestedSpec)) textNestedUptoCard
end Rows
end Go.Proofs.YtggidlmehimcjaaDoor
