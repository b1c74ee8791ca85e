/-
  DERIVED. GIVEN WITH THE SEED: THE CARDS: each row of YtinaeegijmkbhaaDoorRows.lean that lists a variable, with what it lists TIED to the program's text (the seventh form; the later family's looks); each row that meets fmt, with fmt's text TOLD by the authors' own Lean function (tested against real Go, not proved from fmt's source: count such statements apart). THE CARD IS WHAT COUNTS. Prove the row's statement (the work); the ties are given (YtinaeegijmkbhaaDoorTie.lean); close each card by the builder's one call (the guide's Derived/Test/ToyasCard.lean, 'card_holds'). Laid BY PROGRAM, IN A SANDBOX (cutbox-door.mjs). By AI agents, Wed Nov 11 2026. No macro, syntax, notation, axiom, sorry.
-/
import Derived.Test.YtinaeegijmkbhaaDoorRows
import GoSem.ClaimSeven
namespace Go.Proofs.YtinaeegijmkbhaaDoor
namespace Rows

/-- THE TIED CARD OF 'graftbedlaw10.ScanTexts'. -/
def scanTextsCard : Claim7 := { stood := { row := scanTextsRow, standIns := [], harness := (true, "e5941afebad1f01c3308b45f00a14c0f4478539fd630636e0d98d3fe96e4deb6"), looks := true }, kinds := [], alts := [], laidByText := true, laidKinds := [.data, .data, .data, .sentinel, .sentinel], laidTests := true, laidLooks := .later }
def ScanTextsCardSaid : Prop := Claim7.holds Tryd.pinned (.plain (OpenSpec.ofChange scanTextsSpec)) scanTextsCard

/-- THE TIED CARD OF 'graftbedlaw10.ScanLines'. -/
def scanLinesCard : Claim7 := { stood := { row := scanLinesRow, standIns := [], harness := (true, "e5941afebad1f01c3308b45f00a14c0f4478539fd630636e0d98d3fe96e4deb6"), looks := true }, kinds := [], alts := [], laidByText := true, laidKinds := [.data, .data, .data, .data, .sentinel, .sentinel, .pinned], laidTests := true, laidLooks := .later }
def ScanLinesCardSaid : Prop := Claim7.holds Tryd.pinned (.plain (OpenSpec.ofChange scanLinesSpec)) scanLinesCard

/-- THE TIED CARD OF 'graftbedlaw10.ScanQuoted'. -/
def scanQuotedCard : Claim7 := { stood := { row := scanQuotedRow, standIns := [], harness := (true, "e5941afebad1f01c3308b45f00a14c0f4478539fd630636e0d98d3fe96e4deb6"), looks := true }, kinds := [], alts := [], laidByText := true, laidKinds := [.data, .data, .data, .data, .sentinel, .sentinel, .pinned], laidTests := true, laidLooks := .later }
def ScanQuotedCardSaid : Prop := Claim7.holds Tryd.pinned (.plain (OpenSpec.ofChange scanQuotedSpec)) scanQuotedCard

/-- THE TIED CARD OF 'graftbedlaw10.ScanRest'. -/
def scanRestCard : Claim7 := { stood := { row := scanRestRow, standIns := [], harness := (true, "e5941afebad1f01c3308b45f00a14c0f4478539fd630636e0d98d3fe96e4deb6"), looks := true }, kinds := [], alts := [], laidByText := true, laidKinds := [.data, .data, .data, .data, .sentinel, .sentinel, .pinned], laidTests := true, laidLooks := .later }
def ScanRestCardSaid : Prop := Claim7.holds Tryd.pinned (.plain (OpenSpec.ofChange scanRestSpec)) scanRestCard

/-- THE TIED CARD OF 'graftbedlaw10.ScanNames'. -/
def scanNamesCard : Claim7 := { stood := { row := scanNamesRow, standIns := [], harness := (true, "e5941afebad1f01c3308b45f00a14c0f4478539fd630636e0d98d3fe96e4deb6"), looks := true }, kinds := [], alts := [], laidByText := true, laidKinds := [.data, .data, .data, .data, .sentinel, .sentinel, .pinned], laidTests := true, laidLooks := .later }
def ScanNamesCardSaid : Prop := Claim7.holds Tryd.pinned (.plain (OpenSpec.ofChange scanNamesSpec)) scanNamesCard

/-- THE TIED CARD OF 'graftbedlaw10.ScanRemarks'. -/
def scanRemarksCard : Claim7 := { stood := { row := scanRemarksRow, standIns := [], harness := (true, "e5941afebad1f01c3308b45f00a14c0f4478539fd630636e0d98d3fe96e4deb6"), looks := true }, kinds := [], alts := [], laidByText := true, laidKinds := [.data, .data, .data, .data, .sentinel, .sentinel, .pinned], laidTests := true, laidLooks := .later }
def ScanRemarksCardSaid : Prop := Claim7.holds Tryd.pinned (.plain (OpenSpec.ofChange scanRemarksSpec)) scanRemarksCard

/-- THE SECOND FORM's CARD OF 'graftbedlaw10.ScanTexts'. -/
def scanTextsUptoCard : Claim7 := { stood := { row := scanTextsUptoRow, standIns := [], harness := (true, "e5941afebad1f01c3308b45f00a14c0f4478539fd630636e0d98d3fe96e4deb6"), looks := true }, kinds := [], alts := [], laidByText := true, laidKinds := [.data, .data, .data, .sentinel, .sentinel], laidTests := true, laidLooks := .later }
def ScanTextsUptoCardSaid : Prop := Claim7.holds Tryd.pinned (.plain (OpenSpec.upto scanTextsSpec)) scanTextsUptoCard

/-- THE SECOND FORM's CARD OF 'graftbedlaw10.ScanLines'. -/
def scanLinesUptoCard : Claim7 := { stood := { row := scanLinesUptoRow, standIns := [], harness := (true, "e5941afebad1f01c3308b45f00a14c0f4478539fd630636e0d98d3fe96e4deb6"), looks := true }, kinds := [], alts := [], laidByText := true, laidKinds := [.data, .data, .data, .data, .sentinel, .sentinel, .pinned], laidTests := true, laidLooks := .later }
def ScanLinesUptoCardSaid : Prop := Claim7.holds Tryd.pinned (.plain (OpenSpec.upto scanLinesSpec)) scanLinesUptoCard

/-- THE SECOND FORM's CARD OF 'graftbedlaw10.ScanQuoted'. -/
def scanQuotedUptoCard : Claim7 := { stood := { row := scanQuotedUptoRow, standIns := [], harness := (true, "e5941afebad1f01c3308b45f00a14c0f4478539fd630636e0d98d3fe96e4deb6"), looks := true }, kinds := [], alts := [], laidByText := true, laidKinds := [.data, .data, .data, .data, .sentinel, .sentinel, .pinned], laidTests := true, laidLooks := .later }
def ScanQuotedUptoCardSaid : Prop := Claim7.holds Tryd.pinned (.plain (OpenSpec.upto scanQuotedSpec)) scanQuotedUptoCard

/-- THE SECOND FORM's CARD OF 'graftbedlaw10.ScanRest'. -/
def scanRestUptoCard : Claim7 := { stood := { row := scanRestUptoRow, standIns := [], harness := (true, "e5941afebad1f01c3308b45f00a14c0f4478539fd630636e0d98d3fe96e4deb6"), looks := true }, kinds := [], alts := [], laidByText := true, laidKinds := [.data, .data, .data, .data, .sentinel, .sentinel, .pinned], laidTests := true, laidLooks := .later }
def ScanRestUptoCardSaid : Prop := Claim7.holds Tryd.pinned (.plain (OpenSpec.upto scanRestSpec)) scanRestUptoCard

/-- THE SECOND FORM's CARD OF 'graftbedlaw10.ScanNames'. -/
def scanNamesUptoCard : Claim7 := { stood := { row := scanNamesUptoRow, standIns := [], harness := (true, "e5941afebad1f01c3308b45f00a14c0f4478539fd630636e0d98d3fe96e4deb6"), looks := true }, kinds := [], alts := [], laidByText := true, laidKinds := [.data, .data, .data, .data, .sentinel, .sentinel, .pinned], laidTests := true, laidLooks := .later }
def ScanNamesUptoCardSaid : Prop := Claim7.holds Tryd.pinned (.plain (OpenSpec.upto scanNamesSpec)) scanNamesUptoCard

/-- THE SECOND FORM's CARD OF 'graftbedlaw10.ScanRemarks'. -/
def scanRemarksUptoCard : Claim7 := { stood := { row := scanRemarksUptoRow, standIns := [], harness := (true, "e5941afebad1f01c3308b45f00a14c0f4478539fd630636e0d98d3fe96e4deb6"), looks := true }, kinds := [], alts := [], laidByText := true, laidKinds := [.data, .data, .data, .data, .sentinel, .sentinel, .pinned], laidTests := true, laidLooks := .later }
def ScanRemarksUptoCardSaid : Prop := Claim7.holds Tryd.pinned (.plain (OpenSpec.upto scanRemarksSpec)) scanRemarksUptoCard
end Rows
end Go.Proofs.YtinaeegijmkbhaaDoor
