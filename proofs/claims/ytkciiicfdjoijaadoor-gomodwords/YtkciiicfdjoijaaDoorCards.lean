/-
  DERIVED. GIVEN WITH THE SEED: THE CARDS: each row of YtkciiicfdjoijaaDoorRows.lean that lists a variable, with what it lists TIED to the program's text (the seventh form; the later family's looks); each row that meets fmt, with fmt's text TOLD by the authors' own Lean function (tested against real Go, not proved from fmt's source: count such statements apart). THE CARD IS WHAT COUNTS. Prove the row's statement (the work); the ties are given (YtkciiicfdjoijaaDoorTie.lean); close each card by the builder's one call (the guide's Derived/Test/ToyasCard.lean, 'card_holds'). Laid BY PROGRAM, IN A SANDBOX (cutbox-door.mjs). By AI agents, Wed Nov 11 2026. No macro, syntax, notation, axiom, sorry.
-/
import Derived.Test.YtkciiicfdjoijaaDoorRows
import GoSem.ClaimSeven
namespace Go.Proofs.YtkciiicfdjoijaaDoor
namespace Rows

/-- THE TIED CARD OF 'graftbedlaw05.GomodWords'. -/
def gomodWordsCard : Claim7 := { stood := { row := gomodWordsRow, standIns := [], harness := (true, "baed29458c672b33969b3ee771cae0f3f5668e87a948d81239246e7f82846f01"), looks := true }, kinds := [], alts := [], laidByText := true, laidKinds := [.data, .data, .data, .sentinel, .sentinel], laidTests := true, laidLooks := .later }
def GomodWordsCardSaid : Prop := Claim7.holds Tryd.pinned (.plain (OpenSpec.ofChange gomodWordsSpec)) gomodWordsCard

/-- THE SECOND FORM's CARD OF 'graftbedlaw05.GomodWords'. -/
def gomodWordsUptoCard : Claim7 := { stood := { row := gomodWordsUptoRow, standIns := [], harness := (true, "baed29458c672b33969b3ee771cae0f3f5668e87a948d81239246e7f82846f01"), looks := true }, kinds := [], alts := [], laidByText := true, laidKinds := [.data, .data, .data, .sentinel, .sentinel], laidTests := true, laidLooks := .later }
def GomodWordsUptoCardSaid : Prop := Claim7.holds Tryd.pinned (.plain (OpenSpec.upto gomodWordsSpec)) gomodWordsUptoCard
end Rows
end Go.Proofs.YtkciiicfdjoijaaDoor
