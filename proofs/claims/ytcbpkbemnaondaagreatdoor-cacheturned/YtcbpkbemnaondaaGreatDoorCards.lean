/-
  DERIVED. GIVEN WITH THE SEED: THE CARDS: each row of YtcbpkbemnaondaaGreatDoorRows.lean that lists a variable, with what it lists TIED to the program's text (the seventh form; the later family's looks); each row that meets fmt, with fmt's text TOLD by the authors' own Lean function (tested against real Go, not proved from fmt's source: count such statements apart). THE CARD IS WHAT COUNTS. Prove the row's statement (the work); the ties are given (YtcbpkbemnaondaaGreatDoorTie.lean); close each card by the builder's one call (the guide's Derived/Test/ToyasCard.lean, 'card_holds'). Laid BY PROGRAM, IN A SANDBOX (cutbox-door.mjs). By AI agents, Wed Nov 11 2026. No macro, syntax, notation, axiom, sorry.
-/
import Derived.Test.YtcbpkbemnaondaaGreatDoorRows
import GoSem.ClaimSeven
namespace Go.Proofs.YtcbpkbemnaondaaGreatDoor
namespace Rows

/-- THE TIED CARD OF 'graftbedlaw07.CacheChecks'. -/
def cacheChecksCard : Claim7 := { stood := { row := cacheChecksRow, standIns := [], harness := (true, "07d34ad4e3c8e650294916f1c9b8cfd7f2d0debd49f269622e2b0cae7c9d0b0f"), looks := true }, kinds := [], alts := [], laidByText := true, laidKinds := [.data, .data, .data, .sentinel, .sentinel], laidTests := true, laidLooks := .later }
def CacheChecksCardSaid : Prop := Claim7.holds Tryz.pinned (.plain (OpenSpec.ofChange cacheChecksSpec)) cacheChecksCard

/-- THE TIED CARD OF 'graftbedlaw07.CacheTurned'. -/
def cacheTurnedCard : Claim7 := { stood := { row := cacheTurnedRow, standIns := [], harness := (true, "07d34ad4e3c8e650294916f1c9b8cfd7f2d0debd49f269622e2b0cae7c9d0b0f"), looks := true }, kinds := [], alts := [], laidByText := true, laidKinds := [.data, .data, .data, .sentinel, .sentinel], laidTests := true, laidLooks := .later }
def CacheTurnedCardSaid : Prop := Claim7.holds Tryz.pinned (.plain (OpenSpec.ofChange cacheTurnedSpec)) cacheTurnedCard

/-- THE TIED CARD OF 'graftbedlaw08.RewriteNext'. -/
def rewriteNextCard : Claim7 := { stood := { row := rewriteNextRow, standIns := [], harness := (true, "07d34ad4e3c8e650294916f1c9b8cfd7f2d0debd49f269622e2b0cae7c9d0b0f"), looks := true }, kinds := [], alts := [], laidByText := true, laidKinds := [.data, .data, .data, .sentinel, .sentinel], laidTests := true, laidLooks := .later }
def RewriteNextCardSaid : Prop := Claim7.holds Tryz.pinned (.plain (OpenSpec.ofChange rewriteNextSpec)) rewriteNextCard

/-- THE SECOND FORM's CARD OF 'graftbedlaw07.CacheChecks'. -/
def cacheChecksUptoCard : Claim7 := { stood := { row := cacheChecksUptoRow, standIns := [], harness := (true, "07d34ad4e3c8e650294916f1c9b8cfd7f2d0debd49f269622e2b0cae7c9d0b0f"), looks := true }, kinds := [], alts := [], laidByText := true, laidKinds := [.data, .data, .data, .sentinel, .sentinel], laidTests := true, laidLooks := .later }
def CacheChecksUptoCardSaid : Prop := Claim7.holds Tryz.pinned (.plain (OpenSpec.upto cacheChecksSpec)) cacheChecksUptoCard

/-- THE SECOND FORM's CARD OF 'graftbedlaw07.CacheTurned'. -/
def cacheTurnedUptoCard : Claim7 := { stood := { row := cacheTurnedUptoRow, standIns := [], harness := (true, "07d34ad4e3c8e650294916f1c9b8cfd7f2d0debd49f269622e2b0cae7c9d0b0f"), looks := true }, kinds := [], alts := [], laidByText := true, laidKinds := [.data, .data, .data, .sentinel, .sentinel], laidTests := true, laidLooks := .later }
def CacheTurnedUptoCardSaid : Prop := Claim7.holds Tryz.pinned (.plain (OpenSpec.upto cacheTurnedSpec)) cacheTurnedUptoCard

/-- THE SECOND FORM's CARD OF 'graftbedlaw08.RewriteNext'. -/
def rewriteNextUptoCard : Claim7 := { stood := { row := rewriteNextUptoRow, standIns := [], harness := (true, "07d34ad4e3c8e650294916f1c9b8cfd7f2d0debd49f269622e2b0cae7c9d0b0f"), looks := true }, kinds := [], alts := [], laidByText := true, laidKinds := [.data, .data, .data, .sentinel, .sentinel], laidTests := true, laidLooks := .later }
def RewriteNextUptoCardSaid : Prop := Claim7.holds Tryz.pinned (.plain (OpenSpec.upto rewriteNextSpec)) rewriteNextUptoCard
end Rows
end Go.Proofs.YtcbpkbemnaondaaGreatDoor
