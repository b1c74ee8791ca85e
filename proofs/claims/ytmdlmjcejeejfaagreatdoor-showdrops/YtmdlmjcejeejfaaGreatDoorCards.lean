/-
  DERIVED. GIVEN WITH THE SEED: THE CARDS: each row of YtmdlmjcejeejfaaGreatDoorRows.lean that lists a variable, with what it lists TIED to the program's text (the seventh form; the later family's looks); each row that meets fmt, with fmt's text TOLD by the authors' own Lean function (tested against real Go, not proved from fmt's source: count such statements apart). THE CARD IS WHAT COUNTS. Prove the row's statement (the work); the ties are given (YtmdlmjcejeejfaaGreatDoorTie.lean); close each card by the builder's one call (the guide's Derived/Test/ToyasCard.lean, 'card_holds'). Laid BY PROGRAM, IN A SANDBOX (cutbox-door.mjs). By AI agents, Wed Nov 11 2026. No macro, syntax, notation, axiom, sorry.
-/
import Derived.Test.YtmdlmjcejeejfaaGreatDoorRows
import GoSem.ClaimSeven
namespace Go.Proofs.YtmdlmjcejeejfaaGreatDoor
namespace Rows

/-- THE TIED CARD OF 'graftbedlaw06.ShowSorts'. -/
def showSortsCard : Claim7 := { stood := { row := showSortsRow, standIns := [], harness := (true, "18edadb77f3bfa3fa8f8b8205b4f9fafaf4999d92868bab0b2078fb470906d9f"), looks := true }, kinds := [], alts := [], laidByText := true, laidKinds := [.data, .data, .data, .data, .sentinel, .sentinel, .pinned], laidTests := true, laidLooks := .later }
def ShowSortsCardSaid : Prop := Claim7.holds Tryz.pinned (.plain (OpenSpec.ofChange showSortsSpec)) showSortsCard

/-- THE TIED CARD OF 'graftbedlaw06.ShowRequires'. -/
def showRequiresCard : Claim7 := { stood := { row := showRequiresRow, standIns := [], harness := (true, "18edadb77f3bfa3fa8f8b8205b4f9fafaf4999d92868bab0b2078fb470906d9f"), looks := true }, kinds := [], alts := [], laidByText := true, laidKinds := [.data, .data, .data, .data, .sentinel, .sentinel, .pinned], laidTests := true, laidLooks := .later }
def ShowRequiresCardSaid : Prop := Claim7.holds Tryz.pinned (.plain (OpenSpec.ofChange showRequiresSpec)) showRequiresCard

/-- THE TIED CARD OF 'graftbedlaw06.ShowDrops'. -/
def showDropsCard : Claim7 := { stood := { row := showDropsRow, standIns := [], harness := (true, "18edadb77f3bfa3fa8f8b8205b4f9fafaf4999d92868bab0b2078fb470906d9f"), looks := true }, kinds := [], alts := [], laidByText := true, laidKinds := [.data, .data, .data, .data, .sentinel, .sentinel, .pinned], laidTests := true, laidLooks := .later }
def ShowDropsCardSaid : Prop := Claim7.holds Tryz.pinned (.plain (OpenSpec.ofChange showDropsSpec)) showDropsCard

/-- THE SECOND FORM's CARD OF 'graftbedlaw06.ShowSorts'. -/
def showSortsUptoCard : Claim7 := { stood := { row := showSortsUptoRow, standIns := [], harness := (true, "18edadb77f3bfa3fa8f8b8205b4f9fafaf4999d92868bab0b2078fb470906d9f"), looks := true }, kinds := [], alts := [], laidByText := true, laidKinds := [.data, .data, .data, .data, .sentinel, .sentinel, .pinned], laidTests := true, laidLooks := .later }
def ShowSortsUptoCardSaid : Prop := Claim7.holds Tryz.pinned (.plain (OpenSpec.upto showSortsSpec)) showSortsUptoCard

/-- THE SECOND FORM's CARD OF 'graftbedlaw06.ShowRequires'. -/
def showRequiresUptoCard : Claim7 := { stood := { row := showRequiresUptoRow, standIns := [], harness := (true, "18edadb77f3bfa3fa8f8b8205b4f9fafaf4999d92868bab0b2078fb470906d9f"), looks := true }, kinds := [], alts := [], laidByText := true, laidKinds := [.data, .data, .data, .data, .sentinel, .sentinel, .pinned], laidTests := true, laidLooks := .later }
def ShowRequiresUptoCardSaid : Prop := Claim7.holds Tryz.pinned (.plain (OpenSpec.upto showRequiresSpec)) showRequiresUptoCard

/-- THE SECOND FORM's CARD OF 'graftbedlaw06.ShowDrops'. -/
def showDropsUptoCard : Claim7 := { stood := { row := showDropsUptoRow, standIns := [], harness := (true, "18edadb77f3bfa3fa8f8b8205b4f9fafaf4999d92868bab0b2078fb470906d9f"), looks := true }, kinds := [], alts := [], laidByText := true, laidKinds := [.data, .data, .data, .data, .sentinel, .sentinel, .pinned], laidTests := true, laidLooks := .later }
def ShowDropsUptoCardSaid : Prop := Claim7.holds Tryz.pinned (.plain (OpenSpec.upto showDropsSpec)) showDropsUptoCard
end Rows
end Go.Proofs.YtmdlmjcejeejfaaGreatDoor
