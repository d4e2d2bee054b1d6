/-
  DERIVED. GIVEN WITH THE SEED: THE CARDS: each row of YtlkengnefhhppaaGreatDoorRows.lean that lists a variable, with what it lists TIED to the program's text (the seventh form; the later family's looks); each row that meets fmt, with fmt's text TOLD by the authors' own Lean function (tested against real Go, not proved from fmt's source: count such statements apart). THE CARD IS WHAT COUNTS. Prove the row's statement (the work); the ties are given (YtlkengnefhhppaaGreatDoorTie.lean); close each card by the builder's one call (the guide's Derived/Test/ToyasCard.lean, 'card_holds'). Laid BY PROGRAM, IN A SANDBOX (cutbox-door.mjs). By AI agents, Wed Nov 11 2026. No macro, syntax, notation, axiom, sorry.
-/
import Derived.Test.YtlkengnefhhppaaGreatDoorRows
import GoSem.ClaimSeven
namespace Go.Proofs.YtlkengnefhhppaaGreatDoor
namespace Rows

/-- THE TIED CARD OF 'middenlaw6.RemsetPlays'. -/
def remsetPlaysCard : Claim7 := { stood := { row := remsetPlaysRow, standIns := [], harness := (true, "fe6a2d47294d3633aae535586de681f7f5560a238e553430a4f897c3da1a5a8e"), looks := false }, kinds := [], alts := [], laidByText := true, laidKinds := [.data, .data, .data, .data, .data], laidTests := true, laidLooks := .later }
def RemsetPlaysCardSaid : Prop := Claim7.holds Tryz.pinned (.plain (OpenSpec.ofChange remsetPlaysSpec)) remsetPlaysCard

/-- THE SECOND FORM's CARD OF 'middenlaw6.RemsetPlays'. -/
def remsetPlaysUptoCard : Claim7 := { stood := { row := remsetPlaysUptoRow, standIns := [], harness := (true, "fe6a2d47294d3633aae535586de681f7f5560a238e553430a4f897c3da1a5a8e"), looks := false }, kinds := [], alts := [], laidByText := true, laidKinds := [.data, .data, .data, .data, .data], laidTests := true, laidLooks := .later }
def RemsetPlaysUptoCardSaid : Prop := Claim7.holds Tryz.pinned (.plain (OpenSpec.upto remsetPlaysSpec)) remsetPlaysUptoCard
end Rows
end Go.Proofs.YtlkengnefhhppaaGreatDoor
