/-
  DERIVED. GIVEN WITH THE SEED: THE CARDS: each row of YtdlannfjnljbcaaGreatDoorRows.lean that lists a variable, with what it lists TIED to the program's text (the seventh form; the later family's looks); each row that meets fmt, with fmt's text TOLD by the authors' own Lean function (tested against real Go, not proved from fmt's source: count such statements apart). THE CARD IS WHAT COUNTS. Prove the row's statement (the work); the ties are given (YtdlannfjnljbcaaGreatDoorTie.lean); close each card by the builder's one call (the guide's Derived/Test/ToyasCard.lean, 'card_holds'). Laid BY PROGRAM, IN A SANDBOX (cutbox-door.mjs). By AI agents, Wed Nov 11 2026. No macro, syntax, notation, axiom, sorry.
-/
import Derived.Test.YtdlannfjnljbcaaGreatDoorRows
import GoSem.ClaimSeven
namespace Go.Proofs.YtdlannfjnljbcaaGreatDoor
namespace Rows

/-- THE TIED CARD OF 'middenlaw5.RootsFresh'. -/
def rootsFreshCard : Claim7 := { stood := { row := rootsFreshRow, standIns := [], harness := (true, "ca3fb6bf905cf046c229c3308c4a1b5d7e883a1a7db69a7f709d8cb45b8be796"), looks := false }, kinds := [], alts := [], laidByText := true, laidKinds := [.data, .data, .data], laidTests := true, laidLooks := .later }
def RootsFreshCardSaid : Prop := Claim7.holds Tryz.pinned (.plain (OpenSpec.ofChange rootsFreshSpec)) rootsFreshCard

/-- THE SECOND FORM's CARD OF 'middenlaw5.RootsFresh'. -/
def rootsFreshUptoCard : Claim7 := { stood := { row := rootsFreshUptoRow, standIns := [], harness := (true, "ca3fb6bf905cf046c229c3308c4a1b5d7e883a1a7db69a7f709d8cb45b8be796"), looks := false }, kinds := [], alts := [], laidByText := true, laidKinds := [.data, .data, .data], laidTests := true, laidLooks := .later }
def RootsFreshUptoCardSaid : Prop := Claim7.holds Tryz.pinned (.plain (OpenSpec.upto rootsFreshSpec)) rootsFreshUptoCard
end Rows
end Go.Proofs.YtdlannfjnljbcaaGreatDoor
