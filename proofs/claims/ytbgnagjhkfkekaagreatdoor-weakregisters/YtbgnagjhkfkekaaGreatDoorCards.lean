/-
  DERIVED. GIVEN WITH THE SEED: THE CARDS: each row of YtbgnagjhkfkekaaGreatDoorRows.lean that lists a variable, with what it lists TIED to the program's text (the seventh form; the later family's looks); each row that meets fmt, with fmt's text TOLD by the authors' own Lean function (tested against real Go, not proved from fmt's source: count such statements apart). THE CARD IS WHAT COUNTS. Prove the row's statement (the work); the ties are given (YtbgnagjhkfkekaaGreatDoorTie.lean); close each card by the builder's one call (the guide's Derived/Test/ToyasCard.lean, 'card_holds'). Laid BY PROGRAM, IN A SANDBOX (cutbox-door.mjs). By AI agents, Wed Nov 11 2026. No macro, syntax, notation, axiom, sorry.
-/
import Derived.Test.YtbgnagjhkfkekaaGreatDoorRows
import GoSem.ClaimSeven
namespace Go.Proofs.YtbgnagjhkfkekaaGreatDoor
namespace Rows

/-- THE TIED CARD OF 'middenlaw10.WeakRegisters'. -/
def weakRegistersCard : Claim7 := { stood := { row := weakRegistersRow, standIns := [], harness := (true, "dfa75fad42082e7008a42b99f6a4c4845d9939a2531dd3f1b74c30c554b32884"), looks := false }, kinds := [], alts := [], laidByText := true, laidKinds := [.data, .data, .data, .data, .data], laidTests := true, laidLooks := .later }
def WeakRegistersCardSaid : Prop := Claim7.holds Tryz.pinned (.plain (OpenSpec.ofChange weakRegistersSpec)) weakRegistersCard

/-- THE SECOND FORM's CARD OF 'middenlaw10.WeakRegisters'. -/
def weakRegistersUptoCard : Claim7 := { stood := { row := weakRegistersUptoRow, standIns := [], harness := (true, "dfa75fad42082e7008a42b99f6a4c4845d9939a2531dd3f1b74c30c554b32884"), looks := false }, kinds := [], alts := [], laidByText := true, laidKinds := [.data, .data, .data, .data, .data], laidTests := true, laidLooks := .later }
def WeakRegistersUptoCardSaid : Prop := Claim7.holds Tryz.pinned (.plain (OpenSpec.upto weakRegistersSpec)) weakRegistersUptoCard
end Rows
end Go.Proofs.YtbgnagjhkfkekaaGreatDoor
