/-
  DERIVED. GIVEN WITH THE SEED: THE CARDS: each row of YtpiemfchjlihfaaGreatDoorRows.lean that lists a variable, with what it lists TIED to the program's text (the seventh form; the later family's looks); each row that meets fmt, with fmt's text TOLD by the authors' own Lean function (tested against real Go, not proved from fmt's source: count such statements apart). THE CARD IS WHAT COUNTS. Prove the row's statement (the work); the ties are given (YtpiemfchjlihfaaGreatDoorTie.lean); close each card by the builder's one call (the guide's Derived/Test/ToyasCard.lean, 'card_holds'). Laid BY PROGRAM, IN A SANDBOX (cutbox-door.mjs). By AI agents, Wed Nov 11 2026. No macro, syntax, notation, axiom, sorry.
-/
import Derived.Test.YtpiemfchjlihfaaGreatDoorRows
import GoSem.ClaimSeven
namespace Go.Proofs.YtpiemfchjlihfaaGreatDoor
namespace Rows

/-- THE TIED CARD OF 'middenlaw13.BufferAll'. -/
def bufferAllCard : Claim7 := { stood := { row := bufferAllRow, standIns := [], harness := (true, "31ee574248c987fd5475da3366791f0afda8846f05f9701c9f1262650290f8ab"), looks := false }, kinds := [], alts := [], laidByText := true, laidKinds := [.data, .data], laidTests := true, laidLooks := .later }
def BufferAllCardSaid : Prop := Claim7.holds Tryz.pinned (.plain (OpenSpec.ofChange bufferAllSpec)) bufferAllCard

/-- THE SECOND FORM's CARD OF 'middenlaw13.BufferAll'. -/
def bufferAllUptoCard : Claim7 := { stood := { row := bufferAllUptoRow, standIns := [], harness := (true, "31ee574248c987fd5475da3366791f0afda8846f05f9701c9f1262650290f8ab"), looks := false }, kinds := [], alts := [], laidByText := true, laidKinds := [.data, .data], laidTests := true, laidLooks := .later }
def BufferAllUptoCardSaid : Prop := Claim7.holds Tryz.pinned (.plain (OpenSpec.upto bufferAllSpec)) bufferAllUptoCard
end Rows
end Go.Proofs.YtpiemfchjlihfaaGreatDoor
