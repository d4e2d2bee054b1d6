/-
  DERIVED. GIVEN WITH THE SEED: THE CARDS: each row of YtpiemfchjlihfaaDoorRows.lean that lists a variable, with what it lists TIED to the program's text (the seventh form; the later family's looks); each row that meets fmt, with fmt's text TOLD by the authors' own Lean function (tested against real Go, not proved from fmt's source: count such statements apart). THE CARD IS WHAT COUNTS. Prove the row's statement (the work); the ties are given (YtpiemfchjlihfaaDoorTie.lean); close each card by the builder's one call (the guide's Derived/Test/ToyasCard.lean, 'card_holds'). Laid BY PROGRAM, IN A SANDBOX (cutbox-door.mjs). By AI agents, Wed Nov 11 2026. No macro, syntax, notation, axiom, sorry.
-/
import Derived.Test.YtpiemfchjlihfaaDoorRows
import GoSem.ClaimSeven
namespace Go.Proofs.YtpiemfchjlihfaaDoor
namespace Rows

/-- THE TIED CARD OF 'middenlaw13.BufferCount'. -/
def bufferCountCard : Claim7 := { stood := { row := bufferCountRow, standIns := [], harness := (true, "58d90e57d44e489e342e37a4bd0212876e80d5a9c61fe6c5fde3039865fe0495"), looks := false }, kinds := [], alts := [], laidByText := true, laidKinds := [.data, .data], laidTests := true, laidLooks := .later }
def BufferCountCardSaid : Prop := Claim7.holds Tryd.pinned (.plain (OpenSpec.ofChange bufferCountSpec)) bufferCountCard

/-- THE TIED CARD OF 'middenlaw13.BufferWalk'. -/
def bufferWalkCard : Claim7 := { stood := { row := bufferWalkRow, standIns := [], harness := (true, "58d90e57d44e489e342e37a4bd0212876e80d5a9c61fe6c5fde3039865fe0495"), looks := false }, kinds := [], alts := [], laidByText := true, laidKinds := [.data, .data], laidTests := true, laidLooks := .later }
def BufferWalkCardSaid : Prop := Claim7.holds Tryd.pinned (.plain (OpenSpec.ofChange bufferWalkSpec)) bufferWalkCard

/-- THE SECOND FORM's CARD OF 'middenlaw13.BufferCount'. -/
def bufferCountUptoCard : Claim7 := { stood := { row := bufferCountUptoRow, standIns := [], harness := (true, "58d90e57d44e489e342e37a4bd0212876e80d5a9c61fe6c5fde3039865fe0495"), looks := false }, kinds := [], alts := [], laidByText := true, laidKinds := [.data, .data], laidTests := true, laidLooks := .later }
def BufferCountUptoCardSaid : Prop := Claim7.holds Tryd.pinned (.plain (OpenSpec.upto bufferCountSpec)) bufferCountUptoCard

/-- THE SECOND FORM's CARD OF 'middenlaw13.BufferWalk'. -/
def bufferWalkUptoCard : Claim7 := { stood := { row := bufferWalkUptoRow, standIns := [], harness := (true, "58d90e57d44e489e342e37a4bd0212876e80d5a9c61fe6c5fde3039865fe0495"), looks := false }, kinds := [], alts := [], laidByText := true, laidKinds := [.data, .data], laidTests := true, laidLooks := .later }
def BufferWalkUptoCardSaid : Prop := Claim7.holds Tryd.pinned (.plain (OpenSpec.upto bufferWalkSpec)) bufferWalkUptoCard
end Rows
end Go.Proofs.YtpiemfchjlihfaaDoor
