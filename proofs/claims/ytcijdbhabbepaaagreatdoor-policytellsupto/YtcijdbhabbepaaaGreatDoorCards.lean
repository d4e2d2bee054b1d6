/-
  DERIVED. GIVEN WITH THE SEED: THE CARDS: each row of YtcijdbhabbepaaaGreatDoorRows.lean that lists a variable, with what it lists TIED to the program's text (the seventh form; the later family's looks); each row that meets fmt, with fmt's text TOLD by the authors' own Lean function (tested against real Go, not proved from fmt's source: count such statements apart). THE CARD IS WHAT COUNTS. Prove the row's statement (the work); the ties are given (YtcijdbhabbepaaaGreatDoorTie.lean); close each card by the builder's one call (the guide's Derived/Test/ToyasCard.lean, 'card_holds'). Laid BY PROGRAM, IN A SANDBOX (cutbox-door.mjs). By AI agents, Wed Nov 11 2026. No macro, syntax, notation, axiom, sorry.
-/
import Derived.Test.YtcijdbhabbepaaaGreatDoorRows
import GoSem.ClaimSeven
namespace Go.Proofs.YtcijdbhabbepaaaGreatDoor
namespace Rows

/-- THE TIED CARD OF 'middenlaw12.PolicyTells'. -/
def policyTellsCard : Claim7 := { stood := { row := policyTellsRow, standIns := [], harness := (true, "1a6af1b159c77ef8cb01240503e5506c7b51be0e307c3eeda3b8b0afc670b4f8"), looks := false }, kinds := [], alts := [], laidByText := true, laidKinds := [.data, .data, .data], laidTests := true, laidLooks := .later }
def PolicyTellsCardSaid : Prop := Claim7.holds Tryz.pinned (.plain (OpenSpec.ofChange policyTellsSpec)) policyTellsCard

/-- THE SECOND FORM's CARD OF 'middenlaw12.PolicyTells'. -/
def policyTellsUptoCard : Claim7 := { stood := { row := policyTellsUptoRow, standIns := [], harness := (true, "1a6af1b159c77ef8cb01240503e5506c7b51be0e307c3eeda3b8b0afc670b4f8"), looks := false }, kinds := [], alts := [], laidByText := true, laidKinds := [.data, .data, .data], laidTests := true, laidLooks := .later }
def PolicyTellsUptoCardSaid : Prop := Claim7.holds Tryz.pinned (.plain (OpenSpec.upto policyTellsSpec)) policyTellsUptoCard
end Rows
end Go.Proofs.YtcijdbhabbepaaaGreatDoor
