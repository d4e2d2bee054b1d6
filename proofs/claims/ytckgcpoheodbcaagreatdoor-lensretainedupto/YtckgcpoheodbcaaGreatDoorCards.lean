/-
  DERIVED. GIVEN WITH THE SEED: THE CARDS: each row of YtckgcpoheodbcaaGreatDoorRows.lean that lists a variable, with what it lists TIED to the program's text (the seventh form; the later family's looks); each row that meets fmt, with fmt's text TOLD by the authors' own Lean function (tested against real Go, not proved from fmt's source: count such statements apart). THE CARD IS WHAT COUNTS. Prove the row's statement (the work); the ties are given (YtckgcpoheodbcaaGreatDoorTie.lean); close each card by the builder's one call (the guide's Derived/Test/ToyasCard.lean, 'card_holds'). Laid BY PROGRAM, IN A SANDBOX (cutbox-door.mjs). By AI agents, Wed Nov 11 2026. No macro, syntax, notation, axiom, sorry.
-/
import Derived.Test.YtckgcpoheodbcaaGreatDoorRows
import GoSem.ClaimSeven
namespace Go.Proofs.YtckgcpoheodbcaaGreatDoor
namespace Rows

/-- THE TIED CARD OF 'middenlaw17.LensPaths'. -/
def lensPathsCard : Claim7 := { stood := { row := lensPathsRow, standIns := [], harness := (true, "1f2ac0a175ccf9cb0baa52acd3fc01592bb5ad04b706d5122ad1b2cd95edc79a"), looks := false }, kinds := [], alts := [], laidByText := true, laidKinds := [.data, .data], laidTests := true, laidLooks := .later }
def LensPathsCardSaid : Prop := Claim7.holds Tryz.pinned (.plain (OpenSpec.ofChange lensPathsSpec)) lensPathsCard

/-- THE TIED CARD OF 'middenlaw17.LensRetained'. -/
def lensRetainedCard : Claim7 := { stood := { row := lensRetainedRow, standIns := [], harness := (true, "1f2ac0a175ccf9cb0baa52acd3fc01592bb5ad04b706d5122ad1b2cd95edc79a"), looks := false }, kinds := [], alts := [], laidByText := true, laidKinds := [.data, .data], laidTests := true, laidLooks := .later }
def LensRetainedCardSaid : Prop := Claim7.holds Tryz.pinned (.plain (OpenSpec.ofChange lensRetainedSpec)) lensRetainedCard

/-- THE SECOND FORM's CARD OF 'middenlaw17.LensPaths'. -/
def lensPathsUptoCard : Claim7 := { stood := { row := lensPathsUptoRow, standIns := [], harness := (true, "1f2ac0a175ccf9cb0baa52acd3fc01592bb5ad04b706d5122ad1b2cd95edc79a"), looks := false }, kinds := [], alts := [], laidByText := true, laidKinds := [.data, .data], laidTests := true, laidLooks := .later }
def LensPathsUptoCardSaid : Prop := Claim7.holds Tryz.pinned (.plain (OpenSpec.upto lensPathsSpec)) lensPathsUptoCard

/-- THE SECOND FORM's CARD OF 'middenlaw17.LensRetained'. -/
def lensRetainedUptoCard : Claim7 := { stood := { row := lensRetainedUptoRow, standIns := [], harness := (true, "1f2ac0a175ccf9cb0baa52acd3fc01592bb5ad04b706d5122ad1b2cd95edc79a"), looks := false }, kinds := [], alts := [], laidByText := true, laidKinds := [.data, .data], laidTests := true, laidLooks := .later }
def LensRetainedUptoCardSaid : Prop := Claim7.holds Tryz.pinned (.plain (OpenSpec.upto lensRetainedSpec)) lensRetainedUptoCard
end Rows
end Go.Proofs.YtckgcpoheodbcaaGreatDoor
