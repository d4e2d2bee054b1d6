/-
  DERIVED. GIVEN WITH THE SEED: THE CARDS: each row of YtckgcpoheodbcaaDoorRows.lean that lists a variable, with what it lists TIED to the program's text (the seventh form; the later family's looks); each row that meets fmt, with fmt's text TOLD by the authors' own Lean function (tested against real Go, not proved from fmt's source: count such statements apart). THE CARD IS WHAT COUNTS. Prove the row's statement (the work); the ties are given (YtckgcpoheodbcaaDoorTie.lean); close each card by the builder's one call (the guide's Derived/Test/ToyasCard.lean, 'card_holds'). Laid BY PROGRAM, IN A SANDBOX (cutbox-door.mjs). By AI agents, Wed Nov 11 2026. No macro, syntax, notation, axiom, sorry.
-/
import Derived.Test.YtckgcpoheodbcaaDoorRows
import GoSem.ClaimSeven
namespace Go.Proofs.YtckgcpoheodbcaaDoor
namespace Rows

/-- THE TIED CARD OF 'middenlaw17.LensDominators'. -/
def lensDominatorsCard : Claim7 := { stood := { row := lensDominatorsRow, standIns := [], harness := (true, "4515661bfdd4968106b130648edb4e66dadc3e222cc757bd1c8039962816d7b1"), looks := false }, kinds := [], alts := [], laidByText := true, laidKinds := [.data, .data], laidTests := true, laidLooks := .later }
def LensDominatorsCardSaid : Prop := Claim7.holds Tryd.pinned (.plain (OpenSpec.ofChange lensDominatorsSpec)) lensDominatorsCard

/-- THE SECOND FORM's CARD OF 'middenlaw17.LensDominators'. -/
def lensDominatorsUptoCard : Claim7 := { stood := { row := lensDominatorsUptoRow, standIns := [], harness := (true, "4515661bfdd4968106b130648edb4e66dadc3e222cc757bd1c8039962816d7b1"), looks := false }, kinds := [], alts := [], laidByText := true, laidKinds := [.data, .data], laidTests := true, laidLooks := .later }
def LensDominatorsUptoCardSaid : Prop := Claim7.holds Tryd.pinned (.plain (OpenSpec.upto lensDominatorsSpec)) lensDominatorsUptoCard
end Rows
end Go.Proofs.YtckgcpoheodbcaaDoor
