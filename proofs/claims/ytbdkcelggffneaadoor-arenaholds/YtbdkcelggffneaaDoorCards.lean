/-
  DERIVED. GIVEN WITH THE SEED: THE CARDS: each row of YtbdkcelggffneaaDoorRows.lean that lists a variable, with what it lists TIED to the program's text (the seventh form; the later family's looks); each row that meets fmt, with fmt's text TOLD by the authors' own Lean function (tested against real Go, not proved from fmt's source: count such statements apart). THE CARD IS WHAT COUNTS. Prove the row's statement (the work); the ties are given (YtbdkcelggffneaaDoorTie.lean); close each card by the builder's one call (the guide's Derived/Test/ToyasCard.lean, 'card_holds'). Laid BY PROGRAM, IN A SANDBOX (cutbox-door.mjs). By AI agents, Wed Nov 11 2026. No macro, syntax, notation, axiom, sorry.
-/
import Derived.Test.YtbdkcelggffneaaDoorRows
import GoSem.ClaimSeven
namespace Go.Proofs.YtbdkcelggffneaaDoor
namespace Rows

/-- THE TIED CARD OF 'middenlaw3.ArenaSpaces'. -/
def arenaSpacesCard : Claim7 := { stood := { row := arenaSpacesRow, standIns := [], harness := (true, "115f827557d54e773923d4ae8c796610bfee060da1b41e47dc34d3df0961d7a3"), looks := false }, kinds := [], alts := [], laidByText := true, laidKinds := [.data, .data], laidTests := true, laidLooks := .later }
def ArenaSpacesCardSaid : Prop := Claim7.holds Tryd.pinned (.plain (OpenSpec.ofChange arenaSpacesSpec)) arenaSpacesCard

/-- THE TIED CARD OF 'middenlaw3.ArenaHolds'. -/
def arenaHoldsCard : Claim7 := { stood := { row := arenaHoldsRow, standIns := [], harness := (true, "115f827557d54e773923d4ae8c796610bfee060da1b41e47dc34d3df0961d7a3"), looks := false }, kinds := [], alts := [], laidByText := true, laidKinds := [.data, .data], laidTests := true, laidLooks := .later }
def ArenaHoldsCardSaid : Prop := Claim7.holds Tryd.pinned (.plain (OpenSpec.ofChange arenaHoldsSpec)) arenaHoldsCard

/-- THE SECOND FORM's CARD OF 'middenlaw3.ArenaSpaces'. -/
def arenaSpacesUptoCard : Claim7 := { stood := { row := arenaSpacesUptoRow, standIns := [], harness := (true, "115f827557d54e773923d4ae8c796610bfee060da1b41e47dc34d3df0961d7a3"), looks := false }, kinds := [], alts := [], laidByText := true, laidKinds := [.data, .data], laidTests := true, laidLooks := .later }
def ArenaSpacesUptoCardSaid : Prop := Claim7.holds Tryd.pinned (.plain (OpenSpec.upto arenaSpacesSpec)) arenaSpacesUptoCard

/-- THE SECOND FORM's CARD OF 'middenlaw3.ArenaHolds'. -/
def arenaHoldsUptoCard : Claim7 := { stood := { row := arenaHoldsUptoRow, standIns := [], harness := (true, "115f827557d54e773923d4ae8c796610bfee060da1b41e47dc34d3df0961d7a3"), looks := false }, kinds := [], alts := [], laidByText := true, laidKinds := [.data, .data], laidTests := true, laidLooks := .later }
def ArenaHoldsUptoCardSaid : Prop := Claim7.holds Tryd.pinned (.plain (OpenSpec.upto arenaHoldsSpec)) arenaHoldsUptoCard
end Rows
end Go.Proofs.YtbdkcelggffneaaDoor
