/-
  DERIVED. GIVEN WITH THE SEED: THE CARDS: each row of YtbdkcelggffneaaGreatDoorRows.lean that lists a variable, with what it lists TIED to the program's text (the seventh form; the later family's looks); each row that meets fmt, with fmt's text TOLD by the authors' own Lean function (tested against real Go, not proved from fmt's source: count such statements apart). THE CARD IS WHAT COUNTS. Prove the row's statement (the work); the ties are given (YtbdkcelggffneaaGreatDoorTie.lean); close each card by the builder's one call (the guide's Derived/Test/ToyasCard.lean, 'card_holds'). Laid BY PROGRAM, IN A SANDBOX (cutbox-door.mjs). By AI agents, Wed Nov 11 2026. No macro, syntax, notation, axiom, sorry.
-/
import Derived.Test.YtbdkcelggffneaaGreatDoorRows
import GoSem.ClaimSeven
namespace Go.Proofs.YtbdkcelggffneaaGreatDoor
namespace Rows

/-- THE TIED CARD OF 'middenlaw3.ArenaPlays'. -/
def arenaPlaysCard : Claim7 := { stood := { row := arenaPlaysRow, standIns := [], harness := (true, "51bfac1e3a9fcbb044b60e69b02b86e8a77663f9ee6dc86133d4bc6f5562f516"), looks := false }, kinds := [], alts := [], laidByText := true, laidKinds := [.data, .data], laidTests := true, laidLooks := .later }
def ArenaPlaysCardSaid : Prop := Claim7.holds Tryz.pinned (.plain (OpenSpec.ofChange arenaPlaysSpec)) arenaPlaysCard

/-- THE TIED CARD OF 'middenlaw3.ArenaConfigs'. -/
def arenaConfigsCard : Claim7 := { stood := { row := arenaConfigsRow, standIns := [], harness := (true, "51bfac1e3a9fcbb044b60e69b02b86e8a77663f9ee6dc86133d4bc6f5562f516"), looks := false }, kinds := [], alts := [], laidByText := true, laidKinds := [.data, .data], laidTests := true, laidLooks := .later }
def ArenaConfigsCardSaid : Prop := Claim7.holds Tryz.pinned (.plain (OpenSpec.ofChange arenaConfigsSpec)) arenaConfigsCard

/-- THE SECOND FORM's CARD OF 'middenlaw3.ArenaPlays'. -/
def arenaPlaysUptoCard : Claim7 := { stood := { row := arenaPlaysUptoRow, standIns := [], harness := (true, "51bfac1e3a9fcbb044b60e69b02b86e8a77663f9ee6dc86133d4bc6f5562f516"), looks := false }, kinds := [], alts := [], laidByText := true, laidKinds := [.data, .data], laidTests := true, laidLooks := .later }
def ArenaPlaysUptoCardSaid : Prop := Claim7.holds Tryz.pinned (.plain (OpenSpec.upto arenaPlaysSpec)) arenaPlaysUptoCard

/-- THE SECOND FORM's CARD OF 'middenlaw3.ArenaConfigs'. -/
def arenaConfigsUptoCard : Claim7 := { stood := { row := arenaConfigsUptoRow, standIns := [], harness := (true, "51bfac1e3a9fcbb044b60e69b02b86e8a77663f9ee6dc86133d4bc6f5562f516"), looks := false }, kinds := [], alts := [], laidByText := true, laidKinds := [.data, .data], laidTests := true, laidLooks := .later }
def ArenaConfigsUptoCardSaid : Prop := Claim7.holds Tryz.pinned (.plain (OpenSpec.upto arenaConfigsSpec)) arenaConfigsUptoCard
end Rows
end Go.Proofs.YtbdkcelggffneaaGreatDoor
