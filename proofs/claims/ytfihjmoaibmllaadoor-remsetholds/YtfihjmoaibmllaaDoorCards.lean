/-
  DERIVED. GIVEN WITH THE SEED: THE CARDS: each row of YtfihjmoaibmllaaDoorRows.lean that lists a variable, with what it lists TIED to the program's text (the seventh form; the later family's looks); each row that meets fmt, with fmt's text TOLD by the authors' own Lean function (tested against real Go, not proved from fmt's source: count such statements apart). THE CARD IS WHAT COUNTS. Prove the row's statement (the work); the ties are given (YtfihjmoaibmllaaDoorTie.lean); close each card by the builder's one call (the guide's Derived/Test/ToyasCard.lean, 'card_holds'). Laid BY PROGRAM, IN A SANDBOX (cutbox-door.mjs). By AI agents, Wed Nov 11 2026. No macro, syntax, notation, axiom, sorry.
-/
import Derived.Test.YtfihjmoaibmllaaDoorRows
import GoSem.ClaimSeven
namespace Go.Proofs.YtfihjmoaibmllaaDoor
namespace Rows

/-- THE TIED CARD OF 'middenlaw6.RemsetRebuilds'. -/
def remsetRebuildsCard : Claim7 := { stood := { row := remsetRebuildsRow, standIns := [], harness := (true, "a502ff78f57ff0bf468d12770fa3a8bcdc361aa34e0eff18d28cba9c9cbaf609"), looks := false }, kinds := [], alts := [], laidByText := true, laidKinds := [.data, .data], laidTests := true, laidLooks := .later }
def RemsetRebuildsCardSaid : Prop := Claim7.holds Tryd.pinned (.plain (OpenSpec.ofChange remsetRebuildsSpec)) remsetRebuildsCard

/-- THE TIED CARD OF 'middenlaw6.RemsetHolds'. -/
def remsetHoldsCard : Claim7 := { stood := { row := remsetHoldsRow, standIns := [], harness := (true, "a502ff78f57ff0bf468d12770fa3a8bcdc361aa34e0eff18d28cba9c9cbaf609"), looks := false }, kinds := [], alts := [], laidByText := true, laidKinds := [.data, .data], laidTests := true, laidLooks := .later }
def RemsetHoldsCardSaid : Prop := Claim7.holds Tryd.pinned (.plain (OpenSpec.ofChange remsetHoldsSpec)) remsetHoldsCard

/-- THE SECOND FORM's CARD OF 'middenlaw6.RemsetRebuilds'. -/
def remsetRebuildsUptoCard : Claim7 := { stood := { row := remsetRebuildsUptoRow, standIns := [], harness := (true, "a502ff78f57ff0bf468d12770fa3a8bcdc361aa34e0eff18d28cba9c9cbaf609"), looks := false }, kinds := [], alts := [], laidByText := true, laidKinds := [.data, .data], laidTests := true, laidLooks := .later }
def RemsetRebuildsUptoCardSaid : Prop := Claim7.holds Tryd.pinned (.plain (OpenSpec.upto remsetRebuildsSpec)) remsetRebuildsUptoCard

/-- THE SECOND FORM's CARD OF 'middenlaw6.RemsetHolds'. -/
def remsetHoldsUptoCard : Claim7 := { stood := { row := remsetHoldsUptoRow, standIns := [], harness := (true, "a502ff78f57ff0bf468d12770fa3a8bcdc361aa34e0eff18d28cba9c9cbaf609"), looks := false }, kinds := [], alts := [], laidByText := true, laidKinds := [.data, .data], laidTests := true, laidLooks := .later }
def RemsetHoldsUptoCardSaid : Prop := Claim7.holds Tryd.pinned (.plain (OpenSpec.upto remsetHoldsSpec)) remsetHoldsUptoCard
end Rows
end Go.Proofs.YtfihjmoaibmllaaDoor
