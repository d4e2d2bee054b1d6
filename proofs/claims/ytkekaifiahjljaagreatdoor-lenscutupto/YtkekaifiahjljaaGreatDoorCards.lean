/-
  DERIVED. GIVEN WITH THE SEED: THE CARDS: each row of YtkekaifiahjljaaGreatDoorRows.lean that lists a variable, with what it lists TIED to the program's text (the seventh form; the later family's looks); each row that meets fmt, with fmt's text TOLD by the authors' own Lean function (tested against real Go, not proved from fmt's source: count such statements apart). THE CARD IS WHAT COUNTS. Prove the row's statement (the work); the ties are given (YtkekaifiahjljaaGreatDoorTie.lean); close each card by the builder's one call (the guide's Derived/Test/ToyasCard.lean, 'card_holds'). Laid BY PROGRAM, IN A SANDBOX (cutbox-door.mjs). By AI agents, Wed Nov 11 2026. No macro, syntax, notation, axiom, sorry.
-/
import Derived.Test.YtkekaifiahjljaaGreatDoorRows
import GoSem.ClaimSeven
namespace Go.Proofs.YtkekaifiahjljaaGreatDoor
namespace Rows

/-- THE TIED CARD OF 'middenlaw17.LensWay'. -/
def lensWayCard : Claim7 := { stood := { row := lensWayRow, standIns := [], harness := (true, "e31f79db72ea83a9cb36c093588fba48c7940a6dcfe845b23009f429198a95ff"), looks := false }, kinds := [], alts := [], laidByText := true, laidKinds := [.data, .data], laidTests := true, laidLooks := .later }
def LensWayCardSaid : Prop := Claim7.holds Tryz.pinned (.plain (OpenSpec.ofChange lensWaySpec)) lensWayCard

/-- THE TIED CARD OF 'middenlaw17.LensTree'. -/
def lensTreeCard : Claim7 := { stood := { row := lensTreeRow, standIns := [], harness := (true, "e31f79db72ea83a9cb36c093588fba48c7940a6dcfe845b23009f429198a95ff"), looks := false }, kinds := [], alts := [], laidByText := true, laidKinds := [.data, .data], laidTests := true, laidLooks := .later }
def LensTreeCardSaid : Prop := Claim7.holds Tryz.pinned (.plain (OpenSpec.ofChange lensTreeSpec)) lensTreeCard

/-- THE TIED CARD OF 'middenlaw17.LensCut'. -/
def lensCutCard : Claim7 := { stood := { row := lensCutRow, standIns := [], harness := (true, "e31f79db72ea83a9cb36c093588fba48c7940a6dcfe845b23009f429198a95ff"), looks := false }, kinds := [], alts := [], laidByText := true, laidKinds := [.data, .data], laidTests := true, laidLooks := .later }
def LensCutCardSaid : Prop := Claim7.holds Tryz.pinned (.plain (OpenSpec.ofChange lensCutSpec)) lensCutCard

/-- THE TIED CARD OF 'middenlaw17.LensFresh'. -/
def lensFreshCard : Claim7 := { stood := { row := lensFreshRow, standIns := [], harness := (true, "e31f79db72ea83a9cb36c093588fba48c7940a6dcfe845b23009f429198a95ff"), looks := false }, kinds := [], alts := [], laidByText := true, laidKinds := [.data, .data, .data, .data, .data], laidTests := true, laidLooks := .later }
def LensFreshCardSaid : Prop := Claim7.holds Tryz.pinned (.plain (OpenSpec.ofChange lensFreshSpec)) lensFreshCard

/-- THE SECOND FORM's CARD OF 'middenlaw17.LensWay'. -/
def lensWayUptoCard : Claim7 := { stood := { row := lensWayUptoRow, standIns := [], harness := (true, "e31f79db72ea83a9cb36c093588fba48c7940a6dcfe845b23009f429198a95ff"), looks := false }, kinds := [], alts := [], laidByText := true, laidKinds := [.data, .data], laidTests := true, laidLooks := .later }
def LensWayUptoCardSaid : Prop := Claim7.holds Tryz.pinned (.plain (OpenSpec.upto lensWaySpec)) lensWayUptoCard

/-- THE SECOND FORM's CARD OF 'middenlaw17.LensTree'. -/
def lensTreeUptoCard : Claim7 := { stood := { row := lensTreeUptoRow, standIns := [], harness := (true, "e31f79db72ea83a9cb36c093588fba48c7940a6dcfe845b23009f429198a95ff"), looks := false }, kinds := [], alts := [], laidByText := true, laidKinds := [.data, .data], laidTests := true, laidLooks := .later }
def LensTreeUptoCardSaid : Prop := Claim7.holds Tryz.pinned (.plain (OpenSpec.upto lensTreeSpec)) lensTreeUptoCard

/-- THE SECOND FORM's CARD OF 'middenlaw17.LensCut'. -/
def lensCutUptoCard : Claim7 := { stood := { row := lensCutUptoRow, standIns := [], harness := (true, "e31f79db72ea83a9cb36c093588fba48c7940a6dcfe845b23009f429198a95ff"), looks := false }, kinds := [], alts := [], laidByText := true, laidKinds := [.data, .data], laidTests := true, laidLooks := .later }
def LensCutUptoCardSaid : Prop := Claim7.holds Tryz.pinned (.plain (OpenSpec.upto lensCutSpec)) lensCutUptoCard

/-- THE SECOND FORM's CARD OF 'middenlaw17.LensFresh'. -/
def lensFreshUptoCard : Claim7 := { stood := { row := lensFreshUptoRow, standIns := [], harness := (true, "e31f79db72ea83a9cb36c093588fba48c7940a6dcfe845b23009f429198a95ff"), looks := false }, kinds := [], alts := [], laidByText := true, laidKinds := [.data, .data, .data, .data, .data], laidTests := true, laidLooks := .later }
def LensFreshUptoCardSaid : Prop := Claim7.holds Tryz.pinned (.plain (OpenSpec.upto lensFreshSpec)) lensFreshUptoCard
end Rows
end Go.Proofs.YtkekaifiahjljaaGreatDoor
