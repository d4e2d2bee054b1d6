/-
  DERIVED. GIVEN WITH THE SEED: THE CARDS: each row of YtlnfhnahnmblmabDoorRows.lean that lists a variable, with what it lists TIED to the program's text (the seventh form; the later family's looks); each row that meets fmt, with fmt's text TOLD by the authors' own Lean function (tested against real Go, not proved from fmt's source: count such statements apart). THE CARD IS WHAT COUNTS. Prove the row's statement (the work); the ties are given (YtlnfhnahnmblmabDoorTie.lean); close each card by the builder's one call (the guide's Derived/Test/ToyasCard.lean, 'card_holds'). Laid BY PROGRAM, IN A SANDBOX (cutbox-door.mjs). By AI agents, Wed Nov 11 2026. No macro, syntax, notation, axiom, sorry.
-/
import Derived.Test.YtlnfhnahnmblmabDoorRows
import GoSem.ClaimSeven
namespace Go.Proofs.YtlnfhnahnmblmabDoor
namespace Rows

/-- THE TIED CARD OF 'middenlaw4.MarksRuns'. -/
def marksRunsCard : Claim7 := { stood := { row := marksRunsRow, standIns := [], harness := (true, "83c6980d3aa6be717f70732afe45f2e98211f079220097bff2c0830bc3ccde8d"), looks := false }, kinds := [], alts := [], laidByText := true, laidKinds := [.data, .data], laidTests := true, laidLooks := .later }
def MarksRunsCardSaid : Prop := Claim7.holds Tryd.pinned (.plain (OpenSpec.ofChange marksRunsSpec)) marksRunsCard

/-- THE TIED CARD OF 'middenlaw4.MarksSlides'. -/
def marksSlidesCard : Claim7 := { stood := { row := marksSlidesRow, standIns := [], harness := (true, "83c6980d3aa6be717f70732afe45f2e98211f079220097bff2c0830bc3ccde8d"), looks := false }, kinds := [], alts := [], laidByText := true, laidKinds := [.data, .data], laidTests := true, laidLooks := .later }
def MarksSlidesCardSaid : Prop := Claim7.holds Tryd.pinned (.plain (OpenSpec.ofChange marksSlidesSpec)) marksSlidesCard

/-- THE TIED CARD OF 'middenlaw4.MarksPlays'. -/
def marksPlaysCard : Claim7 := { stood := { row := marksPlaysRow, standIns := [], harness := (true, "83c6980d3aa6be717f70732afe45f2e98211f079220097bff2c0830bc3ccde8d"), looks := false }, kinds := [], alts := [], laidByText := true, laidKinds := [.data, .data], laidTests := true, laidLooks := .later }
def MarksPlaysCardSaid : Prop := Claim7.holds Tryd.pinned (.plain (OpenSpec.ofChange marksPlaysSpec)) marksPlaysCard

/-- THE SECOND FORM's CARD OF 'middenlaw4.MarksRuns'. -/
def marksRunsUptoCard : Claim7 := { stood := { row := marksRunsUptoRow, standIns := [], harness := (true, "83c6980d3aa6be717f70732afe45f2e98211f079220097bff2c0830bc3ccde8d"), looks := false }, kinds := [], alts := [], laidByText := true, laidKinds := [.data, .data], laidTests := true, laidLooks := .later }
def MarksRunsUptoCardSaid : Prop := Claim7.holds Tryd.pinned (.plain (OpenSpec.upto marksRunsSpec)) marksRunsUptoCard

/-- THE SECOND FORM's CARD OF 'middenlaw4.MarksSlides'. -/
def marksSlidesUptoCard : Claim7 := { stood := { row := marksSlidesUptoRow, standIns := [], harness := (true, "83c6980d3aa6be717f70732afe45f2e98211f079220097bff2c0830bc3ccde8d"), looks := false }, kinds := [], alts := [], laidByText := true, laidKinds := [.data, .data], laidTests := true, laidLooks := .later }
def MarksSlidesUptoCardSaid : Prop := Claim7.holds Tryd.pinned (.plain (OpenSpec.upto marksSlidesSpec)) marksSlidesUptoCard

/-- THE SECOND FORM's CARD OF 'middenlaw4.MarksPlays'. -/
def marksPlaysUptoCard : Claim7 := { stood := { row := marksPlaysUptoRow, standIns := [], harness := (true, "83c6980d3aa6be717f70732afe45f2e98211f079220097bff2c0830bc3ccde8d"), looks := false }, kinds := [], alts := [], laidByText := true, laidKinds := [.data, .data], laidTests := true, laidLooks := .later }
def MarksPlaysUptoCardSaid : Prop := Claim7.holds Tryd.pinned (.plain (OpenSpec.upto marksPlaysSpec)) marksPlaysUptoCard
end Rows
end Go.Proofs.YtlnfhnahnmblmabDoor
