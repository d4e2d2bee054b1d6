/-
  DERIVED. GIVEN WITH THE SEED: THE CARDS: each row of YtoanmgnoonmkbaaDoorRows.lean that lists a variable, with what it lists TIED to the program's text (the seventh form; the later family's looks); each row that meets fmt, with fmt's text TOLD by the authors' own Lean function (tested against real Go, not proved from fmt's source: count such statements apart). THE CARD IS WHAT COUNTS. Prove the row's statement (the work); the ties are given (YtoanmgnoonmkbaaDoorTie.lean); close each card by the builder's one call (the guide's Derived/Test/ToyasCard.lean, 'card_holds'). Laid BY PROGRAM, IN A SANDBOX (cutbox-door.mjs). By AI agents, Wed Nov 11 2026. No macro, syntax, notation, axiom, sorry.
-/
import Derived.Test.YtoanmgnoonmkbaaDoorRows
import GoSem.ClaimSeven
namespace Go.Proofs.YtoanmgnoonmkbaaDoor
namespace Rows

/-- THE TIED CARD OF 'middenlaw2.CellForms'. -/
def cellFormsCard : Claim7 := { stood := { row := cellFormsRow, standIns := [], harness := (true, "56cdab9f329ffec0dcd5b3ac9feec28499a752a63695568442c836182bafb416"), looks := false }, kinds := [], alts := [], laidByText := true, laidKinds := [.data, .data], laidTests := true, laidLooks := .later }
def CellFormsCardSaid : Prop := Claim7.holds Tryd.pinned (.plain (OpenSpec.ofChange cellFormsSpec)) cellFormsCard

/-- THE TIED CARD OF 'middenlaw2.CellHeads'. -/
def cellHeadsCard : Claim7 := { stood := { row := cellHeadsRow, standIns := [], harness := (true, "56cdab9f329ffec0dcd5b3ac9feec28499a752a63695568442c836182bafb416"), looks := false }, kinds := [], alts := [], laidByText := true, laidKinds := [.data, .data], laidTests := true, laidLooks := .later }
def CellHeadsCardSaid : Prop := Claim7.holds Tryd.pinned (.plain (OpenSpec.ofChange cellHeadsSpec)) cellHeadsCard

/-- THE TIED CARD OF 'middenlaw2.CellCounts'. -/
def cellCountsCard : Claim7 := { stood := { row := cellCountsRow, standIns := [], harness := (true, "56cdab9f329ffec0dcd5b3ac9feec28499a752a63695568442c836182bafb416"), looks := false }, kinds := [], alts := [], laidByText := true, laidKinds := [.data], laidTests := true, laidLooks := .later }
def CellCountsCardSaid : Prop := Claim7.holds Tryd.pinned (.plain (OpenSpec.ofChange cellCountsSpec)) cellCountsCard

/-- THE TIED CARD OF 'middenlaw2.CellTurns'. -/
def cellTurnsCard : Claim7 := { stood := { row := cellTurnsRow, standIns := [], harness := (true, "56cdab9f329ffec0dcd5b3ac9feec28499a752a63695568442c836182bafb416"), looks := false }, kinds := [], alts := [], laidByText := true, laidKinds := [.data, .data], laidTests := true, laidLooks := .later }
def CellTurnsCardSaid : Prop := Claim7.holds Tryd.pinned (.plain (OpenSpec.ofChange cellTurnsSpec)) cellTurnsCard

/-- THE TIED CARD OF 'middenlaw2.CellBack'. -/
def cellBackCard : Claim7 := { stood := { row := cellBackRow, standIns := [], harness := (true, "56cdab9f329ffec0dcd5b3ac9feec28499a752a63695568442c836182bafb416"), looks := false }, kinds := [], alts := [], laidByText := true, laidKinds := [.data, .data], laidTests := true, laidLooks := .later }
def CellBackCardSaid : Prop := Claim7.holds Tryd.pinned (.plain (OpenSpec.ofChange cellBackSpec)) cellBackCard

/-- THE SECOND FORM's CARD OF 'middenlaw2.CellForms'. -/
def cellFormsUptoCard : Claim7 := { stood := { row := cellFormsUptoRow, standIns := [], harness := (true, "56cdab9f329ffec0dcd5b3ac9feec28499a752a63695568442c836182bafb416"), looks := false }, kinds := [], alts := [], laidByText := true, laidKinds := [.data, .data], laidTests := true, laidLooks := .later }
def CellFormsUptoCardSaid : Prop := Claim7.holds Tryd.pinned (.plain (OpenSpec.upto cellFormsSpec)) cellFormsUptoCard

/-- THE SECOND FORM's CARD OF 'middenlaw2.CellHeads'. -/
def cellHeadsUptoCard : Claim7 := { stood := { row := cellHeadsUptoRow, standIns := [], harness := (true, "56cdab9f329ffec0dcd5b3ac9feec28499a752a63695568442c836182bafb416"), looks := false }, kinds := [], alts := [], laidByText := true, laidKinds := [.data, .data], laidTests := true, laidLooks := .later }
def CellHeadsUptoCardSaid : Prop := Claim7.holds Tryd.pinned (.plain (OpenSpec.upto cellHeadsSpec)) cellHeadsUptoCard

/-- THE SECOND FORM's CARD OF 'middenlaw2.CellCounts'. -/
def cellCountsUptoCard : Claim7 := { stood := { row := cellCountsUptoRow, standIns := [], harness := (true, "56cdab9f329ffec0dcd5b3ac9feec28499a752a63695568442c836182bafb416"), looks := false }, kinds := [], alts := [], laidByText := true, laidKinds := [.data], laidTests := true, laidLooks := .later }
def CellCountsUptoCardSaid : Prop := Claim7.holds Tryd.pinned (.plain (OpenSpec.upto cellCountsSpec)) cellCountsUptoCard

/-- THE SECOND FORM's CARD OF 'middenlaw2.CellTurns'. -/
def cellTurnsUptoCard : Claim7 := { stood := { row := cellTurnsUptoRow, standIns := [], harness := (true, "56cdab9f329ffec0dcd5b3ac9feec28499a752a63695568442c836182bafb416"), looks := false }, kinds := [], alts := [], laidByText := true, laidKinds := [.data, .data], laidTests := true, laidLooks := .later }
def CellTurnsUptoCardSaid : Prop := Claim7.holds Tryd.pinned (.plain (OpenSpec.upto cellTurnsSpec)) cellTurnsUptoCard

/-- THE SECOND FORM's CARD OF 'middenlaw2.CellBack'. -/
def cellBackUptoCard : Claim7 := { stood := { row := cellBackUptoRow, standIns := [], harness := (true, "56cdab9f329ffec0dcd5b3ac9feec28499a752a63695568442c836182bafb416"), looks := false }, kinds := [], alts := [], laidByText := true, laidKinds := [.data, .data], laidTests := true, laidLooks := .later }
def CellBackUptoCardSaid : Prop := Claim7.holds Tryd.pinned (.plain (OpenSpec.upto cellBackSpec)) cellBackUptoCard
end Rows
end Go.Proofs.YtoanmgnoonmkbaaDoor
