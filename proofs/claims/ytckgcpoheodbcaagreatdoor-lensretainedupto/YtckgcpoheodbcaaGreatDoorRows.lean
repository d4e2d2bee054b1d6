/-
  NARROWER THAN 'FOR EVERY INPUT', by the rows' own cells (each row's printed sentence says how): LensPaths: laid · LensRetained: laid.
  DERIVED. THE GIVEN ROWS OF THIS SEAT. 2 by the template 'for every input the law returns true; each argument reads behind the call as it read before'; 0 by the template 'total and deterministic' (their statements: YtckgcpoheodbcaaGreatDoorTotals.lean).
  GIVEN WITH THE SEED: the statements are not yours to turn. If you find one false, say at which input.
  Laid BY PROGRAM, IN A SANDBOX (cutbox-rows.mjs): the forced cells as the released guide's own fill.sh prints them over the translation 07e788d8bbeadc59… (all of the seat's roots in one cut). By AI agents, Wed Nov 11 2026. No macro, syntax, notation, axiom, sorry.
-/
import Derived.Test.YtckgcpoheodbcaaGreatDoorChecked
import GoSem.Claim
import GoSem.ClaimJoined
import GoSem.ClaimMapViews
import Derived.JoinedTies
import Derived.KernelRfl
namespace Go.Proofs.YtckgcpoheodbcaaGreatDoor
/- THE CELL 'sum', in the pinned program and in every row, IS THE sha256 OF THE DUMP (.gsa) THAT YtckgcpoheodbcaaGreatDoorProg.lean LOADS. Nothing in Lean hashes anything: it is a label: what it is worth is what the hold of that sum in a sandbox is worth. -/
noncomputable def Tryz.pinned : Pinned := { name := "ytckgcpoheodbcaagreatdoor", sum := "07e788d8bbeadc5923ed348134cb1221c0987812abb1c5a61501286a57013b36", checked := Tryz.checked }
namespace Rows
def none {H : Type} : Left H := { results := [], args := [] }

/- WHAT THE LISTED PACKAGE-LEVEL VARIABLES READ AS WHEN THE CALL BEGINS. Each datum BY PROGRAM (the guide's laid-datum.mjs) off the statement by which the dump's own 'gosem.cut.vars' lays the variable. In a bare row this is a premise. The card (YtckgcpoheodbcaaGreatDoorCards.lean) ties it to the program's text. -/
def laid_midden_cell_kinds {H : Type} : DataW H := .agg [.agg [.lit (.bool false), .lit (.int .i64 0)], .agg [.lit (.bool true), .lit (.int .i64 0)], .agg [.lit (.bool true), .lit (.int .i64 1)], .agg [.lit (.bool true), .lit (.int .i64 2)], .agg [.lit (.bool true), .lit (.int .i64 0)]]
def laid_midden_cell_begins {H : Type} : DataW H := .agg [.lit (.int .i64 0), .lit (.int .i64 2), .lit (.int .i64 5), .lit (.int .i64 6), .lit (.int .i64 10), .lit (.int .i64 18), .lit (.int .i64 30), .lit (.int .i64 46), .lit (.int .i64 64)]

/-- 'middenlaw17.LensPaths': WHATEVER THE INPUT: true; the input reads as it did. -/
def lensPathsSpec : ChangeSpec := { name := "lensPaths", fn := fun _ => fun
  | [d1, d2] => { results := [.lit (.bool true)], args := [d1, d2] }
  | _ => none }
def lensPathsRow : OpenClaim := { program := "ytckgcpoheodbcaagreatdoor", sum := "07e788d8bbeadc5923ed348134cb1221c0987812abb1c5a61501286a57013b36", func := "midden/middenlaw17.LensPaths", spec := "lensPaths", unfollowed := true, recurses := true, named := ["midden/cell.kinds", "midden/cell.begins"], apart := false, laid := [("midden/cell.kinds", laid_midden_cell_kinds), ("midden/cell.begins", laid_midden_cell_begins)] }
def LensPathsSaid : Prop := lensPathsRow.holds Tryz.pinned (OpenSpec.ofChange lensPathsSpec)

/-- ITS FALSE NEIGHBOUR: 'it returns false'. Refute it at one input. -/
def lensPathsWrong : ChangeSpec := { name := "lensPaths", fn := fun _ => fun
  | [d1, d2] => { results := [.lit (.bool false)], args := [d1, d2] }
  | _ => none }
def LensPathsWrongFalsely : Prop := lensPathsRow.holds Tryz.pinned (OpenSpec.ofChange lensPathsWrong)

/-- 'middenlaw17.LensRetained': WHATEVER THE INPUT: true; the input reads as it did. -/
def lensRetainedSpec : ChangeSpec := { name := "lensRetained", fn := fun _ => fun
  | [d] => { results := [.lit (.bool true)], args := [d] }
  | _ => none }
def lensRetainedRow : OpenClaim := { program := "ytckgcpoheodbcaagreatdoor", sum := "07e788d8bbeadc5923ed348134cb1221c0987812abb1c5a61501286a57013b36", func := "midden/middenlaw17.LensRetained", spec := "lensRetained", unfollowed := true, recurses := true, named := ["midden/cell.kinds", "midden/cell.begins"], apart := false, laid := [("midden/cell.kinds", laid_midden_cell_kinds), ("midden/cell.begins", laid_midden_cell_begins)] }
def LensRetainedSaid : Prop := lensRetainedRow.holds Tryz.pinned (OpenSpec.ofChange lensRetainedSpec)

/-- ITS FALSE NEIGHBOUR: 'it returns false'. Refute it at one input. -/
def lensRetainedWrong : ChangeSpec := { name := "lensRetained", fn := fun _ => fun
  | [d] => { results := [.lit (.bool false)], args := [d] }
  | _ => none }
def LensRetainedWrongFalsely : Prop := lensRetainedRow.holds Tryz.pinned (OpenSpec.ofChange lensRetainedWrong)

/- THE SECOND FORM. 'bulk': how many values and letters a reading holds, each counted each time it is reached (what is shared counts as often as it is met; a slice's spare places count too). A statement '..UptoSaid' is the law's where the arguments, and the package variables that the reading takes, are together of bulk at most 1048576: NARROWER than '..Said'. Prove '..Said' where nothing that the law and all that it calls make is longer than what came in: it says more and counts as full. Else prove '..UptoSaid'. A law counts once. -/
mutual
def uptoBulk {H : Type} : DataW H → Nat
  | .lit (.string bytes) => bytes.length + 1
  | .lit _ => 1
  | .nil => 1
  | .ptr d => uptoBulk d + 1
  | .slice elems spare => uptoBulkAll elems + uptoBulkAll spare + 1
  | .agg parts => uptoBulkAll parts + 1
  | .iface _ d => uptoBulk d + 1
  | .map entries => uptoBulkEntries entries + 1
  | .held _ => 1
def uptoBulkAll {H : Type} : List (DataW H) → Nat
  | [] => 0
  | d :: r => uptoBulk d + uptoBulkAll r
def uptoBulkEntries {H : Type} : List (Lit × DataW H) → Nat
  | [] => 0
  | x :: r => uptoBulkEntry x + uptoBulkEntries r
def uptoBulkEntry {H : Type} : Lit × DataW H → Nat
  | (.string bytes, d) => bytes.length + uptoBulk d + 1
  | (_, d) => uptoBulk d + 1
 end
def uptoSmall : (H : Type) → List (DataW H) → Bool := fun _ ds => decide (uptoBulkAll ds ≤ 1048576)
def OpenSpec.upto (s : _root_.Go.ChangeSpec) : _root_.Go.OpenSpec := { _root_.Go.OpenSpec.ofChange s with cond := some uptoSmall }

/-- 'middenlaw17.LensPaths', WHERE WHAT IT READS IS OF BULK AT MOST 1048576: true; the input reads as it did. -/
def lensPathsUptoRow : OpenClaim := { program := "ytckgcpoheodbcaagreatdoor", sum := "07e788d8bbeadc5923ed348134cb1221c0987812abb1c5a61501286a57013b36", func := "midden/middenlaw17.LensPaths", spec := "lensPaths", unfollowed := true, recurses := true, named := ["midden/cell.kinds", "midden/cell.begins"], apart := false, laid := [("midden/cell.kinds", laid_midden_cell_kinds), ("midden/cell.begins", laid_midden_cell_begins)], narrowed := true }
def LensPathsUptoSaid : Prop := lensPathsUptoRow.holds Tryz.pinned (OpenSpec.upto lensPathsSpec)

/-- 'middenlaw17.LensRetained', WHERE WHAT IT READS IS OF BULK AT MOST 1048576: true; the input reads as it did. -/
def lensRetainedUptoRow : OpenClaim := { program := "ytckgcpoheodbcaagreatdoor", sum := "07e788d8bbeadc5923ed348134cb1221c0987812abb1c5a61501286a57013b36", func := "midden/middenlaw17.LensRetained", spec := "lensRetained", unfollowed := true, recurses := true, named := ["midden/cell.kinds", "midden/cell.begins"], apart := false, laid := [("midden/cell.kinds", laid_midden_cell_kinds), ("midden/cell.begins", laid_midden_cell_begins)], narrowed := true }
def LensRetainedUptoSaid : Prop := lensRetainedUptoRow.holds Tryz.pinned (OpenSpec.upto lensRetainedSpec)

end Rows
end Go.Proofs.YtckgcpoheodbcaaGreatDoor
