/-
  NARROWER THAN 'FOR EVERY INPUT', by the rows' own cells (each row's printed sentence says how): CellForms: laid · CellHeads: laid · CellCounts: laid · CellTurns: laid · CellBack: laid.
  DERIVED. THE GIVEN ROWS OF THIS SEAT. 5 by the template 'for every input the law returns true; each argument reads behind the call as it read before'; 0 by the template 'total and deterministic' (their statements: YtoanmgnoonmkbaaDoorTotals.lean).
  GIVEN WITH THE SEED: the statements are not yours to turn. If you find one false, say at which input.
  Laid BY PROGRAM, IN A SANDBOX (cutbox-rows.mjs): the forced cells as the released guide's own fill.sh prints them over the translation 0900769a2dba808a… (all of the seat's roots in one cut). By AI agents, Wed Nov 11 2026. No macro, syntax, notation, axiom, sorry.
-/
import Derived.Test.YtoanmgnoonmkbaaDoorChecked
import GoSem.Claim
import GoSem.ClaimJoined
import GoSem.ClaimMapViews
import Derived.JoinedTies
import Derived.KernelRfl
namespace Go.Proofs.YtoanmgnoonmkbaaDoor
/- THE CELL 'sum', in the pinned program and in every row, IS THE sha256 OF THE DUMP (.gsa) THAT YtoanmgnoonmkbaaDoorProg.lean LOADS. Nothing in Lean hashes anything: it is a label: what it is worth is what the hold of that sum in a sandbox is worth. -/
noncomputable def Tryd.pinned : Pinned := { name := "ytoanmgnoonmkbaadoor", sum := "0900769a2dba808a24b0e4d523ac9a2990930cd0fb682cdf3ce87080f75c57ee", checked := Tryd.checked }
namespace Rows
def none {H : Type} : Left H := { results := [], args := [] }

/- WHAT THE LISTED PACKAGE-LEVEL VARIABLES READ AS WHEN THE CALL BEGINS. Each datum BY PROGRAM (the guide's laid-datum.mjs) off the statement by which the dump's own 'gosem.cut.vars' lays the variable. In a bare row this is a premise. The card (YtoanmgnoonmkbaaDoorCards.lean) ties it to the program's text. -/
def laid_midden_cell_kinds {H : Type} : DataW H := .agg [.agg [.lit (.bool false), .lit (.int .i64 0)], .agg [.lit (.bool true), .lit (.int .i64 0)], .agg [.lit (.bool true), .lit (.int .i64 1)], .agg [.lit (.bool true), .lit (.int .i64 2)], .agg [.lit (.bool true), .lit (.int .i64 0)]]
def laid_midden_cell_begins {H : Type} : DataW H := .agg [.lit (.int .i64 0), .lit (.int .i64 2), .lit (.int .i64 5), .lit (.int .i64 6), .lit (.int .i64 10), .lit (.int .i64 18), .lit (.int .i64 30), .lit (.int .i64 46), .lit (.int .i64 64)]

/-- 'middenlaw2.CellForms': WHATEVER THE INPUT: true; the input reads as it did. -/
def cellFormsSpec : ChangeSpec := { name := "cellForms", fn := fun _ => fun
  | [d] => { results := [.lit (.bool true)], args := [d] }
  | _ => none }
def cellFormsRow : OpenClaim := { program := "ytoanmgnoonmkbaadoor", sum := "0900769a2dba808a24b0e4d523ac9a2990930cd0fb682cdf3ce87080f75c57ee", func := "midden/middenlaw2.CellForms", spec := "cellForms", named := ["midden/cell.kinds", "midden/cell.begins"], apart := false, laid := [("midden/cell.kinds", laid_midden_cell_kinds), ("midden/cell.begins", laid_midden_cell_begins)] }
def CellFormsSaid : Prop := cellFormsRow.holds Tryd.pinned (OpenSpec.ofChange cellFormsSpec)

/-- ITS FALSE NEIGHBOUR: 'it returns false'. Refute it at one input. -/
def cellFormsWrong : ChangeSpec := { name := "cellForms", fn := fun _ => fun
  | [d] => { results := [.lit (.bool false)], args := [d] }
  | _ => none }
def CellFormsWrongFalsely : Prop := cellFormsRow.holds Tryd.pinned (OpenSpec.ofChange cellFormsWrong)

/-- 'middenlaw2.CellHeads': WHATEVER THE INPUT: true; the input reads as it did. -/
def cellHeadsSpec : ChangeSpec := { name := "cellHeads", fn := fun _ => fun
  | [d1, d2] => { results := [.lit (.bool true)], args := [d1, d2] }
  | _ => none }
def cellHeadsRow : OpenClaim := { program := "ytoanmgnoonmkbaadoor", sum := "0900769a2dba808a24b0e4d523ac9a2990930cd0fb682cdf3ce87080f75c57ee", func := "midden/middenlaw2.CellHeads", spec := "cellHeads", named := ["midden/cell.kinds", "midden/cell.begins"], apart := false, laid := [("midden/cell.kinds", laid_midden_cell_kinds), ("midden/cell.begins", laid_midden_cell_begins)] }
def CellHeadsSaid : Prop := cellHeadsRow.holds Tryd.pinned (OpenSpec.ofChange cellHeadsSpec)

/-- ITS FALSE NEIGHBOUR: 'it returns false'. Refute it at one input. -/
def cellHeadsWrong : ChangeSpec := { name := "cellHeads", fn := fun _ => fun
  | [d1, d2] => { results := [.lit (.bool false)], args := [d1, d2] }
  | _ => none }
def CellHeadsWrongFalsely : Prop := cellHeadsRow.holds Tryd.pinned (OpenSpec.ofChange cellHeadsWrong)

/-- 'middenlaw2.CellCounts': WHATEVER THE INPUT: true; the input reads as it did. -/
def cellCountsSpec : ChangeSpec := { name := "cellCounts", fn := fun _ => fun
  | [d1, d2] => { results := [.lit (.bool true)], args := [d1, d2] }
  | _ => none }
def cellCountsRow : OpenClaim := { program := "ytoanmgnoonmkbaadoor", sum := "0900769a2dba808a24b0e4d523ac9a2990930cd0fb682cdf3ce87080f75c57ee", func := "midden/middenlaw2.CellCounts", spec := "cellCounts", named := ["midden/cell.begins"], apart := false, laid := [("midden/cell.begins", laid_midden_cell_begins)] }
def CellCountsSaid : Prop := cellCountsRow.holds Tryd.pinned (OpenSpec.ofChange cellCountsSpec)

/-- ITS FALSE NEIGHBOUR: 'it returns false'. Refute it at one input. -/
def cellCountsWrong : ChangeSpec := { name := "cellCounts", fn := fun _ => fun
  | [d1, d2] => { results := [.lit (.bool false)], args := [d1, d2] }
  | _ => none }
def CellCountsWrongFalsely : Prop := cellCountsRow.holds Tryd.pinned (OpenSpec.ofChange cellCountsWrong)

/-- 'middenlaw2.CellTurns': WHATEVER THE INPUT: true; the input reads as it did. -/
def cellTurnsSpec : ChangeSpec := { name := "cellTurns", fn := fun _ => fun
  | [d1, d2, d3] => { results := [.lit (.bool true)], args := [d1, d2, d3] }
  | _ => none }
def cellTurnsRow : OpenClaim := { program := "ytoanmgnoonmkbaadoor", sum := "0900769a2dba808a24b0e4d523ac9a2990930cd0fb682cdf3ce87080f75c57ee", func := "midden/middenlaw2.CellTurns", spec := "cellTurns", unfollowed := true, recurses := true, named := ["midden/cell.begins", "midden/cell.kinds"], apart := false, laid := [("midden/cell.kinds", laid_midden_cell_kinds), ("midden/cell.begins", laid_midden_cell_begins)] }
def CellTurnsSaid : Prop := cellTurnsRow.holds Tryd.pinned (OpenSpec.ofChange cellTurnsSpec)

/-- ITS FALSE NEIGHBOUR: 'it returns false'. Refute it at one input. -/
def cellTurnsWrong : ChangeSpec := { name := "cellTurns", fn := fun _ => fun
  | [d1, d2, d3] => { results := [.lit (.bool false)], args := [d1, d2, d3] }
  | _ => none }
def CellTurnsWrongFalsely : Prop := cellTurnsRow.holds Tryd.pinned (OpenSpec.ofChange cellTurnsWrong)

/-- 'middenlaw2.CellBack': WHATEVER THE INPUT: true; the input reads as it did. -/
def cellBackSpec : ChangeSpec := { name := "cellBack", fn := fun _ => fun
  | [d1, d2, d3, d4, d5, d6, d7, d8] => { results := [.lit (.bool true)], args := [d1, d2, d3, d4, d5, d6, d7, d8] }
  | _ => none }
def cellBackRow : OpenClaim := { program := "ytoanmgnoonmkbaadoor", sum := "0900769a2dba808a24b0e4d523ac9a2990930cd0fb682cdf3ce87080f75c57ee", func := "midden/middenlaw2.CellBack", spec := "cellBack", unfollowed := true, recurses := true, named := ["midden/cell.kinds", "midden/cell.begins"], apart := false, laid := [("midden/cell.kinds", laid_midden_cell_kinds), ("midden/cell.begins", laid_midden_cell_begins)] }
def CellBackSaid : Prop := cellBackRow.holds Tryd.pinned (OpenSpec.ofChange cellBackSpec)

/-- ITS FALSE NEIGHBOUR: 'it returns false'. Refute it at one input. -/
def cellBackWrong : ChangeSpec := { name := "cellBack", fn := fun _ => fun
  | [d1, d2, d3, d4, d5, d6, d7, d8] => { results := [.lit (.bool false)], args := [d1, d2, d3, d4, d5, d6, d7, d8] }
  | _ => none }
def CellBackWrongFalsely : Prop := cellBackRow.holds Tryd.pinned (OpenSpec.ofChange cellBackWrong)

/- THE SECOND FORM. 'bulk': how many values and letters a reading holds, each counted each time it is reached (what is shared counts as often as it is met; a slice's spare places count too). A statement '..UptoSaid' is the law's where the arguments, and the package variables that the reading takes, are together of bulk at most 1048576: NARROWER than '..Said'. Prove '..Said' where nothing that the law and all that it calls make is longer than what came in: it says more and counts as full. Else prove '..UptoSaid'. A law counts once. -/
mutual
def uptoBulk {H : Type} : DataW H → Nat
  | .lit (.string bytes) => bytes.length + 1
  | .lit _ => 1
  | .nil => 1
  | .ptr d => uptoBulk d + 1
  | .slice elems spare => uptoBulkAll elems + uptoBulkAll spare + 1
  | .agg parts => uptoBulkAll parts + 1
  | .iface _ d => uptoBulk d + 1
  | .map entries => uptoBulkEntries entries + 1
  | .held _ => 1
def uptoBulkAll {H : Type} : List (DataW H) → Nat
  | [] => 0
  | d :: r => uptoBulk d + uptoBulkAll r
def uptoBulkEntries {H : Type} : List (Lit × DataW H) → Nat
  | [] => 0
  | x :: r => uptoBulkEntry x + uptoBulkEntries r
def uptoBulkEntry {H : Type} : Lit × DataW H → Nat
  | (.string bytes, d) => bytes.length + uptoBulk d + 1
  | (_, d) => uptoBulk d + 1
 end
def uptoSmall : (H : Type) → List (DataW H) → Bool := fun _ ds => decide (uptoBulkAll ds ≤ 1048576)
def OpenSpec.upto (s : _root_.Go.ChangeSpec) : _root_.Go.OpenSpec := { _root_.Go.OpenSpec.ofChange s with cond := some uptoSmall }

/-- 'middenlaw2.CellForms', WHERE WHAT IT READS IS OF BULK AT MOST 1048576: true; the input reads as it did. -/
def cellFormsUptoRow : OpenClaim := { program := "ytoanmgnoonmkbaadoor", sum := "0900769a2dba808a24b0e4d523ac9a2990930cd0fb682cdf3ce87080f75c57ee", func := "midden/middenlaw2.CellForms", spec := "cellForms", named := ["midden/cell.kinds", "midden/cell.begins"], apart := false, laid := [("midden/cell.kinds", laid_midden_cell_kinds), ("midden/cell.begins", laid_midden_cell_begins)], narrowed := true }
def CellFormsUptoSaid : Prop := cellFormsUptoRow.holds Tryd.pinned (OpenSpec.upto cellFormsSpec)

/-- 'middenlaw2.CellHeads', WHERE WHAT IT READS IS OF BULK AT MOST 1048576: true; the input reads as it did. -/
def cellHeadsUptoRow : OpenClaim := { program := "ytoanmgnoonmkbaadoor", sum := "0900769a2dba808a24b0e4d523ac9a2990930cd0fb682cdf3ce87080f75c57ee", func := "midden/middenlaw2.CellHeads", spec := "cellHeads", named := ["midden/cell.kinds", "midden/cell.begins"], apart := false, laid := [("midden/cell.kinds", laid_midden_cell_kinds), ("midden/cell.begins", laid_midden_cell_begins)], narrowed := true }
def CellHeadsUptoSaid : Prop := cellHeadsUptoRow.holds Tryd.pinned (OpenSpec.upto cellHeadsSpec)

/-- 'middenlaw2.CellCounts', WHERE WHAT IT READS IS OF BULK AT MOST 1048576: true; the input reads as it did. -/
def cellCountsUptoRow : OpenClaim := { program := "ytoanmgnoonmkbaadoor", sum := "0900769a2dba808a24b0e4d523ac9a2990930cd0fb682cdf3ce87080f75c57ee", func := "midden/middenlaw2.CellCounts", spec := "cellCounts", named := ["midden/cell.begins"], apart := false, laid := [("midden/cell.begins", laid_midden_cell_begins)], narrowed := true }
def CellCountsUptoSaid : Prop := cellCountsUptoRow.holds Tryd.pinned (OpenSpec.upto cellCountsSpec)

/-- 'middenlaw2.CellTurns', WHERE WHAT IT READS IS OF BULK AT MOST 1048576: true; the input reads as it did. -/
def cellTurnsUptoRow : OpenClaim := { program := "ytoanmgnoonmkbaadoor", sum := "0900769a2dba808a24b0e4d523ac9a2990930cd0fb682cdf3ce87080f75c57ee", func := "midden/middenlaw2.CellTurns", spec := "cellTurns", unfollowed := true, recurses := true, named := ["midden/cell.begins", "midden/cell.kinds"], apart := false, laid := [("midden/cell.kinds", laid_midden_cell_kinds), ("midden/cell.begins", laid_midden_cell_begins)], narrowed := true }
def CellTurnsUptoSaid : Prop := cellTurnsUptoRow.holds Tryd.pinned (OpenSpec.upto cellTurnsSpec)

/-- 'middenlaw2.CellBack', WHERE WHAT IT READS IS OF BULK AT MOST 1048576: true; the input reads as it did. -/
def cellBackUptoRow : OpenClaim := { program := "ytoanmgnoonmkbaadoor", sum := "0900769a2dba808a24b0e4d523ac9a2990930cd0fb682cdf3ce87080f75c57ee", func := "midden/middenlaw2.CellBack", spec := "cellBack", unfollowed := true, recurses := true, named := ["midden/cell.kinds", "midden/cell.begins"], apart := false, laid := [("midden/cell.kinds", laid_midden_cell_kinds), ("midden/cell.begins", laid_midden_cell_begins)], narrowed := true }
def CellBackUptoSaid : Prop := cellBackUptoRow.holds Tryd.pinned (OpenSpec.upto cellBackSpec)

end Rows
end Go.Proofs.YtoanmgnoonmkbaaDoor
