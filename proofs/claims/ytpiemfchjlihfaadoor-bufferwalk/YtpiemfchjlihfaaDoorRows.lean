/-
  NARROWER THAN 'FOR EVERY INPUT', by the rows' own cells (each row's printed sentence says how): BufferCount: laid · BufferWalk: laid.
  DERIVED. THE GIVEN ROWS OF THIS SEAT. 2 by the template 'for every input the law returns true; each argument reads behind the call as it read before'; 0 by the template 'total and deterministic' (their statements: YtpiemfchjlihfaaDoorTotals.lean).
  GIVEN WITH THE SEED: the statements are not yours to turn. If you find one false, say at which input.
  Laid BY PROGRAM, IN A SANDBOX (cutbox-rows.mjs): the forced cells as the released guide's own fill.sh prints them over the translation 75525ab8e2ce562a… (all of the seat's roots in one cut). By AI agents, Wed Nov 11 2026. No macro, syntax, notation, axiom, sorry.
-/
import Derived.Test.YtpiemfchjlihfaaDoorChecked
import GoSem.Claim
import GoSem.ClaimJoined
import GoSem.ClaimMapViews
import Derived.JoinedTies
import Derived.KernelRfl
namespace Go.Proofs.YtpiemfchjlihfaaDoor
/- THE CELL 'sum', in the pinned program and in every row, IS THE sha256 OF THE DUMP (.gsa) THAT YtpiemfchjlihfaaDoorProg.lean LOADS. Nothing in Lean hashes anything: it is a label: what it is worth is what the hold of that sum in a sandbox is worth. -/
noncomputable def Tryd.pinned : Pinned := { name := "ytpiemfchjlihfaadoor", sum := "75525ab8e2ce562a5705eb2f732a866720072c6b4feb6252c3a92d3c91594213", checked := Tryd.checked }
namespace Rows
def none {H : Type} : Left H := { results := [], args := [] }

/- WHAT THE LISTED PACKAGE-LEVEL VARIABLES READ AS WHEN THE CALL BEGINS. Each datum BY PROGRAM (the guide's laid-datum.mjs) off the statement by which the dump's own 'gosem.cut.vars' lays the variable. In a bare row this is a premise. The card (YtpiemfchjlihfaaDoorCards.lean) ties it to the program's text. -/
def laid_midden_cell_kinds {H : Type} : DataW H := .agg [.agg [.lit (.bool false), .lit (.int .i64 0)], .agg [.lit (.bool true), .lit (.int .i64 0)], .agg [.lit (.bool true), .lit (.int .i64 1)], .agg [.lit (.bool true), .lit (.int .i64 2)], .agg [.lit (.bool true), .lit (.int .i64 0)]]
def laid_midden_cell_begins {H : Type} : DataW H := .agg [.lit (.int .i64 0), .lit (.int .i64 2), .lit (.int .i64 5), .lit (.int .i64 6), .lit (.int .i64 10), .lit (.int .i64 18), .lit (.int .i64 30), .lit (.int .i64 46), .lit (.int .i64 64)]

/-- 'middenlaw13.BufferCount': WHATEVER THE INPUT: true; the input reads as it did. -/
def bufferCountSpec : ChangeSpec := { name := "bufferCount", fn := fun _ => fun
  | [d1, d2, d3] => { results := [.lit (.bool true)], args := [d1, d2, d3] }
  | _ => none }
def bufferCountRow : OpenClaim := { program := "ytpiemfchjlihfaadoor", sum := "75525ab8e2ce562a5705eb2f732a866720072c6b4feb6252c3a92d3c91594213", func := "midden/middenlaw13.BufferCount", spec := "bufferCount", named := ["midden/cell.kinds", "midden/cell.begins"], apart := false, laid := [("midden/cell.kinds", laid_midden_cell_kinds), ("midden/cell.begins", laid_midden_cell_begins)] }
def BufferCountSaid : Prop := bufferCountRow.holds Tryd.pinned (OpenSpec.ofChange bufferCountSpec)

/-- ITS FALSE NEIGHBOUR: 'it returns false'. Refute it at one input. -/
def bufferCountWrong : ChangeSpec := { name := "bufferCount", fn := fun _ => fun
  | [d1, d2, d3] => { results := [.lit (.bool false)], args := [d1, d2, d3] }
  | _ => none }
def BufferCountWrongFalsely : Prop := bufferCountRow.holds Tryd.pinned (OpenSpec.ofChange bufferCountWrong)

/-- 'middenlaw13.BufferWalk': WHATEVER THE INPUT: true; the input reads as it did. -/
def bufferWalkSpec : ChangeSpec := { name := "bufferWalk", fn := fun _ => fun
  | [d1, d2, d3, d4] => { results := [.lit (.bool true)], args := [d1, d2, d3, d4] }
  | _ => none }
def bufferWalkRow : OpenClaim := { program := "ytpiemfchjlihfaadoor", sum := "75525ab8e2ce562a5705eb2f732a866720072c6b4feb6252c3a92d3c91594213", func := "midden/middenlaw13.BufferWalk", spec := "bufferWalk", unfollowed := true, recurses := true, named := ["midden/cell.kinds", "midden/cell.begins"], apart := false, laid := [("midden/cell.kinds", laid_midden_cell_kinds), ("midden/cell.begins", laid_midden_cell_begins)] }
def BufferWalkSaid : Prop := bufferWalkRow.holds Tryd.pinned (OpenSpec.ofChange bufferWalkSpec)

/-- ITS FALSE NEIGHBOUR: 'it returns false'. Refute it at one input. -/
def bufferWalkWrong : ChangeSpec := { name := "bufferWalk", fn := fun _ => fun
  | [d1, d2, d3, d4] => { results := [.lit (.bool false)], args := [d1, d2, d3, d4] }
  | _ => none }
def BufferWalkWrongFalsely : Prop := bufferWalkRow.holds Tryd.pinned (OpenSpec.ofChange bufferWalkWrong)

/- THE SECOND FORM. 'bulk': how many values and letters a reading holds, each counted each time it is reached (what is shared counts as often as it is met; a slice's spare places count too). A statement '..UptoSaid' is the law's where the arguments, and the package variables that the reading takes, are together of bulk at most 1048576: NARROWER than '..Said'. Prove '..Said' where nothing that the law and all that it calls make is longer than what came in: it says more and counts as full. Else prove '..UptoSaid'. A law counts once. -/
mutual
def uptoBulk {H : Type} : DataW H → Nat
  | .lit (.string bytes) => bytes.length + 1
  | .lit _ => 1
  | .nil => 1
  | .ptr d => uptoBulk d + 1
  | .slice elems spare => uptoBulkAll elems + uptoBulkAll spare + 1
  | .agg parts => uptoBulkAll parts + 1
  | .iface _ d => uptoBulk d + 1
  | .map entries => uptoBulkEntries entries + 1
  | .held _ => 1
def uptoBulkAll {H : Type} : List (DataW H) → Nat
  | [] => 0
  | d :: r => uptoBulk d + uptoBulkAll r
def uptoBulkEntries {H : Type} : List (Lit × DataW H) → Nat
  | [] => 0
  | x :: r => uptoBulkEntry x + uptoBulkEntries r
def uptoBulkEntry {H : Type} : Lit × DataW H → Nat
  | (.string bytes, d) => bytes.length + uptoBulk d + 1
  | (_, d) => uptoBulk d + 1
 end
def uptoSmall : (H : Type) → List (DataW H) → Bool := fun _ ds => decide (uptoBulkAll ds ≤ 1048576)
def OpenSpec.upto (s : _root_.Go.ChangeSpec) : _root_.Go.OpenSpec := { _root_.Go.OpenSpec.ofChange s with cond := some uptoSmall }

/-- 'middenlaw13.BufferCount', WHERE WHAT IT READS IS OF BULK AT MOST 1048576: true; the input reads as it did. -/
def bufferCountUptoRow : OpenClaim := { program := "ytpiemfchjlihfaadoor", sum := "75525ab8e2ce562a5705eb2f732a866720072c6b4feb6252c3a92d3c91594213", func := "midden/middenlaw13.BufferCount", spec := "bufferCount", named := ["midden/cell.kinds", "midden/cell.begins"], apart := false, laid := [("midden/cell.kinds", laid_midden_cell_kinds), ("midden/cell.begins", laid_midden_cell_begins)], narrowed := true }
def BufferCountUptoSaid : Prop := bufferCountUptoRow.holds Tryd.pinned (OpenSpec.upto bufferCountSpec)

/-- 'middenlaw13.BufferWalk', WHERE WHAT IT READS IS OF BULK AT MOST 1048576: true; the input reads as it did. -/
def bufferWalkUptoRow : OpenClaim := { program := "ytpiemfchjlihfaadoor", sum := "75525ab8e2ce562a5705eb2f732a866720072c6b4feb6252c3a92d3c91594213", func := "midden/middenlaw13.BufferWalk", spec := "bufferWalk", unfollowed := true, recurses := true, named := ["midden/cell.kinds", "midden/cell.begins"], apart := false, laid := [("midden/cell.kinds", laid_midden_cell_kinds), ("midden/cell.begins", laid_midden_cell_begins)], narrowed := true }
def BufferWalkUptoSaid : Prop := bufferWalkUptoRow.holds Tryd.pinned (OpenSpec.upto bufferWalkSpec)

end Rows
end Go.Proofs.YtpiemfchjlihfaaDoor
