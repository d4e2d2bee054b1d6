/-
  No cell of these rows narrows 'for every input' (looked for: loops, veiled, ifaces, maps, wideKeys, modest, calm, conditions, laid).
  DERIVED. THE GIVEN ROWS OF THIS SEAT. 2 by the template 'for every input the law returns true; each argument reads behind the call as it read before'; 0 by the template 'total and deterministic' (their statements: YtcjblafohfiiaaaGreatTotals.lean).
  GIVEN WITH THE SEED: the statements are not yours to turn. If you find one false, say at which input.
  Laid BY PROGRAM, IN A SANDBOX (cutbox-rows.mjs): the forced cells as the released guide's own fill.sh prints them over the translation c6edf96ec5cc0f24… (all of the seat's roots in one cut). By AI agents, Wed Nov 11 2026. No macro, syntax, notation, axiom, sorry.
-/
import Derived.Test.YtcjblafohfiiaaaGreatChecked
import GoSem.Claim
import GoSem.ClaimJoined
import GoSem.ClaimMapViews
import Derived.JoinedTies
import Derived.KernelRfl
namespace Go.Proofs.YtcjblafohfiiaaaGreat
/- THE CELL 'sum', in the pinned program and in every row, IS THE sha256 OF THE DUMP (.gsa) THAT YtcjblafohfiiaaaGreatProg.lean LOADS. Nothing in Lean hashes anything: it is a label: what it is worth is what the hold of that sum in a sandbox is worth. -/
noncomputable def Tryz.pinned : Pinned := { name := "ytcjblafohfiiaaagreat", sum := "c6edf96ec5cc0f24f262b33db52d998414f775c8b632856f9a02cbc91f37fb39", checked := Tryz.checked }
namespace Rows
def none {H : Type} : Left H := { results := [], args := [] }

/-- 'middenlaw1.BagStacks': WHATEVER THE INPUT: true; the input reads as it did. -/
def bagStacksSpec : ChangeSpec := { name := "bagStacks", fn := fun _ => fun
  | [d1, d2, d3] => { results := [.lit (.bool true)], args := [d1, d2, d3] }
  | _ => none }
def bagStacksRow : OpenClaim := { program := "ytcjblafohfiiaaagreat", sum := "c6edf96ec5cc0f24f262b33db52d998414f775c8b632856f9a02cbc91f37fb39", func := "midden/middenlaw1.BagStacks", spec := "bagStacks", inPlace := ["slices.overlaps[int]", "slices.overlaps[uint64]", "slices.overlaps[string]"], unfollowed := true, recurses := true, apart := false }
def BagStacksSaid : Prop := bagStacksRow.holds Tryz.pinned (OpenSpec.ofChange bagStacksSpec)

/-- ITS FALSE NEIGHBOUR: 'it returns false'. Refute it at one input. -/
def bagStacksWrong : ChangeSpec := { name := "bagStacks", fn := fun _ => fun
  | [d1, d2, d3] => { results := [.lit (.bool false)], args := [d1, d2, d3] }
  | _ => none }
def BagStacksWrongFalsely : Prop := bagStacksRow.holds Tryz.pinned (OpenSpec.ofChange bagStacksWrong)

/-- 'middenlaw1.BagQueues': WHATEVER THE INPUT: true; the input reads as it did. -/
def bagQueuesSpec : ChangeSpec := { name := "bagQueues", fn := fun _ => fun
  | [d1, d2, d3] => { results := [.lit (.bool true)], args := [d1, d2, d3] }
  | _ => none }
def bagQueuesRow : OpenClaim := { program := "ytcjblafohfiiaaagreat", sum := "c6edf96ec5cc0f24f262b33db52d998414f775c8b632856f9a02cbc91f37fb39", func := "midden/middenlaw1.BagQueues", spec := "bagQueues", inPlace := ["slices.overlaps[int]", "slices.overlaps[uint64]", "slices.overlaps[string]"], unfollowed := true, recurses := true, apart := false }
def BagQueuesSaid : Prop := bagQueuesRow.holds Tryz.pinned (OpenSpec.ofChange bagQueuesSpec)

/-- ITS FALSE NEIGHBOUR: 'it returns false'. Refute it at one input. -/
def bagQueuesWrong : ChangeSpec := { name := "bagQueues", fn := fun _ => fun
  | [d1, d2, d3] => { results := [.lit (.bool false)], args := [d1, d2, d3] }
  | _ => none }
def BagQueuesWrongFalsely : Prop := bagQueuesRow.holds Tryz.pinned (OpenSpec.ofChange bagQueuesWrong)

/- THE SECOND FORM. 'bulk': how many values and letters a reading holds, each counted each time it is reached (what is shared counts as often as it is met; a slice's spare places count too). A statement '..UptoSaid' is the law's where the arguments, and the package variables that the reading takes, are together of bulk at most 1048576: NARROWER than '..Said'. Prove '..Said' where nothing that the law and all that it calls make is longer than what came in: it says more and counts as full. Else prove '..UptoSaid'. A law counts once. -/
mutual
def uptoBulk {H : Type} : DataW H → Nat
  | .lit (.string bytes) => bytes.length + 1
  | .lit _ => 1
  | .nil => 1
  | .ptr d => uptoBulk d + 1
  | .slice elems spare => uptoBulkAll elems + uptoBulkAll spare + 1
  | .agg parts => uptoBulkAll parts + 1
  | .iface _ d => uptoBulk d + 1
  | .map entries => uptoBulkEntries entries + 1
  | .held _ => 1
def uptoBulkAll {H : Type} : List (DataW H) → Nat
  | [] => 0
  | d :: r => uptoBulk d + uptoBulkAll r
def uptoBulkEntries {H : Type} : List (Lit × DataW H) → Nat
  | [] => 0
  | x :: r => uptoBulkEntry x + uptoBulkEntries r
def uptoBulkEntry {H : Type} : Lit × DataW H → Nat
  | (.string bytes, d) => bytes.length + uptoBulk d + 1
  | (_, d) => uptoBulk d + 1
 end
def uptoSmall : (H : Type) → List (DataW H) → Bool := fun _ ds => decide (uptoBulkAll ds ≤ 1048576)
def OpenSpec.upto (s : _root_.Go.ChangeSpec) : _root_.Go.OpenSpec := { _root_.Go.OpenSpec.ofChange s with cond := some uptoSmall }

/-- 'middenlaw1.BagStacks', WHERE WHAT IT READS IS OF BULK AT MOST 1048576: true; the input reads as it did. -/
def bagStacksUptoRow : OpenClaim := { program := "ytcjblafohfiiaaagreat", sum := "c6edf96ec5cc0f24f262b33db52d998414f775c8b632856f9a02cbc91f37fb39", func := "midden/middenlaw1.BagStacks", spec := "bagStacks", inPlace := ["slices.overlaps[int]", "slices.overlaps[uint64]", "slices.overlaps[string]"], unfollowed := true, recurses := true, apart := false, narrowed := true }
def BagStacksUptoSaid : Prop := bagStacksUptoRow.holds Tryz.pinned (OpenSpec.upto bagStacksSpec)

/-- 'middenlaw1.BagQueues', WHERE WHAT IT READS IS OF BULK AT MOST 1048576: true; the input reads as it did. -/
def bagQueuesUptoRow : OpenClaim := { program := "ytcjblafohfiiaaagreat", sum := "c6edf96ec5cc0f24f262b33db52d998414f775c8b632856f9a02cbc91f37fb39", func := "midden/middenlaw1.BagQueues", spec := "bagQueues", inPlace := ["slices.overlaps[int]", "slices.overlaps[uint64]", "slices.overlaps[string]"], unfollowed := true, recurses := true, apart := false, narrowed := true }
def BagQueuesUptoSaid : Prop := bagQueuesUptoRow.holds Tryz.pinned (OpenSpec.upto bagQueuesSpec)

end Rows
end Go.Proofs.YtcjblafohfiiaaaGreat
