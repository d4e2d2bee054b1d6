/-
  A head in a block: what stores do to it.
-/
import Derived.Test.YtoanmgnoonmkbaaDoorCBk
set_option linter.unusedVariables false
namespace Go.Proofs.YtoanmgnoonmkbaaDoor
open Go.RowKit

/-- Block b holds a head. -/
structure Cel (w : World) (b : Nat) (s k p r a t : Int) (h : Bool) : Prop where
  at_ : w.heap[b]? = some (.cells (hcells s k p r a t h) 25 (0, 0))

theorem Cel.new (w : World) (s k p r a t : Int) (h : Bool) : Cel (w.alloc (.cells (hcells s k p r a t h) 25)) w.heap.size s k p r a t h := ⟨heap_alloc_new w _⟩

theorem Cel.lt {w : World} {b : Nat} {s k p r a t : Int} {h : Bool} (c : Cel w b s k p r a t h) : b < w.heap.size := (Array.getElem?_eq_some_iff.1 c.at_).1

theorem Cel.keep {w w' : World} {b B : Nat} {s k p r a t : Int} {h : Bool} (c : Cel w b s k p r a t h) (l : Below B w w') (hB : b < B) : Cel w' b s k p r a t h := ⟨(l.block b hB).trans c.at_⟩

theorem Cel.box {w : World} {b : Nat} {s k p r a t : Int} {h : Bool} (c : Cel w b s k p r a t h) : Box w b (.int .u64 s) (.int .i64 k) (.int .i64 p) (.int .i64 r) (.int .i64 a) (.int .i64 t) (.bool h) := by
  have hc := fun j => cell_of_row _ _ j _ _ _ c.at_
  have hf : ∀ j, w.frozen? ⟨b, j, none⟩ = false := fun j => by unfold World.frozen?; simp only [c.at_]; simp
  exact ⟨hc 0, hc 1, hc 2, hc 3, hc 4, hc 5, hc 6, hf 0, hf 1, hf 2, hf 3, hf 4, hf 5, hf 6⟩

theorem heap_set {w : World} {b t : Nat} {cs : Array Value} (h : w.heap[b]? = some (.cells cs t (0, 0))) (j : Nat) (u : Value) :
    (w.setCell ⟨b, j, none⟩ u).heap[b]? = some (.cells (cs.setIfInBounds j u) t (0, 0)) := by
  simp [World.setCell, Array.getElem?_modify, h]

theorem Cel.set0 {w : World} {b : Nat} {s k p r a t : Int} {h : Bool} (c : Cel w b s k p r a t h) (x : Int) : Cel (w.setCell ⟨b, 0, none⟩ (.int .u64 x)) b x k p r a t h := ⟨heap_set c.at_ 0 _⟩
theorem Cel.set1 {w : World} {b : Nat} {s k p r a t : Int} {h : Bool} (c : Cel w b s k p r a t h) (x : Int) : Cel (w.setCell ⟨b, 1, none⟩ (.int .i64 x)) b s x p r a t h := ⟨heap_set c.at_ 1 _⟩
theorem Cel.set2 {w : World} {b : Nat} {s k p r a t : Int} {h : Bool} (c : Cel w b s k p r a t h) (x : Int) : Cel (w.setCell ⟨b, 2, none⟩ (.int .i64 x)) b s k x r a t h := ⟨heap_set c.at_ 2 _⟩
theorem Cel.set3 {w : World} {b : Nat} {s k p r a t : Int} {h : Bool} (c : Cel w b s k p r a t h) (x : Int) : Cel (w.setCell ⟨b, 3, none⟩ (.int .i64 x)) b s k p x a t h := ⟨heap_set c.at_ 3 _⟩
theorem Cel.set5 {w : World} {b : Nat} {s k p r a t : Int} {h : Bool} (c : Cel w b s k p r a t h) (x : Int) : Cel (w.setCell ⟨b, 5, none⟩ (.int .i64 x)) b s k p r a x h := ⟨heap_set c.at_ 5 _⟩
theorem Cel.set4 {w : World} {b : Nat} {s k p r a t : Int} {h : Bool} (c : Cel w b s k p r a t h) (x : Int) : Cel (w.setCell ⟨b, 4, none⟩ (.int .i64 x)) b s k p r x t h := ⟨heap_set c.at_ 4 _⟩
theorem Cel.set6 {w : World} {b : Nat} {s k p r a t : Int} {h : Bool} (c : Cel w b s k p r a t h) (x : Bool) : Cel (w.setCell ⟨b, 6, none⟩ (.bool x)) b s k p r a t x := ⟨heap_set c.at_ 6 _⟩

theorem Cel.other {w : World} {b c : Nat} {s k p r a t : Int} {h : Bool} (l : Cel w b s k p r a t h) (hne : b ≠ c) (j : Nat) (u : Value) : Cel (w.setCell ⟨c, j, none⟩ u) b s k p r a t h := ⟨(Below.heap_setCell _ _ _ _ hne).trans l.at_⟩

/-- A head that is written over whole. -/
def put7 (w : World) (b : Nat) (s k p r a t : Int) (h : Bool) : World :=
  ((((((w.setCell ⟨b, 0, none⟩ (.int .u64 s)).setCell ⟨b, 1, none⟩ (.int .i64 k)).setCell ⟨b, 2, none⟩ (.int .i64 p)).setCell ⟨b, 3, none⟩ (.int .i64 r)).setCell ⟨b, 4, none⟩ (.int .i64 a)).setCell ⟨b, 5, none⟩ (.int .i64 t)).setCell ⟨b, 6, none⟩ (.bool h)

theorem put7_eq (w : World) (b : Nat) (s k p r a t : Int) (h : Bool) :
    ((((((w.setCell ⟨b, 0, none⟩ (.int .u64 s)).setCell ⟨b, 1, none⟩ (.int .i64 k)).setCell ⟨b, 2, none⟩ (.int .i64 p)).setCell ⟨b, 3, none⟩ (.int .i64 r)).setCell ⟨b, 4, none⟩ (.int .i64 a)).setCell ⟨b, 5, none⟩ (.int .i64 t)).setCell ⟨b, 6, none⟩ (.bool h) = put7 w b s k p r a t h := rfl

theorem Cel.put {w : World} {b : Nat} {s k p r a t : Int} {h : Bool} (c : Cel w b s k p r a t h) (s' k' p' r' a' t' : Int) (h' : Bool) : Cel (put7 w b s' k' p' r' a' t' h') b s' k' p' r' a' t' h' :=
  ((((((c.set0 s').set1 k').set2 p').set3 r').set4 a').set5 t').set6 h'

theorem Cel.putOther {w : World} {b c : Nat} {s k p r a t : Int} {h : Bool} (l : Cel w b s k p r a t h) (hne : b ≠ c) (s' k' p' r' a' t' : Int) (h' : Bool) : Cel (put7 w c s' k' p' r' a' t' h') b s k p r a t h :=
  ((((((l.other hne 0 _).other hne 1 _).other hne 2 _).other hne 3 _).other hne 4 _).other hne 5 _).other hne 6 _

theorem below_put {B : Nat} {w w' : World} {b : Nat} (l : Below B w w') (hb : B ≤ b) (s k p r a t : Int) (h : Bool) : Below B w (put7 w' b s k p r a t h) :=
  Below.setCell (Below.setCell (Below.setCell (Below.setCell (Below.setCell (Below.setCell (Below.setCell l hb _) hb _) hb _) hb _) hb _) hb _) hb _

theorem Laid.put {w0 w : World} (hL : Laid w0) {b : Nat} (l : Below w0.heap.size w0 w) (hb : w0.heap.size ≤ b) (s k p r a t : Int) (h : Bool) : Laid (put7 w b s k p r a t h) := hL.keep (below_put l hb s k p r a t h)

theorem size_sum {p r : Int} (q0 : 0 ≤ p) (q1 : p ≤ 4095) (r0 : 0 ≤ r) (r1 : r < 65536) : Value.bool (2 + p + r != IntKind.i64.wrap (IntKind.i64.wrap (2 + p) + r)) = Value.bool false := by
  simp (disch := omega) only [IntWalk.i64_in]
  simp

end Go.Proofs.YtoanmgnoonmkbaaDoor
