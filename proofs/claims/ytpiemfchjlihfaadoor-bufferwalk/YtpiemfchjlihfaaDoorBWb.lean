/-
  A box of seven cells that is written over.
-/
import Derived.Test.YtpiemfchjlihfaaDoorBW3
import Derived.Deep.CutRange
import Derived.Deep.RegionWith
import Derived.Deep.RegionHeld3

set_option linter.unusedVariables false
set_option maxRecDepth 20000
namespace Go.Proofs.YtpiemfchjlihfaaDoor
open Go.RowKit Go.Shelf

theorem set_at {w : World} {X : Nat} {cs : Array Value} {t : TypeId} (h : w.heap[X]? = some (.cells cs t)) (j : Nat) (u : Value) : (w.setCell ⟨X, j, none⟩ u).heap[X]? = some (.cells (cs.setIfInBounds j u) t) := by
  rw [setCell_eq_setRow _ _ _ _ _ _ _ h]
  exact setRow_heap _ _ _ _ _ _ h

theorem below_setC {B : Nat} {w w' : World} (l : Below B w w') {X : Nat} (hX : B ≤ X) (j : Nat) (u : Value) : Below B w (w'.setCell ⟨X, j, none⟩ u) :=
  ⟨l.os, l.tape, l.output, by have := l.size; simpa using this, fun k hk => (Below.heap_setCell _ _ _ _ (Nat.ne_of_lt (Nat.lt_of_lt_of_le hk hX))).trans (l.block k hk)⟩

theorem Box.of_at {w : World} {X : Nat} {t : TypeId} {c0 c1 c2 c3 c4 c5 c6 : Value} (h : w.heap[X]? = some (.cells #[c0, c1, c2, c3, c4, c5, c6] t)) : Box w X c0 c1 c2 c3 c4 c5 c6 := by
  have hc := fun j => cell_of_row _ _ j _ _ _ h
  have hf : ∀ j, w.frozen? ⟨X, j, none⟩ = false := fun j => by unfold World.frozen?; simp only [h]; simp
  exact ⟨hc 0, hc 1, hc 2, hc 3, hc 4, hc 5, hc 6, hf 0, hf 1, hf 2, hf 3, hf 4, hf 5, hf 6⟩

theorem seven_box {w : World} {X : Nat} {t : TypeId} {y0 y1 y2 y3 y4 y5 y6 : Value} (c0 c1 c2 c3 c4 c5 c6 : Value) (h : w.heap[X]? = some (.cells #[y0, y1, y2, y3, y4, y5, y6] t)) : Box (((((((w.setCell ⟨X, 0, none⟩ c0).setCell ⟨X, 1, none⟩ c1).setCell ⟨X, 2, none⟩ c2).setCell ⟨X, 3, none⟩ c3).setCell ⟨X, 4, none⟩ c4).setCell ⟨X, 5, none⟩ c5).setCell ⟨X, 6, none⟩ c6) X c0 c1 c2 c3 c4 c5 c6 := by
  have h7 := set_at (set_at (set_at (set_at (set_at (set_at (set_at h 0 c0) 1 c1) 2 c2) 3 c3) 4 c4) 5 c5) 6 c6
  exact Box.of_at (t := t) (h7.trans (by rfl))

theorem seven_below {B : Nat} {v w : World} {X : Nat} (c0 c1 c2 c3 c4 c5 c6 : Value) (l : Below B v w) (hX : B ≤ X) : Below B v (((((((w.setCell ⟨X, 0, none⟩ c0).setCell ⟨X, 1, none⟩ c1).setCell ⟨X, 2, none⟩ c2).setCell ⟨X, 3, none⟩ c3).setCell ⟨X, 4, none⟩ c4).setCell ⟨X, 5, none⟩ c5).setCell ⟨X, 6, none⟩ c6) :=
  below_setC (below_setC (below_setC (below_setC (below_setC (below_setC (below_setC l hX 0 c0) hX 1 c1) hX 2 c2) hX 3 c3) hX 4 c4) hX 5 c5) hX 6 c6

theorem box_over {v w1 : World} {c0 c1 c2 c3 c4 c5 c6 : Value} {t : TypeId} (l : Below (v.alloc (.cells #[c0, c1, c2, c3, c4, c5, c6] t)).drew.heap.size (v.alloc (.cells #[c0, c1, c2, c3, c4, c5, c6] t)).drew w1) : Hid (w1.heap[v.heap.size]? = some (.cells #[c0, c1, c2, c3, c4, c5, c6] t)) ∧ Box w1 v.heap.size c0 c1 c2 c3 c4 c5 c6 ∧ Below v.heap.size v w1 := by
  have b0 : Below v.heap.size v (v.alloc (.cells #[c0, c1, c2, c3, c4, c5, c6] t)) := Below.alloc (Below.refl _ _) (Nat.le_refl _) _
  have b1 : Below v.heap.size v (v.alloc (.cells #[c0, c1, c2, c3, c4, c5, c6] t)).drew := below_drewN b0 1
  have x0 := heap_alloc_new v (.cells #[c0, c1, c2, c3, c4, c5, c6] t)
  have hlt : v.heap.size < (v.alloc (.cells #[c0, c1, c2, c3, c4, c5, c6] t)).heap.size := (Array.getElem?_eq_some_iff.1 x0).1
  have h1 := (l.block v.heap.size hlt).trans x0
  exact ⟨h1, Box.of_at h1, b1.trans (l.mono b1.size)⟩

end Go.Proofs.YtpiemfchjlihfaaDoor
