/-
  The book in memory.
-/
import Derived.Test.YtbgnagjhkfkekaaGreatDoorPKm
import Derived.Deep.Cut
import Derived.Deep.CutRange
import Derived.Handy
import Derived.Deep.MidRow
import Derived.Deep.WholeRow
import Derived.Maps.AppendAt
set_option linter.unusedVariables false
set_option maxRecDepth 20000
namespace Go.Proofs.YtbgnagjhkfkekaaGreatDoor.Kg
open Go.RowKit

/-- The cells of a book. -/
def bkc (f : Nat → Value) : Array Value := ((List.range 121).map f).toArray

theorem bkc_size (f : Nat → Value) : (bkc f).size = 121 := by simp [bkc]

theorem bkc_get (f : Nat → Value) (i : Nat) (h : i < 121) : (bkc f)[i]? = some (f i) := by simp [bkc, h]

/-- f, with another value at j. -/
def put (f : Nat → Value) (j : Nat) (v : Value) : Nat → Value := fun i => if i = j then v else f i

theorem put_same (f : Nat → Value) (j : Nat) (v : Value) : put f j v j = v := by simp [put]
theorem put_ne (f : Nat → Value) {j i : Nat} (v : Value) (h : i ≠ j) : put f j v i = f i := by simp [put, h]
theorem put_self (f : Nat → Value) (j : Nat) (v : Value) (h : f j = v) : put f j v = f := by
  funext i; unfold put; split
  · subst_vars; rfl
  · rfl

theorem bkc_set (f : Nat → Value) (i : Nat) (v : Value) (h : i < 121) : (bkc f).setIfInBounds i v = bkc (put f i v) := by
  apply Array.ext_getElem?
  intro j
  rw [Array.getElem?_setIfInBounds]
  by_cases hj : i = j
  · subst hj
    rw [if_pos rfl, bkc_get _ _ h, put_same]; simp [bkc_size]; omega
  · rw [if_neg hj]
    by_cases hj2 : j < 121
    · rw [bkc_get _ _ hj2, bkc_get _ _ hj2, put_ne _ _ (fun e => hj e.symm)]
    · rw [Array.getElem?_eq_none (by rw [bkc_size]; omega), Array.getElem?_eq_none (by rw [bkc_size]; omega)]

/-- A book in block b. -/
def Bk (w : World) (b : Nat) (f : Nat → Value) : Prop := w.heap[b]? = some (.cells (bkc f) 53 (0, 0))

theorem Bk.cell {w : World} {b : Nat} {f : Nat → Value} (h : Bk w b f) (i : Nat) (hi : i < 121 := by decide) : w.cell? ⟨b, i, none⟩ = some (f i) := (heap_cell h i).trans (bkc_get f i hi)
theorem Bk.frozen {w : World} {b : Nat} {f : Nat → Value} (h : Bk w b f) (i : Nat) : w.frozen? ⟨b, i, none⟩ = false := heap_frozen h i
theorem Bk.set {w : World} {b : Nat} {f : Nat → Value} (h : Bk w b f) (i : Nat) (v : Value) (hi : i < 121 := by decide) : Bk (w.setCell ⟨b, i, none⟩ v) b (put f i v) := by
  have := heap_set h i v
  rw [bkc_set f i v hi] at this
  exact this
theorem Bk.touch {w w' : World} {b : Nat} {f : Nat → Value} {G : List Nat} (h : Bk w b f) (ht : Touch G w w') (hb : b ∉ G) : Bk w' b f := (ht.block b (heap_lt h) hb).trans h
theorem Bk.lt {w : World} {b : Nat} {f : Nat → Value} (h : Bk w b f) : b < w.heap.size := heap_lt h

/-- The fields of a kind that nothing was put into. -/
structure Nil9 (f : Nat → Value) (o : Nat) : Prop where
  c0 : f o = .slice none 0 0
  c1 : f (o + 1) = .slice none 0 0
  c2 : f (o + 2) = .slice none 0 0
  c3 : f (o + 3) = .slice none 0 0
  c4 : f (o + 4) = .slice none 0 0
  c5 : f (o + 5) = .slice none 0 0
  c6 : f (o + 6) = .slice none 0 0
  c7 : f (o + 7) = .slice none 0 0

end Go.Proofs.YtbgnagjhkfkekaaGreatDoor.Kg
