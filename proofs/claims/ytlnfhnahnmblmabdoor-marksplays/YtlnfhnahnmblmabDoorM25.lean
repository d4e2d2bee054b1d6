/-
  What MarksFrozen tells the runs to, where nothing is changed.
-/
import Derived.Test.YtlnfhnahnmblmabDoorM24
set_option linter.unusedVariables false
set_option maxRecDepth 100000
namespace Go.Proofs.YtlnfhnahnmblmabDoor
open Go.RowKit Go.Shelf

/-- A list of one's own, in blocks from lo on, below hi. -/
def Lsc (lo hi : Nat) (w : World) (a : Option Addr) (l : List Int) : Prop :=
  ∀ i u, l[i]? = some u → ∃ g, lo ≤ g ∧ g < hi ∧ a = some ⟨g, 0, none⟩ ∧ w.cell? ⟨g, i, none⟩ = some (.int .i64 u)

theorem Lsc.touch {lo hi : Nat} {w w' : World} {a : Option Addr} {l : List Int} {F : List Nat} (h : Lsc lo hi w a l) (t : Touch F w w') (hF : ∀ k ∈ F, k < lo ∨ hi ≤ k) : Lsc lo hi w' a l := fun i u hu => by
  obtain ⟨g, h1, h2, h3, h4⟩ := h i u hu
  exact ⟨g, h1, h2, h3, t.cell h4 (fun hm => by have := hF _ hm; simp only at this; omega)⟩
theorem Lsc.below {lo hi : Nat} {w w' : World} {a : Option Addr} {l : List Int} (h : Lsc lo hi w a l) (t : Below w.heap.size w w') : Lsc lo hi w' a l := h.touch (Touch.of_below t []) (by simp)
theorem Lsb.c {B : Nat} {w : World} {a : Option Addr} {l : List Int} (h : Lsb B w a l) : Lsc B w.heap.size w a l := fun i u hu => by
  obtain ⟨g, h1, h2, h3⟩ := h i u hu
  exact ⟨g, h1, World.block_lt_of_cell? _ _ h3, h2, h3⟩

/-- Whether a run is the next one of a list: what is kept. -/
structure Cj (gB nB wB : Nat) (p : Option Addr) (C lo hi : Nat) (ws : List Int) (k : Nat) (W : World) : Prop where
  gd : Boxed W gB 4 (.bool true)
  nb : Boxed W nB 3 (.int .i64 (2 * k : Nat))
  wb : Boxed W wB 64 (.slice p ws.length C)
  ls : Lsc lo hi W p ws

theorem Cj.below {gB nB wB : Nat} {p : Option Addr} {C lo hi : Nat} {ws : List Int} {k : Nat} {W W' : World} (h : Cj gB nB wB p C lo hi ws k W) (l : Below W.heap.size W W') : Cj gB nB wB p C lo hi ws k W' :=
  ⟨box_below h.gd l, box_below h.nb l, box_below h.wb l, h.ls.below l⟩

end Go.Proofs.YtlnfhnahnmblmabDoor
