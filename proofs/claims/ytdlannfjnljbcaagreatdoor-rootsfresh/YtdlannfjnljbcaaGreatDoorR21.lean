/-
  The asker; Update.
-/
import Derived.Test.YtdlannfjnljbcaaGreatDoorR20
set_option linter.unusedVariables false
namespace Go.Proofs.YtdlannfjnljbcaaGreatDoor
open Go.RowKit

/-- A list of numbers that came in, in a block below n. -/
def Came (n : Nat) (W : World) (a : Option Addr) (l : List Int) : Prop := ∀ (i : Nat) x, l[i]? = some x → ∃ g off, a = some ⟨g, off, none⟩ ∧ g < n ∧ W.cell? ⟨g, off + i, none⟩ = some (.int .i64 x)

theorem Came.keep {n : Nat} {W W' : World} {a : Option Addr} {l : List Int} (h : Came n W a l) (hb : ∀ k, k < n → W'.heap[k]? = W.heap[k]?) : Came n W' a l := fun i x hi => by
  obtain ⟨g, off, e, hg, hc⟩ := h i x hi
  exact ⟨g, off, e, hg, (World.cell?_of_block (w := W) (hb g hg)).trans hc⟩

/-- What Update's function answers. -/
def ansU (l : List Int) (pre : List Int) (_ : Int) : Int := adr (l.getD pre.length 0)

end Go.Proofs.YtdlannfjnljbcaaGreatDoor
