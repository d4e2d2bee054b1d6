/-
  Check of an arena whose walks all come to their tops.
-/
import Derived.Test.YtfihjmoaibmllaaDoorHW
import Derived.Test.YtfihjmoaibmllaaDoorHR
set_option linter.unusedVariables false
namespace Go.Proofs.YtfihjmoaibmllaaDoor
open Go.RowKit Go.Shelf

theorem walk_in {c : Cfg} {ws : Nat → Int} {top p e : Int} {l : List Int} (h : Walk c ws top p l e) : 0 ≤ p → ∀ y ∈ l, 0 ≤ y ∧ y < top := by
  induction h with
  | done _ => intro _ y hy; simp at hy
  | fail _ _ => intro _ y hy; simp at hy
  | @obj a a' _ _ ht _ hp _ ih =>
    intro h0 y hy
    rcases List.mem_cons.1 hy with rfl | hy
    · exact ⟨h0, ht⟩
    · exact ih (by have := hp.ge; have := osz_in c ws a; omega) y hy

/-- A space's walk comes to its top. -/
def Comes (c : Cfg) (x : Tps) (ws : Nat → Int) (s : Int) : Prop := ∃ l p, Past c ws (x.top s) (fst c s) p ∧ Walk c ws (x.top s) p l (x.top s)

end Go.Proofs.YtfihjmoaibmllaaDoor
