/-
  PolicyEnds: whatever is asked.
-/
import Derived.Test.YtcijdbhabbepaaaPE2
set_option linter.unusedVariables false
namespace Go.Proofs.Ytcijdbhabbepaaa.Po
open Go.RowKit Go.Proofs.Ytcijdbhabbepaaa.Kg

theorem ends_any (x : Ask) (w : World) (hx : AskIn w x) :
    Calls Try.prog 4 #[askv x] w fun e w' => e = .returned (.bool true) ∧ Below w.heap.size w w' := by
  by_cases fx : flt x.c x.base x.kind x.words = 0
  · exact ends_yes x w hx fx
  · exact ends_no x w hx fx

end Go.Proofs.Ytcijdbhabbepaaa.Po
