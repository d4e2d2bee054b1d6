/-
  PolicyRoom: whatever the memory is.
-/
import Derived.Test.YtcijdbhabbepaaaPW5
set_option linter.unusedVariables false
namespace Go.Proofs.Ytcijdbhabbepaaa.Po
open Go.RowKit Go.Proofs.Ytcijdbhabbepaaa.Kg

theorem room_any (m : Mem12) (w : World) (hx : m.words < 9223372036854775808) :
    Calls Try.prog 5 #[memv m] w fun e w' => e = .returned (.bool true) ∧ Below w.heap.size w w' := by
  by_cases fx : flt m.c m.base 1 m.words = 0
  · exact room_yes m w hx fx
  · exact room_no m w hx fx

end Go.Proofs.Ytcijdbhabbepaaa.Po
