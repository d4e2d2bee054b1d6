/-
  begin: where there is no map.
-/
import Derived.Test.YtlnfhnahnmblmabDoorN2
set_option linter.unusedVariables false
set_option maxRecDepth 20000
namespace Go.Proofs.YtlnfhnahnmblmabDoor
open Go.RowKit Go.Shelf

set_option maxHeartbeats 2000000 in
theorem begin_no (n : Int) (h : n < 0 ∨ 1048576 < n) (w : World) :
    Calls Tryd.prog 7 #[.int .i64 n] w fun r w' => r = .returned (.tuple #[.pointer none, .bool true]) ∧ Below w.heap.size w w' := by
  have c1 := new_out n h w
  have c2 := rnew_out n h w
  have c3 := num_any 40 w
  clear h
  go_enter Tryd.func7, Tryd.ntmps7
  go_wp2_with fail
  refine c1.mono ?_
  rintro r w1 ⟨rfl, rfl⟩
  clear c1
  go_wp2_with fail
  refine c2.mono ?_
  rintro r w1 ⟨rfl, rfl⟩
  clear c2
  go_wp2_with fail
  refine c3.mono ?_
  rintro r w1 ⟨rfl, rfl⟩
  clear c3
  go_wp2
  go_ret2
  exact ⟨rfl, Below.refl _ _⟩
end Go.Proofs.YtlnfhnahnmblmabDoor
