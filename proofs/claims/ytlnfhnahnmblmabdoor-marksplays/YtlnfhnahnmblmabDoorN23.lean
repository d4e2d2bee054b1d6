/-
  MarksRuns, MarksSlides, MarksPlays, walked.
-/
import Derived.Test.YtlnfhnahnmblmabDoorN21
set_option linter.unusedVariables false
set_option maxRecDepth 20000
namespace Go.Proofs.YtlnfhnahnmblmabDoor
open Go.RowKit Go.Shelf

theorem runsl_any (n : Int) (a : Option Addr) (cap : Nat) (ops : List Op4) (w : World) (hL : Laid w) (ho : LOps4 w.heap.size w a ops) :
    Calls Tryd.prog 3 #[.int .i64 n, .slice a ops.length cap] w fun e w' => e = .returned (.bool true) ∧ Below w.heap.size w w' := by
  have hc := play_any n a cap ops 5 5 w hL ho
  clear hL ho
  generalize ops.length = len at *
  go_enter Tryd.func3, Tryd.ntmps3
  go_wp2_with fail
  refine hc.mono ?_
  rintro e w1 ⟨rfl, h1⟩
  have H1 : Hid (Below w.heap.size w w1) := h1
  clear hc h1
  go_wp2
  go_ret
  exact ⟨rfl, H1.out⟩

theorem slidesl_any (n : Int) (a : Option Addr) (cap : Nat) (ops : List Op4) (w : World) (hL : Laid w) (ho : LOps4 w.heap.size w a ops) :
    Calls Tryd.prog 4 #[.int .i64 n, .slice a ops.length cap] w fun e w' => e = .returned (.bool true) ∧ Below w.heap.size w w' := by
  have hc := play_any n a cap ops 8 11 w hL ho
  clear hL ho
  generalize ops.length = len at *
  go_enter Tryd.func4, Tryd.ntmps4
  go_wp2_with fail
  refine hc.mono ?_
  rintro e w1 ⟨rfl, h1⟩
  have H1 : Hid (Below w.heap.size w w1) := h1
  clear hc h1
  go_wp2
  go_ret
  exact ⟨rfl, H1.out⟩

theorem playsl_any (n : Int) (a : Option Addr) (cap : Nat) (ops : List Op4) (w : World) (hL : Laid w) (ho : LOps4 w.heap.size w a ops) :
    Calls Tryd.prog 5 #[.int .i64 n, .slice a ops.length cap] w fun e w' => e = .returned (.bool true) ∧ Below w.heap.size w w' := by
  have hc := play_any n a cap ops 1 11 w hL ho
  clear hL ho
  generalize ops.length = len at *
  go_enter Tryd.func5, Tryd.ntmps5
  go_wp2_with fail
  refine hc.mono ?_
  rintro e w1 ⟨rfl, h1⟩
  have H1 : Hid (Below w.heap.size w w1) := h1
  clear hc h1
  go_wp2
  go_ret
  exact ⟨rfl, H1.out⟩

end Go.Proofs.YtlnfhnahnmblmabDoor
