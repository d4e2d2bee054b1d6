/-
  MarksSets, MarksAsks, walked.
-/
import Derived.Test.YtlnfhnahnmblmaaDoorN21
set_option linter.unusedVariables false
set_option maxRecDepth 20000
namespace Go.Proofs.YtlnfhnahnmblmaaDoor
open Go.RowKit Go.Shelf

theorem sets_any (n : Int) (a : Option Addr) (cap : Nat) (ops : List Op4) (w : World) (hL : Laid w) (ho : LOps4 w.heap.size w a ops) :
    Calls Tryd.prog 7 #[.int .i64 n, .slice a ops.length cap] w fun e w' => e = .returned (.bool true) ∧ Below w.heap.size w w' := by
  have hc := play_any n a cap ops 1 1 w hL ho
  clear hL ho
  generalize ops.length = len at *
  go_enter Tryd.func7, Tryd.ntmps7
  go_wp2_with fail
  refine hc.mono ?_
  rintro e w1 ⟨rfl, h1⟩
  have H1 : Hid (Below w.heap.size w w1) := h1
  clear hc h1
  go_wp2
  go_ret
  exact ⟨rfl, H1.out⟩

theorem asks_any (n : Int) (a : Option Addr) (cap : Nat) (ops : List Op4) (w : World) (hL : Laid w) (ho : LOps4 w.heap.size w a ops) :
    Calls Tryd.prog 8 #[.int .i64 n, .slice a ops.length cap] w fun e w' => e = .returned (.bool true) ∧ Below w.heap.size w w' := by
  have hc := play_any n a cap ops 2 4 w hL ho
  have HC : Hid (∀ w', Below w.heap.size w w' → Calls Tryd.prog 27 #[.int .i64 n, .slice a ops.length cap, .int .i64 6, .int .i64 6] w' fun e w'' => e = .returned (.bool true) ∧ Below w'.heap.size w' w'') := fun w' l => play_any n a cap ops 6 6 w' (hL.below l) (fun i o h => by
    obtain ⟨hA, g, off, e, hg, r⟩ := (ho.below l) i o h
    exact ⟨hA, g, off, e, Nat.lt_of_lt_of_le hg l.size, r⟩)
  clear hL ho
  generalize ops.length = len at *
  go_enter Tryd.func8, Tryd.ntmps8
  go_wp2_with fail
  refine hc.mono ?_
  rintro e w1 ⟨rfl, h1⟩
  have hc2 := HC.out w1 h1
  have H1 : Hid (Below w.heap.size w w1) := h1
  clear hc h1 HC
  go_wp2_with fail
  refine hc2.mono ?_
  rintro e w2 ⟨rfl, h2⟩
  have H2 : Hid (Below w.heap.size w w2) := H1.out.trans (h2.mono H1.out.size)
  clear hc2 h2 H1
  go_wp2
  go_ret
  exact ⟨rfl, H2.out⟩
end Go.Proofs.YtlnfhnahnmblmaaDoor
