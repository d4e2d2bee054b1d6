/-
  step: any call of a script.
-/
import Derived.Test.YtpiemfchjlihfaaDoorBS6
import Derived.Test.YtpiemfchjlihfaaDoorBS7
set_option linter.unusedVariables false
set_option maxRecDepth 20000
namespace Go.Proofs.YtpiemfchjlihfaaDoor
open Go.RowKit Go.Shelf

theorem step_any {n0 : Nat} {w : World} {wb b ab ag nt : Nat} {c : Cfg} {top : Nat} {ws : Nat → Int} {B : Bfs} {L : List Sg} {Th : List Ob} {lv : Value} (S : Ws n0 w wb b ab ag nt c top ws B L Th lv) (hn0 : n0 ≤ w.heap.size) (o : Op13) (ho : o.Ok) :
    Calls Tryd.prog 15 #[.pointer (some ⟨wb, 0, none⟩), o.val] w fun e w' => e = .returned (.bool true) ∧ Below n0 w w' ∧ ∃ top' ws' B' L' Th' lv', Ws n0 w' wb b ab ag nt c top' ws' B' L' Th' lv' ∧ B'.size = B.size := by
  by_cases h1 : o.k = 1
  · exact step_put S hn0 o ho h1
  · by_cases h4 : o.k = 4
    · exact (step_retire S hn0 o ho h4).mono fun e w' ⟨e1, e2, e3⟩ => ⟨e1, e3, top, ws, _, L, Th, lv, e2, rfl⟩
    · by_cases h5 : o.k = 5
      · exact step_eden S hn0 o ho h5
      · by_cases h6 : o.k = 6
        · exact step_raw S hn0 o ho h6
        · exact step_none S hn0 o ho h1 h4 h5 h6 trivial

end Go.Proofs.YtpiemfchjlihfaaDoor
