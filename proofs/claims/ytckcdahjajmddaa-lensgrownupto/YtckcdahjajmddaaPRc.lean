import Derived.Test.YtckcdahjajmddaaPCa
import Derived.Deep.Cut
/-
  The document's own answer for heads.
-/
set_option linter.unusedVariables false
namespace Go.Proofs.Ytckcdahjajmddaa
open Go.RowKit

structure Good (k p : Int) : Prop where
  h : ¬ (k < 1 ∨ 4 < k ∨ (k = 2 ∧ p < 1) ∨ (k = 3 ∧ p < 2))

end Go.Proofs.Ytckcdahjajmddaa

/-
  The document's own answer: Pack, Unpack, Size.
-/
set_option linter.unusedVariables false
namespace Go.Proofs.Ytckcdahjajmddaa
open Go.RowKit

end Go.Proofs.Ytckcdahjajmddaa

