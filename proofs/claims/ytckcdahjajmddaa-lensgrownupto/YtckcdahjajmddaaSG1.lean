/-
  Images: what is the same is told to be the same: lists, objects.
-/
import Derived.Test.YtckcdahjajmddaaRM15
set_option linter.unusedVariables false
set_option maxRecDepth 20000
namespace Go.Proofs.Ytckcdahjajmddaa
open Go.RowKit Go.Shelf

end Go.Proofs.Ytckcdahjajmddaa
