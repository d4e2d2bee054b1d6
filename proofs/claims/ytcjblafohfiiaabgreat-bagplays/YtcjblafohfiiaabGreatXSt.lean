/-
  Rows of texts.
-/
import Derived.Test.YtcjblafohfiiaabGreatSt
set_option linter.unusedVariables false
namespace Go.Proofs.YtcjblafohfiiaabGreat.Tx
open Go.RowKit

theorem Tryz.infoStr : (Tryz.prog.info? 9).map (fun i => (i.zero, i.size, i.bytes)) = some (some (.string ⟨#[]⟩), 1, 16) := by kernel_rfl

abbrev strs (xs : List ByteArray) : List Value := xs.map Value.string

end Go.Proofs.YtcjblafohfiiaabGreat.Tx
