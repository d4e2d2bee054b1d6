/-
  Images: is a graph small enough to be looked at?
-/
import Derived.Test.YtckcdahjajmddaaSG1
set_option linter.unusedVariables false
set_option maxRecDepth 20000
namespace Go.Proofs.Ytckcdahjajmddaa
open Go.RowKit Go.Shelf

def osum (l : List OL) : Nat := (l.map (fun x => x.o.ps.length + x.o.rs.length)).sum
def tsum (l : List (Value × List (Value × List Int))) : Nat := (l.map (fun x => x.2.length + fsum (x.2.map (·.2)))).sum

theorem osum_snoc {l : List OL} {k : Nat} {x : OL} (h : l[k]? = some x) : osum (l.take (k + 1)) = osum (l.take k) + (x.o.ps.length + x.o.rs.length) := by
  unfold osum
  rw [take_snocL h, List.map_append, List.sum_append]
  simp
theorem tsum_snoc {l : List (Value × List (Value × List Int))} {k : Nat} {x : Value × List (Value × List Int)} (h : l[k]? = some x) : tsum (l.take (k + 1)) = tsum (l.take k) + (x.2.length + fsum (x.2.map (·.2))) := by
  unfold tsum
  rw [take_snocL h, List.map_append, List.sum_append]
  simp

/-- How long what comes in may be. -/
structure Inb (os : List OL) (ts : List (Value × List (Value × List Int))) (g : Im.Gr) : Prop where
  o : os.length ≤ 1000000000000000
  ol : ∀ x, x ∈ os → x.o.ps.length ≤ 1000000000000000 ∧ x.o.rs.length ≤ 1000000000000000
  t : ts.length ≤ 1000000000000000
  tl : ∀ x, x ∈ ts → x.2.length ≤ 1000000000000000 ∧ ∀ y, y ∈ x.2 → y.2.length ≤ 1000000000000000
  h : g.hs.length ≤ 1000000000000000
  r : g.rg.length ≤ 1000000000000000
  q : g.qu.length ≤ 1000000000000000

def szs (os : List OL) (ts : List (Value × List (Value × List Int))) (g : Im.Gr) : Nat := os.length + ts.length + g.hs.length + g.rg.length + g.qu.length

end Go.Proofs.Ytckcdahjajmddaa
