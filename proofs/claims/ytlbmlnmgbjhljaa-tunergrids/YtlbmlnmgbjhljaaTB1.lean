/-
  Costs: which one is better, by the program.
-/
import Derived.Test.YtlbmlnmgbjhljaaPC1
import Derived.Test.YtlbmlnmgbjhljaaKGB
set_option linter.unusedVariables false
set_option maxRecDepth 20000
namespace Go.Proofs.Ytlbmlnmgbjhljaa
open Go.RowKit

/-- A cost. -/
structure Cst where
  ops : Int
  made : Int
  minors : Int
  alls : Int
  majors : Int
  failed : Int
  freed : Int
  promoted : Int
  worst : Int
  total : Int

abbrev kcells (k : Cst) : Array Value := #[.int .i64 k.ops, .int .i64 k.made, .int .i64 k.minors, .int .i64 k.alls, .int .i64 k.majors, .int .i64 k.failed, .int .i64 k.freed, .int .i64 k.promoted, .int .i64 k.worst, .int .i64 k.total]
abbrev kv (k : Cst) : Value := .agg (kcells k)
abbrev gv (g : Int) : Value := .agg #[.int .i64 g]

/-- P22.2, the first of its rules. -/
def miss (g : Int) (k : Cst) : Bool := decide (0 < g ∧ g < k.worst)
/-- P22.2. -/
def bet (g : Int) (a b : Cst) : Bool :=
  if miss g a = miss g b then
    if a.failed = b.failed then
      if a.total = b.total then decide (a.worst < b.worst) else decide (a.total < b.total)
    else decide (a.failed < b.failed)
  else miss g b

theorem misses_any (g : Int) (k : Cst) (w : World) :
    Calls Try.prog 10 #[gv g, kv k] w fun e w' => e = .returned (.bool (miss g k)) ∧ Below w.heap.size w w' := by
  obtain ⟨w2, hw2⟩ : ∃ x, x = (w.alloc (.cells #[.int .i64 g] 23)).alloc (.cells (kcells k) 25) := ⟨_, rfl⟩
  have hB : Below w.heap.size w w2 := by rw [hw2]; exact Below.alloc (Below.alloc (Below.refl _ _) (Nat.le_refl _) _) (by simp) _
  have c0 : w2.cell? ⟨w.heap.size, 0, none⟩ = some (.int .i64 g) := by
    rw [hw2, cell_of_row _ _ 0 #[.int .i64 g] 23 (0, 0) ((Below.heap_alloc _ _ _ (by simp)).trans (heap_alloc_new w _))]
    rfl
  have c1 : w2.cell? ⟨w.heap.size + 1, 8, none⟩ = some (.int .i64 k.worst) := by
    have h := heap_alloc_new (w.alloc (.cells #[.int .i64 g] 23)) (.cells (kcells k) 25)
    rw [hw2, cell_of_row _ _ 8 (kcells k) 25 (0, 0) (by simpa using h)]
    rfl
  have HB : Hid _ := hB
  clear hB
  by_cases h1 : 0 < g
  · have hx : Hid (miss g k = decide (g < k.worst)) := by show _ = _; simp [miss, h1]
    go_enter Try.func10, Try.ntmps10
    go_upto_region 1 with fail
    rw [← hw2]
    clear hw2
    go_wp2
    go_ret
    exact ⟨by rw [hx.out]; rfl, HB.out⟩
  · have hx : Hid (miss g k = false) := by show _ = _; simp [miss, h1]
    have h1' : decide (0 < g) = false := decide_eq_false h1
    go_enter Try.func10, Try.ntmps10
    go_upto_region 1 with fail
    rw [← hw2]
    clear hw2
    go_wp2
    go_ret
    exact ⟨by rw [hx.out]; rfl, HB.out⟩

end Go.Proofs.Ytlbmlnmgbjhljaa
