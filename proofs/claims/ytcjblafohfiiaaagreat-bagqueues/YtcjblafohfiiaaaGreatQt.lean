/-
  What Map is handed: the turner.
-/
import Derived.Test.YtcjblafohfiiaaaGreatQl
set_option linter.unusedVariables false
namespace Go.Proofs.YtcjblafohfiiaaaGreat
open Go.RowKit Go.Shelf

/-- What the turner makes of a number. -/
def trd (n x : Int) : Int := wrap64 (wrap64 (3 * x) + n)

set_option maxHeartbeats 1000000 in
theorem of_core (b base : Nat) (n x : Int) (v told : Value) (xs : List Int) (w : World) (hh : w.heap[b]? = some (.cells #[.int .i64 n, v, told] 93 (0, 0))) (hr : w.ownsRow base 3 1 v xs.length (ints xs))
    (hbase : base ≤ w.heap.size) (hlen : xs.length < 1000000) :
    Calls Tryz.prog 39 #[.pointer (some ⟨b, 0, none⟩), .int .i64 x] w fun e w' => e = .returned (.int .i64 (trd n x)) ∧
      ∃ v' w1, w' = w1.setCell ⟨b, 1, none⟩ v' ∧ w1.ownsRow base 3 1 v' (xs.length + 1) (ints xs ++ [.int .i64 x]) ∧ (w.alloc (.cells #[.int .i64 x] 3)).grownBy w1 v.ownBlock ∧ (v'.ownBlock = v.ownBlock ∨ v'.ownBlock = some (w.heap.size + 1)) := by
  have hc0 := heap_cell hh 0
  have hc1 := heap_cell hh 1
  simp only [List.getElem?_toArray, List.getElem?_cons_zero, List.getElem?_cons_succ] at hc0 hc1
  have hf1 := heap_frozen hh 1
  have hbl := heap_lt hh
  have hne : some b ≠ v.ownBlock := row_ne hh hr
  clear hh
  obtain ⟨i0, hi, hz0, hz1, hz2⟩ := info_parts Tryz.infoInt
  unfold trd
  go_enter Tryz.func39, Tryz.ntmps39
  go_wp2_with (at_builtin; refine wpList_append_own_at _ rfl _ _ 67 rfl base 3 i0 (.int .i64 0) 1 8 Tryz.underlying67 hi hz0 hz1 hz2 rfl (by decide) _ _ _ rfl (hr.alloc _) ⟨w.heap.size, 0, none⟩ 1 1 [.int .i64 x] rfl rfl (cell_one_new _ _ _) (by simp [Value.oneCell']) (by simp [maxLen]; omega) (by omega) (by simp; omega) ?_)
  intro v' w1 hown' hgrow _ hat
  obtain ⟨g', cap', rfl⟩ := ownsRow_succ hown'
  have hcw : w1.cell? ⟨b, 1, none⟩ = some v := hgrow.cell (a := ⟨b, 1, none⟩) ((World.grownBy_alloc w _ none).cell (a := ⟨b, 1, none⟩) hc1 (by simp)) hne
  have hcn : w1.cell? ⟨b, 0, none⟩ = some (.int .i64 n) := hgrow.cell (a := ⟨b, 0, none⟩) ((World.grownBy_alloc w _ none).cell (a := ⟨b, 0, none⟩) hc0 (by simp)) hne
  have hfw : w1.frozen? ⟨b, 1, none⟩ = false := by
    rw [World.frozen?_of_block (w := w.alloc (.cells #[.int .i64 x] 3)) (hgrow.block b (by simp; omega) hne), World.frozen?_of_block (w := w) (Below.heap_alloc _ _ b hbl)]
    exact hf1
  go_wp2
  go_ret
  exact ⟨rfl, _, w1, rfl, hown', hgrow, by simpa using hat⟩

end Go.Proofs.YtcjblafohfiiaaaGreat
