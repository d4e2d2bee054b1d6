/-
  What Map is handed: the turner, of texts.
-/
import Derived.Test.YtcjblafohfiiaabGreatXQl
set_option linter.unusedVariables false
namespace Go.Proofs.YtcjblafohfiiaabGreat.Tx
open Go.RowKit Go.Shelf

/-- What the turner makes of a text. -/
def trd (n : Int) (x : ByteArray) : ByteArray := if (100 : Int) < (x.size : Int) then ⟨#[]⟩ else x ++ ⟨#[43]⟩

set_option maxRecDepth 20000 in
set_option maxHeartbeats 1000000 in
theorem of_core (b base : Nat) (n : Int) (x : ByteArray) (v told : Value) (xs : List ByteArray) (w : World) (hh : w.heap[b]? = some (.cells #[.int .i64 n, told, v] 94 (0, 0))) (hr : w.ownsRow base 9 1 v xs.length (strs xs))
    (hbase : base ≤ w.heap.size) (hlen : xs.length < 1000000) :
    Calls Tryz.prog 49 #[.pointer (some ⟨b, 0, none⟩), .string x] w fun e w' => e = .returned (.string (trd n x)) ∧
      ∃ v' w1, w' = w1.setCell ⟨b, 2, none⟩ v' ∧ w1.ownsRow base 9 1 v' (xs.length + 1) (strs xs ++ [.string x]) ∧ (w.alloc (.cells #[.string x] 9)).grownBy w1 v.ownBlock ∧ (v'.ownBlock = v.ownBlock ∨ v'.ownBlock = some (w.heap.size + 1)) := by
  have hc1 := heap_cell hh 2
  simp only [List.getElem?_toArray, List.getElem?_cons_zero, List.getElem?_cons_succ] at hc1
  have hf1 := heap_frozen hh 2
  have hbl := heap_lt hh
  have hne : some b ≠ v.ownBlock := row_ne hh hr
  clear hh
  obtain ⟨i0, hi, hz0, hz1, hz2⟩ := info_parts Tryz.infoStr
  by_cases hbig : (100 : Int) < (x.size : Int)
  · have et : trd n x = ⟨#[]⟩ := by unfold trd; rw [if_pos hbig]
    rw [et]
    clear et
    go_enter Tryz.func49, Tryz.ntmps49
    go_wp2_with (at_builtin; refine wpList_append_own_at _ rfl _ _ 72 rfl base 9 i0 (.string ⟨#[]⟩) 1 16 Tryz.underlying72 hi hz0 hz1 hz2 rfl (by decide) _ _ _ rfl (hr.alloc _) ⟨w.heap.size, 0, none⟩ 1 1 [.string x] rfl rfl (cell_one_new _ _ _) (by simp [Value.oneCell']) (by simp [maxLen]; omega) (by omega) (by simp; omega) ?_)
    intro v' w1 hown' hgrow _ hat
    obtain ⟨g', cap', rfl⟩ := ownsRow_succ hown'
    have hcw : w1.cell? ⟨b, 2, none⟩ = some v := hgrow.cell (a := ⟨b, 2, none⟩) ((World.grownBy_alloc w _ none).cell (a := ⟨b, 2, none⟩) hc1 (by simp)) hne
    have hfw : w1.frozen? ⟨b, 2, none⟩ = false := by
      rw [World.frozen?_of_block (w := w.alloc (.cells #[.string x] 9)) (hgrow.block b (by simp; omega) hne), World.frozen?_of_block (w := w) (Below.heap_alloc _ _ b hbl)]
      exact hf1
    go_wp2
    go_ret
    exact ⟨rfl, _, w1, rfl, hown', hgrow, by simpa using hat⟩
  · have et : trd n x = x ++ ⟨#[43]⟩ := by unfold trd; rw [if_neg hbig]
    rw [et]
    clear et
    go_enter Tryz.func49, Tryz.ntmps49
    go_wp2_with (at_builtin; refine wpList_append_own_at _ rfl _ _ 72 rfl base 9 i0 (.string ⟨#[]⟩) 1 16 Tryz.underlying72 hi hz0 hz1 hz2 rfl (by decide) _ _ _ rfl (hr.alloc _) ⟨w.heap.size, 0, none⟩ 1 1 [.string x] rfl rfl (cell_one_new _ _ _) (by simp [Value.oneCell']) (by simp [maxLen]; omega) (by omega) (by simp; omega) ?_)
    intro v' w1 hown' hgrow _ hat
    obtain ⟨g', cap', rfl⟩ := ownsRow_succ hown'
    have hcw : w1.cell? ⟨b, 2, none⟩ = some v := hgrow.cell (a := ⟨b, 2, none⟩) ((World.grownBy_alloc w _ none).cell (a := ⟨b, 2, none⟩) hc1 (by simp)) hne
    have hfw : w1.frozen? ⟨b, 2, none⟩ = false := by
      rw [World.frozen?_of_block (w := w.alloc (.cells #[.string x] 9)) (hgrow.block b (by simp; omega) hne), World.frozen?_of_block (w := w) (Below.heap_alloc _ _ b hbl)]
      exact hf1
    go_wp2
    go_ret
    exact ⟨rfl, _, w1, rfl, hown', hgrow, by simpa using hat⟩

end Go.Proofs.YtcjblafohfiiaabGreat.Tx
