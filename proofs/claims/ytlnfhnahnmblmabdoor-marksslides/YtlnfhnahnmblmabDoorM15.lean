/-
  known: the chapter's example.
-/
import Derived.Test.YtlnfhnahnmblmabDoorM14
set_option linter.unusedVariables false
set_option maxRecDepth 100000
namespace Go.Proofs.YtlnfhnahnmblmabDoor
open Go.RowKit Go.Shelf

def km (k : Nat) : Bool := (decide (3 ≤ k) && decide (k < 8)) || (decide (64 ≤ k) && decide (k < 135))

theorem km_fil : fil 200 (([3, 4, 6, 2, 64, 1, 65, 70] : List Int).take 600) (fun _ => false) = km := by
  have h : fil 200 (([3, 4, 6, 2, 64, 1, 65, 70] : List Int).take 600) (fun _ => false) = add (add (add (add (fun _ => false) 3 7) 6 8) 64 65) 65 135 := by
    simp [fil, fil1]
  rw [h]
  funext k
  simp only [add, km, Bool.false_or]
  rw [Bool.eq_iff_iff]
  simp only [Bool.or_eq_true, Bool.and_eq_true, decide_eq_true_eq]
  omega

theorem km_rk : rk km 200 = 76 := by decide
theorem km_cut : rk (cut km 1 200) 200 = 76 := by decide
theorem km_134 : rk (cut km 1 200) 134 = 75 := by decide
theorem km_sk : Sk km false 8 200 64 := .inr ⟨by decide, by decide, by decide, fun k h1 h2 => by simp only [km]; rw [Bool.eq_false_iff]; simp only [ne_eq, Bool.or_eq_true, Bool.and_eq_true, decide_eq_true_eq]; omega⟩

theorem eight_lst (w : World) : Lst (w.alloc (.cells #[.int .i64 3, .int .i64 4, .int .i64 6, .int .i64 2, .int .i64 64, .int .i64 1, .int .i64 65, .int .i64 70] 3)) (some ⟨w.heap.size, 0, none⟩) [3, 4, 6, 2, 64, 1, 65, 70] := by
  intro i u hu
  have hc : ∀ j, (w.alloc (.cells #[.int .i64 3, .int .i64 4, .int .i64 6, .int .i64 2, .int .i64 64, .int .i64 1, .int .i64 65, .int .i64 70] 3)).cell? ⟨w.heap.size, j, none⟩ = (#[.int .i64 3, .int .i64 4, .int .i64 6, .int .i64 2, .int .i64 64, .int .i64 1, .int .i64 65, .int .i64 70] : Array Value)[j]? := fun j => cell_of_row _ _ j _ _ _ (heap_alloc_new w _)
  match i, hu with
  | 0, h | 1, h | 2, h | 3, h | 4, h | 5, h | 6, h | 7, h =>
    simp at h
    subst h
    exact ⟨by decide, _, 0, rfl, by simp, by rw [Nat.zero_add]; exact hc _⟩
  | j + 8, h => simp at h

end Go.Proofs.YtlnfhnahnmblmabDoor
