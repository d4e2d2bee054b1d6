/-
  Costs: which one is better, by the program and by the document.
-/
import Derived.Test.YtlbmlnmgbjhljaaTB1
set_option linter.unusedVariables false
set_option maxRecDepth 20000
namespace Go.Proofs.Ytlbmlnmgbjhljaa
open Go.RowKit

def cmpz (x y : Int) : Int := if x < y then -1 else if y < x then 1 else 0

theorem nan_any (x : Int) (w : World) : Calls Try.prog 18 #[.int .i64 x] w fun e w' => e = .returned (.bool false) ∧ w = w' := by
  go_enter Try.func18, Try.ntmps18
  go_wp2
  go_ret
  exact ⟨by simp, rfl⟩

theorem compare_any (x y : Int) (w : World) : Calls Try.prog 12 #[.int .i64 x, .int .i64 y] w fun e w' => e = .returned (.int .i64 (cmpz x y)) ∧ w = w' := by
  by_cases h1 : x < y
  · go_enter Try.func12, Try.ntmps12
    go_wp2_with (go_at_call 18; refine (nan_any _ _).mono ?_; rintro e w' ⟨rfl, rfl⟩)
    go_ret
    exact ⟨by simp [cmpz, h1], rfl⟩
  · have h1' : decide (x < y) = false := decide_eq_false h1
    by_cases h2 : y < x
    · go_enter Try.func12, Try.ntmps12
      go_wp2_with (go_at_call 18; refine (nan_any _ _).mono ?_; rintro e w' ⟨rfl, rfl⟩)
      go_ret
      exact ⟨by simp [cmpz, h1, h2], rfl⟩
    · have h2' : decide (y < x) = false := decide_eq_false h2
      go_enter Try.func12, Try.ntmps12
      go_wp2_with (go_at_call 18; refine (nan_any _ _).mono ?_; rintro e w' ⟨rfl, rfl⟩)
      go_ret
      exact ⟨by rw [show cmpz x y = 0 by unfold cmpz; rw [if_neg (by omega), if_neg (by omega)]]; rfl, rfl⟩

def or3 (x y z : Int) : Int := if x ≠ 0 then x else if y ≠ 0 then y else z

theorem or_any (x y z : Int) (b : Nat) (w : World) (h0 : w.cell? ⟨b, 0, none⟩ = some (.int .i64 x)) (h1 : w.cell? ⟨b, 1, none⟩ = some (.int .i64 y)) (h2 : w.cell? ⟨b, 2, none⟩ = some (.int .i64 z)) :
    Calls Try.prog 11 #[.slice (some ⟨b, 0, none⟩) 3 3] w fun e w' => e = .returned (.int .i64 (or3 x y z)) ∧ w = w' := by
  go_enter Try.func11, Try.ntmps11
  go_wp2
  go_loop [8] (fun n => ∃ j : Nat, j ≤ 3 ∧ n = .int .i64 j ∧ (0 < j → x = 0) ∧ (1 < j → y = 0) ∧ (2 < j → z = 0)) (fun n => 3 - (intOf n).toNat)
  case atStart => exact ⟨0, by omega, rfl, by omega, by omega, by omega⟩
  case round =>
    obtain ⟨j, hj, rfl, q0, q1, q2⟩ := hrel
    obtain rfl | rfl | rfl | rfl : j = 0 ∨ j = 1 ∨ j = 2 ∨ j = 3 := by omega
    · by_cases hx : x = 0
      · subst hx
        go_wp2
        go_round
        case rel => exact ⟨1, by omega, rfl, by simp, by omega, by omega⟩
        case measure => simp [intOf]
      · have hx' : (x == 0) = false := by simpa using hx
        go_wp2
        go_ret
        exact ⟨by simp [or3, hx], rfl⟩
    · have q0' := q0 (by decide)
      by_cases hx : y = 0
      · subst hx
        go_wp2
        go_round
        case rel => exact ⟨2, by omega, rfl, fun _ => q0', by simp, by omega⟩
        case measure => simp [intOf]
      · have hx' : (y == 0) = false := by simpa using hx
        go_wp2
        go_ret
        exact ⟨by simp [or3, hx], rfl⟩
    · have q0' := q0 (by decide)
      have q1' := q1 (by decide)
      by_cases hx : z = 0
      · subst hx
        go_wp2
        go_round
        case rel => exact ⟨3, by omega, rfl, fun _ => q0', fun _ => q1', by simp⟩
        case measure => simp [intOf]
      · have hx' : (z == 0) = false := by simpa using hx
        go_wp2
        go_ret
        exact ⟨by simp [or3], rfl⟩
    · have q0' := q0 (by decide)
      have q1' := q1 (by decide)
      have q2' := q2 (by decide)
      go_wp2
      go_ret
      exact ⟨by simp [or3], rfl⟩

/-- Goal and both costs in blocks. -/
structure Bx3 (w : World) (n : Nat) (g : Int) (a b : Cst) : Prop where
  g0 : w.cell? ⟨n, 0, none⟩ = some (.int .i64 g)
  ka : ∀ j v, (kcells a)[j]? = some v → w.cell? ⟨n + 1, j, none⟩ = some v
  kb : ∀ j v, (kcells b)[j]? = some v → w.cell? ⟨n + 2, j, none⟩ = some v

theorem Bx3.new (w : World) (g : Int) (a b : Cst) : Bx3 (((w.alloc (.cells #[.int .i64 g] 23)).alloc (.cells (kcells a) 25)).alloc (.cells (kcells b) 25)) w.heap.size g a b := by
  refine ⟨?_, fun j v hv => ?_, fun j v hv => ?_⟩
  · rw [cell_of_row _ _ 0 #[.int .i64 g] 23 (0, 0) ((Below.heap_alloc _ _ _ (by simp; omega)).trans ((Below.heap_alloc _ _ _ (by simp)).trans (heap_alloc_new w _)))]
    rfl
  · have h := heap_alloc_new (w.alloc (.cells #[.int .i64 g] 23)) (.cells (kcells a) 25)
    rw [cell_of_row _ _ j (kcells a) 25 (0, 0) ((Below.heap_alloc _ _ _ (by simp)).trans (by simpa using h))]
    exact hv
  · have h := heap_alloc_new ((w.alloc (.cells #[.int .i64 g] 23)).alloc (.cells (kcells a) 25)) (.cells (kcells b) 25)
    rw [cell_of_row _ _ j (kcells b) 25 (0, 0) (by simpa using h)]
    exact hv

theorem Bx3.below {w w' : World} {n m : Nat} {g : Int} {a b : Cst} (h : Bx3 w n g a b) (hb : Below m w w') (hm : n + 2 < m) : Bx3 w' n g a b :=
  ⟨(hb.cell (by show n < m; omega)).trans h.g0, fun j v hv => (hb.cell (by show n + 1 < m; omega)).trans (h.ka j v hv), fun j v hv => (hb.cell (by show n + 2 < m; omega)).trans (h.kb j v hv)⟩

end Go.Proofs.Ytlbmlnmgbjhljaa
