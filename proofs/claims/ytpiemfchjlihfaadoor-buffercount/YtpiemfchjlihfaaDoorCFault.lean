/-
  Which heads may be.
-/
import Derived.Test.YtpiemfchjlihfaaDoorCRead
set_option linter.unusedVariables false
namespace Go.Proofs.YtpiemfchjlihfaaDoor
open Go.RowKit

/-- P2.2. -/
def flt (k p r a s : Int) : Int :=
  if k < 1 ∨ 4 < k ∨ (k = 2 ∧ p < 1) ∨ (k = 3 ∧ p < 2) then 20 else if p < 0 ∨ 4095 < p then 21 else if r < 0 ∨ 65535 < r then 22 else if a < 0 ∨ 15 < a then 23 else if s < 0 ∨ 255 < s then 24 else 0

set_option maxHeartbeats 400000 in
theorem within_any (n m : Int) (w : World) :
    Calls Tryd.prog 64 #[.int .i64 n, .int .i64 m] w fun e w' => e = .returned (.bool (decide (0 ≤ n ∧ n ≤ m))) ∧ w = w' := by
  by_cases h1 : 0 ≤ n
  · go_enter Tryd.func64, Tryd.ntmps64
    go_wp2
    go_ret
    simp [h1]
  · go_enter Tryd.func64, Tryd.ntmps64
    go_wp2
    go_ret
    simp
    omega

set_option maxHeartbeats 400000 in
theorem known_any (k : Int) (w : World) (hK : LaidK w) :
    Calls Tryd.prog 62 #[.int .i64 k] w fun e w' => e = .returned (.bool (decide (1 ≤ k ∧ k ≤ 4))) ∧ w = w' := by
  obtain ⟨c0, c1, c2, c3, c4, c5, c6, c7, c8, c9⟩ := hK
  by_cases h1 : 0 ≤ k ∧ k ≤ 4
  · obtain rfl | rfl | rfl | rfl | rfl : k = 0 ∨ k = 1 ∨ k = 2 ∨ k = 3 ∨ k = 4 := by omega
    all_goals
      go_enter Tryd.func62, Tryd.ntmps62
      go_wp2_with fail
      refine (within_any _ _ _).mono ?_
      rintro e w' ⟨rfl, rfl⟩
      go_wp2
      go_ret
      exact ⟨rfl, rfl⟩
  · go_enter Tryd.func62, Tryd.ntmps62
    go_wp2_with fail
    refine (within_any _ _ _).mono ?_
    rintro e w' ⟨rfl, rfl⟩
    rw [decide_eq_false h1]
    go_wp2
    go_ret
    refine ⟨?_, rfl⟩
    rw [decide_eq_false (by omega)]
    rfl

set_option maxHeartbeats 400000 in
theorem lacks_any (k p : Int) (h : 1 ≤ k ∧ k ≤ 4) (w : World) (hK : LaidK w) :
    Calls Tryd.prog 63 #[.int .i64 k, .int .i64 p] w fun e w' => e = .returned (.bool (decide ((k = 2 ∧ p < 1) ∨ (k = 3 ∧ p < 2)))) ∧ w = w' := by
  obtain ⟨c0, c1, c2, c3, c4, c5, c6, c7, c8, c9⟩ := hK
  obtain rfl | rfl | rfl | rfl : k = 1 ∨ k = 2 ∨ k = 3 ∨ k = 4 := by omega
  all_goals
    go_enter Tryd.func63, Tryd.ntmps63
    go_wp2
    go_ret
    simp

end Go.Proofs.YtpiemfchjlihfaaDoor
