/-
  known.
-/
import Derived.Test.YtdcmpilgfkaamaaDoorT7
set_option linter.unusedVariables false
set_option maxRecDepth 20000
namespace Go.Proofs.YtdcmpilgfkaamaaDoor
open Go.RowKit

def wk1 : Nat → Int := fun i => if i = 1 then 20 else if i = 2 then 10 else if i = 3 then 5 else 0
def wk2 : Nat → Int := fun i => if i = 1 then 33 else 0
def wk3 : Nat → Int := fun i => if i = 4 then 65536 else 0

theorem wk1_ok : Wk wk1 := fun i _ => by unfold wk1; split <;> (try split) <;> (try split) <;> omega
theorem wk2_ok : Wk wk2 := fun i _ => by unfold wk2; split <;> omega
theorem wk3_ok : Wk wk3 := fun i _ => by unfold wk3; split <;> omega

theorem nx1 : IsNext 32 4 wk1 3 := ⟨by decide, by decide, fun a h1 h2 => by
  have : a = 1 ∨ a = 2 := by omega
  rcases this with rfl | rfl <;> decide, .inr (by decide)⟩
theorem nx2 : IsNext 32 4 wk2 1 := ⟨by decide, by decide, fun a h1 h2 => by omega, .inr (by decide)⟩
theorem nx3 : IsNext 32 4 wk3 4 := ⟨by decide, by decide, fun a h1 h2 => by
  have : a = 1 ∨ a = 2 ∨ a = 3 := by omega
  rcases this with rfl | rfl | rfl <;> decide, .inl rfl⟩

theorem eav1 : (#[.int .i64 0, .int .i64 20, .int .i64 10, .int .i64 5, .int .i64 0, .int .i64 0, .int .i64 0, .int .i64 0, .int .i64 0, .int .i64 0, .int .i64 0, .int .i64 0, .int .i64 0, .int .i64 0, .int .i64 0, .int .i64 0] : Array Value) = av wk1 := by kernel_rfl
theorem eav2 : (#[.int .i64 0, .int .i64 33, .int .i64 0, .int .i64 0, .int .i64 0, .int .i64 0, .int .i64 0, .int .i64 0, .int .i64 0, .int .i64 0, .int .i64 0, .int .i64 0, .int .i64 0, .int .i64 0, .int .i64 0, .int .i64 0] : Array Value) = av wk2 := by kernel_rfl
theorem eav3 : (#[.int .i64 0, .int .i64 0, .int .i64 0, .int .i64 0, .int .i64 65536, .int .i64 0, .int .i64 0, .int .i64 0, .int .i64 0, .int .i64 0, .int .i64 0, .int .i64 0, .int .i64 0, .int .i64 0, .int .i64 0, .int .i64 0] : Array Value) = av wk3 := by kernel_rfl

/-- Turn, whose answer is known. -/
theorem turn_is {w : World} {b : Nat} {wa : Int} {mo n : Nat} {f : Nat → Int} (H : Tn w b wa mo f n) (ws : Nat → Int) (hw : Wk ws) (r : Nat) (hr : IsNext wa mo ws r) :
    Calls Tryd.prog 14 #[.pointer (some ⟨b, 0, none⟩), .agg (av ws)] w fun e w' => e = .returned (.tuple #[.int .i64 (r : Int), .int .i64 0]) ∧ Tn w' b wa mo (wf f n r) (wn n) ∧ Touch [b] w w' := by
  refine (turn_ok H ws hw).mono ?_
  rintro e w' ⟨s, rfl, h1, h2, h3⟩
  obtain rfl := h1.unique hr
  exact ⟨rfl, h2, h3⟩

end Go.Proofs.YtdcmpilgfkaamaaDoor
