/-
  extents, New.
-/
import Derived.Test.YtpiemfchjlihfaaDoorA4
set_option linter.unusedVariables false
namespace Go.Proofs.YtpiemfchjlihfaaDoor
open Go.RowKit

abbrev iv4 (a b d e : Int) : Value := .agg #[.int .i64 a, .int .i64 b, .int .i64 d, .int .i64 e]

theorem jdx0 (a b d e : Int) (w : World) : (Instr.index 99 (iv4 a b d e) (.int .i64 0)).run Tryd.prog w = .ok (.int .i64 a) w := by kernel_rfl
theorem jdx1 (a b d e : Int) (w : World) : (Instr.index 99 (iv4 a b d e) (.int .i64 1)).run Tryd.prog w = .ok (.int .i64 b) w := by kernel_rfl
theorem jdx2 (a b d e : Int) (w : World) : (Instr.index 99 (iv4 a b d e) (.int .i64 2)).run Tryd.prog w = .ok (.int .i64 d) w := by kernel_rfl
theorem jdx3 (a b d e : Int) (w : World) : (Instr.index 99 (iv4 a b d e) (.int .i64 3)).run Tryd.prog w = .ok (.int .i64 e) w := by kernel_rfl

set_option maxHeartbeats 4000000 in
theorem extents_any (c : Cfg) (h : c.Ok) (w : World) :
    Calls Tryd.prog 21 #[cv c] w fun e w' => e = .returned (.tuple #[ev12 1 (1 + c.eden) 1 (1 + c.eden) (1 + c.eden + c.surv) (1 + c.eden) (1 + c.eden + c.surv) (1 + c.eden + c.surv + c.surv) (1 + c.eden + c.surv) (1 + c.eden + c.surv + c.surv) (1 + c.eden + c.surv + c.surv + c.ten) (1 + c.eden + c.surv + c.surv), .int .i64 (1 + c.eden + c.surv + c.surv + c.ten)]) ∧ Below w.heap.size w w' := by
  have q0 := h.e0
  have q1 := h.e1
  have q2 := h.s0
  have q3 := h.s1
  have q4 := h.t0
  have q5 := h.t1
  clear h
  have e0 := jdx0 c.eden c.surv c.surv c.ten
  have e1 := jdx1 c.eden c.surv c.surv c.ten
  have e2 := jdx2 c.eden c.surv c.surv c.ten
  have e3 := jdx3 c.eden c.surv c.surv c.ten
  go_enter Tryd.func21, Tryd.ntmps21
  go_wp2
  go_rounds 5
  go_returns
  refine ⟨rfl, ?_⟩
  go_grown

/-- The tops of a new arena. -/
def tops0 (c : Cfg) : Tps := ⟨1, 1 + c.eden, 1 + c.eden + c.surv, 1 + c.eden + c.surv + c.surv⟩

set_option maxHeartbeats 1000000 in
theorem new_no (c : Cfg) (h : ¬ c.Ok) (w : World) :
    Calls Tryd.prog 7 #[cv c] w fun e w' => e = .returned (.tuple #[.pointer none, .int .i64 30]) ∧ Below w.heap.size w w' := by
  have hv := valid_any c false (by simp [h]) (w.alloc (.cells (ccells c) 24))
  have b0 : Below w.heap.size w (w.alloc (.cells (ccells c) 24)) := Below.alloc (Below.refl _ _) (Nat.le_refl _) _
  clear h
  go_enter Tryd.func7, Tryd.ntmps7
  go_wp2_with fail
  refine hv.mono ?_
  rintro e w1 ⟨rfl, b1⟩
  have b2 := b0.trans (b1.mono b0.size)
  clear b0 b1 hv
  go_wp2
  go_ret2
  exact ⟨rfl, b2⟩

end Go.Proofs.YtpiemfchjlihfaaDoor
