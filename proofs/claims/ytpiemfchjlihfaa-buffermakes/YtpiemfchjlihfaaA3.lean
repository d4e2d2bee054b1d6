/-
  Cut, To, Swap, Space, Young.
-/
import Derived.Test.YtpiemfchjlihfaaA2
set_option linter.unusedVariables false
namespace Go.Proofs.Ytpiemfchjlihfaa
open Go.RowKit

theorem af_sw (c : Cfg) (g n : Nat) (x : Tps) (sw sw' : Bool) (j : Nat) (hj : j < 28) : (if j = 27 then Value.bool sw' else af c g n x sw j) = af c g n x sw' j := by
  match j, hj with
  | 0, _ | 1, _ | 2, _ | 3, _ | 4, _ | 5, _ | 6, _ | 7, _ | 8, _ | 9, _ | 10, _ | 11, _ | 12, _ | 13, _ | 14, _ | 15, _ | 16, _ | 17, _ | 18, _ | 19, _ | 20, _ | 21, _ | 22, _ | 23, _ | 24, _ | 25, _ | 26, _ | 27, _ => simp [af]
  | j + 28, h => omega

/-- The space in which a word lies (P3.6). -/
def spc (c : Cfg) (i : Int) : Int := if i < 1 then 0 else if i < 1 + c.eden then 1 else if i < 1 + c.eden + c.surv then 2 else if i < 1 + c.eden + c.surv + c.surv then 3 else if i < 1 + c.eden + c.surv + c.surv + c.ten then 4 else 0

abbrev ev12 (a b d e f g h i j k l m : Int) : Value := .agg #[.int .i64 a, .int .i64 b, .int .i64 d, .int .i64 e, .int .i64 f, .int .i64 g, .int .i64 h, .int .i64 i, .int .i64 j, .int .i64 k, .int .i64 l, .int .i64 m]

theorem idx0 (a b d e f g h i j k l m : Int) (w : World) : (Instr.index 44 (ev12 a b d e f g h i j k l m) (.int .i64 0)).run Try.prog w = .ok (ev a b d) w := by kernel_rfl
theorem idx1 (a b d e f g h i j k l m : Int) (w : World) : (Instr.index 44 (ev12 a b d e f g h i j k l m) (.int .i64 1)).run Try.prog w = .ok (ev e f g) w := by kernel_rfl
theorem idx2 (a b d e f g h i j k l m : Int) (w : World) : (Instr.index 44 (ev12 a b d e f g h i j k l m) (.int .i64 2)).run Try.prog w = .ok (ev h i j) w := by kernel_rfl
theorem idx3 (a b d e f g h i j k l m : Int) (w : World) : (Instr.index 44 (ev12 a b d e f g h i j k l m) (.int .i64 3)).run Try.prog w = .ok (ev k l m) w := by kernel_rfl

end Go.Proofs.Ytpiemfchjlihfaa
