/-
  kind, plain.
-/
import Derived.Test.YtbgnagjhkfkekaaGreatDoorY9
set_option linter.unusedVariables false
set_option maxRecDepth 20000
namespace Go.Proofs.YtbgnagjhkfkekaaGreatDoor
open Go.RowKit Go.Shelf

/-- A kind that may be, of so many pointer fields. -/
def KdOk (k n : Int) : Prop := 1 ≤ k ∧ k ≤ 4 ∧ (k = 2 → 1 ≤ n) ∧ (k = 3 → 2 ≤ n)

set_option maxHeartbeats 2000000 in
theorem kind_core (k z n : Int) (hw : wrap64 (k - 1) = z) (hz : InI z) (w : World) :
    Calls Tryz.prog 22 #[.int .i64 k, .int .i64 n] w fun e w' => ∃ kd, e = .returned (.int .i64 kd) ∧ KdOk kd n ∧ w' = w := by
  have ha := among_any z 4 hz (by omega) w
  have hi := amg_in z 4 (by omega)
  generalize amg z 4 = q at *
  clear hz
  go_enter Tryz.func22, Tryz.ntmps22
  go_wp2_with fail
  refine ha.mono ?_
  rintro e w1 ⟨rfl, rfl⟩
  clear ha hw
  obtain e | e | e | e : q = 0 ∨ q = 1 ∨ q = 2 ∨ q = 3 := by omega
  · subst e
    go_wp2
    go_ret
    exact ⟨_, rfl, by unfold KdOk; omega, rfl⟩
  · subst e
    by_cases h1 : n < 1
    · go_wp2
      go_ret
      exact ⟨_, rfl, by unfold KdOk; omega, rfl⟩
    · go_wp2
      go_ret
      exact ⟨_, rfl, by unfold KdOk; omega, rfl⟩
  · subst e
    by_cases h1 : n < 2
    · go_wp2
      go_ret
      exact ⟨_, rfl, by unfold KdOk; omega, rfl⟩
    · go_wp2
      go_ret
      exact ⟨_, rfl, by unfold KdOk; omega, rfl⟩
  · subst e
    go_wp2
    go_ret
    exact ⟨_, rfl, by unfold KdOk; omega, rfl⟩

theorem wrap_in (a : Int) : InI (wrap64 a) := by unfold InI wrap64; omega

theorem kind_any (k n : Int) (w : World) :
    Calls Tryz.prog 22 #[.int .i64 k, .int .i64 n] w fun e w' => ∃ kd, e = .returned (.int .i64 kd) ∧ KdOk kd n ∧ w' = w := kind_core k _ n rfl (wrap_in _) w

/-- middenlay.plain. -/
def pcfg : Cfg := ⟨64, 64, 128, 32, 64, 3, 2, 50, 3, 2, 16, 4, 0, 2⟩

theorem pcfg_ok : pcfg.Ok := by constructor <;> decide

theorem cinfo : (Tryz.prog.info? 23).map (·.size) = some 14 := by kernel_rfl

theorem Cfd.load {w : World} {b : Nat} {c : Cfg} (h : Cfd w b c) : (loadVar 23 ⟨b, 0, none⟩).run Tryz.prog w = .ok (cv c) w :=
  run_loadVar_row w b 23 23 _ (0, 0) _ h.at_ Tryz.underlying23 rfl cinfo

theorem plain_any (w : World) : Calls Tryz.prog 20 #[] w fun e w' => e = .returned (cv pcfg) ∧ Below w.heap.size w w' := by
  go_enter Tryz.func20, Tryz.ntmps20
  go_wp2
  refine bodyPost_ret (results_cell1 Tryz.results20 rfl (Cfd.new w pcfg).load) rfl ?_
  exact ⟨rfl, by go_grown⟩

end Go.Proofs.YtbgnagjhkfkekaaGreatDoor
