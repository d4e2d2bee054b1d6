/-
  mod of any positive number.
-/
import Derived.Test.YtbdkcelggffneaaDoorHP
set_option linter.unusedVariables false
namespace Go.Proofs.YtbdkcelggffneaaDoor
open Go.RowKit Go.Shelf

set_option maxHeartbeats 400000 in
theorem mod_any (n k : Int) (hn : -9223372036854775808 ≤ n ∧ n ≤ 9223372036854775807) (hk : 0 < k ∧ k ≤ 4294967296) (w : World) :
    Calls Tryd.prog 13 #[.int .i64 n, .int .i64 k] w fun e w' => ∃ m, e = .returned (.int .i64 m) ∧ 0 ≤ m ∧ m < k ∧ w = w' := by
  obtain ⟨n0, n1⟩ := hn
  obtain ⟨k0, k1⟩ := hk
  have h1 : -k < n.tmod k := by have := Int.lt_tmod_of_pos n k0; omega
  have h2 : n.tmod k < k := Int.tmod_lt_of_pos n k0
  have hz : ¬ k = 0 := by omega
  have h3 : 0 ≤ n.tmod k + k := by omega
  go_enter Tryd.func13, Tryd.ntmps13
  go_wp2
  go_ret
  exact ⟨_, rfl, Int.emod_nonneg _ hz, Int.emod_lt_of_pos _ k0, rfl⟩

end Go.Proofs.YtbdkcelggffneaaDoor
