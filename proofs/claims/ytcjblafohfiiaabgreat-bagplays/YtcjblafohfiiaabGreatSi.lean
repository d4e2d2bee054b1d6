/-
  sameInts, upTo, and the closure that collects.
-/
import Derived.Test.YtcjblafohfiiaabGreatFz
import Derived.Deep.QuietTactic
import Derived.BigQuiet
set_option linter.unusedVariables false
namespace Go.Proofs.YtcjblafohfiiaabGreat
open Go.RowKit Go.Shelf

set_option maxHeartbeats 2000000 in
theorem sameInts_some (b off cap b' off' cap' : Nat) (xs : List Int) (w : World) (hlen : xs.length < 1000000)
    (h1 : ∀ (j : Nat) x, xs[j]? = some x → w.cell? ⟨b, off + j, none⟩ = some (.int .i64 x)) (h2 : ∀ (j : Nat) x, xs[j]? = some x → w.cell? ⟨b', off' + j, none⟩ = some (.int .i64 x)) :
    Calls Tryz.prog 35 #[.slice (some ⟨b, off, none⟩) xs.length cap, .slice (some ⟨b', off', none⟩) xs.length cap'] w fun e w' => e = .returned (.bool true) ∧ ∃ nq, w' = w.drewN nq := by
  have H1 : Hid (∀ (j : Nat) x, xs[j]? = some x → w.cell? ⟨b, off + j, none⟩ = some (.int .i64 x)) := h1
  have H2 : Hid (∀ (j : Nat) x, xs[j]? = some x → w.cell? ⟨b', off' + j, none⟩ = some (.int .i64 x)) := h2
  clear h1 h2
  go_enter Tryz.func35, Tryz.ntmps35
  go_wp2
  go_loopw [5] (fun i wr => ∃ k nq : Nat, k ≤ xs.length ∧ i = .int .i64 k ∧ wr = w.drewN nq) (fun i _ => xs.length - (intOf i).toNat)
  case atStart => exact ⟨0, 0, Nat.zero_le _, rfl, rfl⟩
  case round =>
    obtain ⟨k, nq, hk, rfl, rfl⟩ := hrel
    by_cases hlt : k < xs.length
    · obtain ⟨x, hx⟩ : ∃ x, xs[k]? = some x := ⟨_, List.getElem?_eq_getElem hlt⟩
      have c1 := H1.out k x hx
      have c2 := H2.out k x hx
      have hki : (k : Int) < xs.length := by omega
      clear hx
      go_wp2_with fail
      go_quiet (fail)
      go_wp2
      go_roundw
      case rel => exact ⟨k + 1, _, hlt, by go_num, rfl⟩
      case measure => simp [intOf]; omega
    · obtain rfl : k = xs.length := by omega
      go_wp2
      go_ret
      exact ⟨rfl, nq, rfl⟩

set_option maxHeartbeats 1000000 in
theorem sameInts_none (a a' : Option Addr) (cap cap' : Nat) (w : World) :
    Calls Tryz.prog 35 #[.slice a 0 cap, .slice a' 0 cap'] w fun e w' => e = .returned (.bool true) ∧ ∃ nq, w' = w.drewN nq := by
  go_enter Tryz.func35, Tryz.ntmps35
  go_wp2
  refine wp_loop_rounds 1 ?_
  rw [rounds_succ]
  go_wp2
  go_ret
  exact ⟨rfl, 0, rfl⟩

/-- Two slices that hold one list. -/
theorem sameInts_any (v v' : Value) (n0 n1 : Nat) (xs : List Int) (w : World) (hlen : xs.length < 1000000) (h1 : SliceIs n0 w v xs) (h2 : SliceIs n1 w v' xs) :
    Calls Tryz.prog 35 #[v, v'] w fun e w' => e = .returned (.bool true) ∧ ∃ nq, w' = w.drewN nq := by
  rcases h1 with ⟨rfl, rfl⟩ | ⟨b, off, cap, rfl, _, hc⟩
  · rcases h2 with ⟨rfl, _⟩ | ⟨b', off', cap', rfl, _, _⟩
    · exact sameInts_none _ _ _ _ w
    · exact sameInts_none _ _ _ _ w
  · rcases h2 with ⟨rfl, rfl⟩ | ⟨b', off', cap', rfl, _, hc'⟩
    · exact sameInts_none _ _ _ _ w
    · exact sameInts_some b off cap b' off' cap' xs w hlen hc hc'

/-- How many of n things come where one leaves behind the stop-th. -/
def cutTo (n : Nat) (stop : Int) : Nat := if 1 ≤ stop ∧ stop < n then stop.toNat else n

end Go.Proofs.YtcjblafohfiiaabGreat
