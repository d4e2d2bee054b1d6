/-
  Forwarding words and fillers; Size.
-/
import Derived.Test.YtpiemfchjlihfaaDoorCNew
set_option linter.unusedVariables false
namespace Go.Proofs.YtpiemfchjlihfaaDoor
open Go.RowKit

/-- P2.3, P2.4: a number from 1 to 1 << 40 behind a tag. -/
def tg (c n : Int) : Int := if n < 1 ∨ 1099511627776 < n then 0 else n * 4 + c

/-- A word of that tag. -/
abbrev IsTag (c m : Int) : Prop := m % 4 = c ∧ 1 ≤ m / 4 ∧ m / 4 ≤ 1099511627776

set_option maxHeartbeats 1000000 in
theorem tagged_any (c n : Int) (h0 : 0 ≤ c) (h1 : c < 4) (w : World) :
    Calls Tryd.prog 66 #[.int .i64 c, .int .i64 n] w fun e w' => e = .returned (.int .u64 (tg c n)) ∧ w' = w := by
  by_cases a : n < 1
  · have e : tg c n = 0 := by unfold tg; rw [if_pos (.inl a)]
    rw [e]
    clear e
    go_enter Tryd.func66, Tryd.ntmps66
    go_wp2
    go_ret
    exact ⟨rfl, rfl⟩
  · by_cases b : 1099511627776 < n
    · have e : tg c n = 0 := by unfold tg; rw [if_pos (.inr b)]
      rw [e]
      clear e
      go_enter Tryd.func66, Tryd.ntmps66
      go_wp2
      go_ret
      exact ⟨rfl, rfl⟩
    · have e : tg c n = c + n * 4 := by unfold tg; rw [if_neg (by omega)]; omega
      have o : bits .or .u64 (n * 4) c = c + n * 4 := by
        rw [u64_or (n * 4) c (by omega) (by omega) (by omega) (by omega), Nat.or_comm, ← u64_or c (n * 4) (by omega) (by omega) (by omega) (by omega)]
        exact join 2 (by omega) (by omega) (by omega) (by omega) (by omega) (by omega)
      rw [e]
      clear e
      go_enter Tryd.func66, Tryd.ntmps66
      go_wp2
      go_ret
      exact ⟨rfl, rfl⟩

set_option maxHeartbeats 1000000 in
theorem untagged_any (c m : Int) (hm : Wd m) (w : World) (hL : LaidB w) :
    Calls Tryd.prog 69 #[.int .i64 c, .int .u64 m] w fun e w' => e = .returned (.tuple #[.int .i64 (if IsTag c m then m / 4 else 0), .bool (decide (IsTag c m))]) ∧ ∃ n, w' = w.drewN n := by
  obtain ⟨m0, m1⟩ := id hm
  by_cases a : m % 4 = c
  · by_cases b : 1 ≤ m / 4
    · by_cases d : m / 4 ≤ 1099511627776
      · have x : IsTag c m := ⟨a, b, d⟩
        rw [if_pos x, decide_eq_true x]
        clear x
        go_enter Tryd.func69, Tryd.ntmps69
        go_wp2_with fail
        refine (read_0 m hm _ hL).mono ?_
        rintro e w' ⟨rfl, n, rfl⟩
        rw [a]
        go_wp2
        go_ret2
        exact ⟨rfl, _, rfl⟩
      · have x : ¬ IsTag c m := fun h => d h.2.2
        rw [if_neg x, decide_eq_false x]
        clear x
        go_enter Tryd.func69, Tryd.ntmps69
        go_wp2_with fail
        refine (read_0 m hm _ hL).mono ?_
        rintro e w' ⟨rfl, n, rfl⟩
        rw [a]
        go_wp2
        go_ret2
        exact ⟨rfl, _, rfl⟩
    · have x : ¬ IsTag c m := fun h => b h.2.1
      rw [if_neg x, decide_eq_false x]
      clear x
      go_enter Tryd.func69, Tryd.ntmps69
      go_wp2_with fail
      refine (read_0 m hm _ hL).mono ?_
      rintro e w' ⟨rfl, n, rfl⟩
      rw [a]
      go_wp2
      go_ret2
      exact ⟨rfl, _, rfl⟩
  · have x : ¬ IsTag c m := fun h => a h.1
    rw [if_neg x, decide_eq_false x]
    clear x
    go_enter Tryd.func69, Tryd.ntmps69
    go_wp2_with fail
    refine (read_0 m hm _ hL).mono ?_
    rintro e w' ⟨rfl, n, rfl⟩
    go_wp2
    go_ret2
    exact ⟨rfl, _, rfl⟩

set_option maxHeartbeats 400000 in
theorem filler_any (n : Int) (w : World) :
    Calls Tryd.prog 45 #[.int .i64 n] w fun e w' => e = .returned (.int .u64 (tg 3 n)) ∧ w' = w := by
  go_enter Tryd.func45, Tryd.ntmps45
  go_wp2_with fail
  refine (tagged_any 3 n (by decide) (by decide) _).mono ?_
  rintro e w' ⟨rfl, rfl⟩
  go_wp2
  go_ret
  exact ⟨rfl, rfl⟩

/-- What a word of a tag tells. -/
def tn (c m : Int) : Int := if IsTag c m then m / 4 else 0

set_option maxHeartbeats 400000 in
theorem filled_any (m : Int) (hm : Wd m) (w : World) (hL : LaidB w) :
    Calls Tryd.prog 47 #[.int .u64 m] w fun e w' => e = .returned (.tuple #[.int .i64 (tn 3 m), .bool (decide (IsTag 3 m))]) ∧ ∃ n, w' = w.drewN n := by
  have h := untagged_any 3 m hm w hL
  rw [show (if IsTag 3 m then m / 4 else 0) = tn 3 m from rfl] at h
  generalize tn 3 m = a, decide (IsTag 3 m) = b at h ⊢
  go_enter Tryd.func47, Tryd.ntmps47
  go_wp2_with fail
  refine h.mono ?_
  rintro e w' ⟨rfl, n, rfl⟩
  go_wp2
  go_ret2
  exact ⟨rfl, _, rfl⟩

end Go.Proofs.YtpiemfchjlihfaaDoor
