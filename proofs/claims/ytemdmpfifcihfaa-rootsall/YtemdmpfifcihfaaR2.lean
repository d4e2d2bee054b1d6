/-
  Small functions of roots: within, address, thread, top.
-/
import Derived.Test.YtemdmpfifcihfaaR1
set_option linter.unusedVariables false
namespace Go.Proofs.Ytemdmpfifcihfaa
open Go.RowKit

set_option maxHeartbeats 400000 in
theorem within_any (n l m : Int) (w : World) :
    Calls Try.prog 33 #[.int .i64 n, .int .i64 l, .int .i64 m] w fun e w' => e = .returned (.bool (decide (l ≤ n ∧ n ≤ m))) ∧ w = w' := by
  by_cases h1 : l ≤ n
  · by_cases h2 : n ≤ m
    · go_enter Try.func33, Try.ntmps33
      go_wp2
      go_ret
      simp [h1, h2]
    · go_enter Try.func33, Try.ntmps33
      go_wp2
      go_ret
      simp [h2]
  · go_enter Try.func33, Try.ntmps33
    go_wp2
    go_ret
    simp
    omega

/-- What a number counts as where an address is wanted. -/
def adr (x : Int) : Int := max x 0

theorem adr_nn (x : Int) : 0 ≤ adr x := by unfold adr; omega

theorem adr_of {x : Int} (h : 0 ≤ x) : adr x = x := by unfold adr; omega

theorem address_any (x : Int) (w : World) :
    Calls Try.prog 45 #[.int .i64 x] w fun e w' => e = .returned (.int .i64 (adr x)) ∧ w = w' := by
  unfold adr
  go_enter Try.func45, Try.ntmps45
  go_wp2
  go_ret
  exact ⟨rfl, rfl⟩

/-- The thread number n of T. -/
theorem thread_in (b g T n cap : Nat) (w : World) (h0 : w.cell? ⟨b, 0, none⟩ = some (.slice (some ⟨g, 0, none⟩) T cap)) (hn : n < T) (hT : T ≤ 8) :
    Calls Try.prog 41 #[.pointer (some ⟨b, 0, none⟩), .int .i64 n] w fun e w' => e = .returned (.pointer (some ⟨g, n * 2, none⟩)) ∧ w = w' := by
  have hd : decide ((0 : Int) ≤ (n : Int) ∧ (n : Int) ≤ (T : Int) - 1) = true := by simp; omega
  have hni : (n : Int) < (T : Int) := by omega
  have hwi := within_any (n : Int) 0 ((T : Int) - 1) w
  rw [hd] at hwi
  clear hd
  go_enter Try.func41, Try.ntmps41
  go_wp2_with fail
  refine hwi.mono ?_
  rintro e w' ⟨rfl, rfl⟩
  go_wp2
  go_ret
  exact ⟨rfl, rfl⟩

theorem thread_out (b g T cap : Nat) (n : Int) (w : World) (h0 : w.cell? ⟨b, 0, none⟩ = some (.slice (some ⟨g, 0, none⟩) T cap)) (hn : ¬ (0 ≤ n ∧ n < T)) (hT : T ≤ 8) :
    Calls Try.prog 41 #[.pointer (some ⟨b, 0, none⟩), .int .i64 n] w fun e w' => e = .returned (.pointer none) ∧ w = w' := by
  have hd : decide ((0 : Int) ≤ n ∧ n ≤ (T : Int) - 1) = false := by simp; omega
  have hwi := within_any n 0 ((T : Int) - 1) w
  rw [hd] at hwi
  clear hd hn
  go_enter Try.func41, Try.ntmps41
  go_wp2_with fail
  refine hwi.mono ?_
  rintro e w' ⟨rfl, rfl⟩
  go_wp2
  go_ret
  exact ⟨rfl, rfl⟩

/-- No frame. -/
theorem top_none (g o : Nat) (w : World) (a : Option Addr) (cap : Nat) (h0 : w.cell? ⟨g, o, none⟩ = some (.slice a 0 cap)) :
    Calls Try.prog 42 #[.pointer (some ⟨g, o, none⟩)] w fun e w' => e = .returned (.slice none 0 0) ∧ w = w' := by
  go_enter Try.func42, Try.ntmps42
  go_wp2
  go_ret
  exact ⟨rfl, rfl⟩

/-- The top frame's slots. -/
theorem top_some (g o a k c s n m : Nat) (d : Nat) (w : World) (h0 : w.cell? ⟨g, o, none⟩ = some (.slice (some ⟨a, 0, none⟩) (k + 1) c)) (h1 : w.cell? ⟨g, o + 1, none⟩ = some (.slice (some ⟨s, 0, none⟩) (n + m) d))
    (h2 : w.cell? ⟨a, k, none⟩ = some (.int .i64 m)) (hm : 0 < m) (hn : n + m ≤ 4096) (hk : k < 4096) (hd : n + m ≤ d) :
    Calls Try.prog 42 #[.pointer (some ⟨g, o, none⟩)] w fun e w' => e = .returned (.slice (some ⟨s, n, none⟩) m (d - n)) ∧ ∃ nq, w' = w.drewN nq := by
  have e0 : ((k : Int) + 1 - 1) = (k : Int) := by omega
  have e1 : (((n : Int) + (m : Int)) - (m : Int)) = (n : Int) := by omega
  have hne : ¬ (d = n) := by omega
  have e2 : n + m - n = m := by omega
  go_enter Try.func42, Try.ntmps42
  go_wp2
  go_quiet (fail)
  go_wp2
  go_ret
  exact ⟨by simp [*], nq, rfl⟩

end Go.Proofs.Ytemdmpfifcihfaa
