/-
  mask, ones, TrailingZeros64, place.
-/
import Derived.Test.YtlnfhnahnmblmabDoorMMem
set_option linter.unusedVariables false
set_option maxRecDepth 20000
namespace Go.Proofs.YtlnfhnahnmblmabDoor
open Go.RowKit

theorem cast1 (K a m : Nat) : ((K * 2 ^ a % m : Nat) : Int) = (K : Int) * 2 ^ a % (m : Int) := by push_cast; rfl
theorem cast2 (K a : Nat) : ((K / 2 ^ a : Nat) : Int) = (K : Int) / 2 ^ a := by push_cast; rfl

theorem mask_eq (a b : Nat) (h : a ≤ b) (hb : b ≤ 64) : bits .and .u64 (IntKind.u64.wrap (18446744073709551615 * 2 ^ a)) (18446744073709551615 / 2 ^ (64 - b)) = ((mk a b : Nat) : Int) := by
  have e1 : IntKind.u64.wrap (18446744073709551615 * 2 ^ a) = ((18446744073709551615 * 2 ^ a % 18446744073709551616 : Nat) : Int) := by
    rw [IntKind.wrap_u64, cast1]; rfl
  have e2 : (18446744073709551615 / 2 ^ (64 - b) : Int) = ((18446744073709551615 / 2 ^ (64 - b) : Nat) : Int) := by rw [cast2]; rfl
  have l2 : 18446744073709551615 / 2 ^ (64 - b) ≤ 18446744073709551615 := Nat.div_le_self _ _
  rw [e1, e2, u64_and_nat _ _ (Nat.mod_lt _ (by decide)) (by omega)]
  congr 1
  apply Nat.eq_of_testBit_eq
  intro j
  rw [Nat.testBit_and, mk_bit h, show (18446744073709551616 : Nat) = 2 ^ 64 by rfl, Nat.testBit_mod_two_pow, Nat.testBit_mul_two_pow, Nat.testBit_div_two_pow, show (18446744073709551615 : Nat) = 2 ^ 64 - 1 by rfl, Nat.testBit_two_pow_sub_one, Nat.testBit_two_pow_sub_one]
  by_cases h1 : a ≤ j <;> by_cases h2 : j < b <;> simp [h1, h2] <;> omega

set_option maxHeartbeats 400000 in
theorem mask_any (a b : Nat) (h : a ≤ b) (hb : b ≤ 64) (ha : a < 64) (w : World) :
    Calls Tryd.prog 41 #[.int .i64 a, .int .i64 b] w fun e w' => e = .returned (.int .u64 (mk a b : Nat)) ∧ ∃ n, w' = w.drewN n := by
  go_enter Tryd.func41, Tryd.ntmps41
  go_wp2
  go_quiet (fail)
  go_wp2
  go_ret
  refine ⟨?_, _, rfl⟩
  rw [← mask_eq a b h hb]
  rfl

theorem pop_pos {u : Nat} (h0 : u ≠ 0) (h : u < 18446744073709551616) : 0 < pop u := by
  obtain ⟨h1, h2, -⟩ := ctz_spec h0 h
  have := rk_lt (M := u.testBit) h2 h1
  unfold pop; omega

set_option maxHeartbeats 400000 in
theorem ones_any (u : Nat) (hu : u < 18446744073709551616) (w : World) (hL : Laid w) :
    Calls Tryd.prog 28 #[.int .u64 u] w fun e w' => e = .returned (.int .i64 (pop u : Nat)) ∧ w = w' := by
  have hb := hL.hb
  clear hL
  have hp := pop_le u
  go_enter Tryd.func28, Tryd.ntmps28
  go_wp2
  go_loopw [0, 3] (fun v c wr => ∃ x n : Nat, v = .int .u64 x ∧ c = .int .i64 n ∧ x ≤ u ∧ n + pop x = pop u ∧ wr = w) (fun v _ _ => (intOf v).toNat)
  case atStart => exact ⟨u, 0, rfl, rfl, Nat.le_refl _, by simp, rfl⟩
  case round =>
    obtain ⟨x, n, rfl, rfl, hx, hn, rfl⟩ := hrel
    by_cases hx0 : x = 0
    · subst hx0
      rw [pop_zero, Nat.add_zero] at hn
      subst hn
      go_wp2
      go_ret
      exact ⟨rfl, rfl⟩
    · have e := rk_div16 x (by omega)
      have hc := hb (x % 16) (Nat.mod_lt _ (by decide))
      have hk : bits .and .u64 (x : Int) 15 = ((x % 16 : Nat) : Int) := by
        have := u64_and_nat x 15 (by omega) (by decide)
        rw [show (15 : Nat) = 2 ^ 4 - 1 by rfl, Nat.and_two_pow_sub_one_eq_mod] at this
        exact this
      rw [show rk (x % 16).testBit 4 = half (x % 16) from rfl] at e
      have Hhb : Hid _ := hb
      clear hb
      generalize half (x % 16) = c at hc e
      have hi : x % 16 < 16 := Nat.mod_lt _ (by decide)
      generalize x % 16 = i at hc hk hi
      have hne : ((x : Int) == 0) = false := by simp; omega
      go_wp2_with (simp only [hk])
      go_roundw
      case rel => exact ⟨x / 16, n + c, by simp, by simp, by omega, by omega, by trivial⟩
      case measure => simp [intOf]; omega

set_option maxHeartbeats 1000000 in
theorem tz_core (x k idx : Nat) (w : World) (hx0 : ((x : Int) == 0) = false)
    (key : IntKind.u64.wrap (bits BinOp.and IntKind.u64 (x : Int) (IntKind.u64.wrap (-(x : Int))) * 285870213051353865) / 288230376151711744 = (idx : Int))
    (hi : idx < 64) (hk : k < 64) (hcell : w.cell? ⟨1, idx, none⟩ = some (.int .u8 k)) :
    Calls Tryd.prog 39 #[.int .u64 x] w fun e w' => e = .returned (.int .i64 k) ∧ w = w' := by
  go_enter Tryd.func39, Tryd.ntmps39
  go_wp2_with (simp only [key])
  go_ret
  exact ⟨rfl, rfl⟩

/-- A word that isn't 0. -/
theorem tz_any (x : Nat) (h0 : x ≠ 0) (hx : x < 18446744073709551616) (w : World) (hL : Laid w) :
    Calls Tryd.prog 39 #[.int .u64 x] w fun e w' => e = .returned (.int .i64 (Lib.ctz 64 x : Nat)) ∧ w = w' := by
  obtain ⟨hlow, hk⟩ := Lib.lowest_bit 64 x h0 hx
  obtain ⟨hi, htab⟩ := Lib.deBruijn64_at _ hk
  have hcell := hL.tz _ hi
  rw [htab] at hcell
  exact tz_core x _ _ w (by simp; omega) (tz64_key x _ hx h0 hlow) hi hk hcell

set_option maxHeartbeats 1000000 in
theorem place_any (u p t : Nat) (hu : u < 18446744073709551616) (hp : u.testBit p = true) (ht : rk u.testBit p = t) (w : World) (hL : Laid w) :
    Calls Tryd.prog 46 #[.int .u64 u, .int .i64 t] w fun e w' => e = .returned (.int .i64 (p : Nat)) ∧ w = w' := by
  have hp64 : p < 64 := by
    rcases Nat.lt_or_ge p 64 with h | h
    · exact h
    · have : u.testBit p = false := Nat.testBit_lt_two_pow (Nat.lt_of_lt_of_le hu (by
        have : 2 ^ 64 ≤ 2 ^ p := Nat.pow_le_pow_right (by omega) h
        omega))
      rw [this] at hp; cases hp
  have ht64 : t ≤ 64 := by have := rk_le u.testBit p; omega
  have HL : Hid (Laid w) := hL
  clear hL
  go_enter Tryd.func46, Tryd.ntmps46
  go_wp2
  go_loopw [0, 6] (fun v c wr => ∃ x n : Nat, v = .int .u64 x ∧ c = .int .i64 n ∧ x < 18446744073709551616 ∧ n ≤ t ∧ Hid (x.testBit p = true ∧ rk x.testBit p + n = t) ∧ wr = w) (fun _ c _ => (t - intOf c).toNat)
  case atStart => exact ⟨u, 0, rfl, rfl, hu, Nat.zero_le _, ⟨hp, by omega⟩, rfl⟩
  case round =>
    obtain ⟨x, n, rfl, rfl, hx, hnt, hh, rfl⟩ := hrel
    have hx0 : x ≠ 0 := by
      rintro rfl
      have := hh.out.1
      simp at this
    by_cases hn : n < t
    · have hb : bits .and .u64 (x : Int) ((x : Int) - 1) = ((x &&& (x - 1) : Nat) : Int) := by
        rw [show ((x : Int) - 1) = ((x - 1 : Nat) : Int) by omega]
        exact u64_and_nat x (x - 1) hx (by omega)
      have hlt : x &&& (x - 1) < 18446744073709551616 := Nat.lt_of_le_of_lt Nat.and_le_left hx
      obtain ⟨hb1, hb2⟩ := hh.out
      have hne : p ≠ Lib.ctz 64 x := by
        rintro rfl
        have := rk_none (M := x.testBit) (Lib.ctz 64 x) (ctz_spec hx0 hx).2.2
        omega
      obtain ⟨hs1, hs2⟩ := rk_strike hx0 hx hb1 hne
      have Hs : Hid ((x &&& (x - 1)).testBit p = true ∧ rk (x &&& (x - 1)).testBit p + (n + 1) = t) := ⟨hs1, by omega⟩
      clear hs1 hs2 hb1 hb2 hh
      generalize x &&& (x - 1) = y at *
      go_wp2_with (simp only [hb])
      go_roundw
      case rel => exact ⟨y, n + 1, by simp, by simp, hlt, by omega, Hs, by trivial⟩
      case measure => simp [intOf]; omega
    · have hct : Lib.ctz 64 x = p := by
        obtain ⟨hb1, hb2⟩ := hh.out
        obtain ⟨q1, q2, q3⟩ := ctz_spec hx0 hx
        have := rk_none (M := x.testBit) (Lib.ctz 64 x) q3
        exact rk_inj q2 hb1 (by omega)
      have hz := tz_any x hx0 hx wr HL.out
      rw [hct] at hz
      clear hh
      go_wp2_with fail
      refine hz.mono ?_
      rintro e w1 ⟨rfl, rfl⟩
      go_wp2
      go_ret
      exact ⟨rfl, rfl⟩
end Go.Proofs.YtlnfhnahnmblmabDoor
