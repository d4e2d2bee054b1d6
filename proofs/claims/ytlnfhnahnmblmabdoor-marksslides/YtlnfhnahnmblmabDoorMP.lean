/-
  Marks: the pure side. Words out of truths, counts, pieces.
-/
import Derived.Test.YtlnfhnahnmblmabDoorRows
import Derived.WalkKit
import Derived.Laws.BitsAllLaws
import Derived.Lib.TrailingZeros
set_option linter.unusedVariables false
namespace Go.Proofs.YtlnfhnahnmblmabDoor
open Go.RowKit

/-- A number out of truths: bit j is f j, for j below k. -/
def bld (f : Nat → Bool) : Nat → Nat
  | 0 => 0
  | k + 1 => 2 ^ k * (f k).toNat + bld f k

theorem bld_lt (f : Nat → Bool) : ∀ k, bld f k < 2 ^ k
  | 0 => by simp [bld]
  | k + 1 => by
    have := bld_lt f k
    simp only [bld, Nat.pow_succ]
    cases f k <;> simp <;> omega

theorem bld_bit (f : Nat → Bool) : ∀ k j, (bld f k).testBit j = (decide (j < k) && f j)
  | 0, j => by simp [bld]
  | k + 1, j => by
    simp only [bld]
    rw [Nat.testBit_two_pow_mul_add _ (bld_lt f k), bld_bit f k j]
    by_cases h : j < k
    · simp [h, show j < k + 1 by omega]
    · by_cases h2 : j = k
      · subst h2; cases f j <;> simp
      · have h3 : ¬ j < k + 1 := by omega
        have h4 : j - k ≠ 0 := by omega
        obtain ⟨d, hd⟩ : ∃ d, j - k = d + 1 := ⟨j - k - 1, by omega⟩
        simp only [h, h3, if_false, decide_false, Bool.false_and, hd]
        cases f k <;> simp [Nat.testBit_succ]

/-- The word number i of these marks. -/
def wd (M : Nat → Bool) (i : Nat) : Nat := bld (fun j => M (64 * i + j)) 64

theorem wd_lt (M : Nat → Bool) (i : Nat) : wd M i < 18446744073709551616 := bld_lt _ 64
theorem wd_bit (M : Nat → Bool) (i j : Nat) : (wd M i).testBit j = (decide (j < 64) && M (64 * i + j)) := bld_bit _ 64 j

theorem wd_congr {M N : Nat → Bool} {i : Nat} (h : ∀ j, j < 64 → M (64 * i + j) = N (64 * i + j)) : wd M i = wd N i := by
  apply Nat.eq_of_testBit_eq
  intro j
  rw [wd_bit, wd_bit]
  by_cases hj : j < 64
  · rw [h j hj]
  · simp [hj]

theorem wd_none (i : Nat) : wd (fun _ => false) i = 0 := by
  apply Nat.eq_of_testBit_eq
  intro j
  rw [wd_bit]; simp

/-- The bits from a up to ahead of b. -/
def mk (a b : Nat) : Nat := 2 ^ b - 2 ^ a

theorem mk_bit {a b : Nat} (h : a ≤ b) (j : Nat) : (mk a b).testBit j = (decide (a ≤ j) && decide (j < b)) := by
  have h1 : 2 ^ a ≤ 2 ^ b := Nat.pow_le_pow_right (by omega) h
  have h0 : 0 < 2 ^ a := Nat.two_pow_pos a
  have e : mk a b = 2 ^ b - ((2 ^ a - 1) + 1) := by unfold mk; omega
  rw [e, Nat.testBit_two_pow_sub_succ (by omega), Nat.testBit_two_pow_sub_one]
  by_cases h2 : j < a
  · simp [h2, show ¬ a ≤ j by omega]
  · simp [h2, show a ≤ j by omega]

theorem mk_lt {a b : Nat} (hb : b ≤ 64) : mk a b < 18446744073709551616 := by
  have h1 : 2 ^ b ≤ 2 ^ 64 := Nat.pow_le_pow_right (by omega) hb
  have h0 : 0 < 2 ^ a := Nat.two_pow_pos a
  unfold mk
  omega

/-- How many below n. -/
def rk (M : Nat → Bool) : Nat → Nat
  | 0 => 0
  | n + 1 => rk M n + (M n).toNat

theorem rk_le (M : Nat → Bool) : ∀ n, rk M n ≤ n
  | 0 => by simp [rk]
  | n + 1 => by have := rk_le M n; simp only [rk]; cases M n <;> simp <;> omega

theorem rk_mono (M : Nat → Bool) {a b : Nat} (h : a ≤ b) : rk M a ≤ rk M b := by
  induction h with
  | refl => exact Nat.le_refl _
  | step h ih => simp only [rk]; omega

theorem rk_add (M : Nat → Bool) (a : Nat) : ∀ n, rk M (a + n) = rk M a + rk (fun j => M (a + j)) n
  | 0 => by simp [rk]
  | n + 1 => by
    rw [← Nat.add_assoc]
    simp only [rk]
    rw [rk_add M a n]; omega

theorem rk_congr {M N : Nat → Bool} : ∀ n, (∀ j, j < n → M j = N j) → rk M n = rk N n
  | 0, _ => by simp [rk]
  | n + 1, h => by
    simp only [rk]
    rw [rk_congr n (fun j hj => h j (by omega)), h n (by omega)]

theorem rk_none {M : Nat → Bool} : ∀ n, (∀ j, j < n → M j = false) → rk M n = 0
  | 0, _ => by simp [rk]
  | n + 1, h => by
    simp only [rk]
    rw [rk_none n (fun j hj => h j (by omega)), h n (by omega)]; rfl

/-- Two marked words with as many below them are one. -/
theorem rk_inj {M : Nat → Bool} {a b : Nat} (ha : M a = true) (hb : M b = true) (h : rk M a = rk M b) : a = b := by
  rcases Nat.lt_trichotomy a b with h1 | h1 | h1
  · have := rk_mono M (show a + 1 ≤ b by omega); simp only [rk, ha, Bool.toNat_true] at this; omega
  · exact h1
  · have := rk_mono M (show b + 1 ≤ a by omega); simp only [rk, hb, Bool.toNat_true] at this; omega

theorem rk_lt {M : Nat → Bool} {a n : Nat} (ha : M a = true) (h : a < n) : rk M a < rk M n := by
  have := rk_mono M (show a + 1 ≤ n by omega); simp only [rk, ha, Bool.toNat_true] at this; omega

/-- Each number below the count is some word's. -/
theorem rk_at {M : Nat → Bool} : ∀ n t, t < rk M n → ∃ a, a < n ∧ M a = true ∧ rk M a = t
  | 0, t, h => by simp [rk] at h
  | n + 1, t, h => by
    by_cases h1 : t < rk M n
    · obtain ⟨a, h2, h3, h4⟩ := rk_at n t h1
      exact ⟨a, by omega, h3, h4⟩
    · simp only [rk] at h
      cases hm : M n <;> rw [hm] at h <;> simp at h
      · omega
      · exact ⟨n, by omega, hm, by omega⟩

/-- How many bits are set. -/
def pop (u : Nat) : Nat := rk u.testBit 64

theorem pop_le (u : Nat) : pop u ≤ 64 := rk_le _ 64
theorem pop_zero : pop 0 = 0 := rk_none 64 (fun j _ => by simp)

theorem rk_div16 (u : Nat) (h : u < 18446744073709551616) : pop u = rk (u % 16).testBit 4 + pop (u / 16) := by
  unfold pop
  have e := rk_add u.testBit 4 60
  rw [show (4 : Nat) + 60 = 64 by rfl] at e
  rw [e]
  have e1 : rk u.testBit 4 = rk (u % 16).testBit 4 := rk_congr 4 (fun j hj => by
    rw [show (16 : Nat) = 2 ^ 4 by rfl, Nat.testBit_mod_two_pow]; simp [hj])
  have e2 : rk (fun j => u.testBit (4 + j)) 60 = rk (u / 16).testBit 60 := rk_congr 60 (fun j _ => by
    rw [show (16 : Nat) = 2 ^ 4 by rfl, Nat.testBit_div_two_pow, Nat.add_comm])
  have e3 : rk (u / 16).testBit 64 = rk (u / 16).testBit 60 + rk (fun j => (u / 16).testBit (60 + j)) 4 := rk_add (u / 16).testBit 60 4
  have e4 : rk (fun j => (u / 16).testBit (60 + j)) 4 = 0 := rk_none 4 (fun j _ => by
    apply Nat.testBit_lt_two_pow
    have : 2 ^ 60 ≤ 2 ^ (60 + j) := Nat.pow_le_pow_right (by omega) (by omega)
    omega)
  rw [e1, e2, e3, e4]; omega

/-- The table of half bytes. -/
def half (i : Nat) : Nat := rk i.testBit 4

/-- A word's bits of a stretch, counted. -/
theorem pop_piece (M : Nat → Bool) (i a b : Nat) (h : a ≤ b) (hb : b ≤ 64) : pop (wd M i &&& mk a b) + rk M (64 * i + a) = rk M (64 * i + b) := by
  have key : ∀ n, n ≤ 64 → rk (wd M i &&& mk a b).testBit n + rk M (64 * i + min n a) = rk M (64 * i + min n b) := by
    intro n
    induction n with
    | zero => intro _; simp [rk]
    | succ n ih =>
      intro hn
      have ih := ih (by omega)
      simp only [rk]
      have eb : (wd M i &&& mk a b).testBit n = (M (64 * i + n) && (decide (a ≤ n) && decide (n < b))) := by
        rw [Nat.testBit_and, wd_bit, mk_bit h]; simp [show n < 64 by omega]
      rw [eb]
      by_cases h1 : n < a
      · rw [show min (n + 1) a = min n a + 1 by omega, show min (n + 1) b = min n b + 1 by omega, show min n a = n by omega, show min n b = n by omega]
        rw [show min n a = n by omega, show min n b = n by omega] at ih
        rw [← Nat.add_assoc]
        simp only [rk, show ¬ a ≤ n by omega, decide_false, Bool.false_and, Bool.and_false, Bool.toNat_false]
        omega
      · by_cases h2 : n < b
        · rw [show min (n + 1) a = a by omega, show min (n + 1) b = n + 1 by omega]
          rw [show min n a = a by omega, show min n b = n by omega] at ih
          rw [← Nat.add_assoc (64 * i)]
          simp only [rk, show a ≤ n by omega, h2, decide_true, Bool.and_true]
          omega
        · rw [show min (n + 1) a = a by omega, show min (n + 1) b = b by omega]
          rw [show min n a = a by omega, show min n b = b by omega] at ih
          simp only [h2, decide_false, Bool.and_false, Bool.toNat_false]
          omega
  have := key 64 (by omega)
  rw [show min 64 a = a by omega, show min 64 b = b by omega] at this
  exact this

theorem mk_full : mk 0 64 = 18446744073709551615 := by decide

theorem and_full {u : Nat} (h : u < 18446744073709551616) : u &&& mk 0 64 = u := by
  apply Nat.eq_of_testBit_eq
  intro j
  rw [Nat.testBit_and, mk_bit (by omega)]
  by_cases hj : j < 64
  · simp [hj]
  · have : u.testBit j = false := Nat.testBit_lt_two_pow (Nat.lt_of_lt_of_le h (by
      have : 2 ^ 64 ≤ 2 ^ j := Nat.pow_le_pow_right (by omega) (by omega)
      omega))
    simp [this]

theorem pop_wd (M : Nat → Bool) (i : Nat) : pop (wd M i) + rk M (64 * i) = rk M (64 * i + 64) := by
  have := pop_piece M i 0 64 (by omega) (by omega)
  rwa [and_full (wd_lt M i)] at this

/-- Where the lowest set bit stands. -/
theorem ctz_spec {u : Nat} (h0 : u ≠ 0) (h : u < 18446744073709551616) : Lib.ctz 64 u < 64 ∧ u.testBit (Lib.ctz 64 u) = true ∧ (∀ j, j < Lib.ctz 64 u → u.testBit j = false) := by
  have e : Lib.ctz 64 u = Lib.ctzFrom 64 u := by simp [Lib.ctz, h0]
  obtain ⟨m, hm, hk⟩ := Lib.ctzFrom_spec 64 u (by omega) h
  rw [e]
  generalize Lib.ctzFrom 64 u = q at hm hk
  have hb : ∀ j, u.testBit j = if j < q then false else (2 * m + 1).testBit (j - q) := by
    intro j
    have := Nat.testBit_two_pow_mul_add (2 * m + 1) (b := 0) (i := q) (Nat.two_pow_pos q) j
    rw [Nat.add_zero, ← hm] at this
    simpa using this
  refine ⟨hk, ?_, ?_⟩
  · rw [hb]; simp
  · intro j hj; rw [hb]; simp [hj]

/-- The lowest set bit struck. -/
theorem strike {u : Nat} (h0 : u ≠ 0) (h : u < 18446744073709551616) (j : Nat) : (u &&& (u - 1)).testBit j = (u.testBit j && decide (j ≠ Lib.ctz 64 u)) := by
  have e : Lib.ctz 64 u = Lib.ctzFrom 64 u := by simp [Lib.ctz, h0]
  obtain ⟨m, hm, hk⟩ := Lib.ctzFrom_spec 64 u (by omega) h
  rw [e]
  generalize Lib.ctzFrom 64 u = q at hm hk
  have hp : 0 < 2 ^ q := Nat.two_pow_pos q
  have hb : ∀ j, u.testBit j = if j < q then false else (2 * m + 1).testBit (j - q) := by
    intro j
    have := Nat.testBit_two_pow_mul_add (2 * m + 1) (b := 0) (i := q) hp j
    rw [Nat.add_zero, ← hm] at this
    simpa using this
  have he : u - 1 = 2 ^ q * (2 * m) + (2 ^ q - 1) := by
    rw [hm, Nat.mul_add]; omega
  have hc : ∀ j, (u - 1).testBit j = if j < q then decide (j < q) else (2 * m).testBit (j - q) := by
    intro j
    rw [he, Nat.testBit_two_pow_mul_add (2 * m) (b := 2 ^ q - 1) (i := q) (by omega) j, Nat.testBit_two_pow_sub_one]
  rw [Nat.testBit_and, hb, hc]
  by_cases h1 : j < q
  · simp [h1]
  · by_cases h2 : j = q
    · subst h2; simp
    · obtain ⟨d, hd⟩ : ∃ d, j - q = d + 1 := ⟨j - q - 1, by omega⟩
      simp only [h1, if_false, hd, Nat.testBit_succ, h2, ne_eq, not_false_eq_true, decide_true, Bool.and_true]
      rw [show (2 * m + 1) / 2 = m by omega, show 2 * m / 2 = m by omega, Bool.and_self]

theorem rk_strike {u : Nat} (h0 : u ≠ 0) (h : u < 18446744073709551616) {p : Nat} (hp : u.testBit p = true) (hne : p ≠ Lib.ctz 64 u) : (u &&& (u - 1)).testBit p = true ∧ rk (u &&& (u - 1)).testBit p + 1 = rk u.testBit p := by
  obtain ⟨hq, hs, hl⟩ := ctz_spec h0 h
  have hst := strike h0 h
  generalize Lib.ctz 64 u = q at *
  have hqp : q < p := by
    rcases Nat.lt_trichotomy p q with h1 | h1 | h1
    · rw [hl p h1] at hp; cases hp
    · exact absurd h1 hne
    · exact h1
  refine ⟨by rw [hst, hp]; simp [hne], ?_⟩
  have key : ∀ n, rk (u &&& (u - 1)).testBit n + (decide (q < n)).toNat = rk u.testBit n := by
    intro n
    induction n with
    | zero => simp [rk]
    | succ n ih =>
      simp only [rk, hst n]
      by_cases h1 : n = q
      · subst h1; simp [hs] at ih ⊢; omega
      · by_cases h2 : q < n
        · simp [h1, h2, show q < n + 1 by omega] at ih ⊢; omega
        · simp [h1, h2, show ¬ q < n + 1 by omega] at ih ⊢; omega
  have := key p
  simpa [hqp] using this

/-- A stretch of words with these marks beside. -/
def add (M : Nat → Bool) (f e : Nat) : Nat → Bool := fun k => M k || (decide (f ≤ k) && decide (k < e))

theorem wd_or (M : Nat → Bool) (i a b : Nat) (h : a ≤ b) (hb : b ≤ 64) : wd M i ||| mk a b = wd (add M (64 * i + a) (64 * i + b)) i := by
  apply Nat.eq_of_testBit_eq
  intro j
  rw [Nat.testBit_or, wd_bit, wd_bit, mk_bit h]
  unfold add
  by_cases hj : j < 64
  · simp [hj]
  · simp [hj]; omega

theorem wd_other (M : Nat → Bool) (i k a b : Nat) (h : a ≤ b) (hb : b ≤ 64) (hk : k ≠ i) : wd (add M (64 * i + a) (64 * i + b)) k = wd M k := by
  apply wd_congr
  intro j hj
  unfold add
  have : (decide (64 * i + a ≤ 64 * k + j) && decide (64 * k + j < 64 * i + b)) = false := by
    simp; omega
  rw [this]; simp

end Go.Proofs.YtlnfhnahnmblmabDoor
