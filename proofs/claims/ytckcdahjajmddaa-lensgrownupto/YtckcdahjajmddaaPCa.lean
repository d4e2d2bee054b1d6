import Derived.Test.YtckcdahjajmddaaRows
import Derived.WalkKit
import Derived.WalkSpells
import Derived.WalkLawsBesides
import Derived.Below
import Derived.Deep.QuietTactic
import Derived.BigQuiet
import Derived.Laws.BitsAllLaws
import Derived.Laws.StructEq
import Derived.Handy
/-
  What the two tables of package cell hold; steps that only lay new blocks.
-/
set_option linter.unusedVariables false
namespace Go.Proofs.Ytckcdahjajmddaa
open Go.RowKit

/-- A word. -/
abbrev Wd (m : Int) : Prop := 0 ≤ m ∧ m < 18446744073709551616

theorem wrap64_low {m : Int} (h0 : 0 ≤ m) (h1 : m < 9223372036854775808) : wrap64 m = m := by
  unfold wrap64; omega

theorem mask {m : Int} (b c : Nat) (hc : c = 2 ^ b - 1) (hb : c < 18446744073709551616) (h : Wd m) : bits .and .u64 m (c : Int) = m % ((2 ^ b : Nat) : Int) := by
  obtain ⟨h0, h1⟩ := h
  rw [u64_and m c h0 h1 (by omega) (by omega)]
  obtain ⟨k, rfl⟩ := Int.eq_ofNat_of_zero_le h0
  simp only [Int.toNat_natCast, hc, Nat.and_two_pow_sub_one_eq_mod]
  exact Int.natCast_emod k (2 ^ b)

end Go.Proofs.Ytckcdahjajmddaa

/-
  read and lay, part by part.
-/
set_option linter.unusedVariables false
namespace Go.Proofs.Ytckcdahjajmddaa
open Go.RowKit

end Go.Proofs.Ytckcdahjajmddaa

/-
  Which heads may be.
-/
set_option linter.unusedVariables false
namespace Go.Proofs.Ytckcdahjajmddaa
open Go.RowKit

/-- P2.2. -/
def flt (k p r a s : Int) : Int :=
  if k < 1 ∨ 4 < k ∨ (k = 2 ∧ p < 1) ∨ (k = 3 ∧ p < 2) then 20 else if p < 0 ∨ 4095 < p then 21 else if r < 0 ∨ 65535 < r then 22 else if a < 0 ∨ 15 < a then 23 else if s < 0 ∨ 255 < s then 24 else 0

end Go.Proofs.Ytckcdahjajmddaa

/-
  fault, word, head.
-/
set_option linter.unusedVariables false
namespace Go.Proofs.Ytckcdahjajmddaa
open Go.RowKit

/-- A head as a value. -/
abbrev hv (s k p r a t : Int) (h : Bool) : Value := .agg #[.int .u64 s, .int .i64 k, .int .i64 p, .int .i64 r, .int .i64 a, .int .i64 t, .bool h]

abbrev hcells (s k p r a t : Int) (h : Bool) : Array Value := #[.int .u64 s, .int .i64 k, .int .i64 p, .int .i64 r, .int .i64 a, .int .i64 t, .bool h]

theorem flt_kind {k p r a s : Int} (h : k < 1 ∨ 4 < k ∨ (k = 2 ∧ p < 1) ∨ (k = 3 ∧ p < 2)) : flt k p r a s = 20 := by unfold flt; rw [if_pos h]
theorem flt_ptrs {k p r a s : Int} (h : ¬ (k < 1 ∨ 4 < k ∨ (k = 2 ∧ p < 1) ∨ (k = 3 ∧ p < 2))) (h2 : p < 0 ∨ 4095 < p) : flt k p r a s = 21 := by unfold flt; rw [if_neg h, if_pos h2]
theorem flt_raws {k p r a s : Int} (h : ¬ (k < 1 ∨ 4 < k ∨ (k = 2 ∧ p < 1) ∨ (k = 3 ∧ p < 2))) (h2 : ¬ (p < 0 ∨ 4095 < p)) (h3 : r < 0 ∨ 65535 < r) : flt k p r a s = 22 := by unfold flt; rw [if_neg h, if_neg h2, if_pos h3]
theorem flt_age {k p r a s : Int} (h : ¬ (k < 1 ∨ 4 < k ∨ (k = 2 ∧ p < 1) ∨ (k = 3 ∧ p < 2))) (h2 : ¬ (p < 0 ∨ 4095 < p)) (h3 : ¬ (r < 0 ∨ 65535 < r)) (h4 : a < 0 ∨ 15 < a) : flt k p r a s = 23 := by unfold flt; rw [if_neg h, if_neg h2, if_neg h3, if_pos h4]
theorem flt_site {k p r a s : Int} (h : ¬ (k < 1 ∨ 4 < k ∨ (k = 2 ∧ p < 1) ∨ (k = 3 ∧ p < 2))) (h2 : ¬ (p < 0 ∨ 4095 < p)) (h3 : ¬ (r < 0 ∨ 65535 < r)) (h4 : ¬ (a < 0 ∨ 15 < a)) (h5 : s < 0 ∨ 255 < s) : flt k p r a s = 24 := by unfold flt; rw [if_neg h, if_neg h2, if_neg h3, if_neg h4, if_pos h5]
theorem flt_ok {k p r a s : Int} (h : ¬ (k < 1 ∨ 4 < k ∨ (k = 2 ∧ p < 1) ∨ (k = 3 ∧ p < 2))) (h2 : ¬ (p < 0 ∨ 4095 < p)) (h3 : ¬ (r < 0 ∨ 65535 < r)) (h4 : ¬ (a < 0 ∨ 15 < a)) (h5 : ¬ (s < 0 ∨ 255 < s)) : flt k p r a s = 0 := by unfold flt; rw [if_neg h, if_neg h2, if_neg h3, if_neg h4, if_neg h5]

/-- A head that may be. -/
structure May (k p r a s : Int) : Prop where
  k1 : 1 ≤ k
  k4 : k ≤ 4
  weak : ¬ (k = 2 ∧ p < 1)
  eph : ¬ (k = 3 ∧ p < 2)
  p0 : 0 ≤ p
  p1 : p ≤ 4095
  r0 : 0 ≤ r
  r1 : r ≤ 65535
  a0 : 0 ≤ a
  a1 : a ≤ 15
  s0 : 0 ≤ s
  s1 : s ≤ 255

theorem May.of {k p r a s : Int} (h : flt k p r a s = 0) : May k p r a s := by
  unfold flt at h
  split at h; omega
  split at h; omega
  split at h; omega
  split at h; omega
  split at h; omega
  constructor <;> omega

theorem May.flt {k p r a s : Int} (h : May k p r a s) : flt k p r a s = 0 := by
  obtain ⟨h1, h2, h3, h4, h5, h6, h7, h8, h9, h10, h11, h12⟩ := h
  exact flt_ok (by omega) (by omega) (by omega) (by omega) (by omega)

end Go.Proofs.Ytckcdahjajmddaa

/-
  word and head: a head as a word, and back.
-/
set_option linter.unusedVariables false
namespace Go.Proofs.Ytckcdahjajmddaa
open Go.RowKit

theorem join {x y : Int} (b : Nat) (hx0 : 0 ≤ x) (hx : x < ((2 ^ b : Nat) : Int)) (hy0 : 0 ≤ y) (hy : y < 18446744073709551616) (hd : y % ((2 ^ b : Nat) : Int) = 0) (hb : 2 ^ b ≤ 18446744073709551616) : bits .or .u64 x y = x + y := by
  have hb' : ((2 ^ b : Nat) : Int) ≤ 18446744073709551616 := Int.ofNat_le.2 hb
  rw [u64_or x y hx0 (by omega) hy0 hy]
  obtain ⟨i, rfl⟩ := Int.eq_ofNat_of_zero_le hx0
  obtain ⟨j, rfl⟩ := Int.eq_ofNat_of_zero_le hy0
  simp only [Int.toNat_natCast]
  rw [Nat.or_comm, nat_join b j i (by omega) (by omega)]
  push_cast
  omega

/-- P2.1. -/
def wrd (k p r a s : Int) (h : Bool) : Int := 1 + 4 * k + (if h then 32 else 0) + 64 * a + 1024 * s + 262144 * p + 1073741824 * r

theorem or_wrd {k p r a s : Int} {h : Bool} (d : Int) (hd : d = if h then 1 else 0) (m : May k p r a s) :
    bits .or .u64 (bits .or .u64 (bits .or .u64 (bits .or .u64 (bits .or .u64 (bits .or .u64 (1 * 1) (k * 4)) (d * 32)) (a * 64)) (s * 1024)) (p * 262144)) (r * 1073741824) = wrd k p r a s h := by
  obtain ⟨h1, h2, h3, h4, h5, h6, h7, h8, h9, h10, h11, h12⟩ := m
  have hd' : 0 ≤ d ∧ d ≤ 1 ∧ d * 32 = if h then 32 else 0 := by cases h <;> simp at hd <;> subst hd <;> decide
  unfold wrd
  rw [← hd'.2.2]
  rw [join (x := 1 * 1) (y := k * 4) 2 (by omega) (by omega) (by omega) (by omega) (by omega) (by omega)]
  rw [join (x := 1 * 1 + k * 4) (y := d * 32) 5 (by omega) (by omega) (by omega) (by omega) (by omega) (by omega)]
  rw [join (x := 1 * 1 + k * 4 + d * 32) (y := a * 64) 6 (by omega) (by omega) (by omega) (by omega) (by omega) (by omega)]
  rw [join (x := 1 * 1 + k * 4 + d * 32 + a * 64) (y := s * 1024) 10 (by omega) (by omega) (by omega) (by omega) (by omega) (by omega)]
  rw [join (x := 1 * 1 + k * 4 + d * 32 + a * 64 + s * 1024) (y := p * 262144) 18 (by omega) (by omega) (by omega) (by omega) (by omega) (by omega)]
  rw [join (x := 1 * 1 + k * 4 + d * 32 + a * 64 + s * 1024 + p * 262144) (y := r * 1073741824) 30 (by omega) (by omega) (by omega) (by omega) (by omega) (by omega)]
  omega

/-- What lay tells. -/
def layv (i v : Int) : Int := if i = 0 then v * 1 else if i = 1 then v * 4 else if i = 2 then v * 32 else if i = 3 then v * 64 else if i = 4 then v * 1024 else if i = 5 then v * 262144 else v * 1073741824

structure Fits (i v : Int) : Prop where
  low : 0 ≤ v
  high : (i = 0 ∧ v < 4) ∨ (i = 1 ∧ v < 8) ∨ (i = 2 ∧ v < 2) ∨ (i = 3 ∧ v < 16) ∨ (i = 4 ∧ v < 256) ∨ (i = 5 ∧ v < 4096) ∨ (i = 6 ∧ v < 65536)

end Go.Proofs.Ytckcdahjajmddaa

/-
  head: the parts of a word; Pack, Unpack.
-/
set_option linter.unusedVariables false
namespace Go.Proofs.Ytckcdahjajmddaa
open Go.RowKit

abbrev kdOf (m : Int) : Int := m / 4 % 8
abbrev hdOf (m : Int) : Bool := decide (m / 32 % 2 = 1)
abbrev agOf (m : Int) : Int := m / 64 % 16
abbrev stOf (m : Int) : Int := m / 1024 % 256
abbrev ptOf (m : Int) : Int := m / 262144 % 4096
abbrev rwOf (m : Int) : Int := m / 1073741824 % 65536

/-- P2.5. -/
def pck (k p r a t : Int) (h : Bool) : Int := if flt k p r a t = 0 then wrd k p r a t h else 0

end Go.Proofs.Ytckcdahjajmddaa

