import Derived.Test.YtkekaifiahjljaaGreatDoorRows
import Derived.WalkKit
import Derived.WalkSpells
import Derived.WalkLawsBesides
import Derived.Below
import Derived.Deep.QuietTactic
import Derived.BigQuiet
import Derived.Laws.BitsAllLaws
import Derived.Laws.StructEq
import Derived.Handy
import Derived.RangeFuncBox
import Derived.Maps.AppendAt
import Derived.Deep.DeepFit
import Derived.Deep.OwnRows
import Derived.Deep.RegionLaw
import Derived.StillTailTactics
set_option linter.unusedVariables false
set_option maxHeartbeats 8000000
set_option maxRecDepth 20000
namespace Go.Proofs.YtkekaifiahjljaaGreatDoor
open Go.RowKit
def LaidB (w : World) : Prop :=
  w.cell? ⟨1, 0, none⟩ = some (.int .i64 0) ∧ w.cell? ⟨1, 1, none⟩ = some (.int .i64 2) ∧ w.cell? ⟨1, 2, none⟩ = some (.int .i64 5) ∧ w.cell? ⟨1, 3, none⟩ = some (.int .i64 6) ∧
  w.cell? ⟨1, 4, none⟩ = some (.int .i64 10) ∧ w.cell? ⟨1, 5, none⟩ = some (.int .i64 18) ∧ w.cell? ⟨1, 6, none⟩ = some (.int .i64 30) ∧ w.cell? ⟨1, 7, none⟩ = some (.int .i64 46) ∧ w.cell? ⟨1, 8, none⟩ = some (.int .i64 64)
def LaidK (w : World) : Prop :=
  w.cell? ⟨0, 0, none⟩ = some (.bool false) ∧ w.cell? ⟨0, 1, none⟩ = some (.int .i64 0) ∧ w.cell? ⟨0, 2, none⟩ = some (.bool true) ∧ w.cell? ⟨0, 3, none⟩ = some (.int .i64 0) ∧
  w.cell? ⟨0, 4, none⟩ = some (.bool true) ∧ w.cell? ⟨0, 5, none⟩ = some (.int .i64 1) ∧ w.cell? ⟨0, 6, none⟩ = some (.bool true) ∧ w.cell? ⟨0, 7, none⟩ = some (.int .i64 2) ∧
  w.cell? ⟨0, 8, none⟩ = some (.bool true) ∧ w.cell? ⟨0, 9, none⟩ = some (.int .i64 0)
theorem LaidB.keep {w w' : World} (h : LaidB w) (b : Below w.heap.size w w') : LaidB w' := by
  have k : ∀ j v, w.cell? ⟨1, j, none⟩ = some v → w'.cell? ⟨1, j, none⟩ = some v := fun j v hc => (b.cell (World.block_lt_of_cell? _ _ hc)).trans hc
  obtain ⟨h0, h1, h2, h3, h4, h5, h6, h7, h8⟩ := h
  exact ⟨k _ _ h0, k _ _ h1, k _ _ h2, k _ _ h3, k _ _ h4, k _ _ h5, k _ _ h6, k _ _ h7, k _ _ h8⟩
theorem LaidK.keep {w w' : World} (h : LaidK w) (b : Below w.heap.size w w') : LaidK w' := by
  have k : ∀ j v, w.cell? ⟨0, j, none⟩ = some v → w'.cell? ⟨0, j, none⟩ = some v := fun j v hc => (b.cell (World.block_lt_of_cell? _ _ hc)).trans hc
  obtain ⟨h0, h1, h2, h3, h4, h5, h6, h7, h8, h9⟩ := h
  exact ⟨k _ _ h0, k _ _ h1, k _ _ h2, k _ _ h3, k _ _ h4, k _ _ h5, k _ _ h6, k _ _ h7, k _ _ h8, k _ _ h9⟩
abbrev Wd (m : Int) : Prop := 0 ≤ m ∧ m < 18446744073709551616
theorem mask {m : Int} (b c : Nat) (hc : c = 2 ^ b - 1) (hb : c < 18446744073709551616) (h : Wd m) : bits .and .u64 m (c : Int) = m % ((2 ^ b : Nat) : Int) := by
  obtain ⟨h0, h1⟩ := h
  rw [u64_and m c h0 h1 (by omega) (by omega)]
  obtain ⟨k, rfl⟩ := Int.eq_ofNat_of_zero_le h0
  simp only [Int.toNat_natCast, hc, Nat.and_two_pow_sub_one_eq_mod]
  exact Int.natCast_emod k (2 ^ b)
theorem lay_0 (n : Int) (h0 : 0 ≤ n) (h1 : n < 4) (w : World) (hL : LaidB w) :
    Calls Tryz.prog 205 #[.int .i64 0, .int .i64 n] w fun e w' => e = .returned (.int .u64 (n * 1)) ∧ w' = w := by
  obtain ⟨c0, c1, c2, c3, c4, c5, c6, c7, c8⟩ := hL
  go_enter Tryz.func205, Tryz.ntmps205
  go_wp2
  go_ret
  refine ⟨?_, rfl⟩
  simp
theorem lay_1 (n : Int) (h0 : 0 ≤ n) (h1 : n < 8) (w : World) (hL : LaidB w) :
    Calls Tryz.prog 205 #[.int .i64 1, .int .i64 n] w fun e w' => e = .returned (.int .u64 (n * 4)) ∧ w' = w := by
  obtain ⟨c0, c1, c2, c3, c4, c5, c6, c7, c8⟩ := hL
  go_enter Tryz.func205, Tryz.ntmps205
  go_wp2
  go_ret
  refine ⟨?_, rfl⟩
  simp
theorem lay_2 (n : Int) (h0 : 0 ≤ n) (h1 : n < 2) (w : World) (hL : LaidB w) :
    Calls Tryz.prog 205 #[.int .i64 2, .int .i64 n] w fun e w' => e = .returned (.int .u64 (n * 32)) ∧ w' = w := by
  obtain ⟨c0, c1, c2, c3, c4, c5, c6, c7, c8⟩ := hL
  go_enter Tryz.func205, Tryz.ntmps205
  go_wp2
  go_ret
  refine ⟨?_, rfl⟩
  simp
theorem lay_3 (n : Int) (h0 : 0 ≤ n) (h1 : n < 16) (w : World) (hL : LaidB w) :
    Calls Tryz.prog 205 #[.int .i64 3, .int .i64 n] w fun e w' => e = .returned (.int .u64 (n * 64)) ∧ w' = w := by
  obtain ⟨c0, c1, c2, c3, c4, c5, c6, c7, c8⟩ := hL
  go_enter Tryz.func205, Tryz.ntmps205
  go_wp2
  go_ret
  refine ⟨?_, rfl⟩
  simp
theorem lay_4 (n : Int) (h0 : 0 ≤ n) (h1 : n < 256) (w : World) (hL : LaidB w) :
    Calls Tryz.prog 205 #[.int .i64 4, .int .i64 n] w fun e w' => e = .returned (.int .u64 (n * 1024)) ∧ w' = w := by
  obtain ⟨c0, c1, c2, c3, c4, c5, c6, c7, c8⟩ := hL
  go_enter Tryz.func205, Tryz.ntmps205
  go_wp2
  go_ret
  refine ⟨?_, rfl⟩
  simp
theorem lay_5 (n : Int) (h0 : 0 ≤ n) (h1 : n < 4096) (w : World) (hL : LaidB w) :
    Calls Tryz.prog 205 #[.int .i64 5, .int .i64 n] w fun e w' => e = .returned (.int .u64 (n * 262144)) ∧ w' = w := by
  obtain ⟨c0, c1, c2, c3, c4, c5, c6, c7, c8⟩ := hL
  go_enter Tryz.func205, Tryz.ntmps205
  go_wp2
  go_ret
  refine ⟨?_, rfl⟩
  simp
theorem lay_6 (n : Int) (h0 : 0 ≤ n) (h1 : n < 65536) (w : World) (hL : LaidB w) :
    Calls Tryz.prog 205 #[.int .i64 6, .int .i64 n] w fun e w' => e = .returned (.int .u64 (n * 1073741824)) ∧ w' = w := by
  obtain ⟨c0, c1, c2, c3, c4, c5, c6, c7, c8⟩ := hL
  go_enter Tryz.func205, Tryz.ntmps205
  go_wp2
  go_ret
  refine ⟨?_, rfl⟩
  simp
def flt (k p r a s : Int) : Int :=
  if k < 1 ∨ 4 < k ∨ (k = 2 ∧ p < 1) ∨ (k = 3 ∧ p < 2) then 20 else if p < 0 ∨ 4095 < p then 21 else if r < 0 ∨ 65535 < r then 22 else if a < 0 ∨ 15 < a then 23 else if s < 0 ∨ 255 < s then 24 else 0
theorem within_any (n m : Int) (w : World) :
    Calls Tryz.prog 204 #[.int .i64 n, .int .i64 m] w fun e w' => e = .returned (.bool (decide (0 ≤ n ∧ n ≤ m))) ∧ w = w' := by
  by_cases h1 : 0 ≤ n
  · go_enter Tryz.func204, Tryz.ntmps204
    go_wp2
    go_ret
    simp [h1]
  · go_enter Tryz.func204, Tryz.ntmps204
    go_wp2
    go_ret
    simp
    omega
theorem known_any (k : Int) (w : World) (hK : LaidK w) :
    Calls Tryz.prog 202 #[.int .i64 k] w fun e w' => e = .returned (.bool (decide (1 ≤ k ∧ k ≤ 4))) ∧ w = w' := by
  obtain ⟨c0, c1, c2, c3, c4, c5, c6, c7, c8, c9⟩ := hK
  by_cases h1 : 0 ≤ k ∧ k ≤ 4
  · obtain rfl | rfl | rfl | rfl | rfl : k = 0 ∨ k = 1 ∨ k = 2 ∨ k = 3 ∨ k = 4 := by omega
    all_goals
      go_enter Tryz.func202, Tryz.ntmps202
      go_wp2_with fail
      refine (within_any _ _ _).mono ?_
      rintro e w' ⟨rfl, rfl⟩
      go_wp2
      go_ret
      exact ⟨rfl, rfl⟩
  · go_enter Tryz.func202, Tryz.ntmps202
    go_wp2_with fail
    refine (within_any _ _ _).mono ?_
    rintro e w' ⟨rfl, rfl⟩
    rw [decide_eq_false h1]
    go_wp2
    go_ret
    refine ⟨?_, rfl⟩
    rw [decide_eq_false (by omega)]
    rfl
theorem lacks_any (k p : Int) (h : 1 ≤ k ∧ k ≤ 4) (w : World) (hK : LaidK w) :
    Calls Tryz.prog 203 #[.int .i64 k, .int .i64 p] w fun e w' => e = .returned (.bool (decide ((k = 2 ∧ p < 1) ∨ (k = 3 ∧ p < 2)))) ∧ w = w' := by
  obtain ⟨c0, c1, c2, c3, c4, c5, c6, c7, c8, c9⟩ := hK
  obtain rfl | rfl | rfl | rfl : k = 1 ∨ k = 2 ∨ k = 3 ∨ k = 4 := by omega
  all_goals
    go_enter Tryz.func203, Tryz.ntmps203
    go_wp2
    go_ret
    simp
abbrev hv (s k p r a t : Int) (h : Bool) : Value := .agg #[.int .u64 s, .int .i64 k, .int .i64 p, .int .i64 r, .int .i64 a, .int .i64 t, .bool h]
abbrev hcells (s k p r a t : Int) (h : Bool) : Array Value := #[.int .u64 s, .int .i64 k, .int .i64 p, .int .i64 r, .int .i64 a, .int .i64 t, .bool h]
theorem flt_kind {k p r a s : Int} (h : k < 1 ∨ 4 < k ∨ (k = 2 ∧ p < 1) ∨ (k = 3 ∧ p < 2)) : flt k p r a s = 20 := by unfold flt; rw [if_pos h]
theorem flt_ptrs {k p r a s : Int} (h : ¬ (k < 1 ∨ 4 < k ∨ (k = 2 ∧ p < 1) ∨ (k = 3 ∧ p < 2))) (h2 : p < 0 ∨ 4095 < p) : flt k p r a s = 21 := by unfold flt; rw [if_neg h, if_pos h2]
theorem flt_raws {k p r a s : Int} (h : ¬ (k < 1 ∨ 4 < k ∨ (k = 2 ∧ p < 1) ∨ (k = 3 ∧ p < 2))) (h2 : ¬ (p < 0 ∨ 4095 < p)) (h3 : r < 0 ∨ 65535 < r) : flt k p r a s = 22 := by unfold flt; rw [if_neg h, if_neg h2, if_pos h3]
theorem flt_age {k p r a s : Int} (h : ¬ (k < 1 ∨ 4 < k ∨ (k = 2 ∧ p < 1) ∨ (k = 3 ∧ p < 2))) (h2 : ¬ (p < 0 ∨ 4095 < p)) (h3 : ¬ (r < 0 ∨ 65535 < r)) (h4 : a < 0 ∨ 15 < a) : flt k p r a s = 23 := by unfold flt; rw [if_neg h, if_neg h2, if_neg h3, if_pos h4]
theorem flt_site {k p r a s : Int} (h : ¬ (k < 1 ∨ 4 < k ∨ (k = 2 ∧ p < 1) ∨ (k = 3 ∧ p < 2))) (h2 : ¬ (p < 0 ∨ 4095 < p)) (h3 : ¬ (r < 0 ∨ 65535 < r)) (h4 : ¬ (a < 0 ∨ 15 < a)) (h5 : s < 0 ∨ 255 < s) : flt k p r a s = 24 := by unfold flt; rw [if_neg h, if_neg h2, if_neg h3, if_neg h4, if_pos h5]
theorem flt_ok {k p r a s : Int} (h : ¬ (k < 1 ∨ 4 < k ∨ (k = 2 ∧ p < 1) ∨ (k = 3 ∧ p < 2))) (h2 : ¬ (p < 0 ∨ 4095 < p)) (h3 : ¬ (r < 0 ∨ 65535 < r)) (h4 : ¬ (a < 0 ∨ 15 < a)) (h5 : ¬ (s < 0 ∨ 255 < s)) : flt k p r a s = 0 := by unfold flt; rw [if_neg h, if_neg h2, if_neg h3, if_neg h4, if_neg h5]
structure May (k p r a s : Int) : Prop where
  k1 : 1 ≤ k
  k4 : k ≤ 4
  weak : ¬ (k = 2 ∧ p < 1)
  eph : ¬ (k = 3 ∧ p < 2)
  p0 : 0 ≤ p
  p1 : p ≤ 4095
  r0 : 0 ≤ r
  r1 : r ≤ 65535
  a0 : 0 ≤ a
  a1 : a ≤ 15
  s0 : 0 ≤ s
  s1 : s ≤ 255
theorem May.of {k p r a s : Int} (h : flt k p r a s = 0) : May k p r a s := by
  unfold flt at h
  split at h; omega
  split at h; omega
  split at h; omega
  split at h; omega
  split at h; omega
  constructor <;> omega
theorem fault_any (s k p r a t : Int) (h : Bool) (w : World) (hK : LaidK w) :
    Calls Tryz.prog 196 #[hv s k p r a t h] w fun e w' => e = .returned (.int .i64 (flt k p r a t)) ∧ w' = w.alloc (.cells (hcells s k p r a t h) 149) := by
  have hK' : LaidK (w.alloc (.cells (hcells s k p r a t h) 149)) := hK.keep (Below.alloc (Below.refl _ _) (Nat.le_refl _) _)
  generalize hf : flt k p r a t = f
  go_enter Tryz.func196, Tryz.ntmps196
  go_wp2_with fail
  refine (known_any k _ hK').mono ?_
  rintro e w' ⟨rfl, rfl⟩
  by_cases c1 : 1 ≤ k ∧ k ≤ 4
  · rw [decide_eq_true c1]
    go_wp2_with fail
    refine (lacks_any k p c1 _ hK').mono ?_
    rintro e w' ⟨rfl, rfl⟩
    by_cases c2 : (k = 2 ∧ p < 1) ∨ (k = 3 ∧ p < 2)
    · rw [decide_eq_true c2]
      go_wp2
      go_ret
      refine ⟨?_, rfl⟩
      rw [← hf, flt_kind (by omega)]
      rfl
    · rw [decide_eq_false c2]
      go_wp2_with fail
      refine (within_any p 4095 _).mono ?_
      rintro e w' ⟨rfl, rfl⟩
      by_cases c3 : ¬ (0 ≤ p ∧ p ≤ 4095)
      · rw [decide_eq_false c3]
        go_wp2
        go_ret
        refine ⟨?_, rfl⟩
        rw [← hf, flt_ptrs (by omega) (by omega)]
        rfl
      · rw [decide_eq_true (Decidable.not_not.1 c3)]
        go_wp2_with fail
        refine (within_any r 65535 _).mono ?_
        rintro e w' ⟨rfl, rfl⟩
        by_cases c4 : ¬ (0 ≤ r ∧ r ≤ 65535)
        · rw [decide_eq_false c4]
          go_wp2
          go_ret
          refine ⟨?_, rfl⟩
          rw [← hf, flt_raws (by omega) (by omega) (by omega)]
          rfl
        · rw [decide_eq_true (Decidable.not_not.1 c4)]
          go_wp2_with fail
          refine (within_any a 15 _).mono ?_
          rintro e w' ⟨rfl, rfl⟩
          by_cases c5 : ¬ (0 ≤ a ∧ a ≤ 15)
          · rw [decide_eq_false c5]
            go_wp2
            go_ret
            refine ⟨?_, rfl⟩
            rw [← hf, flt_age (by omega) (by omega) (by omega) (by omega)]
            rfl
          · rw [decide_eq_true (Decidable.not_not.1 c5)]
            go_wp2_with fail
            refine (within_any t 255 _).mono ?_
            rintro e w' ⟨rfl, rfl⟩
            by_cases c6 : ¬ (0 ≤ t ∧ t ≤ 255)
            · rw [decide_eq_false c6]
              go_wp2
              go_ret
              refine ⟨?_, rfl⟩
              rw [← hf, flt_site (by omega) (by omega) (by omega) (by omega) (by omega)]
              rfl
            · rw [decide_eq_true (Decidable.not_not.1 c6)]
              go_wp2
              go_ret
              refine ⟨?_, rfl⟩
              rw [← hf, flt_ok (by omega) (by omega) (by omega) (by omega) (by omega)]
              rfl
  · rw [decide_eq_false c1]
    go_wp2
    go_ret
    refine ⟨?_, rfl⟩
    rw [← hf, flt_kind (by omega)]
    rfl
theorem join {x y : Int} (b : Nat) (hx0 : 0 ≤ x) (hx : x < ((2 ^ b : Nat) : Int)) (hy0 : 0 ≤ y) (hy : y < 18446744073709551616) (hd : y % ((2 ^ b : Nat) : Int) = 0) (hb : 2 ^ b ≤ 18446744073709551616) : bits .or .u64 x y = x + y := by
  have hb' : ((2 ^ b : Nat) : Int) ≤ 18446744073709551616 := Int.ofNat_le.2 hb
  rw [u64_or x y hx0 (by omega) hy0 hy]
  obtain ⟨i, rfl⟩ := Int.eq_ofNat_of_zero_le hx0
  obtain ⟨j, rfl⟩ := Int.eq_ofNat_of_zero_le hy0
  simp only [Int.toNat_natCast]
  rw [Nat.or_comm, nat_join b j i (by omega) (by omega)]
  push_cast
  omega
def wrd (k p r a s : Int) (h : Bool) : Int := 1 + 4 * k + (if h then 32 else 0) + 64 * a + 1024 * s + 262144 * p + 1073741824 * r
theorem or_wrd {k p r a s : Int} {h : Bool} (d : Int) (hd : d = if h then 1 else 0) (m : May k p r a s) :
    bits .or .u64 (bits .or .u64 (bits .or .u64 (bits .or .u64 (bits .or .u64 (bits .or .u64 (1 * 1) (k * 4)) (d * 32)) (a * 64)) (s * 1024)) (p * 262144)) (r * 1073741824) = wrd k p r a s h := by
  obtain ⟨h1, h2, h3, h4, h5, h6, h7, h8, h9, h10, h11, h12⟩ := m
  have hd' : 0 ≤ d ∧ d ≤ 1 ∧ d * 32 = if h then 32 else 0 := by cases h <;> simp at hd <;> subst hd <;> decide
  unfold wrd
  rw [← hd'.2.2]
  rw [join (x := 1 * 1) (y := k * 4) 2 (by omega) (by omega) (by omega) (by omega) (by omega) (by omega)]
  rw [join (x := 1 * 1 + k * 4) (y := d * 32) 5 (by omega) (by omega) (by omega) (by omega) (by omega) (by omega)]
  rw [join (x := 1 * 1 + k * 4 + d * 32) (y := a * 64) 6 (by omega) (by omega) (by omega) (by omega) (by omega) (by omega)]
  rw [join (x := 1 * 1 + k * 4 + d * 32 + a * 64) (y := s * 1024) 10 (by omega) (by omega) (by omega) (by omega) (by omega) (by omega)]
  rw [join (x := 1 * 1 + k * 4 + d * 32 + a * 64 + s * 1024) (y := p * 262144) 18 (by omega) (by omega) (by omega) (by omega) (by omega) (by omega)]
  rw [join (x := 1 * 1 + k * 4 + d * 32 + a * 64 + s * 1024 + p * 262144) (y := r * 1073741824) 30 (by omega) (by omega) (by omega) (by omega) (by omega) (by omega)]
  omega
def layv (i v : Int) : Int := if i = 0 then v * 1 else if i = 1 then v * 4 else if i = 2 then v * 32 else if i = 3 then v * 64 else if i = 4 then v * 1024 else if i = 5 then v * 262144 else v * 1073741824
structure Fits (i v : Int) : Prop where
  low : 0 ≤ v
  high : (i = 0 ∧ v < 4) ∨ (i = 1 ∧ v < 8) ∨ (i = 2 ∧ v < 2) ∨ (i = 3 ∧ v < 16) ∨ (i = 4 ∧ v < 256) ∨ (i = 5 ∧ v < 4096) ∨ (i = 6 ∧ v < 65536)
theorem lay_all (i v : Int) (w : World) (hB : LaidB w) (hf : Fits i v) :
    Calls Tryz.prog 205 #[.int .i64 i, .int .i64 v] w fun e w' => e = .returned (.int .u64 (layv i v)) ∧ w' = w := by
  obtain ⟨h0, h⟩ := hf
  rcases h with ⟨rfl, h⟩ | ⟨rfl, h⟩ | ⟨rfl, h⟩ | ⟨rfl, h⟩ | ⟨rfl, h⟩ | ⟨rfl, h⟩ | ⟨rfl, h⟩
  · exact lay_0 v h0 h w hB
  · exact lay_1 v h0 h w hB
  · exact lay_2 v h0 h w hB
  · exact lay_3 v h0 h w hB
  · exact lay_4 v h0 h w hB
  · exact lay_5 v h0 h w hB
  · exact lay_6 v h0 h w hB
theorem word_any (s k p r a t : Int) (h : Bool) (m : May k p r a t) (w : World) (hB : LaidB w) :
    Calls Tryz.prog 197 #[hv s k p r a t h] w fun e w' => e = .returned (.int .u64 (wrd k p r a t h)) ∧ Below w.heap.size w w' := by
  have hB' : LaidB (w.alloc (.cells (hcells s k p r a t h) 149)) := hB.keep (Below.alloc (Below.refl _ _) (Nat.le_refl _) _)
  have hall : ∀ i v n, Fits i v → Calls Tryz.prog 205 #[.int .i64 i, .int .i64 v] ((w.alloc (.cells (hcells s k p r a t h) 149)).drewN n) fun e w' => e = .returned (.int .u64 (layv i v)) ∧ w' = (w.alloc (.cells (hcells s k p r a t h) 149)).drewN n := fun i v n hf => lay_all i v _ hB' hf
  obtain ⟨h1, h2, h3, h4, h5, h6, h7, h8, h9, h10, h11, h12⟩ := id m
  have hd : ∃ d : Int, d = (if h then 1 else 0) := ⟨_, rfl⟩
  obtain ⟨d, hd⟩ := hd
  have hd' : 0 ≤ d ∧ d ≤ 1 := by cases h <;> simp at hd <;> subst hd <;> decide
  have f0 : Fits 0 1 := ⟨by omega, by omega⟩
  have f1 : Fits 1 k := ⟨by omega, by omega⟩
  have f2 : Fits 2 d := ⟨by omega, by omega⟩
  have f3 : Fits 3 a := ⟨by omega, by omega⟩
  have f4 : Fits 4 t := ⟨by omega, by omega⟩
  have f5 : Fits 5 p := ⟨by omega, by omega⟩
  have f6 : Fits 6 r := ⟨by omega, by omega⟩
  have hor : bits .or .u64 (bits .or .u64 (bits .or .u64 (bits .or .u64 (bits .or .u64 (bits .or .u64 (layv 0 1) (layv 1 k)) (layv 2 d)) (layv 3 a)) (layv 4 t)) (layv 5 p)) (layv 6 r) = wrd k p r a t h := by
    simp only [layv]
    simpa using or_wrd d hd m
  clear m
  generalize wrd k p r a t h = f at hor ⊢
  clear h1 h2 h3 h4 h5 h6 h7 h8 h9 h10 h11 h12 hd' hB' hB
  cases h
  all_goals
    simp only [Bool.false_eq_true, if_false, if_true] at hd
    subst hd
    go_enter Tryz.func197, Tryz.ntmps197
    go_wp2
    go_quiet ((go_at_call 205; exact Calls.quiet_of_same (hall _ _ _ (by assumption))))
    go_wp2
    go_ret
    refine ⟨?_, below_drewN (Below.alloc (Below.refl _ _) (Nat.le_refl _) _) _⟩
    rfl
structure Laid (w : World) : Prop where
  b : LaidB w
  k : LaidK w
theorem Laid.keep {w w' : World} (h : Laid w) (b : Below w.heap.size w w') : Laid w' := ⟨h.b.keep b, h.k.keep b⟩
theorem Laid.alloc {w : World} (h : Laid w) (o : Obj) : Laid (w.alloc o) := h.keep (Below.alloc (Below.refl _ _) (Nat.le_refl _) _)
def pck (k p r a t : Int) (h : Bool) : Int := if flt k p r a t = 0 then wrd k p r a t h else 0
theorem pack_any (s k p r a t : Int) (h : Bool) (w : World) (hL : Laid w) :
    Calls Tryz.prog 178 #[hv s k p r a t h] w fun e w' => e = .returned (.tuple #[.int .u64 (pck k p r a t h), .int .i64 (flt k p r a t)]) ∧ Below w.heap.size w w' := by
  have hL1 := hL.alloc (.cells (hcells s k p r a t h) 149)
  have hL2 := hL1.alloc (.cells (hcells s k p r a t h) 149)
  by_cases hf : flt k p r a t = 0
  · have hw := word_any s k p r a t h (May.of hf) _ hL2.b
    have hp : pck k p r a t h = wrd k p r a t h := by unfold pck; rw [if_pos hf]
    have hfa := fault_any s k p r a t h _ hL1.k
    rw [hf] at hfa ⊢
    rw [hp]
    clear hf hp
    go_enter Tryz.func178, Tryz.ntmps178
    go_wp2_with fail
    refine hfa.mono ?_
    rintro e w' ⟨rfl, rfl⟩
    go_wp2_with fail
    refine hw.mono ?_
    rintro e w' ⟨rfl, b⟩
    go_wp2
    go_ret2
    refine ⟨rfl, Below.trans ?_ (b.mono (by go_size))⟩
    go_grown
  · have hp : pck k p r a t h = 0 := by unfold pck; rw [if_neg hf]
    have hfa := fault_any s k p r a t h _ hL1.k
    rw [hp]
    generalize flt k p r a t = f at hf hfa ⊢
    go_enter Tryz.func178, Tryz.ntmps178
    go_wp2_with fail
    refine hfa.mono ?_
    rintro e w' ⟨rfl, rfl⟩
    go_wp2
    go_ret2
    refine ⟨rfl, ?_⟩
    go_grown
end Go.Proofs.YtkekaifiahjljaaGreatDoor
namespace Go.Proofs.YtkekaifiahjljaaGreatDoor.Kg
open Go.RowKit
structure Touch (F : List Nat) (w w' : World) : Prop where
  os : w'.os = w.os
  tape : w'.tape = w.tape
  output : w'.output = w.output
  size : w.heap.size ≤ w'.heap.size
  block : ∀ k, k < w.heap.size → k ∉ F → w'.heap[k]? = w.heap[k]?
theorem Touch.refl (F : List Nat) (w : World) : Touch F w w := ⟨rfl, rfl, rfl, Nat.le_refl _, fun _ _ _ => rfl⟩
theorem Touch.mono {F G : List Nat} {a b : World} (h : Touch F a b) (hs : ∀ k, k ∈ F → k ∈ G ∨ a.heap.size ≤ k) : Touch G a b :=
  ⟨h.os, h.tape, h.output, h.size, fun k hk hn => h.block k hk (fun hm => by rcases hs k hm with h1 | h1; exact hn h1; omega)⟩
theorem Touch.trans {F : List Nat} {a b c : World} (h : Touch F a b) (k : Touch F b c) : Touch F a c :=
  ⟨k.os.trans h.os, k.tape.trans h.tape, k.output.trans h.output, Nat.le_trans h.size k.size,
    fun i hi hn => (k.block i (Nat.lt_of_lt_of_le hi h.size) hn).trans (h.block i hi hn)⟩
theorem Touch.then {F G : List Nat} {a b c : World} (h : Touch F a b) (k : Touch G b c) (hs : ∀ x, x ∈ G → x ∈ F ∨ a.heap.size ≤ x) : Touch F a c :=
  ⟨k.os.trans h.os, k.tape.trans h.tape, k.output.trans h.output, Nat.le_trans h.size k.size,
    fun i hi hn => (k.block i (Nat.lt_of_lt_of_le hi h.size) (fun hm => by rcases hs i hm with h1 | h1; exact hn h1; omega)).trans (h.block i hi hn)⟩
theorem Touch.drewN (F : List Nat) (w : World) (n : Nat) : Touch F w (w.drewN n) := ⟨rfl, rfl, rfl, Nat.le_refl _, fun _ _ _ => rfl⟩
theorem Touch.drew (F : List Nat) (w : World) : Touch F w w.drew := ⟨rfl, rfl, rfl, Nat.le_refl _, fun _ _ _ => rfl⟩
theorem Touch.alloc (F : List Nat) (w : World) (o : Obj) : Touch F w (w.alloc o) :=
  ⟨rfl, rfl, rfl, by simp, fun k hk _ => Below.heap_alloc w o k hk⟩
theorem Touch.setCell {F : List Nat} (w : World) (a : Addr) (u : Value) (h : a.block ∈ F) : Touch F w (w.setCell a u) :=
  ⟨rfl, rfl, rfl, by simp [World.setCell], fun k _ hn => Below.heap_setCell _ _ _ _ (fun e => hn (e ▸ h))⟩
theorem Touch.grown {F : List Nat} {w w' : World} {row : Option Nat} (hg : w.grownBy w' row) (hr : ∀ k, row = some k → k ∈ F) : Touch F w w' :=
  ⟨hg.os, hg.tape, hg.output, hg.size, fun k hk hn => hg.block k hk (fun e => hn (hr k e.symm))⟩
theorem Touch.below {F : List Nat} {w w' : World} {B : Nat} (h : Touch F w w') (hB : B ≤ w.heap.size) (hF : ∀ k, k ∈ F → B ≤ k) : Below B w w' :=
  ⟨h.os, h.tape, h.output, h.size, fun k hk => h.block k (by omega) (fun hm => by have := hF k hm; omega)⟩
theorem Touch.of_below {w w' : World} (h : Below w.heap.size w w') (F : List Nat) : Touch F w w' :=
  ⟨h.os, h.tape, h.output, h.size, fun k hk _ => h.block k hk⟩
def Newer (n : Nat) (F F' : List Nat) : Prop := ∀ k, k ∈ F' → k ∈ F ∨ n ≤ k
theorem Newer.refl (n : Nat) (F : List Nat) : Newer n F F := fun _ h => .inl h
def Apart (F G : List Nat) : Prop := ∀ k, k ∈ F → k ∉ G
theorem heap_cell {w : World} {b t : Nat} {cs : Array Value} (h : w.heap[b]? = some (.cells cs t (0, 0))) (j : Nat) : w.cell? ⟨b, j, none⟩ = cs[j]? := cell_of_row w b j cs t (0, 0) h
theorem heap_frozen {w : World} {b t : Nat} {cs : Array Value} (h : w.heap[b]? = some (.cells cs t (0, 0))) (j : Nat) : w.frozen? ⟨b, j, none⟩ = false := by
  simp [World.frozen?, h]
theorem heap_set {w : World} {b t : Nat} {cs : Array Value} (h : w.heap[b]? = some (.cells cs t (0, 0))) (j : Nat) (u : Value) :
    (w.setCell ⟨b, j, none⟩ u).heap[b]? = some (.cells (cs.setIfInBounds j u) t (0, 0)) := by
  simp [World.setCell, Array.getElem?_modify, h]
theorem heap_lt {w : World} {b : Nat} {o : Obj} (h : w.heap[b]? = some o) : b < w.heap.size := (Array.getElem?_eq_some_iff.1 h).1
theorem row_base {w : World} {base base' n e size : Nat} {v : Value} {xs : List Value} (h : w.ownsRow base e size v n xs) (hle : base' ≤ base) : w.ownsRow base' e size v n xs := by
  refine ⟨h.1, ?_⟩
  rcases h.2 with hn | ⟨g, cap, cur, rfl, hb, rest⟩
  · exact .inl hn
  · exact .inr ⟨g, cap, cur, rfl, by omega, rest⟩
theorem row_keep2 {w w' : World} {base n e size : Nat} {v : Value} {xs : List Value} {G : List Nat} (h : w.ownsRow base e size v n xs) (ht : Touch G w w') (ha : ∀ k, v.ownBlock = some k → k ∉ G) : w'.ownsRow base e size v n xs := by
  refine ⟨h.1, ?_⟩
  rcases h.2 with hn | ⟨g, cap, cur, rfl, hb', hg, rest⟩
  · exact .inl hn
  · refine .inr ⟨g, cap, cur, rfl, hb', ?_, rest⟩
    rw [ht.block g (heap_lt hg) (ha g rfl)]; exact hg
theorem Tryz.infoInt : (Tryz.prog.info? 3).map (fun i => (i.zero, i.size, i.bytes)) = some (some (.int .i64 0), 1, 8) := by kernel_rfl
abbrev ints (xs : List Int) : List Value := xs.map (Value.int .i64)
theorem row_ne {w : World} {b base t n : Nat} {cs : Array Value} {v : Value} {xs : List Value} {e : Nat} (hh : w.heap[b]? = some (.cells cs t (0, 0))) (hr : w.ownsRow base e 1 v n xs) (hte : t ≠ e := by decide) : some b ≠ v.ownBlock := by
  intro h
  rcases hr.2 with ⟨rfl, _⟩ | ⟨g, cap, cur, rfl, _, hg, _⟩
  · simp [Value.ownBlock] at h
  · simp only [Value.ownBlock, Option.some.injEq] at h
    subst h
    rw [hh] at hg
    simp only [Option.some.injEq, Obj.cells.injEq] at hg
    exact hte hg.2.1
theorem ownsRow_setOther {w : World} {base : Nat} {e : TypeId} {size : Nat} {v : Value} {n : Nat} {xs : List Value} (h : w.ownsRow base e size v n xs) {a : Addr} (ha : some a.block ≠ v.ownBlock) (u : Value) : (w.setCell a u).ownsRow base e size v n xs := by
  obtain ⟨h1, h2⟩ := h
  refine ⟨h1, ?_⟩
  rcases h2 with h2 | ⟨g, cap, cur, rfl, hg, hh, r⟩
  · exact Or.inl h2
  · exact Or.inr ⟨g, cap, cur, rfl, hg, by rw [Below.heap_setCell _ _ _ _ (fun e => ha (by rw [← e]; rfl))]; exact hh, r⟩
theorem still_tail {P : Program} {id : Nat} {Q : Exit → Act → World → Prop} {a : Act} {w : World} {l : List Oper} (n : Nat) (hm : P.follows .mixedOrders = true) (hB : Region.lexTailB .any l.toArray n = true)
    (h : wpStill P l.toArray w.drew (fun a' => wpList P l.toArray Q (l.drop n) a' w.drew) (l.take n) a) : (Code.region id l.toArray true).wp P Q a w := wp_region_still_tail n hm hB h
theorem still_of_quiet {P : Program} {ops : Array Oper} {w0 : World} {Q : Act → Prop} : ∀ (l : List Oper) (a : Act), wpQuiet P ops (fun w' => w' = w0) Q l a → wpStill P ops w0 Q l a
  | [], _, h => h
  | o :: rest, a, h => by
    unfold wpQuiet at h
    unfold wpStill
    by_cases hw : Region.wanted o (yielded ops a.tmps) = true
    · rw [if_pos hw] at h ⊢
      obtain ⟨v, h1, h2⟩ := h
      have h3 := h1 w0 rfl
      have h4 := still_of_quiet rest _ h2
      unfold Oper.quietAt at h3
      unfold Oper.still
      cases hr : (execOp a.eval o).run P w0 with
      | ok x w' =>
        rw [hr] at h3
        cases x with
        | value u => exact ⟨h3.1, by rw [h3.2]; exact h4⟩
        | skip => exact ⟨h3.1, by rw [← h3.2]; exact h4⟩
        | enter f args => exact ⟨h3.1, v, h3.2, h4⟩
        | _ => exact h3.elim
      | _ => rw [hr] at h3; exact h3.elim
    · rw [if_neg hw] at h ⊢
      exact still_of_quiet rest _ h
theorem quiet_tail {P : Program} {id : Nat} {Q : Exit → Act → World → Prop} {a : Act} {w : World} {l : List Oper} (n : Nat) (hm : P.follows .mixedOrders = true) (hB : Region.lexTailB .any l.toArray n = true)
    (h : wpQuiet P l.toArray (fun w' => w' = w.drew) (fun a' => wpList P l.toArray Q (l.drop n) a' w.drew) (l.take n) a) : (Code.region id l.toArray true).wp P Q a w := still_tail n hm hB (still_of_quiet _ _ h)
theorem mixed : Tryz.prog.follows .mixedOrders = true := by kernel_rfl
end Go.Proofs.YtkekaifiahjljaaGreatDoor.Kg
