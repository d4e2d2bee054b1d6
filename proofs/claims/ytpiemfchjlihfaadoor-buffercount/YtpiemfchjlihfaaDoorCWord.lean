/-
  word and head: a head as a word, and back.
-/
import Derived.Test.YtpiemfchjlihfaaDoorCFlt
set_option linter.unusedVariables false
namespace Go.Proofs.YtpiemfchjlihfaaDoor
open Go.RowKit

theorem join {x y : Int} (b : Nat) (hx0 : 0 ≤ x) (hx : x < ((2 ^ b : Nat) : Int)) (hy0 : 0 ≤ y) (hy : y < 18446744073709551616) (hd : y % ((2 ^ b : Nat) : Int) = 0) (hb : 2 ^ b ≤ 18446744073709551616) : bits .or .u64 x y = x + y := by
  have hb' : ((2 ^ b : Nat) : Int) ≤ 18446744073709551616 := Int.ofNat_le.2 hb
  rw [u64_or x y hx0 (by omega) hy0 hy]
  obtain ⟨i, rfl⟩ := Int.eq_ofNat_of_zero_le hx0
  obtain ⟨j, rfl⟩ := Int.eq_ofNat_of_zero_le hy0
  simp only [Int.toNat_natCast]
  rw [Nat.or_comm, nat_join b j i (by omega) (by omega)]
  push_cast
  omega

/-- P2.1. -/
def wrd (k p r a s : Int) (h : Bool) : Int := 1 + 4 * k + (if h then 32 else 0) + 64 * a + 1024 * s + 262144 * p + 1073741824 * r

theorem or_wrd {k p r a s : Int} {h : Bool} (d : Int) (hd : d = if h then 1 else 0) (m : May k p r a s) :
    bits .or .u64 (bits .or .u64 (bits .or .u64 (bits .or .u64 (bits .or .u64 (bits .or .u64 (1 * 1) (k * 4)) (d * 32)) (a * 64)) (s * 1024)) (p * 262144)) (r * 1073741824) = wrd k p r a s h := by
  obtain ⟨h1, h2, h3, h4, h5, h6, h7, h8, h9, h10, h11, h12⟩ := m
  have hd' : 0 ≤ d ∧ d ≤ 1 ∧ d * 32 = if h then 32 else 0 := by cases h <;> simp at hd <;> subst hd <;> decide
  unfold wrd
  rw [← hd'.2.2]
  rw [join (x := 1 * 1) (y := k * 4) 2 (by omega) (by omega) (by omega) (by omega) (by omega) (by omega)]
  rw [join (x := 1 * 1 + k * 4) (y := d * 32) 5 (by omega) (by omega) (by omega) (by omega) (by omega) (by omega)]
  rw [join (x := 1 * 1 + k * 4 + d * 32) (y := a * 64) 6 (by omega) (by omega) (by omega) (by omega) (by omega) (by omega)]
  rw [join (x := 1 * 1 + k * 4 + d * 32 + a * 64) (y := s * 1024) 10 (by omega) (by omega) (by omega) (by omega) (by omega) (by omega)]
  rw [join (x := 1 * 1 + k * 4 + d * 32 + a * 64 + s * 1024) (y := p * 262144) 18 (by omega) (by omega) (by omega) (by omega) (by omega) (by omega)]
  rw [join (x := 1 * 1 + k * 4 + d * 32 + a * 64 + s * 1024 + p * 262144) (y := r * 1073741824) 30 (by omega) (by omega) (by omega) (by omega) (by omega) (by omega)]
  omega

/-- What lay tells. -/
def layv (i v : Int) : Int := if i = 0 then v * 1 else if i = 1 then v * 4 else if i = 2 then v * 32 else if i = 3 then v * 64 else if i = 4 then v * 1024 else if i = 5 then v * 262144 else v * 1073741824

structure Fits (i v : Int) : Prop where
  low : 0 ≤ v
  high : (i = 0 ∧ v < 4) ∨ (i = 1 ∧ v < 8) ∨ (i = 2 ∧ v < 2) ∨ (i = 3 ∧ v < 16) ∨ (i = 4 ∧ v < 256) ∨ (i = 5 ∧ v < 4096) ∨ (i = 6 ∧ v < 65536)

theorem lay_all (i v : Int) (w : World) (hB : LaidB w) (hf : Fits i v) :
    Calls Tryd.prog 65 #[.int .i64 i, .int .i64 v] w fun e w' => e = .returned (.int .u64 (layv i v)) ∧ w' = w := by
  obtain ⟨h0, h⟩ := hf
  rcases h with ⟨rfl, h⟩ | ⟨rfl, h⟩ | ⟨rfl, h⟩ | ⟨rfl, h⟩ | ⟨rfl, h⟩ | ⟨rfl, h⟩ | ⟨rfl, h⟩
  · exact lay_0 v h0 h w hB
  · exact lay_1 v h0 h w hB
  · exact lay_2 v h0 h w hB
  · exact lay_3 v h0 h w hB
  · exact lay_4 v h0 h w hB
  · exact lay_5 v h0 h w hB
  · exact lay_6 v h0 h w hB

set_option maxHeartbeats 1000000 in
theorem word_any (s k p r a t : Int) (h : Bool) (m : May k p r a t) (w : World) (hB : LaidB w) :
    Calls Tryd.prog 43 #[hv s k p r a t h] w fun e w' => e = .returned (.int .u64 (wrd k p r a t h)) ∧ Below w.heap.size w w' := by
  have hB' : LaidB (w.alloc (.cells (hcells s k p r a t h) 38)) := hB.keep (Below.alloc (Below.refl _ _) (Nat.le_refl _) _)
  have hall : ∀ i v n, Fits i v → Calls Tryd.prog 65 #[.int .i64 i, .int .i64 v] ((w.alloc (.cells (hcells s k p r a t h) 38)).drewN n) fun e w' => e = .returned (.int .u64 (layv i v)) ∧ w' = (w.alloc (.cells (hcells s k p r a t h) 38)).drewN n := fun i v n hf => lay_all i v _ hB' hf
  obtain ⟨h1, h2, h3, h4, h5, h6, h7, h8, h9, h10, h11, h12⟩ := id m
  have hd : ∃ d : Int, d = (if h then 1 else 0) := ⟨_, rfl⟩
  obtain ⟨d, hd⟩ := hd
  have hd' : 0 ≤ d ∧ d ≤ 1 := by cases h <;> simp at hd <;> subst hd <;> decide
  have f0 : Fits 0 1 := ⟨by omega, by omega⟩
  have f1 : Fits 1 k := ⟨by omega, by omega⟩
  have f2 : Fits 2 d := ⟨by omega, by omega⟩
  have f3 : Fits 3 a := ⟨by omega, by omega⟩
  have f4 : Fits 4 t := ⟨by omega, by omega⟩
  have f5 : Fits 5 p := ⟨by omega, by omega⟩
  have f6 : Fits 6 r := ⟨by omega, by omega⟩
  have hor : bits .or .u64 (bits .or .u64 (bits .or .u64 (bits .or .u64 (bits .or .u64 (bits .or .u64 (layv 0 1) (layv 1 k)) (layv 2 d)) (layv 3 a)) (layv 4 t)) (layv 5 p)) (layv 6 r) = wrd k p r a t h := by
    simp only [layv]
    simpa using or_wrd d hd m
  clear m
  generalize wrd k p r a t h = f at hor ⊢
  clear h1 h2 h3 h4 h5 h6 h7 h8 h9 h10 h11 h12 hd' hB' hB
  cases h
  all_goals
    simp only [Bool.false_eq_true, if_false, if_true] at hd
    subst hd
    go_enter Tryd.func43, Tryd.ntmps43
    go_wp2
    go_quiet ((go_at_call 65; exact Calls.quiet_of_same (hall _ _ _ (by assumption))))
    go_wp2
    go_ret
    refine ⟨?_, below_drewN (Below.alloc (Below.refl _ _) (Nat.le_refl _) _) _⟩
    rfl

end Go.Proofs.YtpiemfchjlihfaaDoor
