/-
  fault, word, head.
-/
import Derived.Test.YtpiemfchjlihfaaDoorCFault
set_option linter.unusedVariables false
namespace Go.Proofs.YtpiemfchjlihfaaDoor
open Go.RowKit

/-- A head as a value. -/
abbrev hv (s k p r a t : Int) (h : Bool) : Value := .agg #[.int .u64 s, .int .i64 k, .int .i64 p, .int .i64 r, .int .i64 a, .int .i64 t, .bool h]

abbrev hcells (s k p r a t : Int) (h : Bool) : Array Value := #[.int .u64 s, .int .i64 k, .int .i64 p, .int .i64 r, .int .i64 a, .int .i64 t, .bool h]

theorem flt_kind {k p r a s : Int} (h : k < 1 ∨ 4 < k ∨ (k = 2 ∧ p < 1) ∨ (k = 3 ∧ p < 2)) : flt k p r a s = 20 := by unfold flt; rw [if_pos h]
theorem flt_ptrs {k p r a s : Int} (h : ¬ (k < 1 ∨ 4 < k ∨ (k = 2 ∧ p < 1) ∨ (k = 3 ∧ p < 2))) (h2 : p < 0 ∨ 4095 < p) : flt k p r a s = 21 := by unfold flt; rw [if_neg h, if_pos h2]
theorem flt_raws {k p r a s : Int} (h : ¬ (k < 1 ∨ 4 < k ∨ (k = 2 ∧ p < 1) ∨ (k = 3 ∧ p < 2))) (h2 : ¬ (p < 0 ∨ 4095 < p)) (h3 : r < 0 ∨ 65535 < r) : flt k p r a s = 22 := by unfold flt; rw [if_neg h, if_neg h2, if_pos h3]
theorem flt_age {k p r a s : Int} (h : ¬ (k < 1 ∨ 4 < k ∨ (k = 2 ∧ p < 1) ∨ (k = 3 ∧ p < 2))) (h2 : ¬ (p < 0 ∨ 4095 < p)) (h3 : ¬ (r < 0 ∨ 65535 < r)) (h4 : a < 0 ∨ 15 < a) : flt k p r a s = 23 := by unfold flt; rw [if_neg h, if_neg h2, if_neg h3, if_pos h4]
theorem flt_site {k p r a s : Int} (h : ¬ (k < 1 ∨ 4 < k ∨ (k = 2 ∧ p < 1) ∨ (k = 3 ∧ p < 2))) (h2 : ¬ (p < 0 ∨ 4095 < p)) (h3 : ¬ (r < 0 ∨ 65535 < r)) (h4 : ¬ (a < 0 ∨ 15 < a)) (h5 : s < 0 ∨ 255 < s) : flt k p r a s = 24 := by unfold flt; rw [if_neg h, if_neg h2, if_neg h3, if_neg h4, if_pos h5]
theorem flt_ok {k p r a s : Int} (h : ¬ (k < 1 ∨ 4 < k ∨ (k = 2 ∧ p < 1) ∨ (k = 3 ∧ p < 2))) (h2 : ¬ (p < 0 ∨ 4095 < p)) (h3 : ¬ (r < 0 ∨ 65535 < r)) (h4 : ¬ (a < 0 ∨ 15 < a)) (h5 : ¬ (s < 0 ∨ 255 < s)) : flt k p r a s = 0 := by unfold flt; rw [if_neg h, if_neg h2, if_neg h3, if_neg h4, if_neg h5]

/-- A head that may be. -/
structure May (k p r a s : Int) : Prop where
  k1 : 1 ≤ k
  k4 : k ≤ 4
  weak : ¬ (k = 2 ∧ p < 1)
  eph : ¬ (k = 3 ∧ p < 2)
  p0 : 0 ≤ p
  p1 : p ≤ 4095
  r0 : 0 ≤ r
  r1 : r ≤ 65535
  a0 : 0 ≤ a
  a1 : a ≤ 15
  s0 : 0 ≤ s
  s1 : s ≤ 255

theorem May.of {k p r a s : Int} (h : flt k p r a s = 0) : May k p r a s := by
  unfold flt at h
  split at h; omega
  split at h; omega
  split at h; omega
  split at h; omega
  split at h; omega
  constructor <;> omega

theorem May.flt {k p r a s : Int} (h : May k p r a s) : flt k p r a s = 0 := by
  obtain ⟨h1, h2, h3, h4, h5, h6, h7, h8, h9, h10, h11, h12⟩ := h
  exact flt_ok (by omega) (by omega) (by omega) (by omega) (by omega)

set_option maxHeartbeats 1000000 in
theorem fault_any (s k p r a t : Int) (h : Bool) (w : World) (hK : LaidK w) :
    Calls Tryd.prog 42 #[hv s k p r a t h] w fun e w' => e = .returned (.int .i64 (flt k p r a t)) ∧ w' = w.alloc (.cells (hcells s k p r a t h) 38) := by
  have hK' : LaidK (w.alloc (.cells (hcells s k p r a t h) 38)) := hK.keep (Below.alloc (Below.refl _ _) (Nat.le_refl _) _)
  generalize hf : flt k p r a t = f
  go_enter Tryd.func42, Tryd.ntmps42
  go_wp2_with fail
  refine (known_any k _ hK').mono ?_
  rintro e w' ⟨rfl, rfl⟩
  by_cases c1 : 1 ≤ k ∧ k ≤ 4
  · rw [decide_eq_true c1]
    go_wp2_with fail
    refine (lacks_any k p c1 _ hK').mono ?_
    rintro e w' ⟨rfl, rfl⟩
    by_cases c2 : (k = 2 ∧ p < 1) ∨ (k = 3 ∧ p < 2)
    · rw [decide_eq_true c2]
      go_wp2
      go_ret
      refine ⟨?_, rfl⟩
      rw [← hf, flt_kind (by omega)]
      rfl
    · rw [decide_eq_false c2]
      go_wp2_with fail
      refine (within_any p 4095 _).mono ?_
      rintro e w' ⟨rfl, rfl⟩
      by_cases c3 : ¬ (0 ≤ p ∧ p ≤ 4095)
      · rw [decide_eq_false c3]
        go_wp2
        go_ret
        refine ⟨?_, rfl⟩
        rw [← hf, flt_ptrs (by omega) (by omega)]
        rfl
      · rw [decide_eq_true (Decidable.not_not.1 c3)]
        go_wp2_with fail
        refine (within_any r 65535 _).mono ?_
        rintro e w' ⟨rfl, rfl⟩
        by_cases c4 : ¬ (0 ≤ r ∧ r ≤ 65535)
        · rw [decide_eq_false c4]
          go_wp2
          go_ret
          refine ⟨?_, rfl⟩
          rw [← hf, flt_raws (by omega) (by omega) (by omega)]
          rfl
        · rw [decide_eq_true (Decidable.not_not.1 c4)]
          go_wp2_with fail
          refine (within_any a 15 _).mono ?_
          rintro e w' ⟨rfl, rfl⟩
          by_cases c5 : ¬ (0 ≤ a ∧ a ≤ 15)
          · rw [decide_eq_false c5]
            go_wp2
            go_ret
            refine ⟨?_, rfl⟩
            rw [← hf, flt_age (by omega) (by omega) (by omega) (by omega)]
            rfl
          · rw [decide_eq_true (Decidable.not_not.1 c5)]
            go_wp2_with fail
            refine (within_any t 255 _).mono ?_
            rintro e w' ⟨rfl, rfl⟩
            by_cases c6 : ¬ (0 ≤ t ∧ t ≤ 255)
            · rw [decide_eq_false c6]
              go_wp2
              go_ret
              refine ⟨?_, rfl⟩
              rw [← hf, flt_site (by omega) (by omega) (by omega) (by omega) (by omega)]
              rfl
            · rw [decide_eq_true (Decidable.not_not.1 c6)]
              go_wp2
              go_ret
              refine ⟨?_, rfl⟩
              rw [← hf, flt_ok (by omega) (by omega) (by omega) (by omega) (by omega)]
              rfl
  · rw [decide_eq_false c1]
    go_wp2
    go_ret
    refine ⟨?_, rfl⟩
    rw [← hf, flt_kind (by omega)]
    rfl

end Go.Proofs.YtpiemfchjlihfaaDoor
