/-
  BufferCount: how many buffers k objects take.
-/
import Derived.Test.YtpiemfchjlihfaaDoorBC2
set_option linter.unusedVariables false
set_option maxRecDepth 20000
namespace Go.Proofs.YtpiemfchjlihfaaDoor
open Go.RowKit

theorem among13_any (a n : Int) (h1 : -9223372036854775808 ≤ a) (h2 : a < 9223372036854775808) (hn : 0 < n ∧ n ≤ 1000000) (w : World) :
    Calls Tryd.prog 8 #[.int .i64 a, .int .i64 n] w fun e w' => e = .returned (.int .i64 ((if a < 0 then -(a + 1) else a) % n)) ∧ w = w' := by
  have hz : ¬ n = 0 := by omega
  by_cases h : a < 0
  · rw [if_pos h]
    have hm : (-(a + 1)).tmod n = -(a + 1) % n := Int.tmod_eq_emod_of_nonneg (by omega)
    have hm0 : 0 ≤ -(a + 1) % n := Int.emod_nonneg _ hz
    have hm1 : -(a + 1) % n < n := Int.emod_lt_of_pos _ hn.1
    generalize hM : -(a + 1) % n = M at hm hm0 hm1 ⊢
    clear hM
    go_enter Tryd.func8, Tryd.ntmps8
    go_wp2
    go_ret
    refine ⟨?_, rfl⟩
    first | rfl | (simp [hm])
  · rw [if_neg h]
    have hm : a.tmod n = a % n := Int.tmod_eq_emod_of_nonneg (by omega)
    have hm0 : 0 ≤ a % n := Int.emod_nonneg _ hz
    have hm1 : a % n < n := Int.emod_lt_of_pos _ hn.1
    generalize hM : a % n = M at hm hm0 hm1 ⊢
    clear hM
    go_enter Tryd.func8, Tryd.ntmps8
    go_wp2
    go_ret
    refine ⟨?_, rfl⟩
    first | rfl | (simp [hm])

theorem among13_nat (a : Int) (n : Nat) (h1 : -9223372036854775808 ≤ a) (h2 : a < 9223372036854775808) (hn : 0 < n ∧ n ≤ 1000000) : ∃ v : Nat, v < n ∧ ∀ w : World, Calls Tryd.prog 8 #[.int .i64 a, .int .i64 n] w fun e w' => e = .returned (.int .i64 v) ∧ w = w' := by
  have hz : (n : Int) ≠ 0 := by omega
  have hm0 : 0 ≤ (if a < 0 then -(a + 1) else a) % (n : Int) := Int.emod_nonneg _ hz
  have hm1 : (if a < 0 then -(a + 1) else a) % (n : Int) < n := Int.emod_lt_of_pos _ (by omega)
  obtain ⟨v, hv⟩ : ∃ v : Nat, (if a < 0 then -(a + 1) else a) % (n : Int) = v := ⟨((if a < 0 then -(a + 1) else a) % (n : Int)).toNat, by omega⟩
  refine ⟨v, by omega, fun w => ?_⟩
  rw [← hv]
  exact among13_any a n h1 h2 (by omega) w

abbrev cbig : Cfg := ⟨2000, 64, 64, 64, 0, 1, 1, 50, 1, 2, 1, 0, 0, 1⟩
theorem cbig_ok : cbig.Ok := by constructor <;> decide

/-- i objects of n words each have been laid by thread 0, a buffers, j objects in the last one. -/
structure Cn (n W E i a j : Nat) (x : Tps) (B : Bfs) : Prop where
  ij : (i = 0 ∧ a = 0 ∧ j = 0) ∨ (1 ≤ a ∧ 1 ≤ j ∧ j ≤ E ∧ i + E = a * E + j)
  top : x.t1 = 1 + W + a * W
  bn : B.n = 2
  sz : B.size = W
  w0 : B.ws 0 = if i = 0 then 0 else (W : Int) - j * n
  a0 : 0 < B.ws 0 → B.at_ 0 + W = 1 + W + a * W + j * n
  w1 : B.ws 1 = (W : Int) - n
  a1 : B.at_ 1 = if (W : Int) - n = 0 then 0 else 1 + (n : Int)

theorem Cn.cases {n W E i a j : Nat} {x : Tps} {B : Bfs} (h : Cn n W E i a j x B) (hE : 1 ≤ E) : (j < E ∧ 1 ≤ a ∧ i / E + 1 = a ∧ i % E = j) ∨ (i / E = a ∧ i % E = 0 ∧ (i = 0 ∨ j = E)) := by
  rcases h.ij with ⟨h1, h2, h3⟩ | ⟨h1, h2, h3, h4⟩
  · subst h1 h2 h3
    exact .inr ⟨by simp, by simp, .inl rfl⟩
  · obtain ⟨a', rfl⟩ : ∃ a', a = a' + 1 := ⟨a - 1, by omega⟩
    have h5 : i = a' * E + j := by rw [Nat.add_mul] at h4; omega
    by_cases hj : j = E
    · right
      subst hj
      have h6 : i = (a' + 1) * j := by rw [Nat.add_mul]; omega
      exact ⟨by rw [h6]; exact Nat.mul_div_cancel _ (by omega), by rw [h6]; exact Nat.mul_mod_left _ _, .inr rfl⟩
    · left
      have hj' : j < E := by omega
      refine ⟨hj', h1, ?_, ?_⟩
      · rw [h5, Nat.add_comm (a' * E) j, Nat.add_mul_div_right _ _ (by omega), Nat.div_eq_of_lt hj']; omega
      · rw [h5, Nat.add_comm (a' * E) j, Nat.add_mul_mod_self_right, Nat.mod_eq_of_lt hj']

theorem Cn.used {n W E i a j : Nat} {x : Tps} {B : Bfs} (h : Cn n W E i a j x B) (hE : 1 ≤ E) : (i + E - 1) / E = a := by
  rcases h.ij with ⟨h1, h2, h3⟩ | ⟨h1, h2, h3, h4⟩
  · subst h1 h2
    exact Nat.div_eq_of_lt (by omega)
  · have h5 : i + E - 1 = (j - 1) + a * E := by omega
    rw [h5, Nat.add_mul_div_right _ _ (by omega), Nat.div_eq_of_lt (by omega)]
    omega

theorem Cn.le {n W E i a j : Nat} {x : Tps} {B : Bfs} (h : Cn n W E i a j x B) (hE : 1 ≤ E) : a ≤ i := by
  rcases h.ij with ⟨h1, h2, h3⟩ | ⟨h1, h2, h3, h4⟩
  · omega
  · obtain ⟨a', rfl⟩ : ∃ a', a = a' + 1 := ⟨a - 1, by omega⟩
    have h5 : i = a' * E + j := by rw [Nat.add_mul] at h4; omega
    have h6 : a' * 1 ≤ a' * E := Nat.mul_le_mul_left _ hE
    omega

/-- The next object goes into the rest. -/
theorem Cn.rest {n W E i a j : Nat} {x : Tps} {B : Bfs} (h : Cn n W E i a j x B) (hj : j < E) (ha : 1 ≤ a) (hE : E * n ≤ W) (hn : 2 ≤ n) : (n : Int) ≤ B.ws 0 ∧ B.at_ 0 = (1 + W + (a - 1) * W + j * n : Nat) ∧ Cn n W E (i + 1) a (j + 1) x (B.drop 0 n) := by
  have hi : i ≠ 0 := by
    rcases h.ij with ⟨h1, h2, h3⟩ | ⟨h1, h2, h3, h4⟩
    · omega
    · have : E ≤ a * E := Nat.le_mul_of_pos_left _ (by omega)
      omega
  have h0 := h.w0
  rw [if_neg hi] at h0
  have h1 : (j + 1) * n ≤ E * n := Nat.mul_le_mul_right _ hj
  have h1' : (j + 1) * n = j * n + n := by rw [Nat.add_mul]; omega
  have h2 : ((j * n : Nat) : Int) = (j : Int) * n := by simp
  have h3 : ((a * W : Nat) : Int) = (a : Int) * W := by simp
  obtain ⟨a', rfl⟩ : ∃ a', a = a' + 1 := ⟨a - 1, by omega⟩
  have h4 : (a' + 1) * W = a' * W + W := by rw [Nat.add_mul]; omega
  have h5 : a' + 1 - 1 = a' := by omega
  have hws : (n : Int) ≤ B.ws 0 := by rw [h0]; omega
  have hat := h.a0 (by omega)
  have hq : B.at_ 0 = (1 + W + a' * W + j * n : Nat) := by rw [← h3, ← h2, h4] at hat; omega
  refine ⟨hws, by rw [h5]; exact hq, ?_, h.top, h.bn, h.sz, ?_, ?_, h.w1, h.a1⟩
  · right
    rcases h.ij with ⟨h1, h2, h3⟩ | ⟨h1, h2, h3, h4⟩ <;> omega
  · rw [if_neg (by omega)]
    show B.ws 0 - n = _
    rw [h0]
    have : (((j + 1 : Nat) : Int)) * n = (j : Int) * n + n := by rw [Int.natCast_add, Int.add_mul]; omega
    omega
  · intro hp
    have hp' : 0 < B.ws 0 - (n : Int) := hp
    have e : (B.drop 0 n).at_ 0 = if B.ws 0 - (n : Int) = 0 then 0 else B.at_ 0 + n := Bfs.put_at _ _ _ _
    rw [e, if_neg (by omega)]
    have : (((j + 1 : Nat) : Int)) * n = (j : Int) * n + n := by rw [Int.natCast_add, Int.add_mul]; omega
    omega

/-- The next object takes a new buffer. -/
theorem Cn.new {n W E i a j : Nat} {x : Tps} {B : Bfs} (h : Cn n W E i a j x B) (hj : i = 0 ∨ j = E) (hE1 : 1 ≤ E) (hE : W < E * n + n) (hn : 2 ≤ n) (hW : n ≤ W) : ¬ (n : Int) ≤ B.ws 0 ∧ x.t1 = (1 + W + a * W : Nat) ∧ Cn n W E (i + 1) (a + 1) 1 (x.put 1 ((1 + W + a * W : Nat) + (W : Nat))) ((B.put 0 (1 + W + a * W : Nat) W).drop 0 n) := by
  have h2 : ((j * n : Nat) : Int) = (j : Int) * n := by simp
  have h3 : ((a * W : Nat) : Int) = (a : Int) * W := by simp
  have h4 : (((a + 1 : Nat) : Int)) * W = (a : Int) * W + W := by rw [Int.natCast_add, Int.add_mul]; omega
  refine ⟨?_, by rw [h.top, ← h3]; omega, ?_, ?_, h.bn, h.sz, ?_, ?_, h.w1, h.a1⟩
  · rw [h.w0]
    rcases hj with e | e
    · rw [if_pos e]; omega
    · by_cases e0 : i = 0
      · rw [if_pos e0]; omega
      · rw [if_neg e0, ← h2, e]; omega
  · right
    refine ⟨by omega, by omega, hE1, ?_⟩
    rcases h.ij with ⟨q1, q2, q3⟩ | ⟨q1, q2, q3, q4⟩
    · subst q1 q2; simp; omega
    · have : i ≠ 0 := by
        intro e0
        rcases hj with e | e
        · subst e0
          have : E ≤ a * E := Nat.le_mul_of_pos_left _ (by omega)
          omega
        · subst e0
          have : E ≤ a * E := Nat.le_mul_of_pos_left _ (by omega)
          omega
      have e : j = E := by omega
      rw [Nat.add_mul]; omega
  · show ((1 + W + a * W : Nat) : Int) + (W : Nat) = _
    rw [h4, ← h3]; omega
  · rw [if_neg (by omega)]
    show (W : Int) - n = _
    simp
  · intro hp
    have hp' : 0 < (W : Int) - (n : Int) := hp
    have e : ((B.put 0 (1 + W + a * W : Nat) W).drop 0 n).at_ 0 = if (W : Int) - (n : Int) = 0 then 0 else ((1 + W + a * W : Nat) : Int) + n := Bfs.put_at _ _ _ _
    rw [e, if_neg (by omega), h4, ← h3]
    omega

end Go.Proofs.YtpiemfchjlihfaaDoor
