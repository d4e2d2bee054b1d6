/-
  MarksGoes, walked.
-/
import Derived.Test.YtlnfhnahnmblmaaDoorM15
set_option linter.unusedVariables false
set_option maxRecDepth 100000
namespace Go.Proofs.YtlnfhnahnmblmaaDoor
open Go.RowKit Go.Shelf

theorem rk_cut_le (M : Nat → Bool) (f e : Nat) : ∀ a, rk (cut M f e) a ≤ a - f
  | 0 => by simp [rk]
  | a + 1 => by
    have := rk_cut_le M f e a
    simp only [rk]
    by_cases h : f ≤ a
    · cases cut M f e a <;> simp <;> omega
    · have : cut M f e a = false := by simp [cut, h]
      rw [this]; simp; omega

theorem rk_cut (M : Nat → Bool) (f e : Nat) (h : f ≤ e) : rk (cut M f e) e = rk M e - rk M f := by
  obtain ⟨d, rfl⟩ := Nat.le.dest h
  have h1 : rk (cut M f (f + d)) f = 0 := rk_none f (fun j hj => by simp [cut]; omega)
  rw [rk_add, rk_add M, h1]
  have h2 : rk (fun j => cut M f (f + d) (f + j)) d = rk (fun j => M (f + j)) d := rk_congr d (fun j hj => by simp [cut, hj])
  rw [h2]; omega

theorem cut_has {M : Nat → Bool} {f e : Nat} {z : Int} (h : hasB (cut M f e) z = true) : ∃ a : Nat, z = a ∧ M a = true ∧ f ≤ a ∧ a < e := by
  unfold hasB at h
  simp only [Bool.and_eq_true, decide_eq_true_eq] at h
  obtain ⟨a, rfl⟩ := Int.eq_ofNat_of_zero_le h.1
  have h2 := h.2
  simp only [Int.toNat_natCast, cut, Bool.and_eq_true, decide_eq_true_eq] at h2
  exact ⟨a, rfl, h2.1, h2.2.1, h2.2.2⟩

theorem cut_not {M : Nat → Bool} {f e : Nat} {z : Int} (h : hasB (cut M f e) z = false) : hasB M z = false ∨ z < f ∨ (e : Int) ≤ z := by
  by_cases h1 : z < f
  · exact .inr (.inl h1)
  · by_cases h2 : (e : Int) ≤ z
    · exact .inr (.inr h2)
    · refine .inl ?_
      unfold hasB at h ⊢
      obtain ⟨a, rfl⟩ := Int.eq_ofNat_of_zero_le (show 0 ≤ z by omega)
      simp only [Int.toNat_natCast, cut, decide_eq_true (show (0 : Int) ≤ a by omega), Bool.true_and, decide_eq_true (show f ≤ a by omega), decide_eq_true (show a < e by omega), Bool.and_true] at h ⊢
      exact h

set_option maxHeartbeats 8000000 in
theorem goes_no (ws : Int) (h : ws < 0 ∨ 8192 < ws) (v : Value) (fr be ba : Int) (w : World) (hL : Laid w) :
    Calls Tryd.prog 6 #[.int .i64 ws, v, .int .i64 fr, .int .i64 be, .int .i64 ba] w fun r w' => r = .returned (.bool true) ∧ Below w.heap.size w w' := by
  have hk := known_any w hL
  go_enter Tryd.func6, Tryd.ntmps6
  go_wp2_with fail
  refine hk.mono ?_
  rintro r w1 ⟨rfl, b1⟩
  have hf := filled_out ws h v w1
  clear hk
  go_wp2_with fail
  refine hf.mono ?_
  rintro r w2 ⟨rfl, rfl⟩
  clear hf h
  go_wp2
  go_ret
  exact ⟨rfl, b1⟩

set_option maxHeartbeats 8000000 in
theorem goes_out (n : Nat) (hn : n ≤ 8192) (a : Option Addr) (cap : Nat) (l : List Int) (hlen : l.length ≤ 9223372036854775807) (fr be ba : Int) (hc : fr < 0 ∨ (n : Int) < be ∨ be < fr ∨ ba < 0 ∨ 1048576 < ba) (w : World) (hL : Laid w) (hl : Lst w a l) :
    Calls Tryd.prog 6 #[.int .i64 n, .slice a l.length cap, .int .i64 fr, .int .i64 be, .int .i64 ba] w fun r w' => r = .returned (.bool true) ∧ Below w.heap.size w w' := by
  have hk := known_any w hL
  go_enter Tryd.func6, Tryd.ntmps6
  go_wp2_with fail
  refine hk.mono ?_
  rintro r w1 ⟨rfl, b1⟩
  have hf := filled_in n hn a cap l hlen w1 (hL.below b1) (hl.below b1)
  clear hk
  go_wp2_with fail
  refine hf.mono ?_
  rintro r w2 ⟨⟨b, g, rfl, hM, -, -⟩, b2⟩
  have b3 := b1.trans (b2.mono b1.size)
  have hs := slide_out b g n _ fr be ba hc w2 hM
  have hnum := num_any 41 w2
  clear hf b1 b2 hL hl hM
  go_wp2_with fail
  refine hs.mono ?_
  rintro r w3 ⟨rfl, rfl⟩
  clear hs
  by_cases c1 : fr < 0
  · clear hc
    go_wp2_with fail
    refine hnum.mono ?_
    rintro r w3 ⟨rfl, rfl⟩
    clear hnum
    go_wp2
    go_ret
    exact ⟨rfl, b3⟩
  · by_cases c2 : (n : Int) < be
    · clear hc
      go_wp2_with fail
      refine hnum.mono ?_
      rintro r w3 ⟨rfl, rfl⟩
      clear hnum
      go_wp2
      go_ret
      exact ⟨rfl, b3⟩
    · by_cases c3 : be < fr
      · clear hc
        go_wp2_with fail
        refine hnum.mono ?_
        rintro r w3 ⟨rfl, rfl⟩
        clear hnum
        go_wp2
        go_ret
        exact ⟨rfl, b3⟩
      · by_cases c4 : ba < 0
        · clear hc
          go_wp2_with fail
          refine hnum.mono ?_
          rintro r w3 ⟨rfl, rfl⟩
          clear hnum
          go_wp2
          go_ret
          exact ⟨rfl, b3⟩
        · have c5 : 1048576 < ba := by omega
          clear hc
          go_wp2_with fail
          refine hnum.mono ?_
          rintro r w3 ⟨rfl, rfl⟩
          clear hnum
          go_wp2
          go_ret
          exact ⟨rfl, b3⟩
end Go.Proofs.YtlnfhnahnmblmaaDoor
