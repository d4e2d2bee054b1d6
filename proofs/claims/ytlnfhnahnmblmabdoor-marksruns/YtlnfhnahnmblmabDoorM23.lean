/-
  MarksSums, walked.
-/
import Derived.Test.YtlnfhnahnmblmabDoorM22
set_option linter.unusedVariables false
set_option maxRecDepth 100000
namespace Go.Proofs.YtlnfhnahnmblmabDoor
open Go.RowKit Go.Shelf

theorem lastEnd_ge (l : List (Nat × Nat)) : -1 ≤ lastEnd l := by
  unfold lastEnd
  cases l.getLast? with
  | none => decide
  | some x => simp only; omega

theorem lens_append : ∀ l m : List (Nat × Nat), lens (l ++ m) = lens l + lens m
  | [], m => by simp [lens]
  | x :: l, m => by simp only [List.cons_append, lens, lens_append l m]; omega

theorem lens_at {M : Nat → Bool} {e a : Nat} {l : List (Nat × Nat)} (h : At M e a l) : a ≤ e → lens l + rk M a = rk M e := by
  induction h with
  | done => intro _; simp [lens]
  | @run a q a' l h hs hq hn r ih =>
    intro ha
    have hqe := hs.ge ha
    have hae := hn.ge hqe.2
    have i1 := ih hae.2
    have hall : ∀ k, a ≤ k → k < a + (q - a) → M k = true := by
      rcases hs with ⟨h1, h2⟩ | ⟨h1, h2, h3, h4⟩
      · intro k h5 h6; exact h2 k h5 (by omega)
      · intro k h5 h6; exact h4 k h5 (by omega)
    have h1 := rk_all (q - a) hall
    rw [show a + (q - a) = q by omega] at h1
    have h2 : rk M a' = rk M q := by
      have := rk_add M q (a' - q)
      rw [show q + (a' - q) = a' by omega] at this
      rw [this, rk_none (a' - q) (fun j hj => ?_), Nat.add_zero]
      rcases hn with ⟨h1, h2⟩ | ⟨h1, h2, h3, h4⟩
      · exact h2 _ (by omega) (by omega)
      · exact h4 _ (by omega) (by omega)
    simp only [lens]
    omega

theorem at_tail {M : Nat → Bool} {e a : Nat} {l : List (Nat × Nat)} (h : At M e a l) : ∀ z : Int, a ≤ e → (∀ k : Nat, z ≤ k → k < a → M k = false) → ∀ k : Nat, (if l = [] then z else lastEnd l) ≤ k → k < e → M k = false := by
  induction h with
  | done => intro z _ hz k h1 h2; exact hz k (by simpa using h1) h2
  | @run a q a' l h hs hq hn r ih =>
    intro z ha hz k h1 h2
    have hqe := hs.ge ha
    have hae := hn.ge hqe.2
    refine ih (q : Int) hae.2 (fun j h3 h4 => ?_) k ?_ h2
    · rcases hn with ⟨h5, h6⟩ | ⟨h5, h6, h7, h8⟩
      · exact h6 j (by omega) (by omega)
      · exact h8 j (by omega) h4
    · cases l with
      | nil => simpa [lastEnd] using h1
      | cons y l => simpa [lastEnd] using h1

theorem count_cut (M : Nat → Bool) (n : Nat) (fr mi be : Int) (h1 : fr ≤ mi) (h2 : mi ≤ be) : (rk M (min mi n).toNat - rk M (max fr 0).toNat) + (rk M (min be n).toNat - rk M (max mi 0).toNat) = rk M (min be n).toNat - rk M (max fr 0).toNat := by
  by_cases c1 : mi < 0
  · rw [show (min mi (n : Int)).toNat = 0 by omega, show (max fr 0).toNat = 0 by omega, show (max mi 0).toNat = 0 by omega]
    simp [rk]
  · by_cases c2 : (n : Int) < mi
    · rw [show (min mi (n : Int)).toNat = n by omega, show (min be (n : Int)).toNat = n by omega]
      have := rk_mono M (show n ≤ (max mi 0).toNat by omega)
      omega
    · rw [show (min mi (n : Int)).toNat = mi.toNat by omega, show (max mi 0).toNat = mi.toNat by omega]
      have e1 := rk_mono M (show (max fr 0).toNat ≤ mi.toNat by omega)
      have e2 := rk_mono M (show mi.toNat ≤ (min be (n : Int)).toNat by omega)
      omega

/-- What Count answers. -/
def cn (M : Nat → Bool) (n : Nat) (x y : Int) : Nat := rk M (min y n).toNat - rk M (max x 0).toNat

theorem cn_le (M : Nat → Bool) (n : Nat) (x y : Int) : cn M n x y ≤ n := by
  have := rk_le M (min y n).toNat
  unfold cn; omega

theorem Runs_any (b g n : Nat) (M : Nat → Bool) (w : World) (hM : Mp w b g n M) :
    Calls Tryd.prog 30 #[.pointer (some ⟨b, 0, none⟩)] w fun r w' => r = .returned (.func (.func 47) #[] #[.pointer (some ⟨w.heap.size, 0, none⟩), .pointer (some ⟨w.heap.size + 1, 0, none⟩), .pointer (some ⟨w.heap.size + 1 + 1, 0, none⟩)]) ∧ w' = ((w.alloc (.cells #[.pointer (some ⟨b, 0, none⟩)] 31)).alloc (.cells #[.int .i64 0] 3)).alloc (.cells #[.int .i64 n] 3) := by
  have c0 := hM.c0
  clear hM
  go_enter Tryd.func30, Tryd.ntmps30
  go_wp2_with fail
  refine (runs_any b 0 n w).mono ?_
  rintro r w1 ⟨rfl, rfl⟩
  go_wp2
  go_ret
  exact ⟨rfl, rfl⟩

end Go.Proofs.YtlnfhnahnmblmabDoor
