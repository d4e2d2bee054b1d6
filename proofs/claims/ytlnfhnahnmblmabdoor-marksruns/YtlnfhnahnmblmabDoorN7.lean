/-
  The reference's runs are the runs.
-/
import Derived.Test.YtlnfhnahnmblmabDoorN5
set_option linter.unusedVariables false
namespace Go.Proofs.YtlnfhnahnmblmabDoor
open Go.RowKit Go.Shelf

theorem runs_gap {M : Nat → Bool} {a : Nat} : ∀ b, a ≤ b → (∀ k, a ≤ k → k < b → M k = false) → As M b = As M a ∧ Ds M b = Ds M a
  | 0, h, _ => by
    obtain rfl : a = 0 := by omega
    exact ⟨rfl, rfl⟩
  | b + 1, h, hf => by
    by_cases hab : a = b + 1
    · subst hab; exact ⟨rfl, rfl⟩
    · have ih := runs_gap b (by omega) (fun k h1 h2 => hf k h1 (by omega))
      have hb := hf b (by omega) (by omega)
      simp only [As, Ds, hb]
      exact ih

theorem runs_stretch {M : Nat → Bool} {a : Nat} (hn : newR M a = true) : ∀ q, a < q → (∀ k, a ≤ k → k < q → M k = true) → As M q = As M a ++ [(a : Int)] ∧ Ds M q = Ds M a ++ [(q : Int) - a]
  | 0, h, _ => by omega
  | q + 1, h, hf => by
    have hq := hf q (by omega) (by omega)
    by_cases haq : a = q
    · subst haq
      simp only [As, Ds, hq, hn, if_true]
      exact ⟨trivial, by congr 2; omega⟩
    · obtain ⟨i1, i2⟩ := runs_stretch hn q (by omega) (fun k h1 h2 => hf k h1 (by omega))
      have hm := hf (q - 1) (by omega) (by omega)
      have hnf : newR M q = false := by simp [newR, hm]; omega
      constructor
      · simp only [As, hq, hnf, if_true]
        exact i1
      · have e : Ds M (q + 1) = (Ds M q).set ((Ds M q).length - 1) (((Ds M q)[(Ds M q).length - 1]?).getD 0 + 1) := by simp [Ds, hq, hnf]
        rw [e, i2]
        simp only [List.length_append, List.length_cons, List.length_nil, Nat.zero_add, Nat.add_sub_cancel]
        rw [List.set_append_right _ _ (Nat.le_refl _), List.getElem?_append_right (Nat.le_refl _), Nat.sub_self]
        simp
        omega

theorem runs_at {M : Nat → Bool} {e a : Nat} {l : List (Nat × Nat)} (h : At M e a l) : a ≤ e → (a < e → newR M a = true) → As M e = As M a ++ l.map (fun x => (x.1 : Int)) ∧ Ds M e = Ds M a ++ l.map (fun x => (x.2 : Int) - x.1) := by
  induction h with
  | done => intro _ _; simp
  | @run a q a' l hlt hs hq hn r ih =>
    intro ha hnew
    have hqe := hs.ge ha
    have hae := hn.ge hqe.2
    have ht : ∀ k, a ≤ k → k < q → M k = true := by
      rcases hs with ⟨h1, h2⟩ | ⟨h1, h2, h3, h4⟩
      · intro k k1 k2; exact h2 k k1 (by omega)
      · exact h4
    have hf : ∀ k, q ≤ k → k < a' → M k = false := by
      rcases hn with ⟨h1, h2⟩ | ⟨h1, h2, h3, h4⟩
      · intro k k1 k2; exact h2 k k1 (by omega)
      · exact h4
    obtain ⟨s1, s2⟩ := runs_stretch (hnew hlt) q hq ht
    obtain ⟨g1, g2⟩ := runs_gap a' hae.1 hf
    obtain ⟨i1, i2⟩ := ih hae.2 (fun hlt' => by
      have hqa : q < a' := by
        rcases Nat.lt_or_ge q a' with h1 | h1
        · exact h1
        · exfalso
          have : q = a' := by omega
          subst this
          rcases hn with ⟨h2, _⟩ | ⟨h2, h3, h4, _⟩
          · omega
          · rcases hs with ⟨h5, h6⟩ | ⟨h5, h6, h7, h8⟩
            · omega
            · rw [h4] at h7; cases h7
      simp [newR, hf (a' - 1) (by omega) (by omega)])
    rw [i1, i2, g1, g2, s1, s2]
    simp

/-- The runs of the whole map. -/
theorem runs_whole {M : Nat → Bool} {e a0 : Nat} {l : List (Nat × Nat)} (hs0 : Sk M false 0 e a0) (h : At M e a0 l) : As M e = l.map (fun x => (x.1 : Int)) ∧ Ds M e = l.map (fun x => (x.2 : Int) - x.1) := by
  have ha := hs0.ge (Nat.zero_le _)
  have hf : ∀ k, 0 ≤ k → k < a0 → M k = false := by
    rcases hs0 with ⟨h1, h2⟩ | ⟨h1, h2, h3, h4⟩
    · intro k k1 k2; exact h2 k k1 (by omega)
    · exact h4
  obtain ⟨g1, g2⟩ := runs_gap a0 (Nat.zero_le _) hf
  obtain ⟨i1, i2⟩ := runs_at h ha.2 (fun _ => by
    by_cases h0 : 0 < a0
    · simp [newR, hf (a0 - 1) (Nat.zero_le _) (by omega)]
    · simp [newR, h0])
  rw [i1, i2, g1, g2]
  simp [As, Ds]
end Go.Proofs.YtlnfhnahnmblmabDoor
