/-
  MarksSums: what it tells the runs to.
-/
import Derived.Test.YtlnfhnahnmblmabDoorM20
set_option linter.unusedVariables false
set_option maxRecDepth 100000
namespace Go.Proofs.YtlnfhnahnmblmabDoor
open Go.RowKit Go.Shelf

/-- The end of the last run; -1: none yet. -/
def lastEnd (l : List (Nat × Nat)) : Int := match l.getLast? with | some x => x.2 | none => -1
/-- How long these runs are together. -/
def lens : List (Nat × Nat) → Nat
  | [] => 0
  | x :: l => (x.2 - x.1) + lens l

theorem lens_snoc (x : Nat × Nat) : ∀ l : List (Nat × Nat), lens (l ++ [x]) = lens l + (x.2 - x.1)
  | [] => by simp [lens]
  | y :: l => by simp only [List.cons_append, lens, lens_snoc x l]; omega

theorem lastEnd_snoc (l : List (Nat × Nat)) (x : Nat × Nat) : lastEnd (l ++ [x]) = x.2 := by simp [lastEnd]

/-- All that is known of a run among the runs from a on. -/
structure Run (M : Nat → Bool) (e : Nat) (from_ : Int) (x : Nat × Nat) : Prop where
  lt : x.1 < x.2
  le : x.2 ≤ e
  ge : from_ < x.1
  all : ∀ k, x.1 ≤ k → k < x.2 → M k = true
  gap : ∀ k : Nat, from_ ≤ k → k < x.1 → M k = false
  nxt : x.2 < e → M x.2 = false

theorem at_run {M : Nat → Bool} {e a : Nat} {l : List (Nat × Nat)} (h : At M e a l) : ∀ (z : Int), a ≤ e → z < a → (∀ k : Nat, z ≤ k → k < a → M k = false) → ∀ pre x, pre ++ [x] <+: l → Run M e (if pre = [] then z else lastEnd pre) x := by
  induction h with
  | done =>
    intro z _ _ _ pre x hp
    have := hp.length_le
    simp at this
  | @run a q a' l h hs hq hn r ih =>
    intro z ha hz hg pre x hp
    have hqe := hs.ge ha
    have hae := hn.ge hqe.2
    have hall : ∀ k, a ≤ k → k < q → M k = true := by
      rcases hs with ⟨h1, h2⟩ | ⟨h1, h2, h3, h4⟩
      · intro k h5 h6; exact h2 k h5 (by omega)
      · exact h4
    have hnx : q < e → M q = false := by
      rcases hs with ⟨h1, h2⟩ | ⟨h1, h2, h3, h4⟩
      · intro h5; omega
      · intro _; exact h3
    have hgap : ∀ k, q ≤ k → k < a' → M k = false := by
      rcases hn with ⟨h1, h2⟩ | ⟨h1, h2, h3, h4⟩
      · intro k h5 h6; exact h2 k h5 (by omega)
      · exact h4
    cases pre with
    | nil =>
      obtain ⟨t, ht⟩ := hp
      simp only [List.nil_append, List.cons_append, List.cons.injEq] at ht
      obtain ⟨rfl, -⟩ := ht
      exact ⟨hq, hqe.2, hz, hall, hg, hnx⟩
    | cons y pre =>
      obtain ⟨t, ht⟩ := hp
      simp only [List.cons_append, List.cons.injEq] at ht
      obtain ⟨rfl, ht⟩ := ht
      have hqa : q < a' ∨ a' = e := by
        rcases Nat.lt_or_ge q a' with h1 | h1
        · exact .inl h1
        · have : q = a' := by omega
          subst this
          rcases hn with ⟨h2, _⟩ | ⟨h2, h3, h4, _⟩
          · exact .inr h2
          · rw [hnx h3] at h4; cases h4
      have hqa2 : (q : Int) < a' ∨ l = [] := by
        rcases hqa with h1 | h1
        · exact .inl (by omega)
        · subst h1
          cases r with
          | done => exact .inr rfl
          | run h _ _ _ _ => omega
      rcases hqa2 with h1 | h1
      · have := ih (q : Int) hae.2 h1 (fun k h2 h3 => hgap k (by omega) h3) pre x ⟨t, ht⟩
        have e1 : (if pre = [] then (q : Int) else lastEnd pre) = (if (a, q) :: pre = [] then z else lastEnd ((a, q) :: pre)) := by
          cases pre with
          | nil => simp [lastEnd]
          | cons y pre => simp [lastEnd]
        rw [e1] at this
        exact this
      · subst h1
        have := congrArg List.length ht
        simp at this
end Go.Proofs.YtlnfhnahnmblmabDoor
