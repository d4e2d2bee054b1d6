/-
  Images, the document's check: between, objects.
-/
import Derived.Test.YtckcdahjajmddaaPIh
set_option linter.unusedVariables false
set_option maxRecDepth 20000
namespace Go.Proofs.Ytckcdahjajmddaa
open Go.RowKit Go.Shelf

theorem calls_same {f : Nat} {args : Array Value} {w : World} {p : Prop} (h : Calls Try.prog f args w fun e w' => ∃ r : Bool, e = .returned (.bool r) ∧ w' = w ∧ (r = true ↔ p)) :
    (p → Calls Try.prog f args w fun e w' => e = .returned (.bool true) ∧ w' = w) ∧ (¬ p → Calls Try.prog f args w fun e w' => e = .returned (.bool false) ∧ w' = w) := by
  constructor
  · intro hp
    refine h.mono ?_
    rintro e w' ⟨r, rfl, hb, hr⟩
    exact ⟨by rw [hr.2 hp], hb⟩
  · intro hp
    refine h.mono ?_
    rintro e w' ⟨r, rfl, hb, hr⟩
    cases r with
    | true => exact absurd (hr.1 rfl) hp
    | false => exact ⟨rfl, hb⟩

/-- What the document's objects asks: the same. -/
structure RO (obs : List Im.Ob) (n next k : Nat) : Prop where
  rise : Im.Rise 0 (obs.take k)
  low : ∀ o, o ∈ obs.take k → o.ser < next
  head : ∀ o, o ∈ obs.take k → hd16 o
  ptrs : ∀ o, o ∈ obs.take k → allB 0 n o.ps

theorem rise_last : ∀ (l : List Im.Ob) (n : Nat), Im.Rise n l → ∀ o, o ∈ l → o.ser ≤ (l.getLast?.map (·.ser)).getD n ∧ n < o.ser := by
  intro l
  induction l with
  | nil => intro n _ o ho; simp at ho
  | cons x r ih =>
    intro n h o ho
    simp only [Im.Rise] at h
    cases r with
    | nil =>
      simp at ho
      subst ho
      exact ⟨by simp, h.1⟩
    | cons y r' =>
      rw [List.getLast?_cons_cons]
      cases hl : (y :: r').getLast? with
      | none => simp at hl
      | some z =>
        have h9 := ih x.ser h.2
        rw [hl] at h9
        rcases List.mem_cons.1 ho with e | e
        · subst e
          have := h9 y (by simp)
          simp at this ⊢
          exact ⟨by omega, h.1⟩
        · have := h9 o e
          simp at this ⊢
          exact ⟨this.1, by omega⟩

theorem om_iff {g : Im.Gr} (h1 : 1 ≤ g.next) (h2 : g.next ≤ 4611686018427387905) (h : RO g.obs g.obs.length g.next g.obs.length) : OM g := by
  have e : g.obs.take g.obs.length = g.obs := List.take_length
  obtain ⟨a, b, c, d⟩ := h
  rw [e] at a b c d
  refine ⟨a, c, d, ?_, h2⟩
  unfold lastS
  cases hl : g.obs.getLast? with
  | none => simp; omega
  | some z => simpa using b z (List.mem_of_getLast? hl)

theorem om_next {g : Im.Gr} (h : OM g) : 1 ≤ g.next := by have := h.low; omega

theorem om_low {g : Im.Gr} (h : OM g) : ∀ o, o ∈ g.obs → o.ser < g.next := fun o ho => by
  have h1 := (rise_last g.obs 0 h.rise o ho).1
  have h2 := h.low
  unfold lastS at h2
  omega

end Go.Proofs.Ytckcdahjajmddaa
