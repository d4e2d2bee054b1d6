import Derived.Test.YtckcdahjajmddaaIC1
import Derived.Test.YtckcdahjajmddaaPRc
/-
  Images, the document's check: objects.
-/
set_option linter.unusedVariables false
set_option maxRecDepth 20000
namespace Go.Proofs.Ytckcdahjajmddaa
open Go.RowKit Go.Shelf

theorem rise_app : ∀ {l r : List Im.Ob} {n : Nat}, Im.Rise n (l ++ r) → Im.Rise n l := by
  intro l
  induction l with
  | nil => intro r n _; trivial
  | cons x l ih =>
    intro r n h
    simp only [List.cons_append, Im.Rise] at h ⊢
    exact ⟨h.1, ih h.2⟩

end Go.Proofs.Ytckcdahjajmddaa

/-
  Images, the document's check: slots.
-/
set_option linter.unusedVariables false
set_option maxRecDepth 20000
namespace Go.Proofs.Ytckcdahjajmddaa
open Go.RowKit Go.Shelf

/-- A thread's frames. -/
structure TM (n : Nat) (t : List (List Int)) : Prop where
  few : fsum t ≤ 4096
  ok : fOk n t

theorem TM.nil (n : Nat) : TM n [] := ⟨by simp [fsum], fun f hf => by simp at hf⟩

theorem TM.snoc {n k : Nat} {t : List (List Int)} {f : List Int} (hz : t[k]? = some f) (h : TM n (t.take k)) (h1 : 1 ≤ f.length) (h2 : fsum (t.take k) + f.length ≤ 4096) (h3 : allB 0 n f) : TM n (t.take (k + 1)) := by
  rw [take_snocL hz]
  refine ⟨by rw [fsum_snoc]; exact h2, fun x hx => ?_⟩
  rcases List.mem_append.1 hx with h9 | h9
  · exact h.ok x h9
  · simp at h9; rw [h9]; exact ⟨h1, h3⟩

structure SH (g : Im.Gr) : Prop where
  s : SM g
  h : HM g

theorem sm_tm {g : Im.Gr} (h : SM g) {t : List (List Int)} (ht : t ∈ g.slots) : TM g.obs.length t := ⟨h.few t ht, h.ok t ht⟩

end Go.Proofs.Ytckcdahjajmddaa

/-
  Images, the document's check: finals.
-/
set_option linter.unusedVariables false
set_option maxRecDepth 20000
namespace Go.Proofs.Ytckcdahjajmddaa
open Go.RowKit Go.Shelf

end Go.Proofs.Ytckcdahjajmddaa

