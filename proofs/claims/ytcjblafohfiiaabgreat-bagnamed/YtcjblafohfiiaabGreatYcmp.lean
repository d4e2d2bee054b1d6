/-
  Comparisons of texts as the model tells them.
-/
import Derived.Test.YtcjblafohfiiaabGreatSrt
set_option linter.unusedVariables false
namespace Go.Proofs.YtcjblafohfiiaabGreat.Nd

theorem neq {x k : ByteArray} (h : ¬ x = k) : (x.toList == k.toList) = false := by
  cases e : (x.toList == k.toList) with
  | false => rfl
  | true => exact absurd (toList_inj x k (by simpa using e)) h

theorem both {x k : ByteArray} (h : ltS k x = true) : Op.bytesLess x.toList k.toList = false ∧ (x.toList == k.toList) = false := by
  refine ⟨?_, neq fun e => ?_⟩
  · cases e : Op.bytesLess x.toList k.toList with
    | false => rfl
    | true => have := sordS.trans _ _ _ h (show ltS x k = true from e); rw [sordS.irr] at this; cases this
  · subst e; rw [sordS.irr] at h; cases h

theorem either {x k : ByteArray} (h : ltS k x = false) : (Op.bytesLess x.toList k.toList = true ∧ (x.toList == k.toList) = false) ∨ (Op.bytesLess x.toList k.toList = false ∧ (x.toList == k.toList) = true) := by
  cases e : Op.bytesLess x.toList k.toList with
  | true => exact .inl ⟨rfl, neq fun e' => by subst e'; have := sordS.irr x; rw [show ltS x x = true from e] at this; cases this⟩
  | false =>
    have : x = k := sordS.tri x k e h
    subst this
    exact .inr ⟨rfl, by simp⟩

theorem leqF {k x : ByteArray} (h : ltS k x = true) : Op.bytesLess x.toList k.toList = false ∧ (x.toList == k.toList) = false := both h
theorem leqT {k x : ByteArray} (h : ltS k x = false) : (Op.bytesLess x.toList k.toList = true ∧ (x.toList == k.toList) = false) ∨ (Op.bytesLess x.toList k.toList = false ∧ (x.toList == k.toList) = true) := either h
theorem gtrT {y x : ByteArray} (h : ltS y x = true) : Op.bytesLess x.toList y.toList = false ∧ (x.toList == y.toList) = false := both h
theorem gtrF {y x : ByteArray} (h : ltS y x = false) : (Op.bytesLess x.toList y.toList = true ∧ (x.toList == y.toList) = false) ∨ (Op.bytesLess x.toList y.toList = false ∧ (x.toList == y.toList) = true) := either h
theorem lssT {x y : ByteArray} (h : ltS x y = true) : Op.bytesLess x.toList y.toList = true := h
theorem lssF {x y : ByteArray} (h : ltS x y = false) : Op.bytesLess x.toList y.toList = false := h

end Go.Proofs.YtcjblafohfiiaabGreat.Nd
