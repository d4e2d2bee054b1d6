/-
  Comparisons of numbers as the model tells them.
-/
import Derived.Test.YtcjblafohfiiaabGreatSrt
set_option linter.unusedVariables false
namespace Go.Proofs.YtcjblafohfiiaabGreat.Wd

theorem neq {x k : Int} (h : ¬ x = k) : (x == k) = false := by simpa using h
theorem leqF {k x : Int} (h : ltI k x = true) : decide (x ≤ k) = false := by simp [ltI] at h ⊢; omega
theorem leqT {k x : Int} (h : ltI k x = false) : decide (x ≤ k) = true := by simp [ltI] at h ⊢; omega
theorem gtrT {y x : Int} (h : ltI y x = true) : decide (y < x) = true := by simpa [ltI] using h
theorem gtrF {y x : Int} (h : ltI y x = false) : decide (y < x) = false := by simpa [ltI] using h

theorem lssT {x y : Int} (h : ltI x y = true) : decide (x < y) = true := by simpa [ltI] using h
theorem lssF {x y : Int} (h : ltI x y = false) : decide (x < y) = false := by simpa [ltI] using h

end Go.Proofs.YtcjblafohfiiaabGreat.Wd
