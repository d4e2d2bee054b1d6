/-
  A head that came in by value.
-/
import Derived.Test.YtoanmgnoonmkbaaDoorCHead
import Derived.ProofKit
import Derived.OpenShut
import Derived.Lib.SmallJoins
set_option linter.unusedVariables false
namespace Go.Proofs.YtoanmgnoonmkbaaDoor
open Go.ChangeShapes Go.WideShapes Go.ChangeAt Go.RowKit

theorem array7 {α : Type} {cs : Array α} (h : cs.size = 7) : ∃ c0 c1 c2 c3 c4 c5 c6, cs = #[c0, c1, c2, c3, c4, c5, c6] := by
  obtain ⟨l⟩ := cs
  match l, h with
  | [c0, c1, c2, c3, c4, c5, c6], _ => exact ⟨c0, c1, c2, c3, c4, c5, c6, rfl⟩

theorem m3 : Tryd.prog.cellsOf 3 = 1 := by kernel_rfl
theorem m4 : Tryd.prog.cellsOf 4 = 1 := by kernel_rfl
theorem m22 : Tryd.prog.cellsOf 22 = 1 := by kernel_rfl
theorem m25 : Tryd.prog.cellsOf 25 = 7 := by kernel_rfl

theorem open_head {H : Type} {enc : TypeId × Value → H} {w : World} {base : Nat} {sp : Nat → Bool} {held : Bool} {r : Reach} {b0 : Nat} {v : Value} {d : DataW H} {p : List MemPlace}
    (hv' : Value.okWide Tryd.prog w r b0 25 v) (h : DataW.Trod enc Tryd.prog w base sp held 25 v d p) : ∃ s k q x a t b, v = hv s k q x a t b := by
  obtain ⟨cs, rfl, hsz⟩ := okWide_struct Tryd.underlying25 hv'
  obtain ⟨c0, c1, c2, c3, c4, c5, c6, rfl⟩ := array7 (hsz.trans m25)
  obtain ⟨fuel, hf⟩ := h
  obtain ⟨xs, n, _, hx, _, hlen, hf'⟩ := DataW.trod_struct Tryd.underlying25 hf
  have key : ∀ i, i < 7 → ∃ y, xs[i]? = some y := fun i hi => ⟨_, List.getElem?_eq_getElem (by rw [hlen]; exact hi)⟩
  have f0 : DataW.trod enc Tryd.prog w base sp held n 22 [c0] = xs[0]? := by simpa [Value.cells, m3, m4, m22] using hf' 0 _ rfl
  obtain ⟨y0, e0⟩ := key 0 (by decide)
  rw [e0] at f0
  obtain ⟨z0, g0, _⟩ := DataW.trod_int Tryd.underlying22 f0
  have f1 : DataW.trod enc Tryd.prog w base sp held n 3 [c1] = xs[1]? := by simpa [Value.cells, m3, m4, m22] using hf' 1 _ rfl
  obtain ⟨y1, e1⟩ := key 1 (by decide)
  rw [e1] at f1
  obtain ⟨z1, g1, _⟩ := DataW.trod_int Tryd.underlying3 f1
  have f2 : DataW.trod enc Tryd.prog w base sp held n 3 [c2] = xs[2]? := by simpa [Value.cells, m3, m4, m22] using hf' 2 _ rfl
  obtain ⟨y2, e2⟩ := key 2 (by decide)
  rw [e2] at f2
  obtain ⟨z2, g2, _⟩ := DataW.trod_int Tryd.underlying3 f2
  have f3 : DataW.trod enc Tryd.prog w base sp held n 3 [c3] = xs[3]? := by simpa [Value.cells, m3, m4, m22] using hf' 3 _ rfl
  obtain ⟨y3, e3⟩ := key 3 (by decide)
  rw [e3] at f3
  obtain ⟨z3, g3, _⟩ := DataW.trod_int Tryd.underlying3 f3
  have f4 : DataW.trod enc Tryd.prog w base sp held n 3 [c4] = xs[4]? := by simpa [Value.cells, m3, m4, m22] using hf' 4 _ rfl
  obtain ⟨y4, e4⟩ := key 4 (by decide)
  rw [e4] at f4
  obtain ⟨z4, g4, _⟩ := DataW.trod_int Tryd.underlying3 f4
  have f5 : DataW.trod enc Tryd.prog w base sp held n 3 [c5] = xs[5]? := by simpa [Value.cells, m3, m4, m22] using hf' 5 _ rfl
  obtain ⟨y5, e5⟩ := key 5 (by decide)
  rw [e5] at f5
  obtain ⟨z5, g5, _⟩ := DataW.trod_int Tryd.underlying3 f5
  have f6 : DataW.trod enc Tryd.prog w base sp held n 4 [c6] = xs[6]? := by simpa [Value.cells, m3, m4, m22] using hf' 6 _ rfl
  obtain ⟨y6, e6⟩ := key 6 (by decide)
  rw [e6] at f6
  obtain ⟨z6, g6, _⟩ := DataW.trod_bool Tryd.underlying4 f6
  simp only [List.cons.injEq, and_true] at g0 g1 g2 g3 g4 g5 g6
  subst g0 g1 g2 g3 g4 g5 g6
  exact ⟨_, _, _, _, _, _, _, rfl⟩

end Go.Proofs.YtoanmgnoonmkbaaDoor
