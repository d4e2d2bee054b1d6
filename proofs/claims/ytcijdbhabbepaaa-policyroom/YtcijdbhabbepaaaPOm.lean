/-
  What comes in, stage 12: a Memory. (mkPOq.py prints this text.)
-/
import Derived.Test.YtcijdbhabbepaaaPOq
set_option linter.unusedVariables false
set_option maxRecDepth 20000
namespace Go.Proofs.Ytcijdbhabbepaaa.Po
open Go.ChangeShapes Go.WideShapes Go.ChangeAt Go.RowKit

theorem ccM : Try.prog.cellsOf 47 = 22 := by kernel_rfl
theorem list22 {α : Type} {l : List α} (h : l.length = 22) : ∃ c0 c1 c2 c3 c4 c5 c6 c7 c8 c9 c10 c11 c12 c13 c14 c15 c16 c17 c18 c19 c20 c21, l = [c0, c1, c2, c3, c4, c5, c6, c7, c8, c9, c10, c11, c12, c13, c14, c15, c16, c17, c18, c19, c20, c21] := by
  match l, h with
  | [c0, c1, c2, c3, c4, c5, c6, c7, c8, c9, c10, c11, c12, c13, c14, c15, c16, c17, c18, c19, c20, c21], _ => exact ⟨c0, c1, c2, c3, c4, c5, c6, c7, c8, c9, c10, c11, c12, c13, c14, c15, c16, c17, c18, c19, c20, c21, rfl⟩

theorem open_mem {H : Type} {enc : TypeId × Value → H} {w : World} {base : Nat} {sp : Nat → Bool} {held : Bool} {r : Reach} {b0 : Nat} {v : Value} {d : DataW H} {p : List MemPlace}
    (hv' : Value.okWide Try.prog w r b0 47 v) (h : DataW.Trod enc Try.prog w base sp held 47 v d p) : ∃ x : Mem12, v = memv x ∧ x.words < 9223372036854775808 := by
  obtain ⟨cs, rfl, hsz⟩ := okWide_struct Try.underlying47 hv'
  obtain ⟨l⟩ := cs
  obtain ⟨c0, c1, c2, c3, c4, c5, c6, c7, c8, c9, c10, c11, c12, c13, c14, c15, c16, c17, c18, c19, c20, c21, rfl⟩ := list22 (hsz.trans ccM)
  obtain ⟨fuel, hf⟩ := h
  obtain ⟨xs, n, _, hx, _, hlen, hf'⟩ := DataW.trod_struct Try.underlying47 hf
  have key : ∀ i, i < 9 → ∃ y, xs[i]? = some y := fun i hi => ⟨_, List.getElem?_eq_getElem (by rw [hlen]; exact hi)⟩
  have fc : DataW.trod enc Try.prog w base sp held n 23 [c0, c1, c2, c3, c4, c5, c6, c7, c8, c9, c10, c11, c12, c13] = xs[0]? := by simpa [Value.cells, ccC] using hf' 0 _ rfl
  obtain ⟨yc, ec⟩ := key 0 (by decide)
  rw [ec] at fc
  obtain ⟨c, hc⟩ := cfg_cells fc
  simp only [List.cons.injEq, and_true] at hc
  obtain ⟨rfl, rfl, rfl, rfl, rfl, rfl, rfl, rfl, rfl, rfl, rfl, rfl, rfl, rfl⟩ := hc
  have f14 : DataW.trod enc Try.prog w base sp held n 3 [c14] = xs[1]? := by simpa [Value.cells, cc3] using hf' 1 _ rfl
  obtain ⟨y14, e14⟩ := key 1 (by decide)
  rw [e14] at f14
  obtain ⟨z14, g14, _, w14⟩ := DataW.trod_int Try.underlying3 f14
  simp only [List.cons.injEq, and_true] at g14
  subst g14
  have f15 : DataW.trod enc Try.prog w base sp held n 3 [c15] = xs[2]? := by simpa [Value.cells, cc3] using hf' 2 _ rfl
  obtain ⟨y15, e15⟩ := key 2 (by decide)
  rw [e15] at f15
  obtain ⟨z15, g15, _, w15⟩ := DataW.trod_int Try.underlying3 f15
  simp only [List.cons.injEq, and_true] at g15
  subst g15
  have f16 : DataW.trod enc Try.prog w base sp held n 3 [c16] = xs[3]? := by simpa [Value.cells, cc3] using hf' 3 _ rfl
  obtain ⟨y16, e16⟩ := key 3 (by decide)
  rw [e16] at f16
  obtain ⟨z16, g16, _, w16⟩ := DataW.trod_int Try.underlying3 f16
  simp only [List.cons.injEq, and_true] at g16
  subst g16
  have f17 : DataW.trod enc Try.prog w base sp held n 3 [c17] = xs[4]? := by simpa [Value.cells, cc3] using hf' 4 _ rfl
  obtain ⟨y17, e17⟩ := key 4 (by decide)
  rw [e17] at f17
  obtain ⟨z17, g17, _, w17⟩ := DataW.trod_int Try.underlying3 f17
  simp only [List.cons.injEq, and_true] at g17
  subst g17
  have f18 : DataW.trod enc Try.prog w base sp held n 3 [c18] = xs[5]? := by simpa [Value.cells, cc3] using hf' 5 _ rfl
  obtain ⟨y18, e18⟩ := key 5 (by decide)
  rw [e18] at f18
  obtain ⟨z18, g18, _, w18⟩ := DataW.trod_int Try.underlying3 f18
  simp only [List.cons.injEq, and_true] at g18
  subst g18
  have f19 : DataW.trod enc Try.prog w base sp held n 3 [c19] = xs[6]? := by simpa [Value.cells, cc3] using hf' 6 _ rfl
  obtain ⟨y19, e19⟩ := key 6 (by decide)
  rw [e19] at f19
  obtain ⟨z19, g19, _, w19⟩ := DataW.trod_int Try.underlying3 f19
  simp only [List.cons.injEq, and_true] at g19
  subst g19
  have f20 : DataW.trod enc Try.prog w base sp held n 3 [c20] = xs[7]? := by simpa [Value.cells, cc3] using hf' 7 _ rfl
  obtain ⟨y20, e20⟩ := key 7 (by decide)
  rw [e20] at f20
  obtain ⟨z20, g20, _, w20⟩ := DataW.trod_int Try.underlying3 f20
  simp only [List.cons.injEq, and_true] at g20
  subst g20
  have f21 : DataW.trod enc Try.prog w base sp held n 3 [c21] = xs[8]? := by simpa [Value.cells, cc3] using hf' 8 _ rfl
  obtain ⟨y21, e21⟩ := key 8 (by decide)
  rw [e21] at f21
  obtain ⟨z21, g21, _, w21⟩ := DataW.trod_int Try.underlying3 f21
  simp only [List.cons.injEq, and_true] at g21
  subst g21
  exact ⟨⟨c, z14, z15, z16, z17, z18, z19, z20, z21⟩, rfl, (wf64 w19).2⟩

end Go.Proofs.Ytcijdbhabbepaaa.Po
