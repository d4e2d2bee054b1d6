/-
  A configuration that came in by value.
-/
import Derived.Test.YtpiemfchjlihfaaGreatDoorPAb
import Derived.ProofKit
import Derived.OpenShut
import Derived.Lib.SmallJoins
set_option linter.unusedVariables false
set_option maxRecDepth 20000
namespace Go.Proofs.YtpiemfchjlihfaaGreatDoor
open Go.ChangeShapes Go.WideShapes Go.ChangeAt Go.RowKit

theorem array14 {α : Type} {cs : Array α} (h : cs.size = 14) : ∃ c0 c1 c2 c3 c4 c5 c6 c7 c8 c9 c10 c11 c12 c13, cs = #[c0, c1, c2, c3, c4, c5, c6, c7, c8, c9, c10, c11, c12, c13] := by
  obtain ⟨l⟩ := cs
  match l, h with
  | [c0, c1, c2, c3, c4, c5, c6, c7, c8, c9, c10, c11, c12, c13], _ => exact ⟨c0, c1, c2, c3, c4, c5, c6, c7, c8, c9, c10, c11, c12, c13, rfl⟩

theorem cc3 : Tryz.prog.cellsOf 3 = 1 := by kernel_rfl
theorem ccC : Tryz.prog.cellsOf 23 = 14 := by kernel_rfl

theorem open_cfg {H : Type} {enc : TypeId × Value → H} {w : World} {base : Nat} {sp : Nat → Bool} {held : Bool} {r : Reach} {b0 : Nat} {v : Value} {d : DataW H} {p : List MemPlace}
    (hv' : Value.okWide Tryz.prog w r b0 23 v) (h : DataW.Trod enc Tryz.prog w base sp held 23 v d p) : ∃ c : Cfg, v = cv c := by
  obtain ⟨cs, rfl, hsz⟩ := okWide_struct Tryz.underlying23 hv'
  obtain ⟨c0, c1, c2, c3, c4, c5, c6, c7, c8, c9, c10, c11, c12, c13, rfl⟩ := array14 (hsz.trans ccC)
  obtain ⟨fuel, hf⟩ := h
  obtain ⟨xs, n, _, hx, _, hlen, hf'⟩ := DataW.trod_struct Tryz.underlying23 hf
  have key : ∀ i, i < 14 → ∃ y, xs[i]? = some y := fun i hi => ⟨_, List.getElem?_eq_getElem (by rw [hlen]; exact hi)⟩
  have f0 : DataW.trod enc Tryz.prog w base sp held n 3 [c0] = xs[0]? := by simpa [Value.cells, cc3] using hf' 0 _ rfl
  obtain ⟨y0, e0⟩ := key 0 (by decide)
  rw [e0] at f0
  obtain ⟨z0, g0, _⟩ := DataW.trod_int Tryz.underlying3 f0
  have f1 : DataW.trod enc Tryz.prog w base sp held n 3 [c1] = xs[1]? := by simpa [Value.cells, cc3] using hf' 1 _ rfl
  obtain ⟨y1, e1⟩ := key 1 (by decide)
  rw [e1] at f1
  obtain ⟨z1, g1, _⟩ := DataW.trod_int Tryz.underlying3 f1
  have f2 : DataW.trod enc Tryz.prog w base sp held n 3 [c2] = xs[2]? := by simpa [Value.cells, cc3] using hf' 2 _ rfl
  obtain ⟨y2, e2⟩ := key 2 (by decide)
  rw [e2] at f2
  obtain ⟨z2, g2, _⟩ := DataW.trod_int Tryz.underlying3 f2
  have f3 : DataW.trod enc Tryz.prog w base sp held n 3 [c3] = xs[3]? := by simpa [Value.cells, cc3] using hf' 3 _ rfl
  obtain ⟨y3, e3⟩ := key 3 (by decide)
  rw [e3] at f3
  obtain ⟨z3, g3, _⟩ := DataW.trod_int Tryz.underlying3 f3
  have f4 : DataW.trod enc Tryz.prog w base sp held n 3 [c4] = xs[4]? := by simpa [Value.cells, cc3] using hf' 4 _ rfl
  obtain ⟨y4, e4⟩ := key 4 (by decide)
  rw [e4] at f4
  obtain ⟨z4, g4, _⟩ := DataW.trod_int Tryz.underlying3 f4
  have f5 : DataW.trod enc Tryz.prog w base sp held n 3 [c5] = xs[5]? := by simpa [Value.cells, cc3] using hf' 5 _ rfl
  obtain ⟨y5, e5⟩ := key 5 (by decide)
  rw [e5] at f5
  obtain ⟨z5, g5, _⟩ := DataW.trod_int Tryz.underlying3 f5
  have f6 : DataW.trod enc Tryz.prog w base sp held n 3 [c6] = xs[6]? := by simpa [Value.cells, cc3] using hf' 6 _ rfl
  obtain ⟨y6, e6⟩ := key 6 (by decide)
  rw [e6] at f6
  obtain ⟨z6, g6, _⟩ := DataW.trod_int Tryz.underlying3 f6
  have f7 : DataW.trod enc Tryz.prog w base sp held n 3 [c7] = xs[7]? := by simpa [Value.cells, cc3] using hf' 7 _ rfl
  obtain ⟨y7, e7⟩ := key 7 (by decide)
  rw [e7] at f7
  obtain ⟨z7, g7, _⟩ := DataW.trod_int Tryz.underlying3 f7
  have f8 : DataW.trod enc Tryz.prog w base sp held n 3 [c8] = xs[8]? := by simpa [Value.cells, cc3] using hf' 8 _ rfl
  obtain ⟨y8, e8⟩ := key 8 (by decide)
  rw [e8] at f8
  obtain ⟨z8, g8, _⟩ := DataW.trod_int Tryz.underlying3 f8
  have f9 : DataW.trod enc Tryz.prog w base sp held n 3 [c9] = xs[9]? := by simpa [Value.cells, cc3] using hf' 9 _ rfl
  obtain ⟨y9, e9⟩ := key 9 (by decide)
  rw [e9] at f9
  obtain ⟨z9, g9, _⟩ := DataW.trod_int Tryz.underlying3 f9
  have f10 : DataW.trod enc Tryz.prog w base sp held n 3 [c10] = xs[10]? := by simpa [Value.cells, cc3] using hf' 10 _ rfl
  obtain ⟨y10, e10⟩ := key 10 (by decide)
  rw [e10] at f10
  obtain ⟨z10, g10, _⟩ := DataW.trod_int Tryz.underlying3 f10
  have f11 : DataW.trod enc Tryz.prog w base sp held n 3 [c11] = xs[11]? := by simpa [Value.cells, cc3] using hf' 11 _ rfl
  obtain ⟨y11, e11⟩ := key 11 (by decide)
  rw [e11] at f11
  obtain ⟨z11, g11, _⟩ := DataW.trod_int Tryz.underlying3 f11
  have f12 : DataW.trod enc Tryz.prog w base sp held n 3 [c12] = xs[12]? := by simpa [Value.cells, cc3] using hf' 12 _ rfl
  obtain ⟨y12, e12⟩ := key 12 (by decide)
  rw [e12] at f12
  obtain ⟨z12, g12, _⟩ := DataW.trod_int Tryz.underlying3 f12
  have f13 : DataW.trod enc Tryz.prog w base sp held n 3 [c13] = xs[13]? := by simpa [Value.cells, cc3] using hf' 13 _ rfl
  obtain ⟨y13, e13⟩ := key 13 (by decide)
  rw [e13] at f13
  obtain ⟨z13, g13, _⟩ := DataW.trod_int Tryz.underlying3 f13
  simp only [List.cons.injEq, and_true] at g0 g1 g2 g3 g4 g5 g6 g7 g8 g9 g10 g11 g12 g13
  subst g0 g1 g2 g3 g4 g5 g6 g7 g8 g9 g10 g11 g12 g13
  exact ⟨⟨z0, z1, z2, z3, z4, z5, z6, z7, z8, z9, z10, z11, z12, z13⟩, rfl⟩

end Go.Proofs.YtpiemfchjlihfaaGreatDoor
