/-
  What comes in, stage 21: a goal, costs, a configuration.
-/
import Derived.Test.YtlbmlnmgbjhljaaPC1
import Derived.Test.YtlbmlnmgbjhljaaTB1
import Derived.ProofKit
import Derived.OpenShut
import Derived.ChangeOld
import Derived.SizedLaws
import Derived.Below
set_option linter.unusedVariables false
set_option maxRecDepth 20000
namespace Go.Proofs.Ytlbmlnmgbjhljaa.Po
open Go.ChangeShapes Go.WideShapes Go.ChangeAt Go.RowKit

theorem own : ownKnob Try.prog.godebug = none := by kernel_rfl
theorem laidOut : laidOutB Try.prog = true := by kernel_rfl
theorem cc3 : Try.prog.cellsOf 3 = 1 := by kernel_rfl
theorem ccC : Try.prog.cellsOf 28 = 14 := by kernel_rfl
theorem ccK : Try.prog.cellsOf 25 = 10 := by kernel_rfl
theorem ccG : Try.prog.cellsOf 23 = 1 := by kernel_rfl
theorem list14 {α : Type} {l : List α} (h : l.length = 14) : ∃ c0 c1 c2 c3 c4 c5 c6 c7 c8 c9 c10 c11 c12 c13, l = [c0, c1, c2, c3, c4, c5, c6, c7, c8, c9, c10, c11, c12, c13] := by
  match l, h with
  | [c0, c1, c2, c3, c4, c5, c6, c7, c8, c9, c10, c11, c12, c13], _ => exact ⟨c0, c1, c2, c3, c4, c5, c6, c7, c8, c9, c10, c11, c12, c13, rfl⟩

theorem list10 {α : Type} {l : List α} (h : l.length = 10) : ∃ c0 c1 c2 c3 c4 c5 c6 c7 c8 c9, l = [c0, c1, c2, c3, c4, c5, c6, c7, c8, c9] := by
  match l, h with
  | [c0, c1, c2, c3, c4, c5, c6, c7, c8, c9], _ => exact ⟨c0, c1, c2, c3, c4, c5, c6, c7, c8, c9, rfl⟩

theorem list1 {α : Type} {l : List α} (h : l.length = 1) : ∃ c0, l = [c0] := by
  match l, h with
  | [c0], _ => exact ⟨c0, rfl⟩

theorem cfg_cells {H : Type} {enc : TypeId × Value → H} {w : World} {base : Nat} {sp : Nat → Bool} {held : Bool} {fuel : Nat} {cs : List Value} {x : DataW H × List MemPlace}
    (h : DataW.trod enc Try.prog w base sp held fuel 28 cs = some x) : ∃ c : Cfg, cs = (ccells c).toList := by
  obtain ⟨xs, n, _, _, hl, hlen, hf'⟩ := DataW.trod_struct Try.underlying28 h
  obtain ⟨c0, c1, c2, c3, c4, c5, c6, c7, c8, c9, c10, c11, c12, c13, rfl⟩ := list14 (hl.trans ccC)
  have key : ∀ i, i < 14 → ∃ y, xs[i]? = some y := fun i hi => ⟨_, List.getElem?_eq_getElem (by rw [hlen]; exact hi)⟩
  have f0 : DataW.trod enc Try.prog w base sp held n 3 [c0] = xs[0]? := by simpa [cc3] using hf' 0 _ rfl
  obtain ⟨y0, e0⟩ := key 0 (by decide)
  rw [e0] at f0
  obtain ⟨z0, g0, _, w0⟩ := DataW.trod_int Try.underlying3 f0
  have f1 : DataW.trod enc Try.prog w base sp held n 3 [c1] = xs[1]? := by simpa [cc3] using hf' 1 _ rfl
  obtain ⟨y1, e1⟩ := key 1 (by decide)
  rw [e1] at f1
  obtain ⟨z1, g1, _, w1⟩ := DataW.trod_int Try.underlying3 f1
  have f2 : DataW.trod enc Try.prog w base sp held n 3 [c2] = xs[2]? := by simpa [cc3] using hf' 2 _ rfl
  obtain ⟨y2, e2⟩ := key 2 (by decide)
  rw [e2] at f2
  obtain ⟨z2, g2, _, w2⟩ := DataW.trod_int Try.underlying3 f2
  have f3 : DataW.trod enc Try.prog w base sp held n 3 [c3] = xs[3]? := by simpa [cc3] using hf' 3 _ rfl
  obtain ⟨y3, e3⟩ := key 3 (by decide)
  rw [e3] at f3
  obtain ⟨z3, g3, _, w3⟩ := DataW.trod_int Try.underlying3 f3
  have f4 : DataW.trod enc Try.prog w base sp held n 3 [c4] = xs[4]? := by simpa [cc3] using hf' 4 _ rfl
  obtain ⟨y4, e4⟩ := key 4 (by decide)
  rw [e4] at f4
  obtain ⟨z4, g4, _, w4⟩ := DataW.trod_int Try.underlying3 f4
  have f5 : DataW.trod enc Try.prog w base sp held n 3 [c5] = xs[5]? := by simpa [cc3] using hf' 5 _ rfl
  obtain ⟨y5, e5⟩ := key 5 (by decide)
  rw [e5] at f5
  obtain ⟨z5, g5, _, w5⟩ := DataW.trod_int Try.underlying3 f5
  have f6 : DataW.trod enc Try.prog w base sp held n 3 [c6] = xs[6]? := by simpa [cc3] using hf' 6 _ rfl
  obtain ⟨y6, e6⟩ := key 6 (by decide)
  rw [e6] at f6
  obtain ⟨z6, g6, _, w6⟩ := DataW.trod_int Try.underlying3 f6
  have f7 : DataW.trod enc Try.prog w base sp held n 3 [c7] = xs[7]? := by simpa [cc3] using hf' 7 _ rfl
  obtain ⟨y7, e7⟩ := key 7 (by decide)
  rw [e7] at f7
  obtain ⟨z7, g7, _, w7⟩ := DataW.trod_int Try.underlying3 f7
  have f8 : DataW.trod enc Try.prog w base sp held n 3 [c8] = xs[8]? := by simpa [cc3] using hf' 8 _ rfl
  obtain ⟨y8, e8⟩ := key 8 (by decide)
  rw [e8] at f8
  obtain ⟨z8, g8, _, w8⟩ := DataW.trod_int Try.underlying3 f8
  have f9 : DataW.trod enc Try.prog w base sp held n 3 [c9] = xs[9]? := by simpa [cc3] using hf' 9 _ rfl
  obtain ⟨y9, e9⟩ := key 9 (by decide)
  rw [e9] at f9
  obtain ⟨z9, g9, _, w9⟩ := DataW.trod_int Try.underlying3 f9
  have f10 : DataW.trod enc Try.prog w base sp held n 3 [c10] = xs[10]? := by simpa [cc3] using hf' 10 _ rfl
  obtain ⟨y10, e10⟩ := key 10 (by decide)
  rw [e10] at f10
  obtain ⟨z10, g10, _, w10⟩ := DataW.trod_int Try.underlying3 f10
  have f11 : DataW.trod enc Try.prog w base sp held n 3 [c11] = xs[11]? := by simpa [cc3] using hf' 11 _ rfl
  obtain ⟨y11, e11⟩ := key 11 (by decide)
  rw [e11] at f11
  obtain ⟨z11, g11, _, w11⟩ := DataW.trod_int Try.underlying3 f11
  have f12 : DataW.trod enc Try.prog w base sp held n 3 [c12] = xs[12]? := by simpa [cc3] using hf' 12 _ rfl
  obtain ⟨y12, e12⟩ := key 12 (by decide)
  rw [e12] at f12
  obtain ⟨z12, g12, _, w12⟩ := DataW.trod_int Try.underlying3 f12
  have f13 : DataW.trod enc Try.prog w base sp held n 3 [c13] = xs[13]? := by simpa [cc3] using hf' 13 _ rfl
  obtain ⟨y13, e13⟩ := key 13 (by decide)
  rw [e13] at f13
  obtain ⟨z13, g13, _, w13⟩ := DataW.trod_int Try.underlying3 f13
  simp only [List.cons.injEq, and_true] at g0 g1 g2 g3 g4 g5 g6 g7 g8 g9 g10 g11 g12 g13
  subst g0 g1 g2 g3 g4 g5 g6 g7 g8 g9 g10 g11 g12 g13
  exact ⟨⟨z0, z1, z2, z3, z4, z5, z6, z7, z8, z9, z10, z11, z12, z13⟩, rfl⟩

theorem cost_cells {H : Type} {enc : TypeId × Value → H} {w : World} {base : Nat} {sp : Nat → Bool} {held : Bool} {fuel : Nat} {cs : List Value} {x : DataW H × List MemPlace}
    (h : DataW.trod enc Try.prog w base sp held fuel 25 cs = some x) : ∃ k : Cst, cs = (kcells k).toList := by
  obtain ⟨xs, n, _, _, hl, hlen, hf'⟩ := DataW.trod_struct Try.underlying25 h
  obtain ⟨c0, c1, c2, c3, c4, c5, c6, c7, c8, c9, rfl⟩ := list10 (hl.trans ccK)
  have key : ∀ i, i < 10 → ∃ y, xs[i]? = some y := fun i hi => ⟨_, List.getElem?_eq_getElem (by rw [hlen]; exact hi)⟩
  have f0 : DataW.trod enc Try.prog w base sp held n 3 [c0] = xs[0]? := by simpa [cc3] using hf' 0 _ rfl
  obtain ⟨y0, e0⟩ := key 0 (by decide)
  rw [e0] at f0
  obtain ⟨z0, g0, _, w0⟩ := DataW.trod_int Try.underlying3 f0
  have f1 : DataW.trod enc Try.prog w base sp held n 3 [c1] = xs[1]? := by simpa [cc3] using hf' 1 _ rfl
  obtain ⟨y1, e1⟩ := key 1 (by decide)
  rw [e1] at f1
  obtain ⟨z1, g1, _, w1⟩ := DataW.trod_int Try.underlying3 f1
  have f2 : DataW.trod enc Try.prog w base sp held n 3 [c2] = xs[2]? := by simpa [cc3] using hf' 2 _ rfl
  obtain ⟨y2, e2⟩ := key 2 (by decide)
  rw [e2] at f2
  obtain ⟨z2, g2, _, w2⟩ := DataW.trod_int Try.underlying3 f2
  have f3 : DataW.trod enc Try.prog w base sp held n 3 [c3] = xs[3]? := by simpa [cc3] using hf' 3 _ rfl
  obtain ⟨y3, e3⟩ := key 3 (by decide)
  rw [e3] at f3
  obtain ⟨z3, g3, _, w3⟩ := DataW.trod_int Try.underlying3 f3
  have f4 : DataW.trod enc Try.prog w base sp held n 3 [c4] = xs[4]? := by simpa [cc3] using hf' 4 _ rfl
  obtain ⟨y4, e4⟩ := key 4 (by decide)
  rw [e4] at f4
  obtain ⟨z4, g4, _, w4⟩ := DataW.trod_int Try.underlying3 f4
  have f5 : DataW.trod enc Try.prog w base sp held n 3 [c5] = xs[5]? := by simpa [cc3] using hf' 5 _ rfl
  obtain ⟨y5, e5⟩ := key 5 (by decide)
  rw [e5] at f5
  obtain ⟨z5, g5, _, w5⟩ := DataW.trod_int Try.underlying3 f5
  have f6 : DataW.trod enc Try.prog w base sp held n 3 [c6] = xs[6]? := by simpa [cc3] using hf' 6 _ rfl
  obtain ⟨y6, e6⟩ := key 6 (by decide)
  rw [e6] at f6
  obtain ⟨z6, g6, _, w6⟩ := DataW.trod_int Try.underlying3 f6
  have f7 : DataW.trod enc Try.prog w base sp held n 3 [c7] = xs[7]? := by simpa [cc3] using hf' 7 _ rfl
  obtain ⟨y7, e7⟩ := key 7 (by decide)
  rw [e7] at f7
  obtain ⟨z7, g7, _, w7⟩ := DataW.trod_int Try.underlying3 f7
  have f8 : DataW.trod enc Try.prog w base sp held n 3 [c8] = xs[8]? := by simpa [cc3] using hf' 8 _ rfl
  obtain ⟨y8, e8⟩ := key 8 (by decide)
  rw [e8] at f8
  obtain ⟨z8, g8, _, w8⟩ := DataW.trod_int Try.underlying3 f8
  have f9 : DataW.trod enc Try.prog w base sp held n 3 [c9] = xs[9]? := by simpa [cc3] using hf' 9 _ rfl
  obtain ⟨y9, e9⟩ := key 9 (by decide)
  rw [e9] at f9
  obtain ⟨z9, g9, _, w9⟩ := DataW.trod_int Try.underlying3 f9
  simp only [List.cons.injEq, and_true] at g0 g1 g2 g3 g4 g5 g6 g7 g8 g9
  subst g0 g1 g2 g3 g4 g5 g6 g7 g8 g9
  exact ⟨⟨z0, z1, z2, z3, z4, z5, z6, z7, z8, z9⟩, rfl⟩

theorem goal_cells {H : Type} {enc : TypeId × Value → H} {w : World} {base : Nat} {sp : Nat → Bool} {held : Bool} {fuel : Nat} {cs : List Value} {x : DataW H × List MemPlace}
    (h : DataW.trod enc Try.prog w base sp held fuel 23 cs = some x) : ∃ g : Int, cs = [.int .i64 g] := by
  obtain ⟨xs, n, _, _, hl, hlen, hf'⟩ := DataW.trod_struct Try.underlying23 h
  obtain ⟨c0, rfl⟩ := list1 (hl.trans ccG)
  have key : ∀ i, i < 1 → ∃ y, xs[i]? = some y := fun i hi => ⟨_, List.getElem?_eq_getElem (by rw [hlen]; exact hi)⟩
  have f0 : DataW.trod enc Try.prog w base sp held n 3 [c0] = xs[0]? := by simpa [cc3] using hf' 0 _ rfl
  obtain ⟨y0, e0⟩ := key 0 (by decide)
  rw [e0] at f0
  obtain ⟨z0, g0, _, w0⟩ := DataW.trod_int Try.underlying3 f0
  simp only [List.cons.injEq, and_true] at g0
  subst g0
  exact ⟨z0, rfl⟩

theorem open_cfg {H : Type} {enc : TypeId × Value → H} {w : World} {base : Nat} {sp : Nat → Bool} {held : Bool} {r : Reach} {b0 : Nat} {v : Value} {d : DataW H} {p : List MemPlace}
    (hv' : Value.okWide Try.prog w r b0 28 v) (h : DataW.Trod enc Try.prog w base sp held 28 v d p) : ∃ c : Cfg, v = cv c := by
  obtain ⟨cs, rfl, hsz⟩ := okWide_struct Try.underlying28 hv'
  obtain ⟨fuel, hf⟩ := h
  obtain ⟨c, hc⟩ := cfg_cells (by simpa [Value.cells] using hf)
  refine ⟨c, ?_⟩
  obtain ⟨l⟩ := cs
  simp only at hc
  rw [hc]

theorem open_cost {H : Type} {enc : TypeId × Value → H} {w : World} {base : Nat} {sp : Nat → Bool} {held : Bool} {r : Reach} {b0 : Nat} {v : Value} {d : DataW H} {p : List MemPlace}
    (hv' : Value.okWide Try.prog w r b0 25 v) (h : DataW.Trod enc Try.prog w base sp held 25 v d p) : ∃ c : Cst, v = kv c := by
  obtain ⟨cs, rfl, hsz⟩ := okWide_struct Try.underlying25 hv'
  obtain ⟨fuel, hf⟩ := h
  obtain ⟨c, hc⟩ := cost_cells (by simpa [Value.cells] using hf)
  refine ⟨c, ?_⟩
  obtain ⟨l⟩ := cs
  simp only at hc
  rw [hc]

theorem open_goal {H : Type} {enc : TypeId × Value → H} {w : World} {base : Nat} {sp : Nat → Bool} {held : Bool} {r : Reach} {b0 : Nat} {v : Value} {d : DataW H} {p : List MemPlace}
    (hv' : Value.okWide Try.prog w r b0 23 v) (h : DataW.Trod enc Try.prog w base sp held 23 v d p) : ∃ c : Int, v = gv c := by
  obtain ⟨cs, rfl, hsz⟩ := okWide_struct Try.underlying23 hv'
  obtain ⟨fuel, hf⟩ := h
  obtain ⟨c, hc⟩ := goal_cells (by simpa [Value.cells] using hf)
  refine ⟨c, ?_⟩
  obtain ⟨l⟩ := cs
  simp only at hc
  rw [hc]

end Go.Proofs.Ytlbmlnmgbjhljaa.Po
