/-
  A script that comes in; the five statements walked.
-/
import Derived.Test.YtlnfhnahnmblmabDoorMLaid
import Derived.Test.YtlnfhnahnmblmabDoorN20
set_option linter.unusedVariables false
set_option maxRecDepth 20000
namespace Go.Proofs.YtlnfhnahnmblmabDoor
open Go.ChangeShapes Go.WideShapes Go.ChangeAt Go.WideMaps Go.WideElems Go.RowKit

theorem nop4 : Tryd.prog.cellsOf 30 = 4 := by kernel_rfl
theorem plus_plain (g off n : Nat) : (⟨g, off, none⟩ : Addr).add n = ⟨g, off + n, none⟩ := Addr.add_lit _ _ _

theorem list4 {α : Type} {cs : List α} (h : cs.length = 4) : ∃ c0 c1 c2 c3, cs = [c0, c1, c2, c3] := by
  match cs, h with
  | [c0, c1, c2, c3], _ => exact ⟨c0, c1, c2, c3, rfl⟩

theorem open_op4 {H : Type} {enc : TypeId × Value → H} {w : World} {base fuel : Nat} {sp : Nat → Bool} {held : Bool} {cs : List Value} {x : DataW H × List MemPlace}
    (hf : DataW.trod enc Tryd.prog w base sp held fuel 30 cs = some x) : ∃ o : Op4, cs = [.int .i64 o.k, .int .i64 o.A, .int .i64 o.B, .int .i64 o.C] ∧ o.A ≤ 9223372036854775807 := by
  obtain ⟨xs, n, _, hx, hl, hlen, hf'⟩ := DataW.trod_struct Tryd.underlying30 hf
  rw [nop4] at hl
  obtain ⟨c0, c1, c2, c3, rfl⟩ := list4 hl
  have key : ∀ i, i < 4 → ∃ y, xs[i]? = some y := fun i hi => ⟨_, List.getElem?_eq_getElem (by rw [hlen]; exact hi)⟩
  have f0 : DataW.trod enc Tryd.prog w base sp held n 3 [c0] = xs[0]? := by simpa [n3] using hf' 0 _ rfl
  obtain ⟨y0, e0⟩ := key 0 (by decide)
  rw [e0] at f0
  obtain ⟨z0, g0, _⟩ := DataW.trod_int Tryd.underlying3 f0
  have f1 : DataW.trod enc Tryd.prog w base sp held n 3 [c1] = xs[1]? := by simpa [n3] using hf' 1 _ rfl
  obtain ⟨y1, e1⟩ := key 1 (by decide)
  rw [e1] at f1
  obtain ⟨z1, g1, _, wf1⟩ := DataW.trod_int Tryd.underlying3 f1
  have f2 : DataW.trod enc Tryd.prog w base sp held n 3 [c2] = xs[2]? := by simpa [n3] using hf' 2 _ rfl
  obtain ⟨y2, e2⟩ := key 2 (by decide)
  rw [e2] at f2
  obtain ⟨z2, g2, _⟩ := DataW.trod_int Tryd.underlying3 f2
  have f3 : DataW.trod enc Tryd.prog w base sp held n 3 [c3] = xs[3]? := by simpa [n3] using hf' 3 _ rfl
  obtain ⟨y3, e3⟩ := key 3 (by decide)
  rw [e3] at f3
  obtain ⟨z3, g3, _⟩ := DataW.trod_int Tryd.underlying3 f3
  simp only [List.cons.injEq, and_true] at g0 g1 g2 g3
  subst g0 g1 g2 g3
  exact ⟨⟨z0, z1, z2, z3⟩, rfl, (in_of wf1).2⟩

/-- A script that comes in. -/
theorem open_ops4 {H : Type} {enc : TypeId × Value → H} {w : World} {sp : Nat → Bool} {held : Bool} {a : Option Addr} {len cap : Nat} {d : DataW H} {p : List MemPlace}
    (h : DataW.Trod enc Tryd.prog w 0 sp held 22 (.slice a len cap) d p) : ∃ ops : List Op4, ops.length = len ∧ LOps4 w.heap.size w a ops := by
  obtain ⟨fuel, hf⟩ := h
  rcases DataW.trod_slice Tryd.underlying22 hf with ⟨hcs, _⟩ | ⟨x, l, c, elems, rest, n, _, hcs, hd, _, hl, hm, hel, hget, _⟩
  · simp [Value.cells] at hcs
    obtain ⟨rfl, rfl, rfl⟩ := hcs
    exact ⟨[], rfl, fun i o ho => by simp at ho⟩
  · simp [Value.cells] at hcs
    obtain ⟨rfl, rfl, rfl⟩ := hcs
    have cells : ∀ i, i < len → ∃ o : Op4, (∀ j, j < 4 → w.cell? ((x.add (i * 4)).add j) = ([Value.int .i64 o.k, .int .i64 o.A, .int .i64 o.B, .int .i64 o.C] : List Value)[j]?) ∧ o.A ≤ 9223372036854775807 := by
      intro i hi
      have h1 := hget i hi
      rw [nop4, List.getElem?_eq_getElem (by omega)] at h1
      obtain ⟨cs, hc, ht⟩ := Option.bind_eq_some_iff.1 h1
      obtain ⟨o, rfl, hA⟩ := open_op4 ht
      exact ⟨o, (World.cells?_some hc).2.2, hA⟩
    have each : ∀ i, i < len → ∃ o : Op4, o.A ≤ 9223372036854775807 ∧ ∃ g off, x = ⟨g, off, none⟩ ∧ g < w.heap.size ∧
        w.cell? ⟨g, off + i * 4, none⟩ = some (.int .i64 o.k) ∧ w.cell? ⟨g, off + i * 4 + 1, none⟩ = some (.int .i64 o.A) ∧ w.cell? ⟨g, off + i * 4 + 2, none⟩ = some (.int .i64 o.B) ∧ w.cell? ⟨g, off + i * 4 + 3, none⟩ = some (.int .i64 o.C) := by
      intro i hi
      obtain ⟨o0, h0, -⟩ := cells 0 (by omega)
      obtain ⟨g, off, spot⟩ := x
      have hspot : spot = none := by simpa [Addr.add] using World.cell?_spot (h0 0 (by decide))
      subst hspot
      obtain ⟨o, ho, hA⟩ := cells i hi
      simp only [plus_plain] at ho
      have c0 := ho 0 (by decide)
      exact ⟨o, hA, g, off, rfl, World.block_lt_of_cell? _ _ c0, c0, ho 1 (by decide), ho 2 (by decide), ho 3 (by decide)⟩
    refine ⟨(List.range len).map fun i => if h : i < len then (each i h).choose else ⟨0, 0, 0, 0⟩, by simp, fun i o ho => ?_⟩
    have hi : i < len := by have := (List.getElem?_eq_some_iff.1 ho).1; simpa using this
    have e : o = (each i hi).choose := by simpa [List.getElem?_map, List.getElem?_range hi, hi] using ho.symm
    obtain ⟨hA, g, off, hx, hg, rest⟩ := (each i hi).choose_spec
    rw [e]
    exact ⟨hA, g, off, by rw [hx], hg, rest⟩
end Go.Proofs.YtlnfhnahnmblmabDoor
