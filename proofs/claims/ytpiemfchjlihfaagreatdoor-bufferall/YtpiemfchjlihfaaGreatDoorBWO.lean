/-
  A script that comes in.
-/
import Derived.Test.YtpiemfchjlihfaaGreatDoorPB4
import Derived.Test.YtpiemfchjlihfaaGreatDoorAOpen
set_option linter.unusedVariables false
set_option maxRecDepth 20000
namespace Go.Proofs.YtpiemfchjlihfaaGreatDoor
open Go.ChangeShapes Go.WideShapes Go.ChangeAt Go.WideMaps Go.WideElems Go.RowKit

theorem c13i : Tryz.prog.cellsOf 3 = 1 := by kernel_rfl
theorem c13b : Tryz.prog.cellsOf 4 = 1 := by kernel_rfl
theorem c13u : Tryz.prog.cellsOf 44 = 1 := by kernel_rfl
theorem c13h : Tryz.prog.cellsOf 46 = 7 := by kernel_rfl
theorem c13o : Tryz.prog.cellsOf 48 = 12 := by kernel_rfl
theorem plus_plain (g off n : Nat) : (⟨g, off, none⟩ : Addr).add n = ⟨g, off + n, none⟩ := Addr.add_lit _ _ _
theorem in_of {a : Int} (h : (Lit.int .i64 a).wf = true) : I64 a := by
  simp [Lit.wf, IntKind.min, IntKind.max, IntKind.signed, IntKind.bits] at h
  unfold I64
  omega
theorem in_ofu {a : Int} (h : (Lit.int .u64 a).wf = true) : Wd a := by
  simp [Lit.wf, IntKind.min, IntKind.max, IntKind.signed, IntKind.bits] at h
  unfold Wd
  omega

theorem list7 {α : Type} {cs : List α} (h : cs.length = 7) : ∃ c0 c1 c2 c3 c4 c5 c6, cs = [c0, c1, c2, c3, c4, c5, c6] := by
  match cs, h with
  | [c0, c1, c2, c3, c4, c5, c6], _ => exact ⟨c0, c1, c2, c3, c4, c5, c6, rfl⟩
theorem list12 {α : Type} {cs : List α} (h : cs.length = 12) : ∃ c0 c1 c2 c3 c4 c5 c6 c7 c8 c9 c10 c11, cs = [c0, c1, c2, c3, c4, c5, c6, c7, c8, c9, c10, c11] := by
  match cs, h with
  | [c0, c1, c2, c3, c4, c5, c6, c7, c8, c9, c10, c11], _ => exact ⟨c0, c1, c2, c3, c4, c5, c6, c7, c8, c9, c10, c11, rfl⟩

theorem open_headL {H : Type} {enc : TypeId × Value → H} {w : World} {base fuel : Nat} {sp : Nat → Bool} {held : Bool} {cs : List Value} {x : DataW H × List MemPlace}
    (hf : DataW.trod enc Tryz.prog w base sp held fuel 46 cs = some x) : ∃ s k q x a t b, cs = [.int .u64 s, .int .i64 k, .int .i64 q, .int .i64 x, .int .i64 a, .int .i64 t, .bool b] ∧ Wd s ∧ I64 k ∧ I64 q ∧ I64 x ∧ I64 a ∧ I64 t := by
  obtain ⟨xs, n, _, hx, hl, hlen, hf'⟩ := DataW.trod_struct Tryz.underlying46 hf
  rw [c13h] at hl
  obtain ⟨c0, c1, c2, c3, c4, c5, c6, rfl⟩ := list7 hl
  have key : ∀ i, i < 7 → ∃ y, xs[i]? = some y := fun i hi => ⟨_, List.getElem?_eq_getElem (by rw [hlen]; exact hi)⟩
  have f0 : DataW.trod enc Tryz.prog w base sp held n 44 [c0] = xs[0]? := by simpa [c13i, c13b, c13u] using hf' 0 _ rfl
  obtain ⟨y0, e0⟩ := key 0 (by decide)
  rw [e0] at f0
  obtain ⟨z0, g0, _, wf0⟩ := DataW.trod_int Tryz.underlying44 f0
  have f1 : DataW.trod enc Tryz.prog w base sp held n 3 [c1] = xs[1]? := by simpa [c13i, c13b, c13u] using hf' 1 _ rfl
  obtain ⟨y1, e1⟩ := key 1 (by decide)
  rw [e1] at f1
  obtain ⟨z1, g1, _, wf1⟩ := DataW.trod_int Tryz.underlying3 f1
  have f2 : DataW.trod enc Tryz.prog w base sp held n 3 [c2] = xs[2]? := by simpa [c13i, c13b, c13u] using hf' 2 _ rfl
  obtain ⟨y2, e2⟩ := key 2 (by decide)
  rw [e2] at f2
  obtain ⟨z2, g2, _, wf2⟩ := DataW.trod_int Tryz.underlying3 f2
  have f3 : DataW.trod enc Tryz.prog w base sp held n 3 [c3] = xs[3]? := by simpa [c13i, c13b, c13u] using hf' 3 _ rfl
  obtain ⟨y3, e3⟩ := key 3 (by decide)
  rw [e3] at f3
  obtain ⟨z3, g3, _, wf3⟩ := DataW.trod_int Tryz.underlying3 f3
  have f4 : DataW.trod enc Tryz.prog w base sp held n 3 [c4] = xs[4]? := by simpa [c13i, c13b, c13u] using hf' 4 _ rfl
  obtain ⟨y4, e4⟩ := key 4 (by decide)
  rw [e4] at f4
  obtain ⟨z4, g4, _, wf4⟩ := DataW.trod_int Tryz.underlying3 f4
  have f5 : DataW.trod enc Tryz.prog w base sp held n 3 [c5] = xs[5]? := by simpa [c13i, c13b, c13u] using hf' 5 _ rfl
  obtain ⟨y5, e5⟩ := key 5 (by decide)
  rw [e5] at f5
  obtain ⟨z5, g5, _, wf5⟩ := DataW.trod_int Tryz.underlying3 f5
  have f6 : DataW.trod enc Tryz.prog w base sp held n 4 [c6] = xs[6]? := by simpa [c13i, c13b, c13u] using hf' 6 _ rfl
  obtain ⟨y6, e6⟩ := key 6 (by decide)
  rw [e6] at f6
  obtain ⟨z6, g6, _⟩ := DataW.trod_bool Tryz.underlying4 f6
  simp only [List.cons.injEq, and_true] at g0 g1 g2 g3 g4 g5 g6
  subst g0 g1 g2 g3 g4 g5 g6
  exact ⟨_, _, _, _, _, _, _, rfl, in_ofu wf0, in_of wf1, in_of wf2, in_of wf3, in_of wf4, in_of wf5⟩

theorem open_op13 {H : Type} {enc : TypeId × Value → H} {w : World} {base fuel : Nat} {sp : Nat → Bool} {held : Bool} {cs : List Value} {x : DataW H × List MemPlace}
    (hf : DataW.trod enc Tryz.prog w base sp held fuel 48 cs = some x) : ∃ o : Op13, cs = o.cells.toList ∧ o.Ok := by
  obtain ⟨xs, n, _, hx, hl, hlen, hf'⟩ := DataW.trod_struct Tryz.underlying48 hf
  rw [c13o] at hl
  obtain ⟨c0, c1, c2, c3, c4, c5, c6, c7, c8, c9, c10, c11, rfl⟩ := list12 hl
  have key : ∀ i, i < 6 → ∃ y, xs[i]? = some y := fun i hi => ⟨_, List.getElem?_eq_getElem (by rw [hlen]; exact hi)⟩
  have f0 : DataW.trod enc Tryz.prog w base sp held n 3 [c0] = xs[0]? := by simpa [c13i, c13b, c13u, c13h] using hf' 0 _ rfl
  obtain ⟨y0, e0⟩ := key 0 (by decide)
  rw [e0] at f0
  obtain ⟨z0, g0, _, wf0⟩ := DataW.trod_int Tryz.underlying3 f0
  have f1 : DataW.trod enc Tryz.prog w base sp held n 3 [c1] = xs[1]? := by simpa [c13i, c13b, c13u, c13h] using hf' 1 _ rfl
  obtain ⟨y1, e1⟩ := key 1 (by decide)
  rw [e1] at f1
  obtain ⟨z1, g1, _, wf1⟩ := DataW.trod_int Tryz.underlying3 f1
  have f2 : DataW.trod enc Tryz.prog w base sp held n 46 [c2, c3, c4, c5, c6, c7, c8] = xs[2]? := by simpa [c13i, c13b, c13u, c13h] using hf' 2 _ rfl
  obtain ⟨y2, e2⟩ := key 2 (by decide)
  rw [e2] at f2
  obtain ⟨s, k, q, x, a, t, b, g2, hs, hk, hq, hx', ha, ht⟩ := open_headL f2
  have f3 : DataW.trod enc Tryz.prog w base sp held n 3 [c9] = xs[3]? := by simpa [c13i, c13b, c13u, c13h] using hf' 3 _ rfl
  obtain ⟨y3, e3⟩ := key 3 (by decide)
  rw [e3] at f3
  obtain ⟨z3, g3, _, wf3⟩ := DataW.trod_int Tryz.underlying3 f3
  have f4 : DataW.trod enc Tryz.prog w base sp held n 3 [c10] = xs[4]? := by simpa [c13i, c13b, c13u, c13h] using hf' 4 _ rfl
  obtain ⟨y4, e4⟩ := key 4 (by decide)
  rw [e4] at f4
  obtain ⟨z4, g4, _, wf4⟩ := DataW.trod_int Tryz.underlying3 f4
  have f5 : DataW.trod enc Tryz.prog w base sp held n 44 [c11] = xs[5]? := by simpa [c13i, c13b, c13u, c13h] using hf' 5 _ rfl
  obtain ⟨y5, e5⟩ := key 5 (by decide)
  rw [e5] at f5
  obtain ⟨z5, g5, _, wf5⟩ := DataW.trod_int Tryz.underlying44 f5
  simp only [List.cons.injEq, and_true] at g0 g1 g2 g3 g4 g5
  obtain ⟨h2, h3, h4, h5, h6, h7, h8⟩ := g2
  subst g0 g1 g3 g4 g5 h2 h3 h4 h5 h6 h7 h8
  exact ⟨⟨z0, z1, s, k, q, x, a, t, b, z3, z4, z5⟩, rfl, in_of wf1, hs, hk, hq, hx', ha, ht, in_of wf3, in_of wf4, in_ofu wf5⟩

/-- A script in memory. -/
def LOps13 (n0 : Nat) (w : World) (a : Option Addr) (ops : List Op13) : Prop := ∀ (i : Nat) (o : Op13), ops[i]? = some o → o.Ok ∧ ∃ g off, a = some ⟨g, off, none⟩ ∧ g < n0 ∧ ∀ j, j < 12 → w.cell? ⟨g, off + i * 12 + j, none⟩ = o.cells[j]?

theorem open_ops13 {H : Type} {enc : TypeId × Value → H} {w : World} {sp : Nat → Bool} {held : Bool} {a : Option Addr} {len cap : Nat} {d : DataW H} {p : List MemPlace}
    (h : DataW.Trod enc Tryz.prog w 0 sp held 24 (.slice a len cap) d p) : ∃ ops : List Op13, ops.length = len ∧ len ≤ 9223372036854775807 ∧ LOps13 w.heap.size w a ops := by
  obtain ⟨fuel, hf⟩ := h
  rcases DataW.trod_slice Tryz.underlying24 hf with ⟨hcs, _⟩ | ⟨x, l, c, elems, rest, n, _, hcs, hd, _, hl, hm, hel, hget, _⟩
  · simp [Value.cells] at hcs
    obtain ⟨rfl, rfl, rfl⟩ := hcs
    exact ⟨[], rfl, by decide, fun i o ho => by simp at ho⟩
  · simp [Value.cells] at hcs
    obtain ⟨rfl, rfl, rfl⟩ := hcs
    have cells : ∀ i, i < len → ∃ o : Op13, (∀ j, j < 12 → w.cell? ((x.add (i * 12)).add j) = o.cells.toList[j]?) ∧ o.Ok := by
      intro i hi
      have h1 := hget i hi
      rw [c13o, List.getElem?_eq_getElem (by omega)] at h1
      obtain ⟨cs, hc, ht⟩ := Option.bind_eq_some_iff.1 h1
      obtain ⟨o, rfl, hA⟩ := open_op13 ht
      exact ⟨o, (World.cells?_some hc).2.2, hA⟩
    have each : ∀ i, i < len → ∃ o : Op13, o.Ok ∧ ∃ g off, x = ⟨g, off, none⟩ ∧ g < w.heap.size ∧ ∀ j, j < 12 → w.cell? ⟨g, off + i * 12 + j, none⟩ = o.cells[j]? := by
      intro i hi
      obtain ⟨o0, h0, -⟩ := cells 0 (by omega)
      obtain ⟨g, off, spot⟩ := x
      have hspot : spot = none := by simpa [Addr.add] using World.cell?_spot (h0 0 (by decide))
      subst hspot
      obtain ⟨o, ho, hA⟩ := cells i hi
      simp only [plus_plain] at ho
      have c0 := ho 0 (by decide)
      exact ⟨o, hA, g, off, rfl, World.block_lt_of_cell? _ _ c0, fun j hj => (ho j hj).trans (by simp)⟩
    refine ⟨(List.range len).map fun i => if h : i < len then (each i h).choose else ⟨0, 0, 0, 0, 0, 0, 0, 0, false, 0, 0, 0⟩, by simp, by unfold maxLen at hm; omega, fun i o ho => ?_⟩
    have hi : i < len := by have := (List.getElem?_eq_some_iff.1 ho).1; simpa using this
    have e : o = (each i hi).choose := by simpa [List.getElem?_map, List.getElem?_range hi, hi] using ho.symm
    obtain ⟨hA, g, off, hx, hg, rest⟩ := (each i hi).choose_spec
    rw [e]
    exact ⟨hA, g, off, by rw [hx], hg, rest⟩

end Go.Proofs.YtpiemfchjlihfaaGreatDoor
