import Derived.Test.YtbgnagjhkfkekaaGreatDoorPYe
import Derived.ProofKit
import Derived.OpenShut
import Derived.ChangeOld
import Derived.ChangeSlices
import Derived.Lib.SmallJoins
/-
  A plan, as it came in. (mkYOp.py printed it; without deeds.)
-/
set_option linter.unusedVariables false
set_option maxRecDepth 20000
namespace Go.Proofs.YtbgnagjhkfkekaaGreatDoor
open Go.ChangeShapes Go.WideShapes Go.ChangeAt Go.WideMaps Go.WideElems Go.RowKit

theorem qn3 : Tryz.prog.cellsOf 3 = 1 := by kernel_rfl
theorem qn4 : Tryz.prog.cellsOf 4 = 1 := by kernel_rfl
theorem qnu : Tryz.prog.cellsOf 58 = 1 := by kernel_rfl
theorem qnh : Tryz.prog.cellsOf 60 = 7 := by kernel_rfl
theorem qni : Tryz.prog.cellsOf 27 = 1 := by kernel_rfl
theorem qnw : Tryz.prog.cellsOf 61 = 1 := by kernel_rfl
theorem qnt : Tryz.prog.cellsOf 63 = 11 := by kernel_rfl
theorem qnts : Tryz.prog.cellsOf 24 = 1 := by kernel_rfl
theorem qnc : Tryz.prog.cellsOf 23 = 14 := by kernel_rfl
theorem qnp : Tryz.prog.cellsOf 26 = 15 := by kernel_rfl
theorem plus_y (g off n : Nat) : (⟨g, off, none⟩ : Addr).add n = ⟨g, off + n, none⟩ := Addr.add_lit _ _ _
theorem in_y {a : Int} (h : (Lit.int .i64 a).wf = true) : InI a := by
  simp [Lit.wf, IntKind.min, IntKind.max, IntKind.signed, IntKind.bits] at h
  unfold InI
  omega
theorem in_yu {a : Int} (h : (Lit.int .u64 a).wf = true) : Wd a := by
  simp [Lit.wf, IntKind.min, IntKind.max, IntKind.signed, IntKind.bits] at h
  unfold Wd
  omega

theorem lrd_of {w : World} {x : Addr} {len cap : Nat} {k : IntKind} {zs : List Int} (hz : len ≤ zs.length) (hcap : len ≤ cap) (hc : ∀ i, i < zs.length → w.cell? (x.add i) = some (.int k (zs.getD i 0))) : Lrd w.heap.size w (.slice (some x) len cap) k (zs.take len) := by
  have hl : (zs.take len).length = len := by simp; omega
  refine ⟨some x, cap, by rw [hl], by rw [hl]; exact hcap, fun i y hi => ?_⟩
  have hil := (List.getElem?_eq_some_iff.1 hi).1
  rw [hl] at hil
  have h0 := hc 0 (by omega)
  obtain ⟨g, off, spot⟩ := x
  have hspot : spot = none := by simpa [Addr.add] using World.cell?_spot h0
  subst hspot
  have h1 := hc i (by omega)
  rw [plus_y] at h1
  have ey : zs.getD i 0 = y := by
    rw [List.getElem?_take, if_pos (by omega)] at hi
    rw [List.getD_eq_getElem?_getD, hi]; rfl
  rw [ey] at h1
  exact ⟨g, off, rfl, World.block_lt_of_cell? _ _ h1, h1⟩

/-- A list of numbers that comes in. -/
theorem open_nums {H : Type} {enc : TypeId × Value → H} {w : World} {base fuel : Nat} {sp : Nat → Bool} {held : Bool} {v : Value} {x : DataW H × List MemPlace} {t e : TypeId} {k : IntKind} (ht : Tryz.prog.underlying t = some (.slice e)) (he : Tryz.prog.underlying e = some (.int k)) (hc : Tryz.prog.cellsOf e = 1)
    (hf : DataW.trod enc Tryz.prog w base sp held fuel t [v] = some x) : ∃ l : List Int, Lrd w.heap.size w v k l ∧ ∀ z, z ∈ l → (Lit.int k z).wf = true := by
  rcases open_ints ht he hc hf with ⟨hcs, _⟩ | ⟨x, l, c, zs, hcs, _, hl, hm, hz, _, hcell, hwz⟩
  · simp at hcs
    subst hcs
    exact ⟨[], ⟨none, 0, rfl, Nat.le_refl _, fun i x h => by simp at h⟩, fun z h => by simp at h⟩
  · simp at hcs
    subst hcs
    have hzl : l ≤ zs.length := by rw [hz]; split <;> omega
    exact ⟨zs.take l, lrd_of hzl hl hcell, fun z h => hwz z (List.mem_of_mem_take h)⟩

theorem ylist7 {α : Type} {cs : List α} (h : cs.length = 7) : ∃ c0 c1 c2 c3 c4 c5 c6, cs = [c0, c1, c2, c3, c4, c5, c6] := by
  match cs, h with
  | [c0, c1, c2, c3, c4, c5, c6], _ => exact ⟨c0, c1, c2, c3, c4, c5, c6, rfl⟩

theorem ylist11 {α : Type} {cs : List α} (h : cs.length = 11) : ∃ c0 c1 c2 c3 c4 c5 c6 c7 c8 c9 c10, cs = [c0, c1, c2, c3, c4, c5, c6, c7, c8, c9, c10] := by
  match cs, h with
  | [c0, c1, c2, c3, c4, c5, c6, c7, c8, c9, c10], _ => exact ⟨c0, c1, c2, c3, c4, c5, c6, c7, c8, c9, c10, rfl⟩

theorem ylist14 {α : Type} {cs : List α} (h : cs.length = 14) : ∃ c0 c1 c2 c3 c4 c5 c6 c7 c8 c9 c10 c11 c12 c13, cs = [c0, c1, c2, c3, c4, c5, c6, c7, c8, c9, c10, c11, c12, c13] := by
  match cs, h with
  | [c0, c1, c2, c3, c4, c5, c6, c7, c8, c9, c10, c11, c12, c13], _ => exact ⟨c0, c1, c2, c3, c4, c5, c6, c7, c8, c9, c10, c11, c12, c13, rfl⟩

theorem ylist3 {α : Type} {cs : List α} (h : cs.length = 3) : ∃ c0 c1 c2, cs = [c0, c1, c2] := by
  match cs, h with
  | [c0, c1, c2], _ => exact ⟨c0, c1, c2, rfl⟩

theorem open_headY {H : Type} {enc : TypeId × Value → H} {w : World} {base fuel : Nat} {sp : Nat → Bool} {held : Bool} {cs : List Value} {x : DataW H × List MemPlace}
    (hf : DataW.trod enc Tryz.prog w base sp held fuel 60 cs = some x) : ∃ s k q x a t b, cs = [.int .u64 s, .int .i64 k, .int .i64 q, .int .i64 x, .int .i64 a, .int .i64 t, .bool b] ∧ Wd s ∧ InI k ∧ InI a ∧ InI t := by
  obtain ⟨xs, n, _, hx, hl, hlen, hf'⟩ := DataW.trod_struct Tryz.underlying60 hf
  rw [qnh] at hl
  obtain ⟨c0, c1, c2, c3, c4, c5, c6, rfl⟩ := ylist7 hl
  have key : ∀ i, i < 7 → ∃ y, xs[i]? = some y := fun i hi => ⟨_, List.getElem?_eq_getElem (by rw [hlen]; exact hi)⟩
  have f0 : DataW.trod enc Tryz.prog w base sp held n 58 [c0] = xs[0]? := by simpa [qn3, qn4, qnu, qnh, qni, qnw, qnts, qnc] using hf' 0 _ rfl
  obtain ⟨y0, e0⟩ := key 0 (by decide)
  rw [e0] at f0
  obtain ⟨z0, g0, _, wf0⟩ := DataW.trod_int Tryz.underlying58 f0
  have f1 : DataW.trod enc Tryz.prog w base sp held n 3 [c1] = xs[1]? := by simpa [qn3, qn4, qnu, qnh, qni, qnw, qnts, qnc] using hf' 1 _ rfl
  obtain ⟨y1, e1⟩ := key 1 (by decide)
  rw [e1] at f1
  obtain ⟨z1, g1, _, wf1⟩ := DataW.trod_int Tryz.underlying3 f1
  have f2 : DataW.trod enc Tryz.prog w base sp held n 3 [c2] = xs[2]? := by simpa [qn3, qn4, qnu, qnh, qni, qnw, qnts, qnc] using hf' 2 _ rfl
  obtain ⟨y2, e2⟩ := key 2 (by decide)
  rw [e2] at f2
  obtain ⟨z2, g2, _, wf2⟩ := DataW.trod_int Tryz.underlying3 f2
  have f3 : DataW.trod enc Tryz.prog w base sp held n 3 [c3] = xs[3]? := by simpa [qn3, qn4, qnu, qnh, qni, qnw, qnts, qnc] using hf' 3 _ rfl
  obtain ⟨y3, e3⟩ := key 3 (by decide)
  rw [e3] at f3
  obtain ⟨z3, g3, _, wf3⟩ := DataW.trod_int Tryz.underlying3 f3
  have f4 : DataW.trod enc Tryz.prog w base sp held n 3 [c4] = xs[4]? := by simpa [qn3, qn4, qnu, qnh, qni, qnw, qnts, qnc] using hf' 4 _ rfl
  obtain ⟨y4, e4⟩ := key 4 (by decide)
  rw [e4] at f4
  obtain ⟨z4, g4, _, wf4⟩ := DataW.trod_int Tryz.underlying3 f4
  have f5 : DataW.trod enc Tryz.prog w base sp held n 3 [c5] = xs[5]? := by simpa [qn3, qn4, qnu, qnh, qni, qnw, qnts, qnc] using hf' 5 _ rfl
  obtain ⟨y5, e5⟩ := key 5 (by decide)
  rw [e5] at f5
  obtain ⟨z5, g5, _, wf5⟩ := DataW.trod_int Tryz.underlying3 f5
  have f6 : DataW.trod enc Tryz.prog w base sp held n 4 [c6] = xs[6]? := by simpa [qn3, qn4, qnu, qnh, qni, qnw, qnts, qnc] using hf' 6 _ rfl
  obtain ⟨y6, e6⟩ := key 6 (by decide)
  rw [e6] at f6
  obtain ⟨z6, g6, _⟩ := DataW.trod_bool Tryz.underlying4 f6
  simp only [List.cons.injEq, and_true] at g0 g1 g2 g3 g4 g5 g6
  subst g0 g1 g2 g3 g4 g5 g6
  exact ⟨_, _, _, _, _, _, _, rfl, in_yu wf0, in_y wf1, in_y wf4, in_y wf5⟩

theorem open_thing {H : Type} {enc : TypeId × Value → H} {w : World} {base fuel : Nat} {sp : Nat → Bool} {held : Bool} {cs : List Value} {x : DataW H × List MemPlace}
    (hf : DataW.trod enc Tryz.prog w base sp held fuel 63 cs = some x) : ∃ o : LT, cs = o.cells.toList ∧ o.In ∧ Lrd w.heap.size w o.vp .i64 o.ps ∧ Lrd w.heap.size w o.vr .u64 o.rs ∧ ∀ z, z ∈ o.ps → InI z := by
  obtain ⟨xs, n, _, hx, hl, hlen, hf'⟩ := DataW.trod_struct Tryz.underlying63 hf
  rw [qnt] at hl
  obtain ⟨c0, c1, c2, c3, c4, c5, c6, c7, c8, c9, c10, rfl⟩ := ylist11 hl
  have key : ∀ i, i < 5 → ∃ y, xs[i]? = some y := fun i hi => ⟨_, List.getElem?_eq_getElem (by rw [hlen]; exact hi)⟩
  have f0 : DataW.trod enc Tryz.prog w base sp held n 3 [c0] = xs[0]? := by simpa [qn3, qn4, qnu, qnh, qni, qnw, qnts, qnc] using hf' 0 _ rfl
  obtain ⟨y0, e0⟩ := key 0 (by decide)
  rw [e0] at f0
  obtain ⟨z0, g0, _, wf0⟩ := DataW.trod_int Tryz.underlying3 f0
  have f1 : DataW.trod enc Tryz.prog w base sp held n 60 [c1, c2, c3, c4, c5, c6, c7] = xs[1]? := by simpa [qn3, qn4, qnu, qnh, qni, qnw, qnts, qnc] using hf' 1 _ rfl
  obtain ⟨y1, e1⟩ := key 1 (by decide)
  rw [e1] at f1
  obtain ⟨s, k, q, x, a, t, b, g1, hs, hk, ha, ht⟩ := open_headY f1
  have f2 : DataW.trod enc Tryz.prog w base sp held n 27 [c8] = xs[2]? := by simpa [qn3, qn4, qnu, qnh, qni, qnw, qnts, qnc] using hf' 2 _ rfl
  obtain ⟨y2, e2⟩ := key 2 (by decide)
  rw [e2] at f2
  obtain ⟨ps, hps, hpi⟩ := open_nums Tryz.underlying27 Tryz.underlying3 qn3 f2
  have f3 : DataW.trod enc Tryz.prog w base sp held n 61 [c9] = xs[3]? := by simpa [qn3, qn4, qnu, qnh, qni, qnw, qnts, qnc] using hf' 3 _ rfl
  obtain ⟨y3, e3⟩ := key 3 (by decide)
  rw [e3] at f3
  obtain ⟨rs, hrs, hri⟩ := open_nums Tryz.underlying61 Tryz.underlying58 qnu f3
  have f4 : DataW.trod enc Tryz.prog w base sp held n 3 [c10] = xs[4]? := by simpa [qn3, qn4, qnu, qnh, qni, qnw, qnts, qnc] using hf' 4 _ rfl
  obtain ⟨y4, e4⟩ := key 4 (by decide)
  rw [e4] at f4
  obtain ⟨z4, g4, _, wf4⟩ := DataW.trod_int Tryz.underlying3 f4
  simp only [List.cons.injEq, and_true] at g0 g1 g4
  obtain ⟨h1, h2, h3, h4, h5, h6, h7⟩ := g1
  subst g0 g4 h1 h2 h3 h4 h5 h6 h7
  exact ⟨⟨z0, s, k, q, x, a, t, b, c8, c9, z4, ps, rs, 0⟩, rfl, ⟨in_y wf0, hk, ha, ht, in_y wf4, hs, fun z hz => in_yu (hri z hz)⟩, hps, hrs, fun z hz => in_y (hpi z hz)⟩

/-- The things of a plan that comes in. -/
theorem open_things {H : Type} {enc : TypeId × Value → H} {w : World} {base fuel : Nat} {sp : Nat → Bool} {held : Bool} {v : Value} {x : DataW H × List MemPlace}
    (hf : DataW.trod enc Tryz.prog w base sp held fuel 24 [v] = some x) : ∃ P : List LT, Prd w.heap.size w v P ∧ (∀ o, o ∈ P → ∀ z, z ∈ o.ps → InI z) ∧ (P.length = 0 ∨ ∃ es ss, x.1 = .slice es ss ∧ es.length = P.length) := by
  rcases DataW.trod_slice Tryz.underlying24 hf with ⟨hcs, _⟩ | ⟨x, l, c, elems, rest, n, _, hcs, hd, _, hl, hm, hel, hget, _⟩
  · simp at hcs
    subst hcs
    exact ⟨[], ⟨none, 0, rfl, fun i o ho => by simp at ho⟩, fun o ho => by simp at ho, .inl rfl⟩
  · simp at hcs
    subst hcs
    have cells : ∀ i, i < l → ∃ o : LT, (∀ j, j < 11 → w.cell? ((x.add (i * 11)).add j) = o.cells.toList[j]?) ∧ o.In ∧ Lrd w.heap.size w o.vp .i64 o.ps ∧ Lrd w.heap.size w o.vr .u64 o.rs ∧ ∀ z, z ∈ o.ps → InI z := by
      intro i hi
      have h1 := hget i hi
      rw [qnt, List.getElem?_eq_getElem (by omega)] at h1
      obtain ⟨cs, hc, ht⟩ := Option.bind_eq_some_iff.1 h1
      obtain ⟨o, rfl, hA⟩ := open_thing ht
      exact ⟨o, (World.cells?_some hc).2.2, hA⟩
    have each : ∀ i, i < l → ∃ o : LT, (o.In ∧ Lrd w.heap.size w o.vp .i64 o.ps ∧ Lrd w.heap.size w o.vr .u64 o.rs ∧ ∃ g off, some x = some ⟨g, off, none⟩ ∧ g < w.heap.size ∧ ∀ j, j < 11 → w.cell? ⟨g, off + i * 11 + j, none⟩ = o.cells[j]?) ∧ ∀ z, z ∈ o.ps → InI z := by
      intro i hi
      obtain ⟨o0, h0, -⟩ := cells 0 (by omega)
      obtain ⟨g, off, spot⟩ := x
      have hspot : spot = none := by simpa [Addr.add] using World.cell?_spot (h0 0 (by decide))
      subst hspot
      obtain ⟨o, ho, hA1, hA2, hA3, hA4⟩ := cells i hi
      simp only [plus_y] at ho
      have c0 := ho 0 (by decide)
      exact ⟨o, ⟨hA1, hA2, hA3, g, off, rfl, World.block_lt_of_cell? _ _ c0, fun j hj => (ho j hj).trans (by simp)⟩, hA4⟩
    refine ⟨(List.range l).map fun i => if h : i < l then (each i h).choose else ⟨0, 0, 0, 0, 0, 0, 0, false, undef, undef, 0, [], [], 0⟩, ⟨some x, c, by simp, fun i o ho => ?_⟩, fun o ho => ?_, .inr ⟨_, _, by rw [hd], by simp [hel]⟩⟩
    · have hi : i < l := by have := (List.getElem?_eq_some_iff.1 ho).1; simpa using this
      have e : o = (each i hi).choose := by simpa [List.getElem?_map, List.getElem?_range hi, hi] using ho.symm
      rw [e]
      exact (each i hi).choose_spec.1
    · obtain ⟨i, hi0⟩ := List.getElem?_of_mem ho
      have hi : i < l := by have := (List.getElem?_eq_some_iff.1 hi0).1; simpa using this
      have e : o = (each i hi).choose := by simpa [List.getElem?_map, List.getElem?_range hi, hi] using hi0.symm
      rw [e]
      exact (each i hi).choose_spec.2

theorem open_cfgY {H : Type} {enc : TypeId × Value → H} {w : World} {base fuel : Nat} {sp : Nat → Bool} {held : Bool} {cs : List Value} {x : DataW H × List MemPlace}
    (hf : DataW.trod enc Tryz.prog w base sp held fuel 23 cs = some x) : ∃ c : Cfg, cs = (ccells c).toList := by
  obtain ⟨xs, n, _, hx, hl, hlen, hf'⟩ := DataW.trod_struct Tryz.underlying23 hf
  rw [qnc] at hl
  obtain ⟨c0, c1, c2, c3, c4, c5, c6, c7, c8, c9, c10, c11, c12, c13, rfl⟩ := ylist14 hl
  have key : ∀ i, i < 14 → ∃ y, xs[i]? = some y := fun i hi => ⟨_, List.getElem?_eq_getElem (by rw [hlen]; exact hi)⟩
  have f0 : DataW.trod enc Tryz.prog w base sp held n 3 [c0] = xs[0]? := by simpa [qn3, qn4, qnu, qnh, qni, qnw, qnts, qnc] using hf' 0 _ rfl
  obtain ⟨y0, e0⟩ := key 0 (by decide)
  rw [e0] at f0
  obtain ⟨z0, g0, _, wf0⟩ := DataW.trod_int Tryz.underlying3 f0
  have f1 : DataW.trod enc Tryz.prog w base sp held n 3 [c1] = xs[1]? := by simpa [qn3, qn4, qnu, qnh, qni, qnw, qnts, qnc] using hf' 1 _ rfl
  obtain ⟨y1, e1⟩ := key 1 (by decide)
  rw [e1] at f1
  obtain ⟨z1, g1, _, wf1⟩ := DataW.trod_int Tryz.underlying3 f1
  have f2 : DataW.trod enc Tryz.prog w base sp held n 3 [c2] = xs[2]? := by simpa [qn3, qn4, qnu, qnh, qni, qnw, qnts, qnc] using hf' 2 _ rfl
  obtain ⟨y2, e2⟩ := key 2 (by decide)
  rw [e2] at f2
  obtain ⟨z2, g2, _, wf2⟩ := DataW.trod_int Tryz.underlying3 f2
  have f3 : DataW.trod enc Tryz.prog w base sp held n 3 [c3] = xs[3]? := by simpa [qn3, qn4, qnu, qnh, qni, qnw, qnts, qnc] using hf' 3 _ rfl
  obtain ⟨y3, e3⟩ := key 3 (by decide)
  rw [e3] at f3
  obtain ⟨z3, g3, _, wf3⟩ := DataW.trod_int Tryz.underlying3 f3
  have f4 : DataW.trod enc Tryz.prog w base sp held n 3 [c4] = xs[4]? := by simpa [qn3, qn4, qnu, qnh, qni, qnw, qnts, qnc] using hf' 4 _ rfl
  obtain ⟨y4, e4⟩ := key 4 (by decide)
  rw [e4] at f4
  obtain ⟨z4, g4, _, wf4⟩ := DataW.trod_int Tryz.underlying3 f4
  have f5 : DataW.trod enc Tryz.prog w base sp held n 3 [c5] = xs[5]? := by simpa [qn3, qn4, qnu, qnh, qni, qnw, qnts, qnc] using hf' 5 _ rfl
  obtain ⟨y5, e5⟩ := key 5 (by decide)
  rw [e5] at f5
  obtain ⟨z5, g5, _, wf5⟩ := DataW.trod_int Tryz.underlying3 f5
  have f6 : DataW.trod enc Tryz.prog w base sp held n 3 [c6] = xs[6]? := by simpa [qn3, qn4, qnu, qnh, qni, qnw, qnts, qnc] using hf' 6 _ rfl
  obtain ⟨y6, e6⟩ := key 6 (by decide)
  rw [e6] at f6
  obtain ⟨z6, g6, _, wf6⟩ := DataW.trod_int Tryz.underlying3 f6
  have f7 : DataW.trod enc Tryz.prog w base sp held n 3 [c7] = xs[7]? := by simpa [qn3, qn4, qnu, qnh, qni, qnw, qnts, qnc] using hf' 7 _ rfl
  obtain ⟨y7, e7⟩ := key 7 (by decide)
  rw [e7] at f7
  obtain ⟨z7, g7, _, wf7⟩ := DataW.trod_int Tryz.underlying3 f7
  have f8 : DataW.trod enc Tryz.prog w base sp held n 3 [c8] = xs[8]? := by simpa [qn3, qn4, qnu, qnh, qni, qnw, qnts, qnc] using hf' 8 _ rfl
  obtain ⟨y8, e8⟩ := key 8 (by decide)
  rw [e8] at f8
  obtain ⟨z8, g8, _, wf8⟩ := DataW.trod_int Tryz.underlying3 f8
  have f9 : DataW.trod enc Tryz.prog w base sp held n 3 [c9] = xs[9]? := by simpa [qn3, qn4, qnu, qnh, qni, qnw, qnts, qnc] using hf' 9 _ rfl
  obtain ⟨y9, e9⟩ := key 9 (by decide)
  rw [e9] at f9
  obtain ⟨z9, g9, _, wf9⟩ := DataW.trod_int Tryz.underlying3 f9
  have f10 : DataW.trod enc Tryz.prog w base sp held n 3 [c10] = xs[10]? := by simpa [qn3, qn4, qnu, qnh, qni, qnw, qnts, qnc] using hf' 10 _ rfl
  obtain ⟨y10, e10⟩ := key 10 (by decide)
  rw [e10] at f10
  obtain ⟨z10, g10, _, wf10⟩ := DataW.trod_int Tryz.underlying3 f10
  have f11 : DataW.trod enc Tryz.prog w base sp held n 3 [c11] = xs[11]? := by simpa [qn3, qn4, qnu, qnh, qni, qnw, qnts, qnc] using hf' 11 _ rfl
  obtain ⟨y11, e11⟩ := key 11 (by decide)
  rw [e11] at f11
  obtain ⟨z11, g11, _, wf11⟩ := DataW.trod_int Tryz.underlying3 f11
  have f12 : DataW.trod enc Tryz.prog w base sp held n 3 [c12] = xs[12]? := by simpa [qn3, qn4, qnu, qnh, qni, qnw, qnts, qnc] using hf' 12 _ rfl
  obtain ⟨y12, e12⟩ := key 12 (by decide)
  rw [e12] at f12
  obtain ⟨z12, g12, _, wf12⟩ := DataW.trod_int Tryz.underlying3 f12
  have f13 : DataW.trod enc Tryz.prog w base sp held n 3 [c13] = xs[13]? := by simpa [qn3, qn4, qnu, qnh, qni, qnw, qnts, qnc] using hf' 13 _ rfl
  obtain ⟨y13, e13⟩ := key 13 (by decide)
  rw [e13] at f13
  obtain ⟨z13, g13, _, wf13⟩ := DataW.trod_int Tryz.underlying3 f13
  simp only [List.cons.injEq, and_true] at g0 g1 g2 g3 g4 g5 g6 g7 g8 g9 g10 g11 g12 g13
  subst g0 g1 g2 g3 g4 g5 g6 g7 g8 g9 g10 g11 g12 g13
  exact ⟨⟨z0, z1, z2, z3, z4, z5, z6, z7, z8, z9, z10, z11, z12, z13⟩, rfl⟩

theorem yarray15 {α : Type} {cs : Array α} (h : cs.size = 15) : ∃ c0 c1 c2 c3 c4 c5 c6 c7 c8 c9 c10 c11 c12 c13 c14, cs = #[c0, c1, c2, c3, c4, c5, c6, c7, c8, c9, c10, c11, c12, c13, c14] := by
  obtain ⟨l⟩ := cs
  match l, h with
  | [c0, c1, c2, c3, c4, c5, c6, c7, c8, c9, c10, c11, c12, c13, c14], _ => exact ⟨c0, c1, c2, c3, c4, c5, c6, c7, c8, c9, c10, c11, c12, c13, c14, rfl⟩

/-- A plan that comes in. -/
theorem open_plan {H : Type} {enc : TypeId × Value → H} {w : World} {base : Nat} {sp : Nat → Bool} {held : Bool} {r : Reach} {b0 : Nat} {v : Value} {d : DataW H} {p : List MemPlace}
    (hv' : Value.okWide Tryz.prog w r b0 26 v) (h : DataW.Trod enc Tryz.prog w base sp held 26 v d p) : ∃ (c : Cfg) (tv : Value) (P : List LT), v = pv c tv ∧ Prd w.heap.size w tv P ∧ (∀ o, o ∈ P → ∀ z, z ∈ o.ps → InI z) ∧ (P.length = 0 ∨ ∃ dc es ss, d = .agg [dc, .slice es ss] ∧ es.length = P.length) := by
  obtain ⟨cs, rfl, hsz⟩ := okWide_struct Tryz.underlying26 hv'
  obtain ⟨c0, c1, c2, c3, c4, c5, c6, c7, c8, c9, c10, c11, c12, c13, c14, rfl⟩ := yarray15 (hsz.trans qnp)
  obtain ⟨fuel, hf⟩ := h
  obtain ⟨xs, n, _, hx, _, hlen, hf'⟩ := DataW.trod_struct Tryz.underlying26 hf
  have key : ∀ i, i < 2 → ∃ y, xs[i]? = some y := fun i hi => ⟨_, List.getElem?_eq_getElem (by rw [hlen]; exact hi)⟩
  have f0 : DataW.trod enc Tryz.prog w base sp held n 23 [c0, c1, c2, c3, c4, c5, c6, c7, c8, c9, c10, c11, c12, c13] = xs[0]? := by simpa [Value.cells, qn3, qn4, qnu, qnh, qni, qnw, qnts, qnc] using hf' 0 _ rfl
  obtain ⟨y0, e0⟩ := key 0 (by decide)
  rw [e0] at f0
  obtain ⟨c, g0⟩ := open_cfgY f0
  have f1 : DataW.trod enc Tryz.prog w base sp held n 24 [c14] = xs[1]? := by simpa [Value.cells, qn3, qn4, qnu, qnh, qni, qnw, qnts, qnc] using hf' 1 _ rfl
  obtain ⟨y1, e1⟩ := key 1 (by decide)
  rw [e1] at f1
  obtain ⟨P, hP, hpi, hsz2⟩ := open_things f1
  have exs : xs = [y0, y1] := by
    match xs, hlen, e0, e1 with
    | [a, b], _, e0, e1 => simp at e0 e1; rw [e0, e1]
  simp only [List.cons.injEq, and_true] at g0
  obtain ⟨h0, h1, h2, h3, h4, h5, h6, h7, h8, h9, h10, h11, h12, h13⟩ := g0
  subst h0 h1 h2 h3 h4 h5 h6 h7 h8 h9 h10 h11 h12 h13
  refine ⟨c, c14, P, rfl, hP, hpi, ?_⟩
  rcases hsz2 with h | ⟨es, ss, h1, h2⟩
  · exact .inl h
  · refine .inr ⟨y0.1, es, ss, ?_, h2⟩
    simp only [Prod.mk.injEq] at hx
    rw [hx.1, exs, List.map_cons, List.map_cons, List.map_nil, h1]

end Go.Proofs.YtbgnagjhkfkekaaGreatDoor

/-
  A plan that comes in, and what it weighs.
-/
set_option linter.unusedVariables false
set_option maxRecDepth 20000
namespace Go.Proofs.YtbgnagjhkfkekaaGreatDoor
open Go.ChangeShapes Go.WideShapes Go.ChangeAt Go.WideMaps Go.WideElems Go.RowKit Go.Shelf

theorem mem_weightsAll {H : Type} {P : Program} {e : TypeId} {d : DataW H} {k : Nat} : ∀ {l : List (DataW H)}, d ∈ l → k ∈ d.weights P e → k ∈ DataW.weightsAll P e l
  | y :: l, h, hk => by
    rw [DataW.weightsAll, List.mem_append]
    rcases List.mem_cons.1 h with rfl | h
    · exact .inl hk
    · exact .inr (mem_weightsAll h hk)

/-- A list of numbers that comes in, and how long its data are. -/
theorem open_nums2 {H : Type} {enc : TypeId × Value → H} {w : World} {base fuel : Nat} {sp : Nat → Bool} {held : Bool} {v : Value} {x' : DataW H × List MemPlace} {t e : TypeId} {k : IntKind} (ht : Tryz.prog.underlying t = some (.slice e)) (he : Tryz.prog.underlying e = some (.int k)) (hc : Tryz.prog.cellsOf e = 1)
    (hf : DataW.trod enc Tryz.prog w base sp held fuel t [v] = some x') : ∃ l : List Int, Lrd w.heap.size w v k l ∧ (∀ z, z ∈ l → (Lit.int k z).wf = true) ∧ (l.length = 0 ∨ ∃ ds es, x'.1 = .slice ds es ∧ l.length ≤ ds.length + es.length) := by
  rcases open_ints ht he hc hf with ⟨hcs, _⟩ | ⟨x, l, c, zs, hcs, _, hl, hm, hz, hx, hcell, hwz⟩
  · simp at hcs
    subst hcs
    exact ⟨[], ⟨none, 0, rfl, Nat.le_refl _, fun i x h => by simp at h⟩, fun z h => by simp at h, .inl rfl⟩
  · simp at hcs
    subst hcs
    have hzl : l ≤ zs.length := by rw [hz]; split <;> omega
    exact ⟨zs.take l, lrd_of hzl hl hcell, fun z h => hwz z (List.mem_of_mem_take h), .inr ⟨_, _, by rw [hx], by simp [lits]⟩⟩

theorem open_thing2 {H : Type} {enc : TypeId × Value → H} {w : World} {base fuel : Nat} {sp : Nat → Bool} {held : Bool} {cs : List Value} {x' : DataW H × List MemPlace}
    (hf : DataW.trod enc Tryz.prog w base sp held fuel 63 cs = some x') : ∃ o : LT, cs = o.cells.toList ∧ o.In ∧ Lrd w.heap.size w o.vp .i64 o.ps ∧ Lrd w.heap.size w o.vr .u64 o.rs ∧ (∀ z, z ∈ o.ps → InI z) ∧ (o.ps.length = 0 ∨ ∃ k, k ∈ x'.1.weights Tryz.prog 63 ∧ o.ps.length * 8 ≤ k) := by
  obtain ⟨xs, n, _, hx, hl, hlen, hf'⟩ := DataW.trod_struct Tryz.underlying63 hf
  rw [qnt] at hl
  obtain ⟨c0, c1, c2, c3, c4, c5, c6, c7, c8, c9, c10, rfl⟩ := ylist11 hl
  have key : ∀ i, i < 5 → ∃ y, xs[i]? = some y := fun i hi => ⟨_, List.getElem?_eq_getElem (by rw [hlen]; exact hi)⟩
  have f0 : DataW.trod enc Tryz.prog w base sp held n 3 [c0] = xs[0]? := by simpa [qn3, qn4, qnu, qnh, qni, qnw, qnts, qnc] using hf' 0 _ rfl
  obtain ⟨y0, e0⟩ := key 0 (by decide)
  rw [e0] at f0
  obtain ⟨z0, g0, _, wf0⟩ := DataW.trod_int Tryz.underlying3 f0
  have f1 : DataW.trod enc Tryz.prog w base sp held n 60 [c1, c2, c3, c4, c5, c6, c7] = xs[1]? := by simpa [qn3, qn4, qnu, qnh, qni, qnw, qnts, qnc] using hf' 1 _ rfl
  obtain ⟨y1, e1⟩ := key 1 (by decide)
  rw [e1] at f1
  obtain ⟨s, k, q, x, a, t, b, g1, hs, hk, ha, ht⟩ := open_headY f1
  have f2 : DataW.trod enc Tryz.prog w base sp held n 27 [c8] = xs[2]? := by simpa [qn3, qn4, qnu, qnh, qni, qnw, qnts, qnc] using hf' 2 _ rfl
  obtain ⟨y2, e2⟩ := key 2 (by decide)
  rw [e2] at f2
  obtain ⟨ps, hps, hpi, hpw⟩ := open_nums2 Tryz.underlying27 Tryz.underlying3 qn3 f2
  have f3 : DataW.trod enc Tryz.prog w base sp held n 61 [c9] = xs[3]? := by simpa [qn3, qn4, qnu, qnh, qni, qnw, qnts, qnc] using hf' 3 _ rfl
  obtain ⟨y3, e3⟩ := key 3 (by decide)
  rw [e3] at f3
  obtain ⟨rs, hrs, hri⟩ := open_nums Tryz.underlying61 Tryz.underlying58 qnu f3
  have f4 : DataW.trod enc Tryz.prog w base sp held n 3 [c10] = xs[4]? := by simpa [qn3, qn4, qnu, qnh, qni, qnw, qnts, qnc] using hf' 4 _ rfl
  obtain ⟨y4, e4⟩ := key 4 (by decide)
  rw [e4] at f4
  obtain ⟨z4, g4, _, wf4⟩ := DataW.trod_int Tryz.underlying3 f4
  have exs : xs = [y0, y1, y2, y3, y4] := by
    match xs, hlen, e0, e1, e2, e3, e4 with
    | [a, b, c, d, e], _, e0, e1, e2, e3, e4 => simp at e0 e1 e2 e3 e4; rw [e0, e1, e2, e3, e4]
  have hwt : ps.length = 0 ∨ ∃ k, k ∈ x'.1.weights Tryz.prog 63 ∧ ps.length * 8 ≤ k := by
    rcases hpw with h | ⟨ds, es, h1, h2⟩
    · exact .inl h
    · refine .inr ⟨(ds.length + es.length) * 8, ?_, by omega⟩
      rw [hx, exs]
      simp only [List.map_cons, List.map_nil, h1]
      have hb : Tryz.prog.bytesOf 3 = 8 := by kernel_rfl
      rw [← hb, DataW.weights]
      simp only [Tryz.underlying63, Tryz.underlying27, List.map_cons, List.map_nil, DataW.weightsEach, DataW.weights]
      simp
  simp only [List.cons.injEq, and_true] at g0 g1 g4
  obtain ⟨h1, h2, h3, h4, h5, h6, h7⟩ := g1
  subst g0 g4 h1 h2 h3 h4 h5 h6 h7
  exact ⟨⟨z0, s, k, q, x, a, t, b, c8, c9, z4, ps, rs, 0⟩, rfl, ⟨in_y wf0, hk, ha, ht, in_y wf4, hs, fun z hz => in_yu (hri z hz)⟩, hps, hrs, fun z hz => in_y (hpi z hz), hwt⟩

/-- The things of a plan that comes in. -/
theorem open_things2 {H : Type} {enc : TypeId × Value → H} {w : World} {base fuel : Nat} {sp : Nat → Bool} {held : Bool} {v : Value} {x' : DataW H × List MemPlace}
    (hf : DataW.trod enc Tryz.prog w base sp held fuel 24 [v] = some x') : ∃ P : List LT, Prd w.heap.size w v P ∧ (∀ o, o ∈ P → ∀ z, z ∈ o.ps → InI z) ∧ (P.length = 0 ∨ ∃ k, k ∈ x'.1.weights Tryz.prog 24 ∧ P.length * 120 ≤ k) ∧ (∀ o, o ∈ P → o.ps.length = 0 ∨ ∃ k, k ∈ x'.1.weights Tryz.prog 24 ∧ o.ps.length * 8 ≤ k) := by
  rcases DataW.trod_slice Tryz.underlying24 hf with ⟨hcs, _⟩ | ⟨x, l, c, elems, rest, n, _, hcs, hd, _, hl, hm, hel, hget, _⟩
  · simp at hcs
    subst hcs
    exact ⟨[], ⟨none, 0, rfl, fun i o ho => by simp at ho⟩, fun o ho => by simp at ho, .inl rfl, fun o ho => by simp at ho⟩
  · simp at hcs
    subst hcs
    have cells : ∀ i, i < l → ∃ o : LT, (∀ j, j < 11 → w.cell? ((x.add (i * 11)).add j) = o.cells.toList[j]?) ∧ o.In ∧ Lrd w.heap.size w o.vp .i64 o.ps ∧ Lrd w.heap.size w o.vr .u64 o.rs ∧ (∀ z, z ∈ o.ps → InI z) ∧ (o.ps.length = 0 ∨ ∃ k, k ∈ DataW.weightsAll Tryz.prog 63 (elems.map (·.1)) ∧ o.ps.length * 8 ≤ k) := by
      intro i hi
      have h1 := hget i hi
      rw [qnt, List.getElem?_eq_getElem (by omega)] at h1
      obtain ⟨cs, hc, ht⟩ := Option.bind_eq_some_iff.1 h1
      obtain ⟨o, rfl, hA1, hA2, hA3, hA4, hA5⟩ := open_thing2 ht
      refine ⟨o, (World.cells?_some hc).2.2, hA1, hA2, hA3, hA4, ?_⟩
      rcases hA5 with h | ⟨k, h1, h2⟩
      · exact .inl h
      · exact .inr ⟨k, mem_weightsAll (List.mem_map.2 ⟨_, List.getElem_mem _, rfl⟩) h1, h2⟩
    have each : ∀ i, i < l → ∃ o : LT, (o.In ∧ Lrd w.heap.size w o.vp .i64 o.ps ∧ Lrd w.heap.size w o.vr .u64 o.rs ∧ ∃ g off, some x = some ⟨g, off, none⟩ ∧ g < w.heap.size ∧ ∀ j, j < 11 → w.cell? ⟨g, off + i * 11 + j, none⟩ = o.cells[j]?) ∧ (∀ z, z ∈ o.ps → InI z) ∧ (o.ps.length = 0 ∨ ∃ k, k ∈ DataW.weightsAll Tryz.prog 63 (elems.map (·.1)) ∧ o.ps.length * 8 ≤ k) := by
      intro i hi
      obtain ⟨o0, h0, -⟩ := cells 0 (by omega)
      obtain ⟨g, off, spot⟩ := x
      have hspot : spot = none := by simpa [Addr.add] using World.cell?_spot (h0 0 (by decide))
      subst hspot
      obtain ⟨o, ho, hA1, hA2, hA3, hA4, hA5⟩ := cells i hi
      simp only [plus_y] at ho
      have c0 := ho 0 (by decide)
      exact ⟨o, ⟨hA1, hA2, hA3, g, off, rfl, World.block_lt_of_cell? _ _ c0, fun j hj => (ho j hj).trans (by simp)⟩, hA4, hA5⟩
    refine ⟨(List.range l).map fun i => if h : i < l then (each i h).choose else ⟨0, 0, 0, 0, 0, 0, 0, false, undef, undef, 0, [], [], 0⟩, ⟨some x, c, by simp, fun i o ho => ?_⟩, fun o ho => ?_, .inr ⟨(elems.length + rest.length) * 120, ?_, by simp [hel]; omega⟩, fun o ho => ?_⟩
    · have hi : i < l := by have := (List.getElem?_eq_some_iff.1 ho).1; simpa using this
      have e : o = (each i hi).choose := by simpa [List.getElem?_map, List.getElem?_range hi, hi] using ho.symm
      rw [e]
      exact (each i hi).choose_spec.1
    · obtain ⟨i, hi0⟩ := List.getElem?_of_mem ho
      have hi : i < l := by have := (List.getElem?_eq_some_iff.1 hi0).1; simpa using this
      have e : o = (each i hi).choose := by simpa [List.getElem?_map, List.getElem?_range hi, hi] using hi0.symm
      rw [e]
      exact (each i hi).choose_spec.2.1
    · have hb : Tryz.prog.bytesOf 63 = 120 := by kernel_rfl
      rw [hd, ← hb, DataW.weights]
      simp only [Tryz.underlying24]
      simp
    · obtain ⟨i, hi0⟩ := List.getElem?_of_mem ho
      have hi : i < l := by have := (List.getElem?_eq_some_iff.1 hi0).1; simpa using this
      have e : o = (each i hi).choose := by simpa [List.getElem?_map, List.getElem?_range hi, hi] using hi0.symm
      rw [e]
      rcases (each i hi).choose_spec.2.2 with h | ⟨k, h1, h2⟩
      · exact .inl h
      · refine .inr ⟨k, ?_, h2⟩
        rw [hd, DataW.weights]
        simp only [Tryz.underlying24]
        exact List.mem_cons_of_mem _ (List.mem_append_left _ h1)

/-- A plan that comes in. -/
theorem open_plan2 {H : Type} {enc : TypeId × Value → H} {w : World} {base : Nat} {sp : Nat → Bool} {held : Bool} {r : Reach} {b0 : Nat} {v : Value} {d : DataW H} {p : List MemPlace}
    (hv' : Value.okWide Tryz.prog w r b0 26 v) (h : DataW.Trod enc Tryz.prog w base sp held 26 v d p) : ∃ (c : Cfg) (tv : Value) (P : List LT), v = pv c tv ∧ Prd w.heap.size w tv P ∧ (∀ o, o ∈ P → ∀ z, z ∈ o.ps → InI z) ∧ (P.length = 0 ∨ ∃ k, k ∈ d.weights Tryz.prog 26 ∧ P.length * 120 ≤ k) ∧ (∀ o, o ∈ P → o.ps.length = 0 ∨ ∃ k, k ∈ d.weights Tryz.prog 26 ∧ o.ps.length * 8 ≤ k) := by
  obtain ⟨cs, rfl, hsz⟩ := okWide_struct Tryz.underlying26 hv'
  obtain ⟨c0, c1, c2, c3, c4, c5, c6, c7, c8, c9, c10, c11, c12, c13, c14, rfl⟩ := yarray15 (hsz.trans qnp)
  obtain ⟨fuel, hf⟩ := h
  obtain ⟨xs, n, _, hx, _, hlen, hf'⟩ := DataW.trod_struct Tryz.underlying26 hf
  have key : ∀ i, i < 2 → ∃ y, xs[i]? = some y := fun i hi => ⟨_, List.getElem?_eq_getElem (by rw [hlen]; exact hi)⟩
  have f0 : DataW.trod enc Tryz.prog w base sp held n 23 [c0, c1, c2, c3, c4, c5, c6, c7, c8, c9, c10, c11, c12, c13] = xs[0]? := by simpa [Value.cells, qn3, qn4, qnu, qnh, qni, qnw, qnts, qnc] using hf' 0 _ rfl
  obtain ⟨y0, e0⟩ := key 0 (by decide)
  rw [e0] at f0
  obtain ⟨c, g0⟩ := open_cfgY f0
  have f1 : DataW.trod enc Tryz.prog w base sp held n 24 [c14] = xs[1]? := by simpa [Value.cells, qn3, qn4, qnu, qnh, qni, qnw, qnts, qnc] using hf' 1 _ rfl
  obtain ⟨y1, e1⟩ := key 1 (by decide)
  rw [e1] at f1
  obtain ⟨P, hP, hpi, hsz2, hsz3⟩ := open_things2 f1
  have exs : xs = [y0, y1] := by
    match xs, hlen, e0, e1 with
    | [a, b], _, e0, e1 => simp at e0 e1; rw [e0, e1]
  simp only [List.cons.injEq, and_true] at g0
  obtain ⟨h0, h1, h2, h3, h4, h5, h6, h7, h8, h9, h10, h11, h12, h13⟩ := g0
  subst h0 h1 h2 h3 h4 h5 h6 h7 h8 h9 h10 h11 h12 h13
  have up : ∀ k, k ∈ y1.1.weights Tryz.prog 24 → k ∈ d.weights Tryz.prog 26 := fun k hk => by
    simp only [Prod.mk.injEq] at hx
    rw [hx.1, exs, List.map_cons, List.map_cons, List.map_nil, DataW.weights]
    simp only [Tryz.underlying26, List.map_cons, List.map_nil, DataW.weightsEach]
    simp [hk]
  refine ⟨c, c14, P, rfl, hP, hpi, ?_, fun o ho => ?_⟩
  · rcases hsz2 with h | ⟨k, h1, h2⟩
    · exact .inl h
    · exact .inr ⟨k, up k h1, h2⟩
  · rcases hsz3 o ho with h | ⟨k, h1, h2⟩
    · exact .inl h
    · exact .inr ⟨k, up k h1, h2⟩

end Go.Proofs.YtbgnagjhkfkekaaGreatDoor

