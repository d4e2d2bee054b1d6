/-
  What comes in: lists and scripts.
-/
import Derived.Test.YtdlannfjnljbcaaGreatDoorRows
import Derived.Test.YtdlannfjnljbcaaGreatDoorR24
import Derived.WalkKit
import Derived.ProofKit
import Derived.OpenShut
import Derived.ChangeOld
import Derived.ChangeSlices
import Derived.SizedLaws
import Derived.Below
set_option linter.unusedVariables false
namespace Go.Proofs.YtdlannfjnljbcaaGreatDoor
open Go.ChangeShapes Go.WideShapes Go.ChangeAt Go.RowKit

theorem own : ownKnob Tryz.prog.godebug = none := by kernel_rfl
theorem laidOut : laidOutB Tryz.prog = true := by kernel_rfl
theorem n3 : Tryz.prog.cellsOf 3 = 1 := by kernel_rfl
theorem n4 : Tryz.prog.cellsOf 4 = 1 := by kernel_rfl
theorem nl : Tryz.prog.cellsOf 33 = 1 := by kernel_rfl
theorem nop : Tryz.prog.cellsOf 60 = 6 := by kernel_rfl
theorem bop : Tryz.prog.bytesOf 60 = 64 := by kernel_rfl
theorem bint : Tryz.prog.bytesOf 3 = 8 := by kernel_rfl

theorem add_plain (g off n : Nat) : (⟨g, off, none⟩ : Addr).add n = ⟨g, off + n, none⟩ := Addr.add_lit _ _ _

theorem came_of {w : World} {x : Addr} {len : Nat} {zs : List Int} (hz : len ≤ zs.length) (hc : ∀ i, i < zs.length → w.cell? (x.add i) = some (.int .i64 (zs.getD i 0))) : Came w.heap.size w (some x) (zs.take len) := by
  intro i y hi
  have hil := (List.getElem?_eq_some_iff.1 hi).1
  rw [List.length_take] at hil
  have h0 := hc 0 (by omega)
  obtain ⟨g, off, spot⟩ := x
  have hspot : spot = none := by simpa [Addr.add] using World.cell?_spot h0
  subst hspot
  have h1 := hc i (by omega)
  rw [add_plain] at h1
  have ey : zs.getD i 0 = y := by
    rw [List.getElem?_take, if_pos (by omega)] at hi
    rw [List.getD_eq_getElem?_getD, hi]; rfl
  rw [ey] at h1
  exact ⟨g, off, rfl, World.block_lt_of_cell? _ _ h1, h1⟩

/-- A list of numbers that comes in. -/
theorem open_came {H : Type} {enc : TypeId × Value → H} {w : World} {base fuel : Nat} {sp : Nat → Bool} {held : Bool} {a : Option Addr} {len cap : Nat} {x : DataW H × List MemPlace}
    (hf : DataW.trod enc Tryz.prog w base sp held fuel 33 [.slice a len cap] = some x) : ∃ l : List Int, l.length = len ∧ Came w.heap.size w a l := by
  rcases open_ints Tryz.underlying33 Tryz.underlying3 n3 hf with ⟨hcs, _⟩ | ⟨x, l, c, zs, hcs, _, hl, hm, hz, _, hcell, hwz⟩
  · simp at hcs
    obtain ⟨rfl, rfl, rfl⟩ := hcs
    exact ⟨[], rfl, fun i x h => by simp at h⟩
  · simp at hcs
    obtain ⟨rfl, rfl, rfl⟩ := hcs
    have hzl : len ≤ zs.length := by rw [hz]; split <;> omega
    exact ⟨zs.take len, by simp; omega, came_of hzl hcell⟩

theorem list6 {α : Type} {cs : List α} (h : cs.length = 6) : ∃ c0 c1 c2 c3 c4 c5, cs = [c0, c1, c2, c3, c4, c5] := by
  match cs, h with
  | [c0, c1, c2, c3, c4, c5], _ => exact ⟨c0, c1, c2, c3, c4, c5, rfl⟩

theorem open_op {H : Type} {enc : TypeId × Value → H} {w : World} {base fuel : Nat} {sp : Nat → Bool} {held : Bool} {cs : List Value} {x : DataW H × List MemPlace}
    (hf : DataW.trod enc Tryz.prog w base sp held fuel 60 cs = some x) : ∃ o : OpD, cs = [.int .i64 o.k, .int .i64 o.t, .int .i64 o.n, .int .i64 o.x, .bool o.sec, .slice o.a o.l.length o.cap] ∧ Came w.heap.size w o.a o.l := by
  obtain ⟨xs, n, _, hx, hl, hlen, hf'⟩ := DataW.trod_struct Tryz.underlying60 hf
  rw [nop] at hl
  obtain ⟨c0, c1, c2, c3, c4, c5, rfl⟩ := list6 hl
  have key : ∀ i, i < 6 → ∃ y, xs[i]? = some y := fun i hi => ⟨_, List.getElem?_eq_getElem (by rw [hlen]; exact hi)⟩
  have f0 : DataW.trod enc Tryz.prog w base sp held n 3 [c0] = xs[0]? := by simpa [n3, n4, nl] using hf' 0 _ rfl
  obtain ⟨y0, e0⟩ := key 0 (by decide)
  rw [e0] at f0
  obtain ⟨z0, g0, _⟩ := DataW.trod_int Tryz.underlying3 f0
  have f1 : DataW.trod enc Tryz.prog w base sp held n 3 [c1] = xs[1]? := by simpa [n3, n4, nl] using hf' 1 _ rfl
  obtain ⟨y1, e1⟩ := key 1 (by decide)
  rw [e1] at f1
  obtain ⟨z1, g1, _⟩ := DataW.trod_int Tryz.underlying3 f1
  have f2 : DataW.trod enc Tryz.prog w base sp held n 3 [c2] = xs[2]? := by simpa [n3, n4, nl] using hf' 2 _ rfl
  obtain ⟨y2, e2⟩ := key 2 (by decide)
  rw [e2] at f2
  obtain ⟨z2, g2, _⟩ := DataW.trod_int Tryz.underlying3 f2
  have f3 : DataW.trod enc Tryz.prog w base sp held n 3 [c3] = xs[3]? := by simpa [n3, n4, nl] using hf' 3 _ rfl
  obtain ⟨y3, e3⟩ := key 3 (by decide)
  rw [e3] at f3
  obtain ⟨z3, g3, _⟩ := DataW.trod_int Tryz.underlying3 f3
  have f4 : DataW.trod enc Tryz.prog w base sp held n 4 [c4] = xs[4]? := by simpa [n3, n4, nl] using hf' 4 _ rfl
  obtain ⟨y4, e4⟩ := key 4 (by decide)
  rw [e4] at f4
  obtain ⟨z4, g4, _⟩ := DataW.trod_bool Tryz.underlying4 f4
  have f5 : DataW.trod enc Tryz.prog w base sp held n 33 [c5] = xs[5]? := by simpa [n3, n4, nl] using hf' 5 _ rfl
  obtain ⟨y5, e5⟩ := key 5 (by decide)
  rw [e5] at f5
  have g5 : ∃ a len cap, c5 = .slice a len cap := by
    rcases DataW.trod_slice Tryz.underlying33 f5 with ⟨h, _⟩ | ⟨x, l, c, _, _, _, _, h, _⟩
    · simp at h; exact ⟨_, _, _, h⟩
    · simp at h; exact ⟨_, _, _, h⟩
  obtain ⟨a, len, cap, rfl⟩ := g5
  obtain ⟨l, rfl, hc⟩ := open_came f5
  simp only [List.cons.injEq, and_true] at g0 g1 g2 g3 g4
  subst g0 g1 g2 g3 g4
  exact ⟨⟨z0, z1, z2, z3, z4, a, l, cap⟩, rfl, hc⟩

/-- A script that comes in. -/
theorem open_ops {H : Type} {enc : TypeId × Value → H} {w : World} {sp : Nat → Bool} {held : Bool} {a : Option Addr} {len cap : Nat} {d : DataW H} {p : List MemPlace}
    (h : DataW.Trod enc Tryz.prog w 0 sp held 22 (.slice a len cap) d p) : ∃ ops : List OpD, ops.length = len ∧ LOps w.heap.size w a ops ∧ (len = 0 ∨ ∃ es ss, d = .slice es ss ∧ es.length = len) := by
  obtain ⟨fuel, hf⟩ := h
  rcases DataW.trod_slice Tryz.underlying22 hf with ⟨hcs, _⟩ | ⟨x, l, c, elems, rest, n, _, hcs, hd, _, hl, hm, hel, hget, _⟩
  · simp [Value.cells] at hcs
    obtain ⟨rfl, rfl, rfl⟩ := hcs
    exact ⟨[], rfl, fun i o ho => by simp at ho, .inl rfl⟩
  · simp [Value.cells] at hcs
    obtain ⟨rfl, rfl, rfl⟩ := hcs
    simp only [Prod.mk.injEq] at hd
    have cells : ∀ i, i < len → ∃ o : OpD, (∀ j, j < 6 → w.cell? ((x.add (i * 6)).add j) = ([Value.int .i64 o.k, .int .i64 o.t, .int .i64 o.n, .int .i64 o.x, .bool o.sec, .slice o.a o.l.length o.cap] : List Value)[j]?) ∧ Came w.heap.size w o.a o.l := by
      intro i hi
      have h1 := hget i hi
      rw [nop, List.getElem?_eq_getElem (by omega)] at h1
      obtain ⟨cs, hc, ht⟩ := Option.bind_eq_some_iff.1 h1
      obtain ⟨o, rfl, hcm⟩ := open_op ht
      exact ⟨o, (World.cells?_some hc).2.2, hcm⟩
    have each : ∀ i, i < len → ∃ o : OpD, ∃ g off, x = ⟨g, off, none⟩ ∧ g < w.heap.size ∧
        w.cell? ⟨g, off + i * 6, none⟩ = some (.int .i64 o.k) ∧ w.cell? ⟨g, off + i * 6 + 1, none⟩ = some (.int .i64 o.t) ∧ w.cell? ⟨g, off + i * 6 + 2, none⟩ = some (.int .i64 o.n) ∧
        w.cell? ⟨g, off + i * 6 + 3, none⟩ = some (.int .i64 o.x) ∧ w.cell? ⟨g, off + i * 6 + 4, none⟩ = some (.bool o.sec) ∧ w.cell? ⟨g, off + i * 6 + 5, none⟩ = some (.slice o.a o.l.length o.cap) ∧ Came w.heap.size w o.a o.l := by
      intro i hi
      obtain ⟨o0, h0, -⟩ := cells 0 (by omega)
      obtain ⟨g, off, spot⟩ := x
      have hspot : spot = none := by simpa [Addr.add] using World.cell?_spot (h0 0 (by decide))
      subst hspot
      obtain ⟨o, ho, hcm⟩ := cells i hi
      simp only [add_plain] at ho
      have c0 := ho 0 (by decide)
      exact ⟨o, g, off, rfl, World.block_lt_of_cell? _ _ c0, c0, ho 1 (by decide), ho 2 (by decide), ho 3 (by decide), ho 4 (by decide), ho 5 (by decide), hcm⟩
    refine ⟨(List.range len).map fun i => if h : i < len then (each i h).choose else ⟨0, 0, 0, 0, false, none, [], 0⟩, by simp, fun i o ho => ?_, .inr ⟨_, _, hd.1, by simp [hel]⟩⟩
    have hi : i < len := by have := (List.getElem?_eq_some_iff.1 ho).1; simpa using this
    have e : o = (each i hi).choose := by simpa [List.getElem?_map, List.getElem?_range hi, hi] using ho.symm
    obtain ⟨g, off, hx, hg, rest⟩ := (each i hi).choose_spec
    rw [e]
    exact ⟨g, off, by rw [hx], hg, rest⟩

end Go.Proofs.YtdlannfjnljbcaaGreatDoor
