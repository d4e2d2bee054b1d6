/-
  Arrays of sixteen, and lists of them, that came in.
-/
import Derived.Test.YtdcmpilgfkaamaaDoorT4
import Derived.ProofKit
import Derived.OpenShut
import Derived.ChangeOld
import Derived.SizedLaws
import Derived.Below
set_option linter.unusedVariables false
set_option maxRecDepth 20000
namespace Go.Proofs.YtdcmpilgfkaamaaDoor
open Go.ChangeShapes Go.WideShapes Go.ChangeAt Go.RowKit

theorem own : ownKnob Tryd.prog.godebug = none := by kernel_rfl
theorem laidOut : laidOutB Tryd.prog = true := by kernel_rfl
theorem cci : Tryd.prog.cellsOf 3 = 1 := by kernel_rfl
theorem cc16 : Tryd.prog.cellsOf 53 = 16 := by kernel_rfl

/-- The number that a cell holds. -/
def numOf : Value → Int
  | .int _ z => z
  | _ => 0

/-- Sixteen cells that read as numbers. -/
theorem open_row {H : Type} {enc : TypeId × Value → H} {w : World} {base : Nat} {sp : Nat → Bool} {held : Bool} {fuel : Nat} {cs : List Value} {x : DataW H × List MemPlace}
    (h : DataW.trod enc Tryd.prog w base sp held fuel 53 cs = some x) : ∃ ws : Nat → Int, cs = row16 ws := by
  obtain ⟨xs, n, _, _, hl, hxl, hf⟩ := DataW.trod_array Tryd.underlying53 h
  rw [cc16] at hl
  refine ⟨fun i => numOf (cs[i]?.getD (.bool false)), ?_⟩
  apply List.ext_getElem?
  intro i
  by_cases hi : i < 16
  · have h1 := hf i hi
    rw [cci, Nat.mul_one] at h1
    have hc : cs[i]? = some cs[i] := List.getElem?_eq_getElem (by omega)
    have h2 : (cs.drop i).take 1 = [cs[i]] := by
      rw [List.drop_eq_getElem_cons (by omega)]; rfl
    rw [h2, List.getElem?_eq_getElem (by omega)] at h1
    obtain ⟨z, hz, _⟩ := DataW.trod_int Tryd.underlying3 h1
    rw [row16_get _ _ hi, hc]
    simp only [List.cons.injEq, and_true] at hz
    simp [hz, numOf]
  · rw [List.getElem?_eq_none (by omega), List.getElem?_eq_none (by rw [row16_length]; omega)]

theorem open_av {H : Type} {enc : TypeId × Value → H} {w : World} {base : Nat} {sp : Nat → Bool} {held : Bool} {r : Reach} {b0 : Nat} {v : Value} {d : DataW H} {p : List MemPlace}
    (hv' : Value.okWide Tryd.prog w r b0 53 v) (h : DataW.Trod enc Tryd.prog w base sp held 53 v d p) : ∃ ws : Nat → Int, v = .agg (av ws) := by
  simp only [Value.okWide, Tryd.underlying53] at hv'
  obtain ⟨cs, rfl, hsz, _⟩ := hv'
  obtain ⟨fuel, hf⟩ := h
  obtain ⟨ws, hw⟩ := open_row (by simpa [Value.cells] using hf)
  refine ⟨ws, ?_⟩
  rw [av, ← hw]

/-- Lists of sixteen that lie from address a on, in blocks below base. -/
def LTs (base : Nat) (w : World) (a : Option Addr) (L : List (Nat → Int)) : Prop :=
  ∀ i f, L[i]? = some f → ∃ g off, a = some ⟨g, off, none⟩ ∧ g < base ∧ w.rangeAt g (off + i * 16) (row16 f)

theorem LTs.up {base : Nat} {w w' : World} {a : Option Addr} {L : List (Nat → Int)} (h : LTs base w a L) (hb : Below base w w') : LTs base w' a L := by
  intro i f hf
  obtain ⟨g, off, ha, hg, hr⟩ := h i f hf
  refine ⟨g, off, ha, hg, fun j v hv => ?_⟩
  rw [← hr j v hv]
  simp [World.cell?, hb.block g hg]

theorem add_plain (g off : Nat) (k : Nat) : (⟨g, off, none⟩ : Addr).add k = ⟨g, off + k, none⟩ := Addr.add_mid g off k

theorem open_turns {H : Type} {enc : TypeId × Value → H} {w : World} {sp : Nat → Bool} {held : Bool} {a : Option Addr} {len cap : Nat} {d : DataW H} {p : List MemPlace}
    (h : DataW.Trod enc Tryd.prog w 0 sp held 22 (.slice a len cap) d p) : ∃ L : List (Nat → Int), L.length = len ∧ LTs w.heap.size w a L ∧ (len = 0 ∨ ∃ es ss, d = .slice es ss ∧ es.length = len) := by
  obtain ⟨fuel, hf⟩ := h
  rcases DataW.trod_slice Tryd.underlying22 hf with ⟨hcs, _⟩ | ⟨x, l, c, elems, rest, n, _, hcs, hd, _, hl, hm, hel, hget, _⟩
  · simp [Value.cells] at hcs
    obtain ⟨rfl, rfl, rfl⟩ := hcs
    exact ⟨[], rfl, fun i o ho => by simp at ho, .inl rfl⟩
  · simp [Value.cells] at hcs
    obtain ⟨rfl, rfl, rfl⟩ := hcs
    simp only [Prod.mk.injEq] at hd
    have cells : ∀ i, i < len → ∃ f : Nat → Int, ∀ j, j < 16 → w.cell? ((x.add (i * 16)).add j) = (row16 f)[j]? := by
      intro i hi
      have h1 := hget i hi
      rw [cc16, List.getElem?_eq_getElem (by omega)] at h1
      obtain ⟨cs, hc, ht⟩ := Option.bind_eq_some_iff.1 h1
      obtain ⟨f, rfl⟩ := open_row ht
      exact ⟨f, (World.cells?_some hc).2.2⟩
    have each : ∀ i, i < len → ∃ f : Nat → Int, ∃ g off, x = ⟨g, off, none⟩ ∧ g < w.heap.size ∧ w.rangeAt g (off + i * 16) (row16 f) := by
      intro i hi
      obtain ⟨f0, h0⟩ := cells 0 (by omega)
      obtain ⟨g, off, spot⟩ := x
      have h00 := h0 0 (by decide)
      rw [row16_get _ _ (by decide)] at h00
      have hspot : spot = none := by simpa [Addr.add] using World.cell?_spot h00
      subst hspot
      obtain ⟨f, hf⟩ := cells i hi
      simp only [add_plain] at hf h00
      refine ⟨f, g, off, rfl, World.block_lt_of_cell? _ _ h00, fun j v hv => ?_⟩
      have hj : j < 16 := by have := (List.getElem?_eq_some_iff.1 hv).1; rwa [row16_length] at this
      rw [hf j hj, hv]
    refine ⟨(List.range len).map fun i => if h : i < len then (each i h).choose else fun _ => 0, by simp, fun i o ho => ?_, .inr ⟨_, _, hd.1, by simp [hel]⟩⟩
    have hi : i < len := by have := (List.getElem?_eq_some_iff.1 ho).1; simpa using this
    have e : o = (each i hi).choose := by simpa [List.getElem?_map, List.getElem?_range hi, hi] using ho.symm
    obtain ⟨g, off, hx, hg, rest⟩ := (each i hi).choose_spec
    rw [e]
    exact ⟨g, off, by rw [hx], hg, rest⟩

end Go.Proofs.YtdcmpilgfkaamaaDoor
