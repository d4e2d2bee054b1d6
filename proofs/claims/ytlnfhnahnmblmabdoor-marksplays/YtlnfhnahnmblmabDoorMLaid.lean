/-
  What the rows' listed variables say, cell by cell.
-/
import Derived.Test.YtlnfhnahnmblmabDoorM15
import Derived.ProofKit
import Derived.OpenShut
import Derived.LaidMore
import Derived.Stop.Joined
set_option linter.unusedVariables false
set_option maxRecDepth 20000
namespace Go.Proofs.YtlnfhnahnmblmabDoor
open Go.ChangeShapes Go.WideShapes Go.ChangeAt Go.WideMaps Go.WideElems Go.RowKit

theorem gT : Tryd.prog.globalNamed "math/bits.deBruijn64tab" = some 1 := by kernel_rfl
theorem gH : Tryd.prog.globalNamed "midden/marks.halfByte" = some 0 := by kernel_rfl
theorem tT : (Tryd.prog.globals[1]?).map (·.type) = some 90 := by kernel_rfl
theorem tH : (Tryd.prog.globals[0]?).map (·.type) = some 84 := by kernel_rfl
theorem n3 : Tryd.prog.cellsOf 3 = 1 := by kernel_rfl
theorem n5 : Tryd.prog.cellsOf 5 = 1 := by kernel_rfl

theorem map_get {α β : Type} {f : α → β} {xs : List α} {ds : List β} (h : xs.map f = ds) {i : Nat} {d : β} (hd : ds[i]? = some d) : ∃ y, xs[i]? = some y ∧ f y = d := by
  subst h
  simpa [List.getElem?_map, Option.map_eq_some_iff] using hd

theorem take_one {α : Type} {cs : List α} {i : Nat} {c : α} (h : (cs.drop i).take 1 = [c]) : cs[i]? = some c := by
  have h1 : ((cs.drop i).take 1)[0]? = some c := by rw [h]; rfl
  simpa [List.getElem?_take, List.getElem?_drop] using h1

theorem arr_num {H : Type} {enc : TypeId × Value → H} {w : World} {base : Nat} {sp : Nat → Bool} {held : Bool} {m : Nat} {cs : List Value} {xs : List (DataW H × List MemPlace)} {ds : List (DataW H)} {i : Nat} {q : IntKind} {t : TypeId} {k : Int}
    (hu : Tryd.prog.underlying t = some (.int q)) (h : DataW.trod enc Tryd.prog w base sp held m t ((cs.drop i).take 1) = xs[i]?) (hx : xs.map (·.1) = ds) (hd : ds[i]? = some (.lit (.int q k))) : cs[i]? = some (.int q k) := by
  obtain ⟨y, hy, e⟩ := map_get hx hd
  rw [hy] at h
  obtain ⟨k', e1, e2, _⟩ := DataW.trod_int hu h
  rw [e2] at e
  simp at e
  subst e
  exact take_one e1

abbrev laidBoth : List (String × DataW Unit) := [("math/bits.deBruijn64tab", Rows.laid_math_bits_deBruijn64tab), ("midden/marks.halfByte", Rows.laid_midden_marks_halfByte)]

theorem tabT {H : Type} : (Rows.laid_math_bits_deBruijn64tab : DataW H) = .agg (Lib.deBruijn64tab.map fun n => .lit (.int .u8 ((n : Nat) : Int))) := rfl
theorem tabH {H : Type} : (Rows.laid_midden_marks_halfByte : DataW H) = .agg ((List.range 16).map fun j => .lit (.int .i64 ((half j : Nat) : Int))) := rfl

theorem laidT_of {W : World} {cs : Array Value} {enc : TypeId × Value → Unit} {base fuel : Nat} {sp : Nat → Bool} {held : Bool} {p : List MemPlace} (hv : World.var? Tryd.prog W "math/bits.deBruijn64tab" = some cs) (hd : DataW.trod enc Tryd.prog W base sp held fuel 90 cs.toList = some (Rows.laid_math_bits_deBruijn64tab, p)) : TabAt 1 Lib.deBruijn64tab W := by
  obtain ⟨xs, m, rfl, hx, hlen, hn, hel⟩ := DataW.trod_array Tryd.underlying90 hd
  rw [tabT] at hx
  simp only [Prod.mk.injEq, DataW.agg.injEq] at hx
  have hx' := hx.1.symm
  intro i hi
  have hi64 : i < 64 := hi
  have h1 := hel i hi64
  rw [n5, Nat.mul_one] at h1
  rw [World.var?_cell gT hv i]
  have h2 := arr_num (q := .u8) Tryd.underlying5 h1 hx' (k := (Lib.deBruijn64tab.getD i 0 : Nat)) (by
    rw [List.getElem?_map, List.getElem?_eq_getElem hi, List.getD_eq_getElem?_getD, List.getElem?_eq_getElem hi]; rfl)
  simpa using h2

theorem laidH_of {W : World} {cs : Array Value} {enc : TypeId × Value → Unit} {base fuel : Nat} {sp : Nat → Bool} {held : Bool} {p : List MemPlace} (hv : World.var? Tryd.prog W "midden/marks.halfByte" = some cs) (hd : DataW.trod enc Tryd.prog W base sp held fuel 84 cs.toList = some (Rows.laid_midden_marks_halfByte, p)) : ∀ j, j < 16 → W.cell? ⟨0, j, none⟩ = some (.int .i64 (half j : Nat)) := by
  obtain ⟨xs, m, rfl, hx, hlen, hn, hel⟩ := DataW.trod_array Tryd.underlying84 hd
  rw [tabH] at hx
  simp only [Prod.mk.injEq, DataW.agg.injEq] at hx
  have hx' := hx.1.symm
  intro i hi
  have h1 := hel i hi
  rw [n3, Nat.mul_one] at h1
  rw [World.var?_cell gH hv i]
  have h2 := arr_num (q := .i64) Tryd.underlying3 h1 hx' (k := (half i : Nat)) (by
    rw [List.getElem?_map, List.getElem?_range hi]; rfl)
  simpa using h2

theorem of_laidBoth {W : World} (h : laidMetH Tryd.prog laidBoth W) : Laid W := by
  rw [MakeChecks.laidMetH_plain _ _ _ (by kernel_rfl)] at h
  obtain ⟨ps, ⟨g0, t0, cs0, f0, p0, q0, hg0, ht0, hv0, hd0, ⟨g1, t1, cs1, f1, p1, q1, hg1, ht1, hv1, hd1, _, _⟩, _⟩, _, _⟩ := h
  obtain rfl := Option.some.inj (gT.symm.trans hg0)
  obtain rfl := Option.some.inj (gH.symm.trans hg1)
  obtain rfl := Option.some.inj (tT.symm.trans ht0)
  obtain rfl := Option.some.inj (tH.symm.trans ht1)
  exact ⟨laidT_of hv0 hd0, laidH_of hv1 hd1⟩

theorem own : ownKnob Tryd.prog.godebug = none := by kernel_rfl
theorem laidOut : laidOutB Tryd.prog = true := by kernel_rfl

theorem door_met (os : Os) (args : Array Value) : laidMetH Tryd.prog laidBoth ((World.doorLaid Tryd.prog 400 os).forCall (fun _ _ => 0) ⟨#[], args, []⟩).memory :=
  laidMetH_of_parts3 (fuel := 8) (laidMet_of_run' 8 (by kernel_rfl) (by kernel_rfl)) (by kernel_rfl) (by kernel_rfl)

theorem in_of {a : Int} (h : (Lit.int .i64 a).wf = true) : -9223372036854775808 ≤ a ∧ a ≤ 9223372036854775807 := by
  simp [Lit.wf, IntKind.min, IntKind.max, IntKind.signed, IntKind.bits] at h
  omega

/-- A slice of numbers that came in: nil, or a row of cap cells that hold zs. -/
def IsRow (w : World) (a : Option Addr) (len cap : Nat) (zs : List Int) : Prop :=
  (a = none ∧ len = 0 ∧ cap = 0 ∧ zs = []) ∨
  ∃ x, a = some x ∧ len ≤ cap ∧ cap ≤ maxLen ∧ zs.length = cap ∧ (∀ i, i < zs.length → w.cell? (x.add i) = some (.int .i64 (zs.getD i 0))) ∧ ∀ n ∈ zs, (Lit.int .i64 n).wf = true

theorem lst_of {w : World} {x : Addr} {zs : List Int} (hc : ∀ i, i < zs.length → w.cell? (x.add i) = some (.int .i64 (zs.getD i 0))) (hw : ∀ n ∈ zs, (Lit.int .i64 n).wf = true) (n : Nat) : Lst w (some x) (zs.take n) := by
  intro i u hu
  rw [List.getElem?_take] at hu
  split at hu
  · have hi := (List.getElem?_eq_some_iff.1 hu).1
    obtain ⟨b, off, rfl, hc'⟩ := ints_at hc (by omega)
    have h1 := hc' i hi
    rw [List.getD_eq_getElem?_getD, hu] at h1
    exact ⟨in_of (hw u (List.mem_of_getElem? hu)), b, off, rfl, World.block_lt_of_cell? _ _ h1, h1⟩
  · cases hu

/-- Any row that came in is a list of numbers. -/
theorem IsRow.lst {w : World} {a : Option Addr} {len cap : Nat} {zs : List Int} (h : IsRow w a len cap zs) : ∃ l : List Int, l.length = len ∧ l.length ≤ 9223372036854775807 ∧ Lst w a l := by
  rcases h with ⟨rfl, rfl, rfl, rfl⟩ | ⟨x, rfl, hl, hm, hz, hcell, hw⟩
  · exact ⟨[], rfl, by decide, fun i u h => by simp at h⟩
  · have e : (zs.take len).length = len := by simp; omega
    exact ⟨zs.take len, e, by rw [e]; simp [maxLen] at hm; omega, lst_of hcell hw len⟩
end Go.Proofs.YtlnfhnahnmblmabDoor
