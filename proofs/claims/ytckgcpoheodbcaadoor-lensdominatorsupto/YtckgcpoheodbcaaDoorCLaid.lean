/-
  What the rows' listed variables say, cell by cell.
-/
import Derived.Test.YtckgcpoheodbcaaDoorPCa
import Derived.ProofKit
import Derived.OpenShut
import Derived.LaidMore
import Derived.Stop.Joined
set_option linter.unusedVariables false
set_option maxRecDepth 20000
namespace Go.Proofs.YtckgcpoheodbcaaDoor
open Go.ChangeShapes Go.WideShapes Go.ChangeAt Go.WideMaps Go.WideElems Go.RowKit

theorem gK : Tryd.prog.globalNamed "midden/cell.kinds" = some 0 := by kernel_rfl
theorem gB : Tryd.prog.globalNamed "midden/cell.begins" = some 1 := by kernel_rfl
theorem tK : (Tryd.prog.globals[0]?).map (·.type) = some 133 := by kernel_rfl
theorem tB : (Tryd.prog.globals[1]?).map (·.type) = some 134 := by kernel_rfl
theorem n3 : Tryd.prog.cellsOf 3 = 1 := by kernel_rfl
theorem n4 : Tryd.prog.cellsOf 4 = 1 := by kernel_rfl
theorem n62 : Tryd.prog.cellsOf 132 = 2 := by kernel_rfl

theorem map_get {α β : Type} {f : α → β} {xs : List α} {ds : List β} (h : xs.map f = ds) {i : Nat} {d : β} (hd : ds[i]? = some d) : ∃ y, xs[i]? = some y ∧ f y = d := by
  subst h
  simpa [List.getElem?_map, Option.map_eq_some_iff] using hd

theorem take_one {α : Type} {cs : List α} {i : Nat} {c : α} (h : (cs.drop i).take 1 = [c]) : cs[i]? = some c := by
  have h1 : ((cs.drop i).take 1)[0]? = some c := by rw [h]; rfl
  simpa [List.getElem?_take, List.getElem?_drop] using h1

theorem arr_int {H : Type} {enc : TypeId × Value → H} {w : World} {base : Nat} {sp : Nat → Bool} {held : Bool} {m : Nat} {cs : List Value} {xs : List (DataW H × List MemPlace)} {ds : List (DataW H)} {i : Nat} {k : Int}
    (h : DataW.trod enc Tryd.prog w base sp held m 3 ((cs.drop i).take 1) = xs[i]?) (hx : xs.map (·.1) = ds) (hd : ds[i]? = some (.lit (.int .i64 k))) : cs[i]? = some (.int .i64 k) := by
  obtain ⟨y, hy, e⟩ := map_get hx hd
  rw [hy] at h
  obtain ⟨k', e1, e2, _⟩ := DataW.trod_int Tryd.underlying3 h
  rw [e2] at e
  simp at e
  subst e
  exact take_one e1

theorem take_two {α : Type} {cs : List α} {i : Nat} {c d : α} (h : (cs.drop i).take 2 = [c, d]) : cs[i]? = some c ∧ cs[i + 1]? = some d := by
  have h1 : ((cs.drop i).take 2)[0]? = some c := by rw [h]; rfl
  have h2 : ((cs.drop i).take 2)[1]? = some d := by rw [h]; rfl
  exact ⟨by simpa [List.getElem?_take, List.getElem?_drop] using h1, by simpa [List.getElem?_take, List.getElem?_drop] using h2⟩

theorem arr_kind {H : Type} {enc : TypeId × Value → H} {w : World} {base : Nat} {sp : Nat → Bool} {held : Bool} {m : Nat} {cs : List Value} {xs : List (DataW H × List MemPlace)} {ds : List (DataW H)} {i j : Nat} {b : Bool} {k : Int}
    (h : DataW.trod enc Tryd.prog w base sp held m 132 ((cs.drop j).take 2) = xs[i]?) (hx : xs.map (·.1) = ds) (hd : ds[i]? = some (.agg [.lit (.bool b), .lit (.int .i64 k)])) : cs[j]? = some (.bool b) ∧ cs[j + 1]? = some (.int .i64 k) := by
  obtain ⟨y, hy, e⟩ := map_get hx hd
  rw [hy] at h
  obtain ⟨ys, n, rfl, e2, hl, hn, hf⟩ := DataW.trod_struct Tryd.underlying132 h
  rw [n62] at hl
  have f0 : DataW.trod enc Tryd.prog w base sp held n 4 ((((cs.drop j).take 2).drop 0).take (Tryd.prog.cellsOf 4)) = ys[0]? := hf 0 _ rfl
  have f1 : DataW.trod enc Tryd.prog w base sp held n 3 ((((cs.drop j).take 2).drop 1).take (Tryd.prog.cellsOf 3)) = ys[1]? := hf 1 _ rfl
  rw [n4] at f0
  rw [n3] at f1
  rw [e2] at e
  simp only [DataW.agg.injEq] at e
  obtain ⟨y0, hy0, e0⟩ := map_get e (i := 0) rfl
  obtain ⟨y1, hy1, e1⟩ := map_get e (i := 1) rfl
  rw [hy0] at f0
  rw [hy1] at f1
  obtain ⟨b', g0, g1⟩ := DataW.trod_bool Tryd.underlying4 f0
  obtain ⟨k', q0, q1, _⟩ := DataW.trod_int Tryd.underlying3 f1
  rw [g1] at e0
  rw [q1] at e1
  simp at e0 e1
  subst e0 e1
  generalize hc : (cs.drop j).take 2 = cc at *
  match cc, hl with
  | [c, d], _ =>
    simp at g0 q0
    subst g0 q0
    exact take_two hc

abbrev laidBoth : List (String × DataW Unit) := [("midden/cell.kinds", Rows.laid_midden_cell_kinds), ("midden/cell.begins", Rows.laid_midden_cell_begins)]
abbrev laidOne : List (String × DataW Unit) := [("midden/cell.begins", Rows.laid_midden_cell_begins)]

theorem laidB_of {W : World} {cs : Array Value} {enc : TypeId × Value → Unit} {base fuel : Nat} {sp : Nat → Bool} {held : Bool} {p : List MemPlace} (hv : World.var? Tryd.prog W "midden/cell.begins" = some cs) (hd : DataW.trod enc Tryd.prog W base sp held fuel 134 cs.toList = some (Rows.laid_midden_cell_begins, p)) : LaidB W := by
  obtain ⟨xs, m, rfl, hx, hlen, hn, hel⟩ := DataW.trod_array Tryd.underlying134 hd
  simp only [Prod.mk.injEq, Rows.laid_midden_cell_begins, DataW.agg.injEq] at hx
  have hx' := hx.1.symm
  have hc : ∀ i k, i < 9 → _ → W.cell? ⟨1, i, none⟩ = some (.int .i64 k) := fun i k hi hk => by
    have h1 := hel i hi
    rw [n3, Nat.mul_one] at h1
    have h2 := arr_int h1 hx' (k := k) hk
    rw [World.var?_cell gB hv i]
    simpa using h2
  exact ⟨hc 0 _ (by decide) rfl, hc 1 _ (by decide) rfl, hc 2 _ (by decide) rfl, hc 3 _ (by decide) rfl, hc 4 _ (by decide) rfl, hc 5 _ (by decide) rfl, hc 6 _ (by decide) rfl, hc 7 _ (by decide) rfl, hc 8 _ (by decide) rfl⟩

theorem laidK_of {W : World} {cs : Array Value} {enc : TypeId × Value → Unit} {base fuel : Nat} {sp : Nat → Bool} {held : Bool} {p : List MemPlace} (hv : World.var? Tryd.prog W "midden/cell.kinds" = some cs) (hd : DataW.trod enc Tryd.prog W base sp held fuel 133 cs.toList = some (Rows.laid_midden_cell_kinds, p)) : LaidK W := by
  obtain ⟨xs, m, rfl, hx, hlen, hn, hel⟩ := DataW.trod_array Tryd.underlying133 hd
  simp only [Prod.mk.injEq, Rows.laid_midden_cell_kinds, DataW.agg.injEq] at hx
  have hx' := hx.1.symm
  have hc : ∀ i b k, i < 5 → _ → W.cell? ⟨0, i * 2, none⟩ = some (.bool b) ∧ W.cell? ⟨0, i * 2 + 1, none⟩ = some (.int .i64 k) := fun i b k hi hk => by
    have h1 := hel i hi
    rw [n62] at h1
    have h2 := arr_kind h1 hx' (b := b) (k := k) hk
    rw [World.var?_cell gK hv (i * 2), World.var?_cell gK hv (i * 2 + 1)]
    simpa using h2
  have h0 := hc 0 _ _ (by decide) rfl
  have h1 := hc 1 _ _ (by decide) rfl
  have h2 := hc 2 _ _ (by decide) rfl
  have h3 := hc 3 _ _ (by decide) rfl
  have h4 := hc 4 _ _ (by decide) rfl
  exact ⟨h0.1, h0.2, h1.1, h1.2, h2.1, h2.2, h3.1, h3.2, h4.1, h4.2⟩

theorem of_laidBoth {W : World} (h : laidMetH Tryd.prog laidBoth W) : Laid W := by
  rw [MakeChecks.laidMetH_plain _ _ _ (by kernel_rfl)] at h
  obtain ⟨ps, ⟨g0, t0, cs0, f0, p0, q0, hg0, ht0, hv0, hd0, ⟨g1, t1, cs1, f1, p1, q1, hg1, ht1, hv1, hd1, _, _⟩, _⟩, _, _⟩ := h
  obtain rfl := Option.some.inj (gK.symm.trans hg0)
  obtain rfl := Option.some.inj (gB.symm.trans hg1)
  obtain rfl := Option.some.inj (tK.symm.trans ht0)
  obtain rfl := Option.some.inj (tB.symm.trans ht1)
  exact ⟨laidB_of hv1 hd1, laidK_of hv0 hd0⟩

theorem of_laidOne {W : World} (h : laidMetH Tryd.prog laidOne W) : LaidB W := by
  rw [MakeChecks.laidMetH_plain _ _ _ (by kernel_rfl)] at h
  obtain ⟨ps, ⟨g1, t1, cs1, f1, p1, q1, hg1, ht1, hv1, hd1, _, _⟩, _, _⟩ := h
  obtain rfl := Option.some.inj (gB.symm.trans hg1)
  obtain rfl := Option.some.inj (tB.symm.trans ht1)
  exact laidB_of hv1 hd1

theorem own : ownKnob Tryd.prog.godebug = none := by kernel_rfl
theorem laidOut : laidOutB Tryd.prog = true := by kernel_rfl

theorem door_met (os : Os) (args : Array Value) : laidMetH Tryd.prog laidBoth ((World.doorLaid Tryd.prog 400 os).forCall (fun _ _ => 0) ⟨#[], args, []⟩).memory :=
  laidMetH_of_parts3 (fuel := 8) (laidMet_of_run' 8 (by kernel_rfl) (by kernel_rfl)) (by kernel_rfl) (by kernel_rfl)

theorem door_met1 (os : Os) (args : Array Value) : laidMetH Tryd.prog laidOne ((World.doorLaid Tryd.prog 400 os).forCall (fun _ _ => 0) ⟨#[], args, []⟩).memory :=
  laidMetH_of_parts3 (fuel := 8) (laidMet_of_run' 8 (by kernel_rfl) (by kernel_rfl)) (by kernel_rfl) (by kernel_rfl)

end Go.Proofs.YtckgcpoheodbcaaDoor
