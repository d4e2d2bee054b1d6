/-
  What comes in, stage 12: a configuration, a memory in numbers, a turn with its views. (mkPOp.py prints this text.)
-/
import Derived.Test.YtcijdbhabbepaaaGreatDoorPR1
import Derived.ProofKit
import Derived.OpenShut
import Derived.ChangeOld
import Derived.SizedLaws
import Derived.Below
set_option linter.unusedVariables false
set_option maxRecDepth 20000
namespace Go.Proofs.YtcijdbhabbepaaaGreatDoor.Po
open Go.ChangeShapes Go.WideShapes Go.ChangeAt Go.RowKit

theorem own : ownKnob Tryz.prog.godebug = none := by kernel_rfl
theorem laidOut : laidOutB Tryz.prog = true := by kernel_rfl
theorem cc3 : Tryz.prog.cellsOf 3 = 1 := by kernel_rfl
theorem ccC : Tryz.prog.cellsOf 23 = 14 := by kernel_rfl
theorem ccV : Tryz.prog.cellsOf 54 = 4 := by kernel_rfl
theorem list14 {α : Type} {l : List α} (h : l.length = 14) : ∃ c0 c1 c2 c3 c4 c5 c6 c7 c8 c9 c10 c11 c12 c13, l = [c0, c1, c2, c3, c4, c5, c6, c7, c8, c9, c10, c11, c12, c13] := by
  match l, h with
  | [c0, c1, c2, c3, c4, c5, c6, c7, c8, c9, c10, c11, c12, c13], _ => exact ⟨c0, c1, c2, c3, c4, c5, c6, c7, c8, c9, c10, c11, c12, c13, rfl⟩

theorem list4 {α : Type} {l : List α} (h : l.length = 4) : ∃ c0 c1 c2 c3, l = [c0, c1, c2, c3] := by
  match l, h with
  | [c0, c1, c2, c3], _ => exact ⟨c0, c1, c2, c3, rfl⟩

theorem cfg_cells {H : Type} {enc : TypeId × Value → H} {w : World} {base : Nat} {sp : Nat → Bool} {held : Bool} {fuel : Nat} {cs : List Value} {x : DataW H × List MemPlace}
    (h : DataW.trod enc Tryz.prog w base sp held fuel 23 cs = some x) : ∃ c : Cfg, cs = (ccells c).toList := by
  obtain ⟨xs, n, _, _, hl, hlen, hf'⟩ := DataW.trod_struct Tryz.underlying23 h
  obtain ⟨c0, c1, c2, c3, c4, c5, c6, c7, c8, c9, c10, c11, c12, c13, rfl⟩ := list14 (hl.trans ccC)
  have key : ∀ i, i < 14 → ∃ y, xs[i]? = some y := fun i hi => ⟨_, List.getElem?_eq_getElem (by rw [hlen]; exact hi)⟩
  have f0 : DataW.trod enc Tryz.prog w base sp held n 3 [c0] = xs[0]? := by simpa [cc3] using hf' 0 _ rfl
  obtain ⟨y0, e0⟩ := key 0 (by decide)
  rw [e0] at f0
  obtain ⟨z0, g0, _, w0⟩ := DataW.trod_int Tryz.underlying3 f0
  have f1 : DataW.trod enc Tryz.prog w base sp held n 3 [c1] = xs[1]? := by simpa [cc3] using hf' 1 _ rfl
  obtain ⟨y1, e1⟩ := key 1 (by decide)
  rw [e1] at f1
  obtain ⟨z1, g1, _, w1⟩ := DataW.trod_int Tryz.underlying3 f1
  have f2 : DataW.trod enc Tryz.prog w base sp held n 3 [c2] = xs[2]? := by simpa [cc3] using hf' 2 _ rfl
  obtain ⟨y2, e2⟩ := key 2 (by decide)
  rw [e2] at f2
  obtain ⟨z2, g2, _, w2⟩ := DataW.trod_int Tryz.underlying3 f2
  have f3 : DataW.trod enc Tryz.prog w base sp held n 3 [c3] = xs[3]? := by simpa [cc3] using hf' 3 _ rfl
  obtain ⟨y3, e3⟩ := key 3 (by decide)
  rw [e3] at f3
  obtain ⟨z3, g3, _, w3⟩ := DataW.trod_int Tryz.underlying3 f3
  have f4 : DataW.trod enc Tryz.prog w base sp held n 3 [c4] = xs[4]? := by simpa [cc3] using hf' 4 _ rfl
  obtain ⟨y4, e4⟩ := key 4 (by decide)
  rw [e4] at f4
  obtain ⟨z4, g4, _, w4⟩ := DataW.trod_int Tryz.underlying3 f4
  have f5 : DataW.trod enc Tryz.prog w base sp held n 3 [c5] = xs[5]? := by simpa [cc3] using hf' 5 _ rfl
  obtain ⟨y5, e5⟩ := key 5 (by decide)
  rw [e5] at f5
  obtain ⟨z5, g5, _, w5⟩ := DataW.trod_int Tryz.underlying3 f5
  have f6 : DataW.trod enc Tryz.prog w base sp held n 3 [c6] = xs[6]? := by simpa [cc3] using hf' 6 _ rfl
  obtain ⟨y6, e6⟩ := key 6 (by decide)
  rw [e6] at f6
  obtain ⟨z6, g6, _, w6⟩ := DataW.trod_int Tryz.underlying3 f6
  have f7 : DataW.trod enc Tryz.prog w base sp held n 3 [c7] = xs[7]? := by simpa [cc3] using hf' 7 _ rfl
  obtain ⟨y7, e7⟩ := key 7 (by decide)
  rw [e7] at f7
  obtain ⟨z7, g7, _, w7⟩ := DataW.trod_int Tryz.underlying3 f7
  have f8 : DataW.trod enc Tryz.prog w base sp held n 3 [c8] = xs[8]? := by simpa [cc3] using hf' 8 _ rfl
  obtain ⟨y8, e8⟩ := key 8 (by decide)
  rw [e8] at f8
  obtain ⟨z8, g8, _, w8⟩ := DataW.trod_int Tryz.underlying3 f8
  have f9 : DataW.trod enc Tryz.prog w base sp held n 3 [c9] = xs[9]? := by simpa [cc3] using hf' 9 _ rfl
  obtain ⟨y9, e9⟩ := key 9 (by decide)
  rw [e9] at f9
  obtain ⟨z9, g9, _, w9⟩ := DataW.trod_int Tryz.underlying3 f9
  have f10 : DataW.trod enc Tryz.prog w base sp held n 3 [c10] = xs[10]? := by simpa [cc3] using hf' 10 _ rfl
  obtain ⟨y10, e10⟩ := key 10 (by decide)
  rw [e10] at f10
  obtain ⟨z10, g10, _, w10⟩ := DataW.trod_int Tryz.underlying3 f10
  have f11 : DataW.trod enc Tryz.prog w base sp held n 3 [c11] = xs[11]? := by simpa [cc3] using hf' 11 _ rfl
  obtain ⟨y11, e11⟩ := key 11 (by decide)
  rw [e11] at f11
  obtain ⟨z11, g11, _, w11⟩ := DataW.trod_int Tryz.underlying3 f11
  have f12 : DataW.trod enc Tryz.prog w base sp held n 3 [c12] = xs[12]? := by simpa [cc3] using hf' 12 _ rfl
  obtain ⟨y12, e12⟩ := key 12 (by decide)
  rw [e12] at f12
  obtain ⟨z12, g12, _, w12⟩ := DataW.trod_int Tryz.underlying3 f12
  have f13 : DataW.trod enc Tryz.prog w base sp held n 3 [c13] = xs[13]? := by simpa [cc3] using hf' 13 _ rfl
  obtain ⟨y13, e13⟩ := key 13 (by decide)
  rw [e13] at f13
  obtain ⟨z13, g13, _, w13⟩ := DataW.trod_int Tryz.underlying3 f13
  simp only [List.cons.injEq, and_true] at g0 g1 g2 g3 g4 g5 g6 g7 g8 g9 g10 g11 g12 g13
  subst g0 g1 g2 g3 g4 g5 g6 g7 g8 g9 g10 g11 g12 g13
  exact ⟨⟨z0, z1, z2, z3, z4, z5, z6, z7, z8, z9, z10, z11, z12, z13⟩, rfl⟩

theorem view_cells {H : Type} {enc : TypeId × Value → H} {w : World} {base : Nat} {sp : Nat → Bool} {held : Bool} {fuel : Nat} {cs : List Value} {x : DataW H × List MemPlace}
    (h : DataW.trod enc Tryz.prog w base sp held fuel 54 cs = some x) : ∃ v : Vw, cs = [.int .i64 v.er, .int .i64 v.yo, .int .i64 v.te, .int .i64 v.tr] := by
  obtain ⟨xs, n, _, _, hl, hlen, hf'⟩ := DataW.trod_struct Tryz.underlying54 h
  obtain ⟨c0, c1, c2, c3, rfl⟩ := list4 (hl.trans ccV)
  have key : ∀ i, i < 4 → ∃ y, xs[i]? = some y := fun i hi => ⟨_, List.getElem?_eq_getElem (by rw [hlen]; exact hi)⟩
  have f0 : DataW.trod enc Tryz.prog w base sp held n 3 [c0] = xs[0]? := by simpa [cc3] using hf' 0 _ rfl
  obtain ⟨y0, e0⟩ := key 0 (by decide)
  rw [e0] at f0
  obtain ⟨z0, g0, _, w0⟩ := DataW.trod_int Tryz.underlying3 f0
  have f1 : DataW.trod enc Tryz.prog w base sp held n 3 [c1] = xs[1]? := by simpa [cc3] using hf' 1 _ rfl
  obtain ⟨y1, e1⟩ := key 1 (by decide)
  rw [e1] at f1
  obtain ⟨z1, g1, _, w1⟩ := DataW.trod_int Tryz.underlying3 f1
  have f2 : DataW.trod enc Tryz.prog w base sp held n 3 [c2] = xs[2]? := by simpa [cc3] using hf' 2 _ rfl
  obtain ⟨y2, e2⟩ := key 2 (by decide)
  rw [e2] at f2
  obtain ⟨z2, g2, _, w2⟩ := DataW.trod_int Tryz.underlying3 f2
  have f3 : DataW.trod enc Tryz.prog w base sp held n 3 [c3] = xs[3]? := by simpa [cc3] using hf' 3 _ rfl
  obtain ⟨y3, e3⟩ := key 3 (by decide)
  rw [e3] at f3
  obtain ⟨z3, g3, _, w3⟩ := DataW.trod_int Tryz.underlying3 f3
  simp only [List.cons.injEq, and_true] at g0 g1 g2 g3
  subst g0 g1 g2 g3
  exact ⟨⟨z0, z1, z2, z3⟩, rfl⟩

theorem wf64 {z : Int} (h : (Lit.int .i64 z).wf = true) : -9223372036854775808 ≤ z ∧ z < 9223372036854775808 := by
  have h : IntKind.i64.min ≤ z ∧ z ≤ IntKind.i64.max := by simpa [Lit.wf] using h
  have e1 : IntKind.i64.min = -9223372036854775808 := by decide
  have e2 : IntKind.i64.max = 9223372036854775807 := by decide
  omega

theorem open_cfg {H : Type} {enc : TypeId × Value → H} {w : World} {base : Nat} {sp : Nat → Bool} {held : Bool} {r : Reach} {b0 : Nat} {v : Value} {d : DataW H} {p : List MemPlace}
    (hv' : Value.okWide Tryz.prog w r b0 23 v) (h : DataW.Trod enc Tryz.prog w base sp held 23 v d p) : ∃ c : Cfg, v = cv c := by
  obtain ⟨cs, rfl, hsz⟩ := okWide_struct Tryz.underlying23 hv'
  obtain ⟨fuel, hf⟩ := h
  obtain ⟨c, hc⟩ := cfg_cells (by simpa [Value.cells] using hf)
  refine ⟨c, ?_⟩
  obtain ⟨l⟩ := cs
  simp only at hc
  rw [hc]

/-- Views that lie from address a on, in blocks below n0. -/
def Vws (n0 : Nat) (w : World) (a : Option Addr) (L : List Vw) : Prop :=
  ∀ (i : Nat) (f : Vw), L[i]? = some f → ∃ g off, a = some ⟨g, off, none⟩ ∧ g < n0 ∧ w.cell? ⟨g, off + i * 4, none⟩ = some (.int .i64 f.er) ∧ w.cell? ⟨g, off + i * 4 + 1, none⟩ = some (.int .i64 f.yo) ∧ w.cell? ⟨g, off + i * 4 + 2, none⟩ = some (.int .i64 f.te) ∧ w.cell? ⟨g, off + i * 4 + 3, none⟩ = some (.int .i64 f.tr)

theorem Vws.below {n0 : Nat} {w w' : World} {a : Option Addr} {L : List Vw} (h : Vws n0 w a L) (hb : Below n0 w w') : Vws n0 w' a L := fun i f hf => by
  obtain ⟨g, off, ha, hg, h0, h1, h2, h3⟩ := h i f hf
  have e : ∀ k, w'.cell? ⟨g, k, none⟩ = w.cell? ⟨g, k, none⟩ := fun k => by simp [World.cell?, hb.block g hg]
  exact ⟨g, off, ha, hg, (e _).trans h0, (e _).trans h1, (e _).trans h2, (e _).trans h3⟩

theorem add_plain (g off : Nat) (k : Nat) : (⟨g, off, none⟩ : Addr).add k = ⟨g, off + k, none⟩ := Addr.add_lit ..

theorem open_views {H : Type} {enc : TypeId × Value → H} {w : World} {sp : Nat → Bool} {held : Bool} {fuel : Nat} {u : Value} {x : DataW H × List MemPlace}
    (hf : DataW.trod enc Tryz.prog w 0 sp held fuel 24 [u] = some x) : ∃ a len cap, ∃ L : List Vw, u = .slice a len cap ∧ L.length = len ∧ Vws w.heap.size w a L ∧ (len = 0 ∨ ∃ es ss, x.1 = .slice es ss ∧ es.length = len) ∧ len ≤ maxLen := by
  rcases DataW.trod_slice Tryz.underlying24 hf with ⟨hcs, _⟩ | ⟨y, l, c, elems, rest, n, _, hcs, hd, _, hl, hm, hel, hget, _⟩
  · simp only [List.cons.injEq, and_true] at hcs
    exact ⟨_, _, _, [], hcs, rfl, fun i o ho => by simp at ho, .inl rfl, Nat.zero_le _⟩
  · simp only [List.cons.injEq, and_true] at hcs
    subst hcs
    have cells : ∀ i, i < l → ∃ f : Vw, ∀ j, j < 4 → w.cell? ((y.add (i * 4)).add j) = [Value.int .i64 f.er, .int .i64 f.yo, .int .i64 f.te, .int .i64 f.tr][j]? := by
      intro i hi
      have h1 := hget i hi
      rw [ccV, List.getElem?_eq_getElem (by omega)] at h1
      obtain ⟨cs, hc, ht⟩ := Option.bind_eq_some_iff.1 h1
      obtain ⟨f, rfl⟩ := view_cells ht
      exact ⟨f, (World.cells?_some hc).2.2⟩
    have each : ∀ i, i < l → ∃ f : Vw, ∃ g off, y = ⟨g, off, none⟩ ∧ g < w.heap.size ∧ w.cell? ⟨g, off + i * 4, none⟩ = some (.int .i64 f.er) ∧ w.cell? ⟨g, off + i * 4 + 1, none⟩ = some (.int .i64 f.yo) ∧ w.cell? ⟨g, off + i * 4 + 2, none⟩ = some (.int .i64 f.te) ∧ w.cell? ⟨g, off + i * 4 + 3, none⟩ = some (.int .i64 f.tr) := by
      intro i hi
      obtain ⟨f0, h0⟩ := cells 0 (by omega)
      obtain ⟨g, off, spot⟩ := y
      have h00 := h0 0 (by decide)
      simp only [List.getElem?_cons_zero] at h00
      have hspot : spot = none := by simpa [Addr.add] using World.cell?_spot h00
      subst hspot
      obtain ⟨f, hf⟩ := cells i hi
      simp only [add_plain] at hf h00
      exact ⟨f, g, off, rfl, World.block_lt_of_cell? _ _ h00, by simpa using hf 0 (by decide), by simpa using hf 1 (by decide), by simpa using hf 2 (by decide), by simpa using hf 3 (by decide)⟩
    refine ⟨_, _, _, (List.range l).map fun i => if h : i < l then (each i h).choose else ⟨0, 0, 0, 0⟩, rfl, by simp, fun i o ho => ?_, .inr ⟨_, _, by rw [hd], by simp [hel]⟩, Nat.le_trans hl hm⟩
    have hi : i < l := by have := (List.getElem?_eq_some_iff.1 ho).1; simpa using this
    have e : o = (each i hi).choose := by simpa [List.getElem?_map, List.getElem?_range hi, hi] using ho.symm
    obtain ⟨g, off, hx, hg, rest⟩ := (each i hi).choose_spec
    rw [e]
    exact ⟨g, off, by rw [hx], hg, rest⟩

end Go.Proofs.YtcijdbhabbepaaaGreatDoor.Po
