/-
  What comes in, stage 12: an Ask, a Memory. (mkPOq.py prints this text.)
-/
import Derived.Test.YtcijdbhabbepaaaGreatDoorPOp
set_option linter.unusedVariables false
set_option maxRecDepth 20000
namespace Go.Proofs.YtcijdbhabbepaaaGreatDoor.Po
open Go.ChangeShapes Go.WideShapes Go.ChangeAt Go.RowKit

/-- A turn that is asked for, and its views. -/
structure Ask where
  c : Cfg
  base : Int
  kind : Int
  words : Int
  va : Option Addr
  vc : Nat
  L : List Vw

abbrev acells (x : Ask) : Array Value := #[.int .i64 x.c.eden, .int .i64 x.c.surv, .int .i64 x.c.ten, .int .i64 x.c.large, .int .i64 x.c.floor, .int .i64 x.c.num, .int .i64 x.c.den, .int .i64 x.c.target, .int .i64 x.c.maxAge, .int .i64 x.c.threads, .int .i64 x.c.slots, .int .i64 x.c.handles, .int .i64 x.c.buffer, .int .i64 x.c.workers, .int .i64 x.base, .int .i64 x.kind, .int .i64 x.words, .slice x.va x.L.length x.vc]
abbrev askv (x : Ask) : Value := .agg (acells x)

/-- What holds of one that came in. -/
structure AskIn (w : World) (x : Ask) : Prop where
  ws : x.words < 9223372036854775808
  vs : Vws w.heap.size w x.va x.L
  ln : x.L.length ≤ maxLen

/-- A memory in numbers. -/
structure Mem12 where
  c : Cfg
  yl : Int
  yd : Int
  tl : Int
  td : Int
  base : Int
  words : Int
  sv : Int
  pr : Int

abbrev mcells (x : Mem12) : Array Value := #[.int .i64 x.c.eden, .int .i64 x.c.surv, .int .i64 x.c.ten, .int .i64 x.c.large, .int .i64 x.c.floor, .int .i64 x.c.num, .int .i64 x.c.den, .int .i64 x.c.target, .int .i64 x.c.maxAge, .int .i64 x.c.threads, .int .i64 x.c.slots, .int .i64 x.c.handles, .int .i64 x.c.buffer, .int .i64 x.c.workers, .int .i64 x.yl, .int .i64 x.yd, .int .i64 x.tl, .int .i64 x.td, .int .i64 x.base, .int .i64 x.words, .int .i64 x.sv, .int .i64 x.pr]
abbrev memv (x : Mem12) : Value := .agg (mcells x)

theorem ccA : Tryz.prog.cellsOf 26 = 18 := by kernel_rfl
theorem ccVs : Tryz.prog.cellsOf 24 = 1 := by kernel_rfl
theorem list18 {α : Type} {l : List α} (h : l.length = 18) : ∃ c0 c1 c2 c3 c4 c5 c6 c7 c8 c9 c10 c11 c12 c13 c14 c15 c16 c17, l = [c0, c1, c2, c3, c4, c5, c6, c7, c8, c9, c10, c11, c12, c13, c14, c15, c16, c17] := by
  match l, h with
  | [c0, c1, c2, c3, c4, c5, c6, c7, c8, c9, c10, c11, c12, c13, c14, c15, c16, c17], _ => exact ⟨c0, c1, c2, c3, c4, c5, c6, c7, c8, c9, c10, c11, c12, c13, c14, c15, c16, c17, rfl⟩

theorem open_ask {H : Type} {enc : TypeId × Value → H} {w : World} {sp : Nat → Bool} {held : Bool} {r : Reach} {b0 : Nat} {v : Value} {d : DataW H} {p : List MemPlace}
    (hv' : Value.okWide Tryz.prog w r b0 26 v) (h : DataW.Trod enc Tryz.prog w 0 sp held 26 v d p) : ∃ x : Ask, v = askv x ∧ AskIn w x := by
  obtain ⟨cs, rfl, hsz⟩ := okWide_struct Tryz.underlying26 hv'
  obtain ⟨l⟩ := cs
  obtain ⟨c0, c1, c2, c3, c4, c5, c6, c7, c8, c9, c10, c11, c12, c13, c14, c15, c16, c17, rfl⟩ := list18 (hsz.trans ccA)
  obtain ⟨base, hbase⟩ : ∃ b : Nat, b = 0 := ⟨_, rfl⟩
  rw [← hbase] at h
  obtain ⟨fuel, hf⟩ := h
  obtain ⟨xs, n, _, hx, _, hlen, hf'⟩ := DataW.trod_struct Tryz.underlying26 hf
  have key : ∀ i, i < 5 → ∃ y, xs[i]? = some y := fun i hi => ⟨_, List.getElem?_eq_getElem (by rw [hlen]; exact hi)⟩
  have fc : DataW.trod enc Tryz.prog w base sp held n 23 [c0, c1, c2, c3, c4, c5, c6, c7, c8, c9, c10, c11, c12, c13] = xs[0]? := by simpa [Value.cells, ccC] using hf' 0 _ rfl
  obtain ⟨yc, ec⟩ := key 0 (by decide)
  rw [ec] at fc
  obtain ⟨c, hc⟩ := cfg_cells fc
  simp only [List.cons.injEq, and_true] at hc
  obtain ⟨rfl, rfl, rfl, rfl, rfl, rfl, rfl, rfl, rfl, rfl, rfl, rfl, rfl, rfl⟩ := hc
  have f14 : DataW.trod enc Tryz.prog w base sp held n 3 [c14] = xs[1]? := by simpa [Value.cells, cc3] using hf' 1 _ rfl
  obtain ⟨y14, e14⟩ := key 1 (by decide)
  rw [e14] at f14
  obtain ⟨z14, g14, _, w14⟩ := DataW.trod_int Tryz.underlying3 f14
  simp only [List.cons.injEq, and_true] at g14
  subst g14
  have f15 : DataW.trod enc Tryz.prog w base sp held n 3 [c15] = xs[2]? := by simpa [Value.cells, cc3] using hf' 2 _ rfl
  obtain ⟨y15, e15⟩ := key 2 (by decide)
  rw [e15] at f15
  obtain ⟨z15, g15, _, w15⟩ := DataW.trod_int Tryz.underlying3 f15
  simp only [List.cons.injEq, and_true] at g15
  subst g15
  have f16 : DataW.trod enc Tryz.prog w base sp held n 3 [c16] = xs[3]? := by simpa [Value.cells, cc3] using hf' 3 _ rfl
  obtain ⟨y16, e16⟩ := key 3 (by decide)
  rw [e16] at f16
  obtain ⟨z16, g16, _, w16⟩ := DataW.trod_int Tryz.underlying3 f16
  simp only [List.cons.injEq, and_true] at g16
  subst g16
  have fv : DataW.trod enc Tryz.prog w base sp held n 24 [c17] = xs[4]? := by simpa [Value.cells, ccVs] using hf' 4 _ rfl
  obtain ⟨yv, ev⟩ := key 4 (by decide)
  rw [ev, hbase] at fv
  obtain ⟨a, len, cap, L, rfl, rfl, hV, _, hm⟩ := open_views fv
  exact ⟨⟨c, z14, z15, z16, a, cap, L⟩, rfl, ⟨(wf64 w16).2, hV, hm⟩⟩

end Go.Proofs.YtcijdbhabbepaaaGreatDoor.Po
