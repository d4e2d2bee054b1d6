import Derived.Test.YtbgnagjhkfkekaaGreatDoorPWa
import Derived.Test.YtbgnagjhkfkekaaGreatDoorPYb
import Derived.Test.YtbgnagjhkfkekaaGreatDoorYQ
import Derived.Maps.AppendAt
/-
  slices.Clone: WR0 holds it.
-/

/-
  unheld: a plan's things, Held false.
-/
set_option linter.unusedVariables false
set_option maxRecDepth 20000
namespace Go.Proofs.YtbgnagjhkfkekaaGreatDoor
open Go.RowKit Go.Shelf

theorem Tryz.infoThing : (Tryz.prog.info? 63).map (fun i => (i.zero, i.size, i.bytes)) = some (some (.agg (lcells 0 0 0 0 0 0 0 false (.slice none 0 0) (.slice none 0 0) 0)), 11, 120) := by kernel_rfl

/-- A plan's cells. -/
abbrev pcells (c : Cfg) (v : Value) : Array Value := #[.int .i64 c.eden, .int .i64 c.surv, .int .i64 c.ten, .int .i64 c.large, .int .i64 c.floor, .int .i64 c.num, .int .i64 c.den, .int .i64 c.target, .int .i64 c.maxAge, .int .i64 c.threads, .int .i64 c.slots, .int .i64 c.handles, .int .i64 c.buffer, .int .i64 c.workers, v]
abbrev pv (c : Cfg) (v : Value) : Value := .agg (pcells c v)

/-- A plan in a block. -/
structure Pd (w : World) (b : Nat) (c : Cfg) (v : Value) : Prop where
  at_ : w.heap[b]? = some (.cells (pcells c v) 26 (0, 0))

theorem Pd.new (w : World) (c : Cfg) (v : Value) : Pd (w.alloc (.cells (pcells c v) 26)) w.heap.size c v := ⟨heap_alloc_new w _⟩
theorem Pd.lt {w : World} {b : Nat} {c : Cfg} {v : Value} (h : Pd w b c v) : b < w.heap.size := (Array.getElem?_eq_some_iff.1 h.at_).1
theorem Pd.below {w w' : World} {b : Nat} {c : Cfg} {v : Value} (h : Pd w b c v) (l : Below w.heap.size w w') : Pd w' b c v := ⟨(l.block b h.lt).trans h.at_⟩
theorem Pd.cell {w : World} {b : Nat} {c : Cfg} {v : Value} (h : Pd w b c v) (j : Nat) : w.cell? ⟨b, j, none⟩ = (pcells c v)[j]? := cell_of_row _ _ j _ _ _ h.at_
theorem Pd.frozen {w : World} {b : Nat} {c : Cfg} {v : Value} (h : Pd w b c v) (j : Nat) : w.frozen? ⟨b, j, none⟩ = false := by unfold World.frozen?; simp only [h.at_]; simp
theorem Pd.set {w : World} {b : Nat} {c : Cfg} {v : Value} (h : Pd w b c v) (v' : Value) : Pd (w.setCell ⟨b, 14, none⟩ v') b c v' := ⟨by simp [World.setCell, Array.getElem?_modify, h.at_]⟩
theorem pinfo : (Tryz.prog.info? 26).map (·.size) = some 15 := by kernel_rfl
theorem Pd.load {w : World} {b : Nat} {c : Cfg} {a : Option Addr} {n m : Nat} (h : Pd w b c (.slice a n m)) : (loadVar 26 ⟨b, 0, none⟩).run Tryz.prog w = .ok (pv c (.slice a n m)) w :=
  run_loadVar_row w b 26 26 _ (0, 0) _ h.at_ Tryz.underlying26 rfl pinfo

def zcf : Cfg := ⟨0, 0, 0, 0, 0, 0, 0, 0, 0, 0, 0, 0, 0, 0⟩

def unh (o : LT) : LT := { o with h := false }

theorem unh_in {o : LT} (h : o.In) : (unh o).In := ⟨h.sp, h.k, h.a, h.t, h.fill, h.s, h.rs⟩

theorem grow_plan {v w3 : World} {o : Obj} {qv u : Value} {b n : Nat} {c : Cfg} {xs : List Value} (hg : (v.alloc o).grownBy w3 qv.ownBlock) (h : Pd v b c u) (hr : v.ownsRow 0 63 11 qv n xs) : Pd w3 b c u := ⟨by
  rw [hg.block b (by have := h.lt; simp; omega) (row_ne h.at_ hr (by decide))]
  exact (Below.heap_alloc _ _ _ h.lt).trans h.at_⟩

end Go.Proofs.YtbgnagjhkfkekaaGreatDoor

