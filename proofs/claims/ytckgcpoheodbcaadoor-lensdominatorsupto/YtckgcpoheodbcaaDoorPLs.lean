import Derived.Test.YtckgcpoheodbcaaDoorPIe
import Derived.Test.YtckgcpoheodbcaaDoorLP3
import Derived.Test.YtckgcpoheodbcaaDoorPLw
/-
  Shortest paths: which graphs may be.
-/
set_option linter.unusedVariables false
set_option maxRecDepth 20000
namespace Go.Proofs.YtckgcpoheodbcaaDoor
open Go.RowKit Go.Shelf

set_option maxHeartbeats 4000000 in
theorem mayBe_any (n0 : Nat) (w : World) (vo vs vh vr vq : Value) (os : List OL) (ts : List (Value × List (Value × List Int))) (g : Im.Gr) (hg : Grd n0 w vo vs vh vr vq os ts g) (hn : n0 ≤ w.heap.size) (hL : Laid w) (hl : Gln os ts g) :
    Calls Tryd.prog 14 #[.agg (gcs vo vs vh vr vq g.next)] w fun e w' => ∃ r : Bool, e = .returned (.bool r) ∧ Below w.heap.size w w' ∧ (r = true ↔ MB g) := by
  have l1 : Below w.heap.size w (w.alloc (.cells (gcs vo vs vh vr vq g.next) 27)) := Below.alloc (Below.refl _ _) (Nat.le_refl _) _
  have hx := heap_alloc_new w (.cells (gcs vo vs vh vr vq g.next) 27 (0, 0))
  generalize hW : w.alloc (.cells (gcs vo vs vh vr vq g.next) 27) = W at *
  have y0 : W.cell? ⟨w.heap.size, 0, none⟩ = some vo := Kg.heap_cell hx 0
  have y1 : W.cell? ⟨w.heap.size, 1, none⟩ = some vs := Kg.heap_cell hx 1
  have y2 : W.cell? ⟨w.heap.size, 2, none⟩ = some vh := Kg.heap_cell hx 2
  have y3 : W.cell? ⟨w.heap.size, 3, none⟩ = some vr := Kg.heap_cell hx 3
  have y4 : W.cell? ⟨w.heap.size, 4, none⟩ = some vq := Kg.heap_cell hx 4
  have y5 : W.cell? ⟨w.heap.size, 5, none⟩ = some (.int .u64 (g.next : Int)) := Kg.heap_cell hx 5
  have q := iCheck_any n0 W vo vs vh vr vq os ts g (hg.below (l1.mono hn)) (Nat.le_trans hn l1.size) (hL.keep l1) hl
  have HL1 : Hid _ := l1
  clear hg hL hl hx l1
  go_enter Tryd.func14, Tryd.ntmps14
  go_wp2_with fail
  refine q.mono ?_
  rintro e w1 ⟨r, rfl, b1, hr⟩
  have HB : Hid (Below w.heap.size w w1) := HL1.out.trans (b1.mono HL1.out.size)
  have HR : Hid ((r = 0 ∧ MB g) ∨ (r = 164 ∧ ¬ MB g)) := hr
  clear q b1 hr y0 y1 y2 y3 y4 y5
  go_wp2
  go_ret
  refine ⟨_, rfl, HB.out, ?_⟩
  rcases HR.out with ⟨rfl, h⟩ | ⟨rfl, h⟩
  · simp [h]
  · simp [h]

end Go.Proofs.YtckgcpoheodbcaaDoor

/-
  Shortest paths: the document's Path, where it refuses.
-/

set_option linter.unusedVariables false
set_option maxRecDepth 20000
namespace Go.Proofs.YtckgcpoheodbcaaDoor
open Go.RowKit Go.Shelf Go.Proofs.YtckgcpoheodbcaaDoor.Lp

end Go.Proofs.YtckgcpoheodbcaaDoor

/-
  Shortest paths: the document's Path.
-/
set_option linter.unusedVariables false
set_option maxRecDepth 20000
namespace Go.Proofs.YtckgcpoheodbcaaDoor
open Go.RowKit Go.Shelf Go.Proofs.YtckgcpoheodbcaaDoor.Lp

/-- Numbers in a block of one's own. -/
structure Fw (w : World) (fb m : Nat) (fa : Nat → Nat) : Prop where
  ex : ∃ cs, w.heap[fb]? = some (.cells cs 3 (0, 0)) ∧ cs.size = m ∧ ∀ x, x < m → cs[x]? = some (.int .i64 (fa x : Nat))

theorem Fw.lt {w : World} {fb m : Nat} {fa : Nat → Nat} (h : Fw w fb m fa) : fb < w.heap.size := by
  obtain ⟨cs, h1, -⟩ := h.ex
  exact Kg.heap_lt h1

theorem Fw.cell {w : World} {fb m : Nat} {fa : Nat → Nat} (h : Fw w fb m fa) {x : Nat} (hx : x < m) : w.cell? ⟨fb, x, none⟩ = some (.int .i64 (fa x : Nat)) := by
  obtain ⟨cs, h1, -, h3⟩ := h.ex
  exact (Kg.heap_cell h1 x).trans (h3 x hx)

theorem Fw.frozen {w : World} {fb m : Nat} {fa : Nat → Nat} (h : Fw w fb m fa) (x : Nat) : w.frozen? ⟨fb, x, none⟩ = false := by
  obtain ⟨cs, h1, -⟩ := h.ex
  exact Kg.heap_frozen h1 x

theorem Fw.below {w w' : World} {fb m : Nat} {fa : Nat → Nat} (h : Fw w fb m fa) (hb : Below w.heap.size w w') : Fw w' fb m fa := by
  obtain ⟨cs, h1, h2, h3⟩ := h.ex
  exact ⟨cs, (hb.block _ (Kg.heap_lt h1)).trans h1, h2, h3⟩

theorem Fw.set {w : World} {fb m : Nat} {fa : Nat → Nat} (h : Fw w fb m fa) {x : Nat} (hx : x < m) (v : Nat) : Fw (w.setCell ⟨fb, x, none⟩ (.int .i64 (v : Nat))) fb m (fun y => if y = x then v else fa y) := by
  obtain ⟨cs, h1, h2, h3⟩ := h.ex
  refine ⟨cs.setIfInBounds x (.int .i64 (v : Nat)), Kg.heap_set h1 x _, by simp [h2], fun y hy => ?_⟩
  rw [Array.getElem?_setIfInBounds]
  by_cases e : x = y
  · subst e
    rw [if_pos rfl, if_pos (by rw [h2]; exact hx), if_pos rfl]
  · rw [if_neg e, if_neg (fun h => e h.symm)]
    exact h3 y hy

theorem make_ints17 (m : Nat) (hm : m ≤ 1000000000001) : ∀ w, (Instr.makeSlice 24 (.int .i64 (m : Int)) (.int .i64 (m : Int))).run Tryd.prog w = .ok (.slice (some ⟨w.heap.size, 0, none⟩) m m) (w.alloc (.cells (madeCells #[.int .i64 0] m) 3)) := fun w => by
  obtain ⟨i0, hi0, hz0, hz1, hz2⟩ := info_p17 infoI17
  have := run_make (P := Tryd.prog) w 24 3 i0 (.int .i64 0) Tryd.underlying24 hi0 hz0 .i64 .i64 m m (by omega) (Int.le_refl _) (by rw [hz2]; omega) (by omega)
  rw [hz1, Nat.mul_one] at this
  exact this

theorem Fw.new (w : World) (m : Nat) : Fw (w.alloc (.cells (madeCells #[.int .i64 0] m) 3)) w.heap.size m (fun _ => 0) :=
  ⟨_, heap_alloc_new w _, by simp [madeCells], fun x hx => by simp [madeCells, hx, Nat.mod_one]⟩

end Go.Proofs.YtckgcpoheodbcaaDoor

