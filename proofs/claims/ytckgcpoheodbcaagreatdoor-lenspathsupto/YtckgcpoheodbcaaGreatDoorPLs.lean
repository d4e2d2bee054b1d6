import Derived.Test.YtckgcpoheodbcaaGreatDoorPIe
import Derived.Test.YtckgcpoheodbcaaGreatDoorLP3
import Derived.Test.YtckgcpoheodbcaaGreatDoorLP4
import Derived.Test.YtckgcpoheodbcaaGreatDoorLP5
/-
  Shortest paths: which graphs may be.
-/
set_option linter.unusedVariables false
set_option maxRecDepth 20000
namespace Go.Proofs.YtckgcpoheodbcaaGreatDoor
open Go.RowKit Go.Shelf

set_option maxHeartbeats 4000000 in
theorem mayBe_any (n0 : Nat) (w : World) (vo vs vh vr vq : Value) (os : List OL) (ts : List (Value × List (Value × List Int))) (g : Im.Gr) (hg : Grd n0 w vo vs vh vr vq os ts g) (hn : n0 ≤ w.heap.size) (hL : Laid w) (hl : Gln os ts g) :
    Calls Tryz.prog 17 #[.agg (gcs vo vs vh vr vq g.next)] w fun e w' => ∃ r : Bool, e = .returned (.bool r) ∧ Below w.heap.size w w' ∧ (r = true ↔ MB g) := by
  have l1 : Below w.heap.size w (w.alloc (.cells (gcs vo vs vh vr vq g.next) 27)) := Below.alloc (Below.refl _ _) (Nat.le_refl _) _
  have hx := heap_alloc_new w (.cells (gcs vo vs vh vr vq g.next) 27 (0, 0))
  generalize hW : w.alloc (.cells (gcs vo vs vh vr vq g.next) 27) = W at *
  have y0 : W.cell? ⟨w.heap.size, 0, none⟩ = some vo := Kg.heap_cell hx 0
  have y1 : W.cell? ⟨w.heap.size, 1, none⟩ = some vs := Kg.heap_cell hx 1
  have y2 : W.cell? ⟨w.heap.size, 2, none⟩ = some vh := Kg.heap_cell hx 2
  have y3 : W.cell? ⟨w.heap.size, 3, none⟩ = some vr := Kg.heap_cell hx 3
  have y4 : W.cell? ⟨w.heap.size, 4, none⟩ = some vq := Kg.heap_cell hx 4
  have y5 : W.cell? ⟨w.heap.size, 5, none⟩ = some (.int .u64 (g.next : Int)) := Kg.heap_cell hx 5
  have q := iCheck_any n0 W vo vs vh vr vq os ts g (hg.below (l1.mono hn)) (Nat.le_trans hn l1.size) (hL.keep l1) hl
  have HL1 : Hid _ := l1
  clear hg hL hl hx l1
  go_enter Tryz.func17, Tryz.ntmps17
  go_wp2_with fail
  refine q.mono ?_
  rintro e w1 ⟨r, rfl, b1, hr⟩
  have HB : Hid (Below w.heap.size w w1) := HL1.out.trans (b1.mono HL1.out.size)
  have HR : Hid ((r = 0 ∧ MB g) ∨ (r = 164 ∧ ¬ MB g)) := hr
  clear q b1 hr y0 y1 y2 y3 y4 y5
  go_wp2
  go_ret
  refine ⟨_, rfl, HB.out, ?_⟩
  rcases HR.out with ⟨rfl, h⟩ | ⟨rfl, h⟩
  · simp [h]
  · simp [h]

end Go.Proofs.YtckgcpoheodbcaaGreatDoor

/-
  Shortest paths: the document's Path, where it refuses.
-/
set_option linter.unusedVariables false
set_option maxRecDepth 20000
namespace Go.Proofs.YtckgcpoheodbcaaGreatDoor
open Go.RowKit Go.Shelf Go.Proofs.YtckgcpoheodbcaaGreatDoor.Lp

set_option maxHeartbeats 4000000 in
/-- No such graph may be. -/
theorem r17Path_no (n0 : Nat) (w : World) (vo vs vh vr vq : Value) (os : List OL) (ts : List (Value × List (Value × List Int))) (g : Im.Gr) (hg : Grd n0 w vo vs vh vr vq os ts g) (hn : n0 ≤ w.heap.size) (hl : Gln os ts g) (hm : ¬ MB g) (tt : Int) :
    Calls Tryz.prog 7 #[.agg (gcs vo vs vh vr vq g.next), .int .i64 tt] w fun e w' => e = .returned (.tuple #[.slice none 0 0, .int .i64 171]) ∧ Below w.heap.size w w' := by
  have l1 : Below w.heap.size w (w.alloc (.cells (gcs vo vs vh vr vq g.next) 27)) := Below.alloc (Below.refl _ _) (Nat.le_refl _) _
  have hx := heap_alloc_new w (.cells (gcs vo vs vh vr vq g.next) 27 (0, 0))
  generalize hW : w.alloc (.cells (gcs vo vs vh vr vq g.next) 27) = W at *
  have y0 : W.cell? ⟨w.heap.size, 0, none⟩ = some vo := Kg.heap_cell hx 0
  have y1 : W.cell? ⟨w.heap.size, 1, none⟩ = some vs := Kg.heap_cell hx 1
  have y2 : W.cell? ⟨w.heap.size, 2, none⟩ = some vh := Kg.heap_cell hx 2
  have y3 : W.cell? ⟨w.heap.size, 3, none⟩ = some vr := Kg.heap_cell hx 3
  have y4 : W.cell? ⟨w.heap.size, 4, none⟩ = some vq := Kg.heap_cell hx 4
  have y5 : W.cell? ⟨w.heap.size, 5, none⟩ = some (.int .u64 (g.next : Int)) := Kg.heap_cell hx 5
  have q := rCheck_any n0 W vo vs vh vr vq os ts g (hg.below (l1.mono hn)) (Nat.le_trans hn l1.size) hl
  have HL1 : Hid _ := l1
  have HM : Hid (¬ MB g) := hm
  clear hg hl hx l1 hm
  go_enter Tryz.func7, Tryz.ntmps7
  go_wp2_with fail
  refine q.mono ?_
  rintro e w1 ⟨r, rfl, b1, hr⟩
  have HB : Hid (Below w.heap.size w w1) := HL1.out.trans (b1.mono HL1.out.size)
  obtain rfl : r = 164 := by
    rcases hr with ⟨-, h⟩ | ⟨h, -⟩
    · exact absurd h HM.out
    · exact h
  clear q b1 hr y0 y1 y2 y3 y4 y5
  go_wp2
  go_ret2
  exact ⟨by simp, HB.out⟩

set_option maxHeartbeats 4000000 in
/-- No such object is there. -/
theorem r17Path_out (n0 : Nat) (w : World) (vo vs vh vr vq : Value) (os : List OL) (ts : List (Value × List (Value × List Int))) (g : Im.Gr) (hg : Grd n0 w vo vs vh vr vq os ts g) (hn : n0 ≤ w.heap.size) (hl : Gln os ts g) (hm : MB g) (tt : Int) (ht : ¬ (1 ≤ tt ∧ tt ≤ os.length)) :
    Calls Tryz.prog 7 #[.agg (gcs vo vs vh vr vq g.next), .int .i64 tt] w fun e w' => e = .returned (.tuple #[.slice none 0 0, .int .i64 170]) ∧ Below w.heap.size w w' := by
  have l1 : Below w.heap.size w (w.alloc (.cells (gcs vo vs vh vr vq g.next) 27)) := Below.alloc (Below.refl _ _) (Nat.le_refl _) _
  have hx := heap_alloc_new w (.cells (gcs vo vs vh vr vq g.next) 27 (0, 0))
  obtain ⟨oa, oc, eo, -⟩ := id hg.ob
  subst eo
  generalize hW : w.alloc (.cells (gcs (.slice oa os.length oc) vs vh vr vq g.next) 27) = W at *
  have y0 : W.cell? ⟨w.heap.size, 0, none⟩ = some (.slice oa os.length oc) := Kg.heap_cell hx 0
  have y1 : W.cell? ⟨w.heap.size, 1, none⟩ = some vs := Kg.heap_cell hx 1
  have y2 : W.cell? ⟨w.heap.size, 2, none⟩ = some vh := Kg.heap_cell hx 2
  have y3 : W.cell? ⟨w.heap.size, 3, none⟩ = some vr := Kg.heap_cell hx 3
  have y4 : W.cell? ⟨w.heap.size, 4, none⟩ = some vq := Kg.heap_cell hx 4
  have y5 : W.cell? ⟨w.heap.size, 5, none⟩ = some (.int .u64 (g.next : Int)) := Kg.heap_cell hx 5
  have q := rCheck_any n0 W _ vs vh vr vq os ts g (hg.below (l1.mono hn)) (Nat.le_trans hn l1.size) hl
  have HL1 : Hid _ := l1
  have HM : Hid (MB g) := hm
  have hlt := Kg.heap_lt hx
  clear hg hl hx l1 hm
  go_enter Tryz.func7, Tryz.ntmps7
  go_wp2_with fail
  refine q.mono ?_
  rintro e w1 ⟨r, rfl, b1, hr⟩
  have HB : Hid (Below w.heap.size w w1) := HL1.out.trans (b1.mono HL1.out.size)
  obtain rfl : r = 0 := by
    rcases hr with ⟨h, -⟩ | ⟨-, h⟩
    · exact h
    · exact absurd HM.out h
  have y0' : w1.cell? ⟨w.heap.size, 0, none⟩ = some (.slice oa os.length oc) := (b1.cell (p := ⟨w.heap.size, 0, none⟩) hlt).trans y0
  clear q b1 hr y0 y1 y2 y3 y4 y5
  by_cases h1 : tt < 1
  · have h1' : decide (tt < 1) = true := decide_eq_true h1
    go_wp2
    go_ret2
    exact ⟨by simp, HB.out⟩
  · have h1' : decide (tt < 1) = false := decide_eq_false h1
    have h2 : (os.length : Int) < tt := by omega
    have h2' : decide ((os.length : Int) < tt) = true := decide_eq_true h2
    go_wp2
    go_ret2
    exact ⟨by simp, HB.out⟩

end Go.Proofs.YtckgcpoheodbcaaGreatDoor

/-
  Shortest paths: the document's Path.
-/
set_option linter.unusedVariables false
set_option maxRecDepth 20000
namespace Go.Proofs.YtckgcpoheodbcaaGreatDoor
open Go.RowKit Go.Shelf Go.Proofs.YtckgcpoheodbcaaGreatDoor.Lp

/-- Numbers in a block of one's own. -/
structure Fw (w : World) (fb m : Nat) (fa : Nat → Nat) : Prop where
  ex : ∃ cs, w.heap[fb]? = some (.cells cs 3 (0, 0)) ∧ cs.size = m ∧ ∀ x, x < m → cs[x]? = some (.int .i64 (fa x : Nat))

theorem Fw.lt {w : World} {fb m : Nat} {fa : Nat → Nat} (h : Fw w fb m fa) : fb < w.heap.size := by
  obtain ⟨cs, h1, -⟩ := h.ex
  exact Kg.heap_lt h1

theorem Fw.cell {w : World} {fb m : Nat} {fa : Nat → Nat} (h : Fw w fb m fa) {x : Nat} (hx : x < m) : w.cell? ⟨fb, x, none⟩ = some (.int .i64 (fa x : Nat)) := by
  obtain ⟨cs, h1, -, h3⟩ := h.ex
  exact (Kg.heap_cell h1 x).trans (h3 x hx)

theorem Fw.frozen {w : World} {fb m : Nat} {fa : Nat → Nat} (h : Fw w fb m fa) (x : Nat) : w.frozen? ⟨fb, x, none⟩ = false := by
  obtain ⟨cs, h1, -⟩ := h.ex
  exact Kg.heap_frozen h1 x

theorem Fw.below {w w' : World} {fb m : Nat} {fa : Nat → Nat} (h : Fw w fb m fa) (hb : Below w.heap.size w w') : Fw w' fb m fa := by
  obtain ⟨cs, h1, h2, h3⟩ := h.ex
  exact ⟨cs, (hb.block _ (Kg.heap_lt h1)).trans h1, h2, h3⟩

theorem Fw.set {w : World} {fb m : Nat} {fa : Nat → Nat} (h : Fw w fb m fa) {x : Nat} (hx : x < m) (v : Nat) : Fw (w.setCell ⟨fb, x, none⟩ (.int .i64 (v : Nat))) fb m (fun y => if y = x then v else fa y) := by
  obtain ⟨cs, h1, h2, h3⟩ := h.ex
  refine ⟨cs.setIfInBounds x (.int .i64 (v : Nat)), Kg.heap_set h1 x _, by simp [h2], fun y hy => ?_⟩
  rw [Array.getElem?_setIfInBounds]
  by_cases e : x = y
  · subst e
    rw [if_pos rfl, if_pos (by rw [h2]; exact hx), if_pos rfl]
  · rw [if_neg e, if_neg (fun h => e h.symm)]
    exact h3 y hy

theorem make_ints17 (m : Nat) (hm : m ≤ 1000000000001) : ∀ w, (Instr.makeSlice 24 (.int .i64 (m : Int)) (.int .i64 (m : Int))).run Tryz.prog w = .ok (.slice (some ⟨w.heap.size, 0, none⟩) m m) (w.alloc (.cells (madeCells #[.int .i64 0] m) 3)) := fun w => by
  obtain ⟨i0, hi0, hz0, hz1, hz2⟩ := info_p17 infoI17
  have := run_make (P := Tryz.prog) w 24 3 i0 (.int .i64 0) Tryz.underlying24 hi0 hz0 .i64 .i64 m m (by omega) (Int.le_refl _) (by rw [hz2]; omega) (by omega)
  rw [hz1, Nat.mul_one] at this
  exact this

theorem Fw.new (w : World) (m : Nat) : Fw (w.alloc (.cells (madeCells #[.int .i64 0] m) 3)) w.heap.size m (fun _ => 0) :=
  ⟨_, heap_alloc_new w _, by simp [madeCells], fun x hx => by simp [madeCells, hx, Nat.mod_one]⟩

end Go.Proofs.YtckgcpoheodbcaaGreatDoor

