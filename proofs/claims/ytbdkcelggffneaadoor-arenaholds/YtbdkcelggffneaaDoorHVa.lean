/-
  The things, as they are read.
-/
import Derived.Test.YtbdkcelggffneaaDoorHO
import Derived.Test.YtbdkcelggffneaaDoorPHq
import Derived.Test.YtbdkcelggffneaaDoorA16
set_option linter.unusedVariables false
set_option maxRecDepth 20000
namespace Go.Proofs.YtbdkcelggffneaaDoor
open Go.RowKit Go.Shelf

/-- A thing: where, its header, the blocks of its fields and the fields. -/
structure Tng where
  at_ : Int
  sp : Int
  s : Int
  k : Int
  p : Int
  r : Int
  a : Int
  t : Int
  h : Bool
  gp : Nat
  gr : Nat
  ps : List Int
  rs : List Int

abbrev Tng.cells (T : Tng) : Array Value := tcells T.at_ T.sp T.s T.k T.p T.r T.a T.t T.h (.slice (some ⟨T.gp, 0, none⟩) T.ps.length T.ps.length) (.slice (some ⟨T.gr, 0, none⟩) T.rs.length T.rs.length)

/-- The things, as they are read. -/
structure Tgs (w : World) (a0 : Option Addr) (th : List Tng) : Prop where
  cell : ∀ (i : Nat) T, th[i]? = some T → ∃ ga, a0 = some ⟨ga, 0, none⟩ ∧ ga < w.heap.size ∧ ∀ j, j < 11 → w.cell? ⟨ga, i * 11 + j, none⟩ = T.cells[j]?
  ps : ∀ (i : Nat) T, th[i]? = some T → ∀ (f : Nat) z, T.ps[f]? = some z → w.cell? ⟨T.gp, f, none⟩ = some (.int .i64 z)
  rs : ∀ (i : Nat) T, th[i]? = some T → ∀ (f : Nat) z, T.rs[f]? = some z → w.cell? ⟨T.gr, f, none⟩ = some (.int .u64 z)

theorem Tgs.below {w w' : World} {a0 : Option Addr} {th : List Tng} (h : Tgs w a0 th) (l : Below w.heap.size w w') : Tgs w' a0 th := by
  have cl : ∀ {q : Addr} {u : Value}, w.cell? q = some u → w'.cell? q = some u := fun hq => (l.cell (World.block_lt_of_cell? _ _ hq)).trans hq
  refine ⟨fun i T hT => ?_, fun i T hT f z hz => cl (h.ps i T hT f z hz), fun i T hT f z hz => cl (h.rs i T hT f z hz)⟩
  obtain ⟨ga, h1, h2, h3⟩ := h.cell i T hT
  exact ⟨ga, h1, Nat.lt_of_lt_of_le h2 l.size, fun j hj => (l.cell (p := ⟨ga, i * 11 + j, none⟩) h2).trans (h3 j hj)⟩

/-- What the taker took. -/
structure Tok (w : World) (tb : Nat) (ts : List Tng) : Prop where
  t0 : ∃ a1 c1, w.cell? ⟨tb, 0, none⟩ = some (.slice a1 ts.length c1) ∧ ∀ (i : Nat) T, ts[i]? = some T → ∃ q, a1 = some ⟨q, 0, none⟩ ∧ w.cell? ⟨q, i, none⟩ = some (.int .i64 T.at_)
  t1 : ∀ (i : Nat) T, ts[i]? = some T → ∃ q cap, w.cell? ⟨tb, 1, none⟩ = some (.slice (some ⟨q, 0, none⟩) ts.length cap) ∧ ∀ j, j < 7 → w.cell? ⟨q, i * 7 + j, none⟩ = (hcells T.s T.k T.p T.r T.a T.t T.h)[j]?

theorem Tok.below {w w' : World} {tb : Nat} {ts : List Tng} (h : Tok w tb ts) (l : Below w.heap.size w w') : Tok w' tb ts := by
  have cl : ∀ {q : Addr} {u : Value}, w.cell? q = some u → w'.cell? q = some u := fun hq => (l.cell (World.block_lt_of_cell? _ _ hq)).trans hq
  refine ⟨?_, fun i T hT => ?_⟩
  · obtain ⟨a1, c1, h1, h2⟩ := h.t0
    refine ⟨a1, c1, cl h1, fun i T hT => ?_⟩
    obtain ⟨q, h3, h4⟩ := h2 i T hT
    exact ⟨q, h3, cl h4⟩
  · obtain ⟨q, cap, h1, h2⟩ := h.t1 i T hT
    refine ⟨q, cap, cl h1, fun j hj => ?_⟩
    have h3 := h2 j hj
    have : ∃ u, (hcells T.s T.k T.p T.r T.a T.t T.h)[j]? = some u := by
      match j, hj with
      | 0, _ | 1, _ | 2, _ | 3, _ | 4, _ | 5, _ | 6, _ => exact ⟨_, rfl⟩
    obtain ⟨u, hu⟩ := this
    rw [hu] at h3 ⊢
    exact cl h3

theorem filter_at {α : Type} (p : α → Bool) (l : List α) (i : Nat) (y : α) (hy : l[i]? = some y) (hp : p y = true) : (l.filter p)[((l.take i).filter p).length]? = some y ∧ ((l.take (i + 1)).filter p).length = ((l.take i).filter p).length + 1 := by
  have hi : i < l.length := (List.getElem?_eq_some_iff.1 hy).1
  have h1 : l = l.take i ++ y :: l.drop (i + 1) := by
    have h2 : l.drop i = y :: l.drop (i + 1) := by rw [List.drop_eq_getElem_cons hi, (List.getElem?_eq_some_iff.1 hy).2]
    rw [← h2, List.take_append_drop]
  have h3 : l.take (i + 1) = l.take i ++ [y] := by rw [List.take_add_one, hy]; rfl
  constructor
  · conv => lhs; rw [h1]
    rw [List.filter_append, List.filter_cons_of_pos hp]
    have h4 : ((l.take i ++ y :: l.drop (i + 1)).take i) = l.take i := by rw [← h1]
    rw [h4, List.getElem?_append_right (Nat.le_refl _)]
    simp
  · rw [h3, List.filter_append, List.filter_cons_of_pos hp]
    simp

theorem filter_no {α : Type} (p : α → Bool) (l : List α) (i : Nat) (y : α) (hy : l[i]? = some y) (hp : p y = false) : ((l.take (i + 1)).filter p).length = ((l.take i).filter p).length := by
  have h3 : l.take (i + 1) = l.take i ++ [y] := by rw [List.take_add_one, hy]; rfl
  rw [h3, List.filter_append, List.filter_cons_of_neg (by simp [hp])]
  simp

abbrev inS (s : Nat) (T : Tng) : Bool := decide (T.sp = (s : Int))

end Go.Proofs.YtbdkcelggffneaaDoor
