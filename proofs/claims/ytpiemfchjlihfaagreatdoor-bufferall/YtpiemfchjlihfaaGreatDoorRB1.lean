/-
  The document's buffers: in memory; is, Room, Rest, New.
-/
import Derived.Test.YtpiemfchjlihfaaGreatDoorPBb
set_option linter.unusedVariables false
set_option maxRecDepth 20000
namespace Go.Proofs.YtpiemfchjlihfaaGreatDoor
open Go.RowKit Go.Shelf

/-- The document's buffers: where each rest begins, how long it is. -/
structure Rbs (w : World) (vb ga gr n : Nat) (sz : Int) (at_ rs : Nat → Int) : Prop where
  own : w.heap[vb]? = some (.cells #[.int .i64 sz, .slice (some ⟨ga, 0, none⟩) n n, .slice (some ⟨gr, 0, none⟩) n n] 77 (0, 0))
  ra : w.rowIs ga 3 n (fun j => .int .i64 (at_ j))
  rr : w.rowIs gr 3 n (fun j => .int .i64 (rs j))
  ne : ga ≠ gr
  n1 : 1 ≤ n ∧ n ≤ 8
  s1 : 0 ≤ sz ∧ sz ≤ 65536

section
variable {w w' : World} {vb ga gr n : Nat} {sz : Int} {at_ rs : Nat → Int}

theorem Rbs.lt (h : Rbs w vb ga gr n sz at_ rs) : vb < w.heap.size := (Array.getElem?_eq_some_iff.1 h.own).1
theorem Rbs.keep (h : Rbs w vb ga gr n sz at_ rs) (hk : ∀ q, q ∈ [vb, ga, gr] → w'.heap[q]? = w.heap[q]?) : Rbs w' vb ga gr n sz at_ rs :=
  ⟨(hk vb (by simp)).trans h.own, h.ra.of_block (hk ga (by simp)), h.rr.of_block (hk gr (by simp)), h.ne, h.n1, h.s1⟩
theorem Rbs.lts (h : Rbs w vb ga gr n sz at_ rs) (q : Nat) (hq : q ∈ [vb, ga, gr]) : q < w.heap.size := by
  have h1 := h.lt
  have h2 := h.ra.lt
  have h3 := h.rr.lt
  simp only [List.mem_cons, List.not_mem_nil, or_false] at hq
  omega
theorem Rbs.below (h : Rbs w vb ga gr n sz at_ rs) (l : Below w.heap.size w w') : Rbs w' vb ga gr n sz at_ rs := h.keep fun q hq => l.block q (h.lts q hq)
theorem Rbs.touch {F : List Nat} (h : Rbs w vb ga gr n sz at_ rs) (t : Touch F w w') (hF : ∀ q, q ∈ [vb, ga, gr] → q ∉ F) : Rbs w' vb ga gr n sz at_ rs := h.keep fun q hq => t.block q (h.lts q hq) (hF q hq)
theorem Rbs.apart (h : Rbs w vb ga gr n sz at_ rs) : vb ≠ ga ∧ vb ≠ gr := by
  have key : ∀ {p : Nat} {f : Nat → Value}, w.rowIs p 3 n f → vb ≠ p := fun h1 e => by
    obtain ⟨c1, e1, _⟩ := h1
    rw [← e, h.own] at e1
    injection e1 with e2
    injection e2 with _ e3
    revert e3
    decide
  exact ⟨key h.ra, key h.rr⟩
theorem Rbs.c0 (h : Rbs w vb ga gr n sz at_ rs) : w.cell? ⟨vb, 0, none⟩ = some (.int .i64 sz) := cell_of_row _ _ 0 _ _ _ h.own
theorem Rbs.c1 (h : Rbs w vb ga gr n sz at_ rs) : w.cell? ⟨vb, 1, none⟩ = some (.slice (some ⟨ga, 0, none⟩) n n) := cell_of_row _ _ 1 _ _ _ h.own
theorem Rbs.c2 (h : Rbs w vb ga gr n sz at_ rs) : w.cell? ⟨vb, 2, none⟩ = some (.slice (some ⟨gr, 0, none⟩) n n) := cell_of_row _ _ 2 _ _ _ h.own

/-- One number is written. -/
theorem Rbs.setA (h : Rbs w vb ga gr n sz at_ rs) (t : Nat) (v : Int) : Rbs (w.setCell ⟨ga, t, none⟩ (.int .i64 v)) vb ga gr n sz (upd at_ t v) rs := by
  obtain ⟨h1, h2⟩ := h.apart
  refine ⟨(Below.heap_setCell _ _ _ _ h1).trans h.own, (h.ra.set t _).congr (fun k hk => ?_), h.rr.of_block (Below.heap_setCell _ _ _ _ h.ne.symm), h.ne, h.n1, h.s1⟩
  show (if k = t then Value.int .i64 v else Value.int .i64 (at_ k)) = Value.int .i64 (if k = t then v else at_ k)
  split
  · rfl
  · rfl
theorem Rbs.setR (h : Rbs w vb ga gr n sz at_ rs) (t : Nat) (v : Int) : Rbs (w.setCell ⟨gr, t, none⟩ (.int .i64 v)) vb ga gr n sz at_ (upd rs t v) := by
  obtain ⟨h1, h2⟩ := h.apart
  refine ⟨(Below.heap_setCell _ _ _ _ h2).trans h.own, h.ra.of_block (Below.heap_setCell _ _ _ _ h.ne), (h.rr.set t _).congr (fun k hk => ?_), h.ne, h.n1, h.s1⟩
  show (if k = t then Value.int .i64 v else Value.int .i64 (rs k)) = Value.int .i64 (if k = t then v else rs k)
  split
  · rfl
  · rfl

theorem r13is_any (h : Rbs w vb ga gr n sz at_ rs) (t : Int) :
    Calls Tryz.prog 56 #[.pointer (some ⟨vb, 0, none⟩), .int .i64 t] w fun e w' => e = .returned (.bool (decide (0 ≤ t ∧ t < n))) ∧ w = w' := by
  have k1 := h.c1
  clear h
  by_cases h0 : 0 ≤ t
  · by_cases h1 : t < n
    · rw [decide_eq_true (⟨h0, h1⟩ : 0 ≤ t ∧ t < (n : Int))]
      go_enter Tryz.func56, Tryz.ntmps56
      go_wp2
      go_ret
      exact ⟨rfl, rfl⟩
    · rw [decide_eq_false (fun hh : 0 ≤ t ∧ t < (n : Int) => h1 hh.2)]
      go_enter Tryz.func56, Tryz.ntmps56
      go_wp2
      go_ret
      exact ⟨rfl, rfl⟩
  · rw [decide_eq_false (fun hh : 0 ≤ t ∧ t < (n : Int) => h0 hh.1)]
    go_enter Tryz.func56, Tryz.ntmps56
    go_wp2
    go_ret
    exact ⟨rfl, rfl⟩

end
end Go.Proofs.YtpiemfchjlihfaaGreatDoor
