/-
  A set of numbers in memory.
-/
import Derived.Test.YtfihjmoaibmllaaDoorPYa
import Derived.Maps.OwnSet
set_option linter.unusedVariables false
set_option maxRecDepth 20000
namespace Go.Proofs.YtfihjmoaibmllaaDoor
open Go.RowKit Go.Shelf

theorem Tryd.keyed : Maps.Keyed Tryd.prog 3 := Maps.int_keyed Tryd.underlying3
theorem Tryd.zeroU (w : World) : (zeroValue 115).run Tryd.prog w = .ok (.agg #[]) w := by kernel_rfl

theorem wf_of {a : Int} (h : InI a) : (Lit.int .i64 a).wf = true := by
  simp [Lit.wf, IntKind.min, IntKind.max, IntKind.signed, IntKind.bits]
  exact h

theorem key_of {a : Int} (h : InI a) : keyOf Tryd.prog 3 (.int .i64 a) = some (.int .i64 a) := Maps.keyOf_int_mk Tryd.underlying3 (wf_of h)

theorem keyLit (a : Int) : WideAt.IsKeyLit (.int .i64 a) := by simp [WideAt.IsKeyLit]

/-- Block mb is a set of numbers, of at most n entries. -/
def Ms (w : World) (mb n : Nat) (S : Int → Bool) : Prop := ∃ D : DataW Nat, w.ownsMap Tryd.prog 3 unitElem mb n D ∧ ∀ a, InI a → Maps.has D (.int .i64 a) = S a

section
variable {w w' : World} {mb n : Nat} {S : Int → Bool}

theorem Ms.is (h : Ms w mb n S) : ∃ es cl, w.heap[mb]? = some (.map es cl) := by
  obtain ⟨D, ⟨es, cl, h1, -⟩, -⟩ := h
  exact ⟨es, cl, h1⟩

theorem Ms.lt (h : Ms w mb n S) : mb < w.heap.size := by
  obtain ⟨es, cl, h1⟩ := h.is
  exact (Array.getElem?_eq_some_iff.1 h1).1

theorem Ms.keep (h : Ms w mb n S) (k : w'.heap[mb]? = w.heap[mb]?) : Ms w' mb n S := by
  obtain ⟨D, ⟨es, cl, h1, h2⟩, h3⟩ := h
  exact ⟨D, ⟨es, cl, k.trans h1, h2⟩, h3⟩

theorem Ms.below (h : Ms w mb n S) (l : Below w.heap.size w w') : Ms w' mb n S := h.keep (l.block _ h.lt)

theorem Ms.mono (h : Ms w mb n S) {m : Nat} (l : n ≤ m) : Ms w mb m S := by
  obtain ⟨D, h1, h2⟩ := h
  exact ⟨D, h1.mono l, h2⟩

theorem Ms.made (w : World) : Ms (w.alloc (.map #[] 0)) w.heap.size 0 (fun _ => false) :=
  ⟨.map [], World.ownsMap_made w _ _ _, fun a _ => by simp [Maps.has]⟩

theorem Ms.ne {b t : Nat} {cs : Array Value} {z : Nat × Nat} (h : Ms w mb n S) (k : w.heap[b]? = some (.cells cs t z)) : b ≠ mb := by
  rintro rfl
  obtain ⟨es, cl, h1⟩ := h.is
  rw [h1] at k
  simp at k

theorem turned_touch {b : Nat} (h : w.mapTurned w' b) : Touch [b] w w' := by
  obtain ⟨es, cl, es', cl', h1, rfl⟩ := h
  refine ⟨rfl, rfl, rfl, by simp [ChangeMaps.setBlock], fun k hk hn => ?_⟩
  simp at hn
  simp [ChangeMaps.setBlock, Array.getElem?_setIfInBounds]
  intro e
  exact absurd e.symm hn

theorem Ms.put {D : DataW Nat} {a : Int} (ha : InI a) (h0 : w.ownsMap Tryd.prog 3 unitElem mb n D) (hS : ∀ a, InI a → Maps.has D (.int .i64 a) = S a) (h : w'.ownsMap Tryd.prog 3 unitElem mb (n + 1) (D.put (.int .i64 a) (.agg []))) : Ms w' mb (n + 1) (fun y => decide (y = a) || S y) := by
  refine ⟨_, h, fun y hy => ?_⟩
  by_cases e : y = a
  · subst e
    rw [Maps.has_put_same h0.isMap (keyLit y)]
    simp
  · rw [Maps.has_put_other (by intro h; exact e (by simpa using h)), hS y hy]
    simp [e]

theorem Ms.del {D : DataW Nat} {a : Int} (hS : ∀ a, InI a → Maps.has D (.int .i64 a) = S a) (h : w'.ownsMap Tryd.prog 3 unitElem mb n (D.del (.int .i64 a))) : Ms w' mb n (fun y => !decide (y = a) && S y) := by
  refine ⟨_, h, fun y hy => ?_⟩
  by_cases e : y = a
  · subst e
    rw [Maps.has_del_same]
    simp
  · rw [Maps.has_del_other (by intro h; exact e (by simpa using h)), hS y hy]
    simp [e]

theorem Ms.congr {S' : Int → Bool} (h : Ms w mb n S) (e : ∀ a, InI a → S a = S' a) : Ms w mb n S' := by
  obtain ⟨D, h1, h2⟩ := h
  exact ⟨D, h1, fun a ha => (h2 a ha).trans (e a ha)⟩
end

end Go.Proofs.YtfihjmoaibmllaaDoor
