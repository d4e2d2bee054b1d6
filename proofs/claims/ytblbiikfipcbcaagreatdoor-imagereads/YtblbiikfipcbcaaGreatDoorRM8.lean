/-
  Images, lists with room behind them: objects.
-/
import Derived.Test.YtblbiikfipcbcaaGreatDoorRM7
set_option linter.unusedVariables false
set_option maxRecDepth 20000
namespace Go.Proofs.YtblbiikfipcbcaaGreatDoor
open Go.RowKit Go.Shelf

theorem infoO : (Tryz.prog.info? 58).map (fun i => (i.zero, i.size, i.bytes)) = some (some (.agg (ocs 0 0 0 (.slice none 0 0) (.slice none 0 0))), 5, 72) := by kernel_rfl
theorem infoOS : (Tryz.prog.info? 23).map (fun i => (i.zero, i.size, i.bytes)) = some (some (.slice none 0 0), 1, 24) := by kernel_rfl

theorem info_parts5 {o : Option TypeInfo} {z : Option Value} {s b : Nat} (h : o.map (fun i => (i.zero, i.size, i.bytes)) = some (z, s, b)) : ∃ i, o = some i ∧ i.zero = z ∧ i.size = s ∧ i.bytes = b := by
  cases o with
  | none => cases h
  | some i =>
    simp only [Option.map_some, Option.some.injEq, Prod.mk.injEq] at h
    exact ⟨i, rfl, h.1, h.2.1, h.2.2⟩

/-- Objects in a block of their own. -/
structure GotO (w : World) (N : Nat → Nat) (F : List Nat) (lo b : Nat) (v : Value) (L : List OL) : Prop where
  is : v = .slice (some ⟨b, 0, none⟩) L.length (L.length + 8)
  l : lo ≤ b
  lt : b < w.heap.size
  f : b ∉ F
  n : N b = L.length * 5
  c : ∀ (i : Nat) x, L[i]? = some x → (∀ j, j < 5 → w.cell? ⟨b, i * 5 + j, none⟩ = x.cells[j]?) ∧ PO lo w N F x
  fr : ∀ f, w.frozen? ⟨b, f, none⟩ = false

theorem GotO.stp {w w' : World} {N N' : Nat → Nat} {F F' : List Nat} {lo b : Nat} {v : Value} {L : List OL} (h : GotO w N F lo b v L) (s : Stp w w' F F' N N') : GotO w' N' F' lo b v L :=
  ⟨h.is, h.l, s.lt h.lt, s.out h.lt h.f, by rw [s.n b h.lt h.f]; exact h.n, fun i x hx => ⟨fun j hj => by rw [s.cell h.lt h.f]; exact (h.c i x hx).1 j hj, (h.c i x hx).2.stp s⟩, fun f => by rw [s.frozen h.lt h.f]; exact h.fr f⟩

end Go.Proofs.YtblbiikfipcbcaaGreatDoor
