/-
  MarksSums$1, walked.
-/
import Derived.Test.YtlnfhnahnmblmabDoorM21
set_option linter.unusedVariables false
set_option maxRecDepth 100000
namespace Go.Proofs.YtlnfhnahnmblmabDoor
open Go.RowKit Go.Shelf

theorem rk_all {M : Nat → Bool} {a : Nat} : ∀ d, (∀ k, a ≤ k → k < a + d → M k = true) → rk M (a + d) = rk M a + d
  | 0, _ => by simp
  | d + 1, h => by
    rw [← Nat.add_assoc]
    simp only [rk]
    rw [rk_all d (fun k h1 h2 => h k h1 (by omega)), h (a + d) (by omega) (by omega)]
    simp; omega

theorem box_touch {w w' : World} {B : Nat} {t : TypeId} {v : Value} {F : List Nat} (h : Boxed w B t v) (l : Touch F w w') (hn : B ∉ F) : Boxed w' B t v := (l.block B h.lt hn).trans h
theorem box_below {w w' : World} {B : Nat} {t : TypeId} {v : Value} (h : Boxed w B t v) (l : Below w.heap.size w w') : Boxed w' B t v := (l.block B h.lt).trans h

/-- What MarksSums keeps while it goes through the runs. -/
structure Sm (gB eB wB mB sB b g n : Nat) (M : Nat → Bool) (pre : List (Nat × Nat)) (W : World) : Prop where
  gd : Boxed W gB 4 (.bool true)
  en : Boxed W eB 3 (.int .i64 (lastEnd pre))
  wo : Boxed W wB 3 (.int .i64 n)
  ma : Boxed W mB 31 (.pointer (some ⟨b, 0, none⟩))
  su : Boxed W sB 3 (.int .i64 (lens pre : Nat))
  mp : Mp W b g n M
  la : Laid W

theorem Sm.below {gB eB wB mB sB b g n : Nat} {M : Nat → Bool} {pre : List (Nat × Nat)} {W W' : World} (h : Sm gB eB wB mB sB b g n M pre W) (l : Below W.heap.size W W') : Sm gB eB wB mB sB b g n M pre W' :=
  ⟨box_below h.gd l, box_below h.en l, box_below h.wo l, box_below h.ma l, box_below h.su l, h.mp.below l, h.la.below l⟩

/-- The three variables that are written, and the others, are blocks of their own. -/
structure Ap (gB eB wB mB sB b g : Nat) : Prop where
  ge : gB ≠ eB
  gs : gB ≠ sB
  es : eB ≠ sB
  o : ∀ k ∈ [gB, eB, sB], k ≠ wB ∧ k ≠ mB ∧ k ≠ b ∧ k ≠ g ∧ k ≠ 0 ∧ k ≠ 1

end Go.Proofs.YtlnfhnahnmblmabDoor
