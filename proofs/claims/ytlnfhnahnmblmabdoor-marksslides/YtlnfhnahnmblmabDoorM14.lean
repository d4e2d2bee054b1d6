/-
  filled.
-/
import Derived.Test.YtlnfhnahnmblmabDoorM13
set_option linter.unusedVariables false
namespace Go.Proofs.YtlnfhnahnmblmabDoor
open Go.RowKit Go.Shelf

/-- A list of numbers that came in. -/
def Lst (w : World) (a : Option Addr) (l : List Int) : Prop :=
  ∀ i u, l[i]? = some u → (-9223372036854775808 ≤ u ∧ u ≤ 9223372036854775807) ∧ ∃ b off, a = some ⟨b, off, none⟩ ∧ b < w.heap.size ∧ w.cell? ⟨b, off + i, none⟩ = some (.int .i64 u)

theorem Lst.below {w w' : World} {a : Option Addr} {l : List Int} (h : Lst w a l) (bel : Below w.heap.size w w') : Lst w' a l := fun i u hu => by
  obtain ⟨h0, b, off, h1, h2, h3⟩ := h i u hu
  exact ⟨h0, b, off, h1, Nat.lt_of_lt_of_le h2 bel.size, (bel.cell h2).trans h3⟩

def fil1 (n : Nat) (M : Nat → Bool) (x y : Int) : Nat → Bool := if 0 ≤ x ∧ 0 ≤ y ∧ y ≤ (n : Int) - x then add M x.toNat (x.toNat + y.toNat) else M

/-- Pieces marked one behind the other. -/
def fil (n : Nat) : List Int → (Nat → Bool) → (Nat → Bool)
  | x :: y :: r, M => fil n r (fil1 n M x y)
  | [_], M => M
  | [], M => M

theorem num_any (e : Int) (w : World) : Calls Tryd.prog 11 #[.int .i64 e] w fun r w' => r = .returned (.int .i64 e) ∧ w = w' := by
  go_enter Tryd.func11, Tryd.ntmps11
  go_wp2
  go_ret
  exact ⟨rfl, rfl⟩

end Go.Proofs.YtlnfhnahnmblmabDoor
