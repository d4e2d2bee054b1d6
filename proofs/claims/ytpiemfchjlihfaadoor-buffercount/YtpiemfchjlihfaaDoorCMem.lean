/-
  What the two tables of package cell hold; steps that only lay new blocks.
-/
import Derived.Test.YtpiemfchjlihfaaDoorRows
import Derived.WalkKit
import Derived.WalkSpells
import Derived.WalkLawsBesides
import Derived.Below
import Derived.Deep.QuietTactic
import Derived.BigQuiet
import Derived.Laws.BitsAllLaws
import Derived.Laws.StructEq
set_option linter.unusedVariables false
namespace Go.Proofs.YtpiemfchjlihfaaDoor
open Go.RowKit

/-- The bounds of the parts: one block. -/
def LaidB (w : World) : Prop :=
  w.cell? ⟨1, 0, none⟩ = some (.int .i64 0) ∧ w.cell? ⟨1, 1, none⟩ = some (.int .i64 2) ∧ w.cell? ⟨1, 2, none⟩ = some (.int .i64 5) ∧ w.cell? ⟨1, 3, none⟩ = some (.int .i64 6) ∧
  w.cell? ⟨1, 4, none⟩ = some (.int .i64 10) ∧ w.cell? ⟨1, 5, none⟩ = some (.int .i64 18) ∧ w.cell? ⟨1, 6, none⟩ = some (.int .i64 30) ∧ w.cell? ⟨1, 7, none⟩ = some (.int .i64 46) ∧ w.cell? ⟨1, 8, none⟩ = some (.int .i64 64)

/-- The kinds: another block. -/
def LaidK (w : World) : Prop :=
  w.cell? ⟨0, 0, none⟩ = some (.bool false) ∧ w.cell? ⟨0, 1, none⟩ = some (.int .i64 0) ∧ w.cell? ⟨0, 2, none⟩ = some (.bool true) ∧ w.cell? ⟨0, 3, none⟩ = some (.int .i64 0) ∧
  w.cell? ⟨0, 4, none⟩ = some (.bool true) ∧ w.cell? ⟨0, 5, none⟩ = some (.int .i64 1) ∧ w.cell? ⟨0, 6, none⟩ = some (.bool true) ∧ w.cell? ⟨0, 7, none⟩ = some (.int .i64 2) ∧
  w.cell? ⟨0, 8, none⟩ = some (.bool true) ∧ w.cell? ⟨0, 9, none⟩ = some (.int .i64 0)

theorem LaidB.keep {w w' : World} (h : LaidB w) (b : Below w.heap.size w w') : LaidB w' := by
  have k : ∀ j v, w.cell? ⟨1, j, none⟩ = some v → w'.cell? ⟨1, j, none⟩ = some v := fun j v hc => (b.cell (World.block_lt_of_cell? _ _ hc)).trans hc
  obtain ⟨h0, h1, h2, h3, h4, h5, h6, h7, h8⟩ := h
  exact ⟨k _ _ h0, k _ _ h1, k _ _ h2, k _ _ h3, k _ _ h4, k _ _ h5, k _ _ h6, k _ _ h7, k _ _ h8⟩

theorem LaidK.keep {w w' : World} (h : LaidK w) (b : Below w.heap.size w w') : LaidK w' := by
  have k : ∀ j v, w.cell? ⟨0, j, none⟩ = some v → w'.cell? ⟨0, j, none⟩ = some v := fun j v hc => (b.cell (World.block_lt_of_cell? _ _ hc)).trans hc
  obtain ⟨h0, h1, h2, h3, h4, h5, h6, h7, h8, h9⟩ := h
  exact ⟨k _ _ h0, k _ _ h1, k _ _ h2, k _ _ h3, k _ _ h4, k _ _ h5, k _ _ h6, k _ _ h7, k _ _ h8, k _ _ h9⟩

theorem LaidB.drewN {w : World} (h : LaidB w) (n : Nat) : LaidB (w.drewN n) := h

/-- A word. -/
abbrev Wd (m : Int) : Prop := 0 ≤ m ∧ m < 18446744073709551616

theorem wrap64_low {m : Int} (h0 : 0 ≤ m) (h1 : m < 9223372036854775808) : wrap64 m = m := by
  unfold wrap64; omega

theorem mask {m : Int} (b c : Nat) (hc : c = 2 ^ b - 1) (hb : c < 18446744073709551616) (h : Wd m) : bits .and .u64 m (c : Int) = m % ((2 ^ b : Nat) : Int) := by
  obtain ⟨h0, h1⟩ := h
  rw [u64_and m c h0 h1 (by omega) (by omega)]
  obtain ⟨k, rfl⟩ := Int.eq_ofNat_of_zero_le h0
  simp only [Int.toNat_natCast, hc, Nat.and_two_pow_sub_one_eq_mod]
  exact Int.natCast_emod k (2 ^ b)

end Go.Proofs.YtpiemfchjlihfaaDoor
