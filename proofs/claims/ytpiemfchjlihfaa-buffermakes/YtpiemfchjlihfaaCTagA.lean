/-
  Words; new blocks.
-/
import Derived.Test.YtpiemfchjlihfaaRows
import Derived.WalkKit
import Derived.WalkSpells
import Derived.WalkLawsBesides
import Derived.Below
import Derived.Deep.QuietTactic
import Derived.BigQuiet
import Derived.Deep.Cut
import Derived.Laws.BitsAllLaws
import Derived.Laws.StructEq
set_option linter.unusedVariables false
namespace Go.Proofs.Ytpiemfchjlihfaa
open Go.RowKit

/-- A word. -/
abbrev Wd (m : Int) : Prop := 0 ≤ m ∧ m < 18446744073709551616

theorem wrap64_low {m : Int} (h0 : 0 ≤ m) (h1 : m < 9223372036854775808) : wrap64 m = m := by
  unfold wrap64; omega

theorem mask {m : Int} (b c : Nat) (hc : c = 2 ^ b - 1) (hb : c < 18446744073709551616) (h : Wd m) : bits .and .u64 m (c : Int) = m % ((2 ^ b : Nat) : Int) := by
  obtain ⟨h0, h1⟩ := h
  rw [u64_and m c h0 h1 (by omega) (by omega)]
  obtain ⟨k, rfl⟩ := Int.eq_ofNat_of_zero_le h0
  simp only [Int.toNat_natCast, hc, Nat.and_two_pow_sub_one_eq_mod]
  exact Int.natCast_emod k (2 ^ b)

theorem push_modify {α : Type} (xs : Array α) (x : α) (f : α → α) : (xs.push x).modify xs.size f = xs.push (f x) := by
  apply Array.ext_getElem?
  intro i
  simp only [Array.getElem?_modify, Array.getElem?_push]
  by_cases h : xs.size = i
  · subst h; simp
  · have h' : ¬ i = xs.size := fun e => h e.symm
    simp [h, h']

theorem set_new (w : World) (t : TypeId) (cs : Array Value) (j : Nat) (v : Value) :
    (w.alloc (.cells cs t)).setCell ⟨w.heap.size, j, none⟩ v = w.alloc (.cells (cs.setIfInBounds j v) t) := by
  unfold World.setCell World.alloc
  simp only []
  rw [push_modify]
  simp

end Go.Proofs.Ytpiemfchjlihfaa
