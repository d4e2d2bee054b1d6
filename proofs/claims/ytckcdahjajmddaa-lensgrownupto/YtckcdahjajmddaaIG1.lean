/-
  Images: lists of numbers as they are read; are all numbers of a list within bounds?
-/
import Derived.Test.YtckcdahjajmddaaPCa
import Derived.Test.YtckcdahjajmddaaPKm
import Derived.Test.YtckcdahjajmddaaPIp
import Derived.RangeFuncBox
import Derived.Shelf.Abstract
set_option linter.unusedVariables false
set_option maxRecDepth 20000
namespace Go.Proofs.Ytckcdahjajmddaa
open Go.RowKit Go.Shelf

def InI (x : Int) : Prop := -9223372036854775808 ≤ x ∧ x ≤ 9223372036854775807

/-- v reads as the numbers xs, in a block below n0. -/
def Lrd (n0 : Nat) (w : World) (v : Value) (k : IntKind) (xs : List Int) : Prop :=
  ∃ a cap, v = .slice a xs.length cap ∧ xs.length ≤ cap ∧ ∀ (f : Nat) z, xs[f]? = some z → ∃ q off, a = some ⟨q, off, none⟩ ∧ q < n0 ∧ w.cell? ⟨q, off + f, none⟩ = some (.int k z)

theorem Lrd.below {n0 : Nat} {w w' : World} {v : Value} {k : IntKind} {xs : List Int} (h : Lrd n0 w v k xs) (l : Below n0 w w') : Lrd n0 w' v k xs := by
  obtain ⟨a, cap, h1, h2, h3⟩ := h
  refine ⟨a, cap, h1, h2, fun f z hz => ?_⟩
  obtain ⟨q, off, h4, h5, h6⟩ := h3 f z hz
  exact ⟨q, off, h4, h5, (l.cell (p := ⟨q, off + f, none⟩) h5).trans h6⟩

theorem Lrd.mono {n0 n1 : Nat} {w : World} {v : Value} {k : IntKind} {xs : List Int} (h : Lrd n0 w v k xs) (l : n0 ≤ n1) : Lrd n1 w v k xs := by
  obtain ⟨a, cap, h1, h2, h3⟩ := h
  refine ⟨a, cap, h1, h2, fun f z hz => ?_⟩
  obtain ⟨q, off, h4, h5, h6⟩ := h3 f z hz
  exact ⟨q, off, h4, Nat.lt_of_lt_of_le h5 l, h6⟩

theorem row_at {w : World} {e size n : Nat} {v : Value} {xs : List Value} (h : w.ownsRow 0 e size v n xs) (hs : 0 < size) : ∃ a cap, v = .slice a n cap ∧ n ≤ cap ∧ ∀ (f : Nat) z, xs[f]? = some z → ∃ q, a = some ⟨q, 0, none⟩ ∧ q < w.heap.size ∧ w.cell? ⟨q, f, none⟩ = some z := by
  have hl := h.1
  rcases h.2 with ⟨rfl, rfl⟩ | ⟨g, cap, cur, rfl, hb, hg, hn, hc, hsz, ht⟩
  · exact ⟨none, 0, rfl, Nat.le_refl _, fun f z hz => by
      have := (List.getElem?_eq_some_iff.1 hz).1
      omega⟩
  · refine ⟨_, _, rfl, hn, fun f z hz => ⟨g, rfl, (Array.getElem?_eq_some_iff.1 hg).1, ?_⟩⟩
    have hf := (List.getElem?_eq_some_iff.1 hz).1
    rw [cell_of_row _ _ f _ _ _ hg, ← Array.getElem?_toList]
    rw [← ht, List.getElem?_take] at hz
    split at hz
    · exact hz
    · simp at hz

theorem Lrd.of_row {w : World} {e : Nat} {v : Value} {k : IntKind} {xs : List Int} (h : w.ownsRow 0 e 1 v xs.length (xs.map (Value.int k))) : Lrd w.heap.size w v k xs := by
  obtain ⟨a, cap, h1, h2, h3⟩ := row_at h (by decide)
  refine ⟨a, cap, h1, h2, fun f z hz => ?_⟩
  obtain ⟨q, h4, h5, h6⟩ := h3 f (.int k z) (by rw [List.getElem?_map, hz]; rfl)
  exact ⟨q, 0, h4, h5, by rw [Nat.zero_add]; exact h6⟩

/-- Within bounds. -/
def inB (lo hi z : Int) : Bool := decide (lo ≤ z) && decide (z ≤ hi)
/-- All of them. -/
def allB (lo hi : Int) (l : List Int) : Prop := ∀ z, z ∈ l → inB lo hi z = true

end Go.Proofs.Ytckcdahjajmddaa
