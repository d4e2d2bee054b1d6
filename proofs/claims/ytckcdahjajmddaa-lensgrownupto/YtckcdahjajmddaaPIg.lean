import Derived.Test.YtckcdahjajmddaaIG2
import Derived.Maps.AppendAt
import Derived.Deep.Cut
/-
  Images: objectsMayBe.
-/
set_option linter.unusedVariables false
set_option maxRecDepth 20000
namespace Go.Proofs.Ytckcdahjajmddaa
open Go.RowKit Go.Shelf

/-- What holds of the first objects. -/
structure OMk (n : Nat) (l : List Im.Ob) : Prop where
  rise : Im.Rise 0 l
  head : ∀ o, o ∈ l → hd16 o
  ptrs : ∀ o, o ∈ l → allB 0 n o.ps

theorem OMk.nil (n : Nat) : OMk n [] := ⟨trivial, fun o h => by simp at h, fun o h => by simp at h⟩

theorem OMk.snoc {n : Nat} {l : List Im.Ob} {o : Im.Ob} (h : OMk n l) (h1 : hd16 o) (h2 : lastS l < o.ser) (h3 : allB 0 n o.ps) : OMk n (l ++ [o]) :=
  ⟨(rise_snoc l 0 o).2 ⟨h.rise, h2⟩, fun x hx => by rcases List.mem_append.1 hx with h9 | h9; exact h.head x h9; simp at h9; rw [h9]; exact h1,
    fun x hx => by rcases List.mem_append.1 hx with h9 | h9; exact h.ptrs x h9; simp at h9; rw [h9]; exact h3⟩

theorem rise_take {l : List Im.Ob} {n k : Nat} (h : Im.Rise n l) : Im.Rise n (l.take k) := by
  induction l generalizing n k with
  | nil => simpa using h
  | cons x r ih => cases k with
    | zero => trivial
    | succ k => exact ⟨h.1, ih h.2⟩

theorem take_snoc {l : List Im.Ob} {k : Nat} {o : Im.Ob} (h : l[k]? = some o) : l.take (k + 1) = l.take k ++ [o] := by
  rw [List.take_add_one, h]; rfl

end Go.Proofs.Ytckcdahjajmddaa

/-
  Images: slotsMayBe, handlesMayBe.
-/
set_option linter.unusedVariables false
set_option maxRecDepth 20000
namespace Go.Proofs.Ytckcdahjajmddaa
open Go.RowKit Go.Shelf

/-- How many slots. -/
def fsum (l : List (List Int)) : Nat := (l.map List.length).sum

theorem fsum_snoc (l : List (List Int)) (x : List Int) : fsum (l ++ [x]) = fsum l + x.length := by simp [fsum]

theorem take_snocL {α : Type} {l : List α} {k : Nat} {o : α} (h : l[k]? = some o) : l.take (k + 1) = l.take k ++ [o] := by
  rw [List.take_add_one, h]; rfl

theorem fsum_take (l : List (List Int)) (k : Nat) : fsum (l.take k) ≤ fsum l := by
  have h : fsum l = fsum (l.take k) + fsum (l.drop k) := by
    have h9 : ((l.take k ++ l.drop k).map List.length).sum = fsum (l.take k) + fsum (l.drop k) := by rw [List.map_append, List.sum_append]; rfl
    rw [List.take_append_drop] at h9
    exact h9
  omega

/-- What framesMayBe asks. -/
def fOk (n : Nat) (fs : List (List Int)) : Prop := ∀ f, f ∈ fs → 1 ≤ f.length ∧ allB 0 n f

/-- What slotsMayBe asks. -/
structure SM (g : Im.Gr) : Prop where
  few : ∀ t, t ∈ g.slots → fsum t ≤ 4096
  ok : ∀ t, t ∈ g.slots → fOk g.obs.length t
  t0 : 1 ≤ g.slots.length
  t1 : g.slots.length ≤ 8

/-- Lengths of a graph's slots. -/
structure Sln (ts : List (Value × List (Value × List Int))) : Prop where
  t : ts.length ≤ 4611686018427387904
  f : ∀ x, x ∈ ts → x.2.length ≤ 4611686018427387904 ∧ fsum (x.2.map (·.2)) ≤ 4611686018427387904

/-- What handlesMayBe asks. -/
structure HM (g : Im.Gr) : Prop where
  len : g.hs.length ≤ 1024
  all : allB (-1) g.obs.length g.hs

end Go.Proofs.Ytckcdahjajmddaa

/-
  Images: slices.Equal.
-/
set_option linter.unusedVariables false
set_option maxRecDepth 20000
namespace Go.Proofs.Ytckcdahjajmddaa
open Go.RowKit Go.Shelf

end Go.Proofs.Ytckcdahjajmddaa

/-
  Images: Finals.
-/
set_option linter.unusedVariables false
set_option maxRecDepth 20000
namespace Go.Proofs.Ytckcdahjajmddaa
open Go.RowKit Go.Shelf

theorem own_slI {w : World} {base n e size : Nat} {v : Value} {xs : List Value} (h : w.ownsRow base e size v n xs) : ∃ a cap, v = .slice a n cap := by
  rcases h.2 with ⟨rfl, rfl⟩ | ⟨g, cap, cur, rfl, _⟩
  · exact ⟨_, _, rfl⟩
  · exact ⟨_, _, rfl⟩

theorem fins_snoc (l : List Im.Ob) (o : Im.Ob) : Im.fins (l ++ [o]) = Im.fins l ++ (if o.kind = 4 then [((l.length : Nat) : Int) + 1] else []) := by
  have h := Im.finsFrom_snoc l 0 o
  rw [Nat.zero_add] at h
  exact h

theorem fins_len (l : List Im.Ob) : (Im.fins l).length ≤ l.length := by
  have : ∀ (l : List Im.Ob) (i : Nat), (Im.finsFrom i l).length ≤ l.length := by
    intro l
    induction l with
    | nil => intro i; simp [Im.finsFrom]
    | cons x r ih =>
      intro i
      simp only [Im.finsFrom]
      have := ih (i + 1)
      split <;> simp <;> omega
  exact this l 0

end Go.Proofs.Ytckcdahjajmddaa

