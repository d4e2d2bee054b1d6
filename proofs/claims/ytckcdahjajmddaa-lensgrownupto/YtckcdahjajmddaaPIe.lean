import Derived.Test.YtckcdahjajmddaaPId
/-
  Images, the document's check: lists.
-/
set_option linter.unusedVariables false
set_option maxRecDepth 20000
namespace Go.Proofs.Ytckcdahjajmddaa
open Go.RowKit Go.Shelf

theorem Below.drewN' {B : Nat} {a w : World} (h : Below B a w) (n : Nat) : Below B a (w.drewN n) := ⟨h.os, h.tape, h.output, h.size, h.block⟩

end Go.Proofs.Ytckcdahjajmddaa

/-
  Images, the document's check: known.
-/
set_option linter.unusedVariables false
set_option maxRecDepth 20000
namespace Go.Proofs.Ytckcdahjajmddaa
open Go.RowKit Go.Shelf

theorem flatten_take (t : List (List Int)) (k : Nat) : (t.take k).flatten.length ≤ t.flatten.length := by
  have h : t.flatten = (t.take k).flatten ++ (t.drop k).flatten := by
    rw [← List.flatten_append, List.take_append_drop]
  rw [h, List.length_append]
  omega

/-- What the document looks at: slots, handles, queue, registry. -/
def rents (g : Im.Gr) : List Int := ((slotsF g.slots ++ g.hs) ++ g.qu) ++ g.rg

theorem mem_rents (g : Im.Gr) (z : Int) : z ∈ rents g ↔ Im.Root g z := by
  simp only [rents, List.mem_append, mem_slotsF, Im.Root]
  constructor
  · rintro (((h | h) | h) | h)
    · exact .inl h
    · exact .inr (.inl h)
    · exact .inr (.inr (.inr h))
    · exact .inr (.inr (.inl h))
  · rintro (h | h | h | h)
    · exact .inl (.inl (.inl h))
    · exact .inl (.inl (.inr h))
    · exact .inr h
    · exact .inl (.inr h)

theorem rents_len (g : Im.Gr) : (rents g).length = (ents g).length := by
  simp only [rents, ents, List.length_append]
  omega

/-- What the threads ahead of one hold, and some of its frames. -/
def slotsG (l : List (List (List Int))) (k : Nat) (t : List (List Int)) (f : Nat) : List Int := slotsF (l.take k) ++ (t.take f).flatten

theorem slotsG_zero (l : List (List (List Int))) (k : Nat) (t : List (List Int)) : slotsG l k t 0 = slotsF (l.take k) := by simp [slotsG]

theorem slotsG_snoc {l : List (List (List Int))} {k f : Nat} {t : List (List Int)} {y : List Int} (hy : t[f]? = some y) : slotsG l k t (f + 1) = slotsG l k t f ++ y := by
  unfold slotsG
  rw [take_snocL hy]
  simp

theorem slotsG_all {l : List (List (List Int))} {k f : Nat} {t : List (List Int)} (h : l[k]? = some t) (hf : t.length ≤ f) : slotsG l k t f = slotsF (l.take (k + 1)) := by
  unfold slotsG
  rw [slotsF_snoc h, List.take_of_length_le hf]

theorem slotsG_le {l : List (List (List Int))} {k : Nat} {t : List (List Int)} (h : l[k]? = some t) (f : Nat) : (slotsG l k t f).length ≤ (slotsF (l.take (k + 1))).length := by
  have h1 := flatten_take t f
  rw [slotsF_snoc h]
  simp only [slotsG, List.length_append]
  omega

/-- All are known. -/
def AK (g : Im.Gr) : Prop := ∀ n, 1 ≤ n → n ≤ g.obs.length → Im.Known g n

end Go.Proofs.Ytckcdahjajmddaa

/-
  Images, the document's check.
-/
set_option linter.unusedVariables false
set_option maxRecDepth 20000
namespace Go.Proofs.Ytckcdahjajmddaa
open Go.RowKit Go.Shelf

end Go.Proofs.Ytckcdahjajmddaa

