/-
  A piece of the words that objects and fillers fill.
-/
import Derived.Test.YtfihjmoaibmllaaDoorHK
set_option linter.unusedVariables false
namespace Go.Proofs.YtfihjmoaibmllaaDoor
open Go.RowKit Go.Shelf

/-- From a to b there are objects and fillers without a gap; l: the objects. -/
inductive Seg (c : Cfg) (ws : Nat → Int) : Int → Int → List Int → Prop
  | nil {a : Int} : Seg c ws a a []
  | fil {a b : Int} {l : List Int} (ht : IsTag 3 (wat c ws a)) (r : Seg c ws (a + wat c ws a / 4) b l) : Seg c ws a b l
  | obj {a b : Int} {l : List Int} (hh : IsHead (wat c ws a)) (r : Seg c ws (a + osz c ws a) b l) : Seg c ws a b (a :: l)

theorem Seg.le {c : Cfg} {ws : Nat → Int} {a b : Int} {l : List Int} (h : Seg c ws a b l) : a ≤ b := by
  induction h with
  | nil => exact Int.le_refl _
  | fil ht _ ih => have := ht.2.1; omega
  | @obj a _ _ _ _ ih => have := osz_in c ws a; omega

theorem Seg.ge {c : Cfg} {ws : Nat → Int} {a b : Int} {l : List Int} (h : Seg c ws a b l) : ∀ y ∈ l, a ≤ y ∧ y + osz c ws y ≤ b := by
  induction h with
  | nil => intro y hy; simp at hy
  | fil ht _ ih => intro y hy; have := ih y hy; have := ht.2.1; omega
  | @obj a _ _ _ r ih =>
    intro y hy
    rcases List.mem_cons.1 hy with rfl | hy
    · exact ⟨Int.le_refl _, r.le⟩
    · have := ih y hy; have := osz_in c ws a; omega

theorem Seg.head {c : Cfg} {ws : Nat → Int} {a b : Int} {l : List Int} (h : Seg c ws a b l) : ∀ y ∈ l, IsHead (wat c ws y) := by
  induction h with
  | nil => intro y hy; simp at hy
  | fil _ _ ih => exact ih
  | obj hh _ ih =>
    intro y hy
    rcases List.mem_cons.1 hy with rfl | hy
    · exact hh
    · exact ih y hy

theorem head_no_tag {m : Int} (h : IsHead m) : ¬ IsTag 3 m := fun t => by have := h.1; have := t.1; omega

/-- Its walk meets just the objects and comes to its end. -/
theorem Seg.walk {c : Cfg} {ws : Nat → Int} {a b : Int} {l : List Int} (h : Seg c ws a b l) : ∃ p, Past c ws b a p ∧ Walk c ws b p l b := by
  induction h with
  | nil => exact ⟨_, .done (.inl (Int.le_refl _)), .done (Int.le_refl _)⟩
  | @fil a b l ht r ih =>
    obtain ⟨p, h1, h2⟩ := ih
    have := r.le
    have := ht.2.1
    exact ⟨p, .step (by omega) ht (by omega) h1, h2⟩
  | @obj a b l hh r ih =>
    obtain ⟨p, h1, h2⟩ := ih
    have := r.le
    have := osz_in c ws a
    exact ⟨a, .done (.inr fun h => head_no_tag hh h.1), .obj (by omega) ⟨hh, by omega⟩ h1 h2⟩

theorem Seg.snoc {c : Cfg} {ws : Nat → Int} {a b : Int} {l : List Int} (h : Seg c ws a b l) (hh : IsHead (wat c ws b)) : Seg c ws a (b + osz c ws b) (l ++ [b]) := by
  induction h with
  | nil => exact .obj hh .nil
  | fil ht _ ih => exact .fil ht (ih hh)
  | obj h1 _ ih => exact .obj h1 (ih hh)

theorem Seg.snocF {c : Cfg} {ws : Nat → Int} {a b : Int} {l : List Int} (h : Seg c ws a b l) (ht : IsTag 3 (wat c ws b)) : Seg c ws a (b + wat c ws b / 4) l := by
  induction h with
  | nil => exact .fil ht .nil
  | fil h1 _ ih => exact .fil h1 (ih ht)
  | obj h1 _ ih => exact .obj h1 (ih ht)

/-- Words elsewhere don't matter. -/
theorem Seg.congr {c : Cfg} {ws ws' : Nat → Int} {a b : Int} {l : List Int} (h : Seg c ws a b l) (he : ∀ i, a ≤ i → i < b → wat c ws' i = wat c ws i) : Seg c ws' a b l := by
  induction h with
  | nil => exact .nil
  | @fil a b l ht r ih =>
    have h1 := ht.2.1
    have h2 := r.le
    have e := he a (Int.le_refl _) (by omega)
    exact .fil (by rw [e]; exact ht) (by rw [e]; exact ih (fun i h3 h4 => he i (by omega) h4))
  | @obj a b l hh r ih =>
    have h1 := osz_in c ws a
    have h2 := r.le
    have e := he a (Int.le_refl _) (by omega)
    have eo : osz c ws' a = osz c ws a := by unfold osz; rw [e]
    exact .obj (by rw [e]; exact hh) (by rw [eo]; exact ih (fun i h3 h4 => he i (by omega) h4))

/-- A word within an object of l, behind its first, is written; and the first one, if it stays a header of these sizes. -/
theorem Seg.inner {c : Cfg} {ws ws' : Nat → Int} {a b o : Int} {l : List Int} (h : Seg c ws a b l) (ho : o ∈ l) (he : ∀ i, (i < o ∨ o + osz c ws o ≤ i) → wat c ws' i = wat c ws i) (hh' : IsHead (wat c ws' o)) (hp : ptOf (wat c ws' o) = ptOf (wat c ws o)) (hr : rwOf (wat c ws' o) = rwOf (wat c ws o)) : Seg c ws' a b l := by
  induction h with
  | nil => simp at ho
  | @fil a b l ht r ih =>
    have h1 := ht.2.1
    have h2 := (r.ge o ho).1
    have e := he a (.inl (by omega))
    exact .fil (by rw [e]; exact ht) (by rw [e]; exact ih ho)
  | @obj a b l hh r ih =>
    have h1 := osz_in c ws a
    by_cases hoa : o = a
    · subst hoa
      have eo : osz c ws' o = osz c ws o := by unfold osz; rw [hp, hr]
      exact .obj hh' (by rw [eo]; exact r.congr (fun i h3 _ => he i (.inr h3)))
    · rcases List.mem_cons.1 ho with rfl | ho
      · exact absurd rfl hoa
      · have h2 := (r.ge o ho).1
        have e := he a (.inl (by omega))
        have eo : osz c ws' a = osz c ws a := by unfold osz; rw [e]
        exact .obj (by rw [e]; exact hh) (by rw [eo]; exact ih ho)

end Go.Proofs.YtfihjmoaibmllaaDoor
