/-
  The reference's runs.
-/
import Derived.Test.YtlnfhnahnmblmabDoorN4
set_option linter.unusedVariables false
set_option maxRecDepth 20000
namespace Go.Proofs.YtlnfhnahnmblmabDoor
open Go.RowKit Go.Shelf

theorem own_set {B g n C i : Nat} {w : World} {e : TypeId} {xs : List Value} (h : w.ownsRow B e 1 (.slice (some ⟨g, 0, none⟩) n C) n xs) (u : Value) : (w.setCell ⟨g, i, none⟩ u).ownsRow B e 1 (.slice (some ⟨g, 0, none⟩) n C) n (xs.set i u) := by
  obtain ⟨hl, ⟨h0, _⟩ | ⟨g', cap, cur, hv, hge, hh, hn, hm, hs, ht⟩⟩ := h
  · cases h0
  · injection hv with e1 _ e3
    injection e1 with e1
    injection e1 with e1
    subst e1; subst e3
    refine ⟨by simpa using hl, .inr ⟨g, C, cur.setIfInBounds i u, rfl, hge, heap_setCell_same w g i cur e u hh, hn, hm, by simpa using hs, ?_⟩⟩
    rw [Array.toList_setIfInBounds, List.take_set, ht]

theorem own_thaw {B g n C i : Nat} {w : World} {e : TypeId} {xs : List Value} (h : w.ownsRow B e 1 (.slice (some ⟨g, 0, none⟩) n C) n xs) : w.frozen? ⟨g, i, none⟩ = false := by
  obtain ⟨hl, ⟨h0, _⟩ | ⟨g', cap, cur, hv, hge, hh, hn, hm, hs, ht⟩⟩ := h
  · cases h0
  · injection hv with e1 _ e3
    injection e1 with e1
    injection e1 with e1
    subst e1
    have : w.rowIs g e cur.size (fun j => cur.getD j (.int .i64 0)) := ⟨cur, hh, rfl, fun j hj => by simp [Array.getD, hj]⟩
    exact this.frozen i

/-- A run begins at i: the word before isn't marked. -/
def newR (M : Nat → Bool) (i : Nat) : Bool := !(decide (0 < i) && M (i - 1))

/-- The beginnings and the lengths of the runs below i. -/
def As (M : Nat → Bool) : Nat → List Int
  | 0 => []
  | i + 1 => if M i then (if newR M i then As M i ++ [(i : Int)] else As M i) else As M i
def Ds (M : Nat → Bool) : Nat → List Int
  | 0 => []
  | i + 1 => if M i then (if newR M i then Ds M i ++ [1] else (Ds M i).set ((Ds M i).length - 1) (((Ds M i)[(Ds M i).length - 1]?).getD 0 + 1)) else Ds M i

theorem As_len (M : Nat → Bool) : ∀ i, (As M i).length = (Ds M i).length
  | 0 => rfl
  | i + 1 => by
    simp only [As, Ds]
    cases M i <;> cases newR M i <;> simp [As_len M i]

theorem Ds_len (M : Nat → Bool) : ∀ i, (Ds M i).length ≤ i
  | 0 => Nat.le_refl _
  | i + 1 => by
    have := Ds_len M i
    simp only [Ds]
    cases M i <;> cases newR M i <;> simp <;> omega

theorem Ds_pos {M : Nat → Bool} : ∀ i, M i = true → 0 < (Ds M (i + 1)).length
  | i, h => by
    simp only [Ds, h, if_true]
    cases hn : newR M i
    · match i with
      | 0 => simp [newR] at hn
      | j + 1 =>
        have := Ds_pos j (by simpa [newR] using hn)
        simpa using this
    · simp

theorem Ds_le (M : Nat → Bool) : ∀ i z, z ∈ Ds M i → 0 ≤ z ∧ z ≤ i
  | 0, z, h => by simp [Ds] at h
  | i + 1, z, h => by
    have ih := Ds_le M i
    simp only [Ds] at h
    split at h
    · split at h
      · rcases List.mem_append.1 h with h | h
        · have := ih z h; omega
        · have : z = 1 := by simpa using h
          omega
      · rcases List.mem_or_eq_of_mem_set h with h | h
        · have := ih z h; omega
        · cases hq : (Ds M i)[(Ds M i).length - 1]? with
          | none => rw [hq] at h; simp at h; omega
          | some u =>
            rw [hq] at h
            have := ih u (List.mem_of_getElem? hq)
            simp at h; omega
    · have := ih z h; omega

/-- Between two rounds of Runs. -/
structure Rr (W : World) (A D : List Int) (va vd : Value) (w : World) : Prop where
  ra : w.ownsRow W.heap.size 3 1 va A.length (A.map (.int .i64))
  rd : w.ownsRow W.heap.size 3 1 vd D.length (D.map (.int .i64))
  ne : ∀ k, va.ownBlock = some k → vd.ownBlock ≠ some k
  bel : Below W.heap.size W w

theorem Rr.bump {W : World} {A D : List Int} {va : Value} {g C : Nat} {w : World} (x : Rr W A D va (.slice (some ⟨g, 0, none⟩) D.length C) w) (i : Nat) (z : Int) :
    Rr W A (D.set i z) va (.slice (some ⟨g, 0, none⟩) D.length C) (w.setCell ⟨g, i, none⟩ (.int .i64 z)) :=
  ⟨own_setOther x.ra (a := ⟨g, i, none⟩) (fun e => x.ne g e rfl) _, by rw [List.length_set, List.map_set]; exact own_set x.rd _, x.ne, x.bel.setCell (own_from x.rd g rfl) _⟩

theorem below_app {W w w1 : World} {v : Value} {u : Int} {n : Nat} {xs : List Value} (b : Below W.heap.size W w) (h : w.ownsRow W.heap.size 3 1 v n xs) (hg : (w.alloc (.cells #[.int .i64 u] 3)).grownBy w1 v.ownBlock) : Below W.heap.size W w1 :=
  (b.alloc b.size _).grown hg (by have := b.size; simp; omega) (fun k e => own_from h k e)

theorem Rr.growA {W : World} {A D : List Int} {va vd : Value} {w : World} (x : Rr W A D va vd w) (u : Int) (v' : Value) (w1 : World)
    (ho : w1.ownsRow W.heap.size 3 1 v' (A.length + 1) (A.map (.int .i64) ++ [.int .i64 u])) (hg : (w.alloc (.cells #[.int .i64 u] 3)).grownBy w1 va.ownBlock)
    (hat : v'.ownBlock = va.ownBlock ∨ v'.ownBlock = some (w.heap.size + 1)) : Rr W (A ++ [u]) D v' vd w1 := by
  refine ⟨by rw [List.length_append, List.map_append]; exact ho, (x.rd.alloc _).kept hg ?_, ?_, below_app x.bel x.ra hg⟩
  · cases hv : vd.ownBlock with
    | none => exact .inl rfl
    | some k => exact .inr (fun e => x.ne k e.symm hv)
  · intro k hk e
    rcases hat with h | h
    · exact x.ne k (h ▸ hk) e
    · have := own_lt x.rd k e
      rw [h] at hk
      cases hk
      omega

theorem Rr.growD {W : World} {A D : List Int} {va vd : Value} {w : World} (x : Rr W A D va vd w) (u : Int) (v' : Value) (w1 : World)
    (ho : w1.ownsRow W.heap.size 3 1 v' (D.length + 1) (D.map (.int .i64) ++ [.int .i64 u])) (hg : (w.alloc (.cells #[.int .i64 u] 3)).grownBy w1 vd.ownBlock)
    (hat : v'.ownBlock = vd.ownBlock ∨ v'.ownBlock = some (w.heap.size + 1)) : Rr W A (D ++ [u]) va v' w1 := by
  refine ⟨(x.ra.alloc _).kept hg ?_, by rw [List.length_append, List.map_append]; exact ho, ?_, below_app x.bel x.rd hg⟩
  · cases hv : va.ownBlock with
    | none => exact .inl rfl
    | some k => exact .inr (fun e => x.ne k hv e.symm)
  · intro k hk e
    rcases hat with h | h
    · exact x.ne k hk (h ▸ e)
    · have := own_lt x.ra k hk
      rw [h] at e
      cases e
      omega
end Go.Proofs.YtlnfhnahnmblmabDoor
