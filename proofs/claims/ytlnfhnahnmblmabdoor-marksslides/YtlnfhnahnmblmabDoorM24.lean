/-
  pairs.
-/
import Derived.Test.YtlnfhnahnmblmabDoorM23
set_option linter.unusedVariables false
set_option maxRecDepth 100000
namespace Go.Proofs.YtlnfhnahnmblmabDoor
open Go.RowKit Go.Shelf

/-- Runs as numbers: a beginning and a length each. -/
def prs : List (Nat × Nat) → List Int
  | [] => []
  | x :: l => (x.1 : Int) :: ((x.2 : Int) - x.1) :: prs l

theorem prs_append : ∀ l m : List (Nat × Nat), prs (l ++ m) = prs l ++ prs m
  | [], m => rfl
  | x :: l, m => by simp only [List.cons_append, prs, prs_append l m]
theorem prs_len : ∀ l : List (Nat × Nat), (prs l).length = 2 * l.length
  | [] => rfl
  | x :: l => by simp only [prs, List.length_cons, prs_len l]; omega
theorem prs_at {l pre : List (Nat × Nat)} {x : Nat × Nat} (h : pre ++ [x] <+: l) : (prs l)[2 * pre.length]? = some (x.1 : Int) ∧ (prs l)[2 * pre.length + 1]? = some ((x.2 : Int) - x.1) := by
  obtain ⟨t, rfl⟩ := h
  rw [List.append_assoc, prs_append]
  constructor
  · rw [List.getElem?_append_right (by rw [prs_len]; exact Nat.le_refl _), prs_len, Nat.sub_self]; rfl
  · rw [List.getElem?_append_right (by rw [prs_len]; omega), prs_len, show 2 * pre.length + 1 - 2 * pre.length = 1 by omega]; rfl

theorem own_setOther {B : Nat} {w : World} {e : TypeId} {v : Value} {n : Nat} {xs : List Value} (h : w.ownsRow B e 1 v n xs) {a : Addr} (hne : v.ownBlock ≠ some a.block) (u : Value) : (w.setCell a u).ownsRow B e 1 v n xs := by
  obtain ⟨hl, h0 | ⟨g, cap, cur, rfl, hge, hh, hr⟩⟩ := h
  · exact ⟨hl, .inl h0⟩
  · have hg : g ≠ a.block := fun e => hne (by simp [Value.ownBlock, e])
    exact ⟨hl, .inr ⟨g, cap, cur, rfl, hge, (Below.heap_setCell _ _ _ _ hg).trans hh, hr⟩⟩

theorem cells_new (w : World) (cs : Array Value) (t : TypeId) : ∀ (j : Nat) u, cs.toList[j]? = some u → (w.alloc (.cells cs t)).cell? ((⟨w.heap.size, 0, none⟩ : Addr).add j) = some u := by
  intro j u hj
  have hadd : (⟨w.heap.size, 0, none⟩ : Addr).add j = ⟨w.heap.size, j, none⟩ := by unfold Addr.add; split <;> simp_all
  rw [hadd, cell_of_row _ _ j cs t (0, 0) (heap_alloc_new w _)]
  simpa using hj

/-- What pairs keeps while it goes through the runs. -/
structure Pj (B lB : Nat) (F : List Nat) (pre : List (Nat × Nat)) (W : World) (v : Value) : Prop where
  box : Boxed W lB 64 v
  row : W.ownsRow B 3 1 v (2 * pre.length) ((prs pre).map (.int .i64))
  ne : v.ownBlock ≠ some lB
  lt : ∀ k, v.ownBlock = some k → k < W.heap.size
  f : F = lB :: v.ownBlock.toList

theorem own_lt {B : Nat} {w : World} {e : TypeId} {v : Value} {n : Nat} {xs : List Value} (h : w.ownsRow B e 1 v n xs) : ∀ k, v.ownBlock = some k → k < w.heap.size := by
  intro k hk
  obtain ⟨_, ⟨rfl, _⟩ | ⟨g, cap, cur, rfl, hge, hh, _⟩⟩ := h
  · simp [Value.ownBlock] at hk
  · simp [Value.ownBlock] at hk
    subst hk
    exact (Array.getElem?_eq_some_iff.1 hh).1

theorem own_below2 {B : Nat} {w w' : World} {e : TypeId} {v : Value} {n : Nat} {xs : List Value} (h : w.ownsRow B e 1 v n xs) (l : Below w.heap.size w w') : w'.ownsRow B e 1 v n xs :=
  h.kept (row := none) ⟨l.os, l.tape, l.output, l.size, fun k hk _ => l.block k hk⟩ (by
    cases v.ownBlock <;> simp)

/-- A run takes a word, and a word lies behind each but the last. -/
theorem two_each {M : Nat → Bool} {e a : Nat} {l : List (Nat × Nat)} (h : At M e a l) : a ≤ e → 2 * l.length ≤ e - a + 1 := by
  induction h with
  | done => intro _; simp
  | @run a q a' l h hs hq hn r ih =>
    intro ha
    have hqe := hs.ge ha
    have hae := hn.ge hqe.2
    have i1 := ih hae.2
    have hqa : q < a' ∨ (a' = e ∧ l = []) := by
      rcases Nat.lt_or_ge q a' with h1 | h1
      · exact .inl h1
      · have : q = a' := by omega
        subst this
        rcases hn with ⟨h2, _⟩ | ⟨h2, h3, h4, _⟩
        · subst h2
          cases r with
          | done => exact .inr ⟨rfl, rfl⟩
          | run h _ _ _ _ => omega
        · rcases hs with ⟨h5, h6⟩ | ⟨h5, h6, h7, h8⟩
          · omega
          · rw [h4] at h7; cases h7
    simp only [List.length_cons]
    rcases hqa with h1 | ⟨h1, h2⟩
    · omega
    · subst h2
      simp only [List.length_nil]
      omega

theorem runs_len {M : Nat → Bool} {e a : Nat} {l : List (Nat × Nat)} (h : At M e a l) : a ≤ e → l.length ≤ e - a := by
  induction h with
  | done => intro _; simp
  | @run a q a' l h hs hq hn r ih =>
    intro ha
    have hqe := hs.ge ha
    have hae := hn.ge hqe.2
    have := ih hae.2
    simp only [List.length_cons]
    omega

end Go.Proofs.YtlnfhnahnmblmabDoor
