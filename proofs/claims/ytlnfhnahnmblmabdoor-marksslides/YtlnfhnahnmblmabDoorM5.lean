/-
  Set.
-/
import Derived.Test.YtlnfhnahnmblmabDoorM4
set_option linter.unusedVariables false
namespace Go.Proofs.YtlnfhnahnmblmabDoor
open Go.RowKit Go.Shelf

attribute [local go_sem] Oper.semAt_some

theorem Touch.grown {F : List Nat} {w A B : World} {row : Option Nat} (h : Touch F w A) (hg : A.grownBy B row) (hr : ∀ r, row = some r → w.heap.size ≤ r) : Touch F w B :=
  ⟨hg.os.trans h.os, hg.tape.trans h.tape, hg.output.trans h.output, Nat.le_trans h.size hg.size, fun k hk hn => (hg.block k (Nat.lt_of_lt_of_le hk h.size) (fun e => by have := hr k e.symm; omega)).trans (h.block k hk hn)⟩

theorem Mp.grown {w w' : World} {b g n : Nat} {M : Nat → Bool} {row : Option Nat} (h : Mp w b g n M) (hg : w.grownBy w' row) (hr : ∀ r, row = some r → b < r ∧ g < r) : Mp w' b g n M :=
  h.keep (hg.block b h.own.lt (fun e => by have := (hr b e.symm).1; omega)) (hg.block g h.row.lt (fun e => by have := (hr g e.symm).2; omega))

/-- One piece is marked. -/
def stepP {e : Nat} (s : Bool × (Nat → Bool)) (x : Pc e) : Bool × (Nat → Bool) :=
  (s.1 && decide (wd s.2 (x.1.1 / 64) &&& mk (x.1.1 % 64) (x.1.2 - x.1.1 / 64 * 64) = 0), add s.2 x.1.1 x.1.2)

def setP (M : Nat → Bool) {e : Nat} (l : List (Pc e)) : Bool × (Nat → Bool) := l.foldl stepP (true, M)

theorem setP_snoc (M : Nat → Bool) {e : Nat} (l : List (Pc e)) (x : Pc e) : setP M (l ++ [x]) = stepP (setP M l) x := by simp [setP, List.foldl_append]

theorem setP_out {M : Nat → Bool} {n e : Nat} (h : ∀ k, n ≤ k → M k = false) (hen : e ≤ n) (l : List (Pc e)) : ∀ k, n ≤ k → (setP M l).2 k = false := by
  suffices H : ∀ (l : List (Pc e)) (s : Bool × (Nat → Bool)), (∀ k, n ≤ k → s.2 k = false) → ∀ k, n ≤ k → (l.foldl stepP s).2 k = false from H l _ h
  intro l
  induction l with
  | nil => intro s hs; exact hs
  | cons x l ih =>
    intro s hs
    refine ih _ ?_
    intro k hk
    have := x.2.2.1
    simp only [stepP, add, hs k hk, Bool.false_or]
    simp; omega

theorem and_mk_zero (M : Nat → Bool) (i a b : Nat) (h : a ≤ b) (hb : b ≤ 64) : (wd M i &&& mk a b = 0) ↔ ∀ k, 64 * i + a ≤ k → k < 64 * i + b → M k = false := by
  constructor
  · intro h0 k h1 h2
    have : (wd M i &&& mk a b).testBit (k - 64 * i) = false := by rw [h0]; simp
    rw [Nat.testBit_and, wd_bit, mk_bit h, decide_eq_true (show k - 64 * i < 64 by omega), decide_eq_true (show a ≤ k - 64 * i by omega), decide_eq_true (show k - 64 * i < b by omega), show 64 * i + (k - 64 * i) = k by omega] at this
    simpa using this
  · intro h0
    apply Nat.eq_of_testBit_eq
    intro j
    rw [Nat.testBit_and, wd_bit, mk_bit h, Nat.zero_testBit]
    by_cases h1 : a ≤ j
    · by_cases h2 : j < b
      · rw [h0 (64 * i + j) (by omega) (by omega)]; simp
      · simp [h2]
    · simp [h1]

theorem setP_pcs {e : Nat} : ∀ {f : Nat} (s : Bool × (Nat → Bool)), (((pcs e f).foldl stepP s).1 = true ↔ s.1 = true ∧ ∀ k, f ≤ k → k < e → s.2 k = false) ∧ ((pcs e f).foldl stepP s).2 = add s.2 f e := by
  intro f
  induction hn : e - f using Nat.strongRecOn generalizing f with
  | ind n ih =>
    intro s
    by_cases hf : f < e
    · obtain ⟨hp, hpc⟩ := pcs_cons hf
      rw [hpc, List.foldl_cons]
      obtain ⟨h1, h2⟩ := ih (e - min e (f / 64 * 64 + 64)) (by omega) rfl (stepP s ⟨(f, min e (f / 64 * 64 + 64)), hp⟩)
      have hz := and_mk_zero s.2 (f / 64) (f % 64) (min e (f / 64 * 64 + 64) - f / 64 * 64) (by omega) (by omega)
      rw [show 64 * (f / 64) + f % 64 = f by omega, show 64 * (f / 64) + (min e (f / 64 * 64 + 64) - f / 64 * 64) = min e (f / 64 * 64 + 64) by omega] at hz
      generalize min e (f / 64 * 64 + 64) = q at *
      refine ⟨h1.trans ?_, h2.trans ?_⟩
      · simp only [stepP, Bool.and_eq_true, decide_eq_true_eq, hz]
        have hqe := hp.2.1
        have hfq := hp.1
        dsimp only at hqe hfq
        constructor
        · rintro ⟨⟨h3, h4⟩, h5⟩
          refine ⟨h3, fun k h6 h7 => ?_⟩
          by_cases h8 : k < q
          · exact h4 k h6 h8
          · have := h5 k (by omega) h7
            simp only [add, Bool.or_eq_false_iff] at this
            exact this.1
        · rintro ⟨h3, h4⟩
          refine ⟨⟨h3, fun k h6 h7 => h4 k h6 (by omega)⟩, fun k h6 h7 => ?_⟩
          simp only [add, h4 k (by omega) h7, Bool.false_or]
          simp; omega
      · funext k
        have hqe := hp.2.1
        have hfq := hp.1
        dsimp only at hqe hfq
        simp only [stepP, add]
        cases s.2 k
        · simp only [Bool.false_or]
          rw [Bool.eq_iff_iff]
          simp only [Bool.or_eq_true, Bool.and_eq_true, decide_eq_true_eq]
          omega
        · simp
    · rw [pcs_nil (by omega)]
      refine ⟨⟨fun h => ⟨h, fun k h1 h2 => by omega⟩, fun h => h.1⟩, ?_⟩
      funext k
      simp only [List.foldl_nil, add]
      rw [show (decide (f ≤ k) && decide (k < e)) = false by simp; omega, Bool.or_false]

/-- The store of one piece's word. -/
theorem mp_mark {w : World} {b g n : Nat} {N : Nat → Bool} (h : Mp w b g n N) {a q : Nat} (h1 : a < q) (h2 : q ≤ n) (h3 : q ≤ a / 64 * 64 + 64) (v : Int) (hv : v = ((wd N (a / 64) ||| mk (a % 64) (q - a / 64 * 64) : Nat) : Int)) :
    Mp (w.setCell ⟨g, a / 64, none⟩ (.int .u64 v)) b g n (add N a q) := by
  have e1 : add N a q = add N (64 * (a / 64) + a % 64) (64 * (a / 64) + (q - a / 64 * 64)) := by
    rw [show 64 * (a / 64) + a % 64 = a by omega, show 64 * (a / 64) + (q - a / 64 * 64) = q by omega]
  refine ⟨h.own.setOther h.ne _, (h.row.set (a / 64) _).congr ?_, h.le, ?_⟩
  · intro i hi
    split
    · rename_i e
      subst e
      rw [hv, e1, ← wd_or _ _ _ _ (by omega) (by omega)]
    · rename_i e
      rw [e1, wd_other _ _ _ _ _ (by omega) (by omega) e]
  · intro k hk
    simp only [add, h.out k hk, Bool.false_or]
    simp; omega

end Go.Proofs.YtlnfhnahnmblmabDoor
