/-
  A region that draws: its head reads and calls what only lays blocks; then a call (or a write), and the rest does as the head does. (below_call, with a class of worlds behind the call too.)
-/
import Derived.Test.YtcijdbhabbepaaaGreatDoorKGB
set_option linter.unusedVariables false
namespace Go.Proofs.YtcijdbhabbepaaaGreatDoor.Kg
open Go.RowKit

def thenBel (P : Program) (ops : Array Oper) (rest : List Oper) (Q : Exit → Act → World → Prop) : Exit → Act → World → Prop
  | .normal, a, w => wpQuiet P ops (fun w' => ∃ p : Bel w, w' = p.v) (fun a' => ∀ w', (∃ p : Bel w, w' = p.v) → Q .normal a' w') rest a
  | e, a, w => Q e a w

theorem thenBel_mk {P : Program} {ops : Array Oper} {rest : List Oper} {Q : Exit → Act → World → Prop} {a : Act} {w : World} (h : wpQuiet P ops (fun w' => ∃ p : Bel w, w' = p.v) (fun a' => ∀ w', (∃ p : Bel w, w' = p.v) → Q .normal a' w') rest a) : thenBel P ops rest Q .normal a w := h

theorem op_thenB {P : Program} {ops rops : Array Oper} {rest : List Oper} {o : Oper} {Q : Exit → Act → World → Prop} {K : Act → World → Prop} {a : Act} {w : World} (hq : ∀ a w, thenBel P rops rest Q .normal a w → K a w) {i : Nat} (hi : ops[i]? = some o)
    (h : wpList P ops (thenBel P rops rest Q) [o] a w) : wpOp P ops Q i K a w := by
  have hlo : LetsOut (thenBel P rops rest Q) → LetsOut Q := fun ⟨a, w, h⟩ => ⟨a, w, h⟩
  unfold wpOp
  simp only [hi]
  unfold wpList at h
  split
  · rename_i hw
    simp only [hw, if_true] at h
    rcases h with h | ⟨h1, h2⟩
    · left
      unfold Oper.wp at h ⊢
      generalize (execOp a.eval o).run P w = r at *
      cases r with
      | ok n w' =>
        cases n <;> simp only [Oper.upon] at h ⊢
        case value u => exact hq _ _ h
        case skip => exact hq _ _ h
        case defer d => exact hq _ _ h
        case enter f args =>
          refine Calls.mono h fun e w'' he => ?_
          cases e with
          | returned u => exact hq _ _ he
          | panicked c => exact he
          | outgrown => exact hlo he
        case row row args => exact Rows.mono h fun u w'' he => hq _ _ he
      | halt x w' =>
        cases x <;> simp only [Oper.upon] at h ⊢
        case panic u => exact h
    · exact .inr ⟨h1, hlo h2⟩
  · rename_i hw
    simp only [hw] at h
    exact hq _ _ h

/-- A region that draws: its first n operations read or lay blocks, the next one is a call (or writes), the others read or lay blocks. -/
theorem below_then {P : Program} {id : Nat} {Q : Exit → Act → World → Prop} {a : Act} {w : World} {l : List Oper} (n : Nat) (hm : P.follows .mixedOrders = true) (hB : callB .any l.toArray n = true)
    (h : wpQuiet P l.toArray (fun w' => ∃ p : Bel w, w' = p.v) (fun a' => ∀ w', (∃ p : Bel w, w' = p.v) → wpList P l.toArray (thenBel P l.toArray (l.drop (n + 1)) Q) ((l.drop n).take 1) a' w') (l.take n) a) : (Code.region id l.toArray true).wp P Q a w := by
  simp only [callB, Bool.and_eq_true, decide_eq_true_eq] at hB
  obtain ⟨⟨⟨⟨hsel, hn⟩, hs⟩, hl⟩, hp⟩ := hB
  have hn' : n < l.length := by simpa using hn
  have htl : (l.take n).length = n := by simp; omega
  obtain ⟨o, ho⟩ : ∃ o, l[n]? = some o := ⟨_, List.getElem?_eq_getElem hn'⟩
  have hd1 : (l.drop n).take 1 = [o] := by
    rw [List.drop_eq_getElem_cons hn', List.take_succ_cons, List.take_zero]
    rw [List.getElem?_eq_getElem hn'] at ho
    rw [Option.some.inj ho]
  have inv0 : HeadInv .any l.toArray n (Array.replicate l.toArray.size false) :=
    ⟨by simp, fun j oj _ hl => (by rw [getD_replicate_false] at hl; cases hl), fun t _ ht => getD_in (by simpa using ht) (getD_replicate_false _ _)⟩
  have H := headQ_lex (md := .any) hsel hs hl (l.take n) 0 _ a (fun j hj => by
    have hj' : j < n := by rw [htl] at hj; exact hj
    simp [hj']) (by simpa using htl) inv0 (by rw [htl]; exact hp) h
  refine wp_region_any hm ?_
  have hlen : (l.drop (n + 1)).length = l.toArray.size - (n + 1) := by simp
  have := wpAny_of_headQ (Q' := Q) (g := (l.toArray.size - (n + 1)) + 1) (fun listed a' w' hw' hL => by
    obtain ⟨⟨h1, h2⟩, h3⟩ := hL
    rw [hd1] at h3
    refine ⟨fun h0 => (by rw [h1] at h0; cases h0), fun i hi => ?_⟩
    rw [h1] at hi
    obtain rfl : i = n := by simpa using hi
    refine op_thenB (fun a2 w2 hq => ?_) (by simpa using ho) (h3 w' hw')
    have hq' : wpQuiet P l.toArray (fun w' => ∃ p : Bel w2, w' = p.v) (fun a' => ∀ w', (∃ p : Bel w2, w' = p.v) → Q .normal a' w') (l.drop (i + 1)) a2 := hq
    have := wpAnyQ_lex (md := .any) hsel (l.drop (i + 1)) (i + 1) (listed.setIfInBounds i true) a2 (fun j => by simp [List.getElem?_drop]) (by rw [hlen]; exact h2) hq'
    rw [hlen] at this
    exact wpAny_of_quiet (C := fun w' => ∃ p : Bel w2, w' = p.v) (fun a3 w3 hw hq3 => hq3 w3 hw) _ _ _ _ ⟨⟨w2, Below.refl _ _⟩, rfl⟩ this) _ _ _ _ (⟨⟨w.drewN 1, below_drewN (Below.refl _ _) 1⟩, rfl⟩ : ∃ p : Bel w, w.drew = p.v) H
  rw [htl, show n + (l.toArray.size - (n + 1) + 1) = l.toArray.size by omega] at this
  exact this

end Go.Proofs.YtcijdbhabbepaaaGreatDoor.Kg
