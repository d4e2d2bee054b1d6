/-
  Images, the document's reader: what is asked behind the numbers.
-/
import Derived.Test.YtblbiikfipcbcaaGreatDoorPQb
set_option linter.unusedVariables false
set_option maxRecDepth 20000
namespace Go.Proofs.YtblbiikfipcbcaaGreatDoor
open Go.RowKit Go.Shelf

/-- Where the numbers begin. -/
def st0 (bs : List Nat) : Except (Nat × Nat) Nat := if bs.length < 4 then .error (bs.length, 160) else if bs.take 4 ≠ Im.magic then .error (0, 161) else .ok 4

abbrev nil3 : Value := .slice none 0 0

/-! What is asked behind the numbers. -/
def shA (bs : List Nat) : Except (Nat × Nat) Nat → Bool
  | .ok p => decide (bs.length < p + 4)
  | .error _ => false
def stA (bs : List Nat) : Except (Nat × Nat) Nat → Except (Nat × Nat) Nat
  | .ok p => if bs.length < p + 4 then .error (bs.length, 160) else .ok p
  | .error e => .error e
def shB (bs : List Nat) (p : Nat) : Bool := decide ((bs.drop p).take 4 ≠ Im.le4 (Im.fnv (bs.take p)))
def stB (bs : List Nat) : Except (Nat × Nat) Nat → Except (Nat × Nat) Nat
  | .ok p => if (bs.drop p).take 4 ≠ Im.le4 (Im.fnv (bs.take p)) then .error (p, 163) else .ok p
  | .error e => .error e
def shC (bs : List Nat) : Except (Nat × Nat) Nat → Bool
  | .ok p => decide (p + 4 < bs.length)
  | .error _ => false
def stC (bs : List Nat) : Except (Nat × Nat) Nat → Except (Nat × Nat) Nat
  | .ok p => if p + 4 < bs.length then .error (p + 4, 162) else .ok p
  | .error e => .error e

def isOk : Except (Nat × Nat) Nat → Bool
  | .ok _ => true
  | .error _ => false
def stD (b : Bool) : Except (Nat × Nat) Nat → Except (Nat × Nat) Nat
  | .ok p => if b then .error (0, 164) else .ok p
  | .error e => .error e

/-- The numbers of a graph were read, or there was a fault. -/
theorem ng_pos {bs : List Nat} {s : Except (Nat × Nat) Nat} {x1 : Except (Nat × Nat) (Nat × Nat)} {x2 : Except (Nat × Nat) (List Im.RO × Nat)} {x3 : Except (Nat × Nat) (List (List (List Nat)) × Nat)} {x4 x5 : Except (Nat × Nat) (List Nat × Nat)} (h1 : Im.stp (Im.number bs) s = x1) (h2 : Im.stp (Im.listP bs (Im.roP bs)) (Im.pos x1) = x2) (h3 : Im.stp (Im.listP bs (Im.listP bs (Im.listP bs (Im.number bs)))) (Im.pos x2) = x3) (h4 : Im.stp (Im.listP bs (Im.number bs)) (Im.pos x3) = x4) (h5 : Im.stp (Im.listP bs (Im.number bs)) (Im.pos x4) = x5) : Im.pos (Im.stp (Im.ngP bs) s) = Im.pos x5 ∧ ∀ nx ros ts hs qs, (∀ z q, x1 = .ok (z, q) → nx = z) → (∀ z q, x2 = .ok (z, q) → ros = z) → (∀ z q, x3 = .ok (z, q) → ts = z) → (∀ z q, x4 = .ok (z, q) → hs = z) → (∀ z q, x5 = .ok (z, q) → qs = z) → ∀ z q, Im.stp (Im.ngP bs) s = .ok (z, q) → (nx, ros, ts, hs, qs) = z := by
  subst h1 h2 h3 h4 h5
  refine ⟨?_, fun nx ros ts hs qs q1 q2 q3 q4 q5 => Im.pair_val q1 (Im.pair_val q2 (Im.pair_val q3 (Im.pair_val q4 q5)))⟩
  show Im.pos (Im.stp (Im.pairP _ (Im.pairP _ (Im.pairP _ (Im.pairP _ _)))) s) = _
  rw [Im.pair_pos, Im.pair_pos, Im.pair_pos, Im.pair_pos]

theorem pos_err {α : Type} {x : Except (Nat × Nat) (α × Nat)} {e : Nat × Nat} (h : Im.pos x = .error e) : x = .error e := by
  cases x with
  | error e' => cases h; rfl
  | ok y => obtain ⟨y, q⟩ := y; cases h
theorem pos_ok {α : Type} {x : Except (Nat × Nat) (α × Nat)} {p : Nat} (h : Im.pos x = .ok p) : ∃ y, x = .ok (y, p) := by
  cases x with
  | error e' => cases h
  | ok y => obtain ⟨y, q⟩ := y; cases h; exact ⟨y, rfl⟩

/-- What is said of bytes at last. -/
theorem dec_st {bs : List Nat} : (∀ e, stC bs (stB bs (stA bs (Im.pos (Im.stp (Im.ngP bs) (st0 bs))))) = .error e → Im.dec bs = .error e) ∧ (∀ p, stC bs (stB bs (stA bs (Im.pos (Im.stp (Im.ngP bs) (st0 bs))))) = .ok p → ∃ z, Im.stp (Im.ngP bs) (st0 bs) = .ok (z, p) ∧ Im.dec bs = .ok z) := by
  unfold st0
  by_cases h1 : bs.length < 4
  · rw [if_pos h1]
    exact ⟨fun e h => by cases h; exact dec_1 h1, fun p h => by cases h⟩
  · rw [if_neg h1]
    have h1' : 4 ≤ bs.length := by omega
    by_cases h2 : bs.take 4 = Im.magic
    · rw [if_neg (by simp [h2])]
      show (∀ e, stC bs (stB bs (stA bs (Im.pos (Im.ngP bs 4)))) = .error e → _) ∧ (∀ p, stC bs (stB bs (stA bs (Im.pos (Im.ngP bs 4)))) = .ok p → ∃ z, Im.ngP bs 4 = .ok (z, p) ∧ _)
      cases h3 : Im.ngP bs 4 with
      | error e => exact ⟨fun e' h => by cases h; exact dec_3 h1' h2 h3, fun p h => by cases h⟩
      | ok y =>
        obtain ⟨g, p⟩ := y
        have hp := (Im.er_ng bs 4 h1').2 g p h3
        show (∀ e, stC bs (stB bs (if bs.length < p + 4 then .error (bs.length, 160) else .ok p)) = .error e → _) ∧ (∀ p', stC bs (stB bs (if bs.length < p + 4 then .error (bs.length, 160) else .ok p)) = .ok p' → _)
        by_cases h4 : bs.length < p + 4
        · rw [if_pos h4]
          exact ⟨fun e' h => by cases h; exact dec_4 h1' h2 h3 h4 hp, fun p h => by cases h⟩
        · rw [if_neg h4]
          show (∀ e, stC bs (if (bs.drop p).take 4 ≠ Im.le4 (Im.fnv (bs.take p)) then .error (p, 163) else .ok p) = .error e → _) ∧ (∀ p', stC bs (if (bs.drop p).take 4 ≠ Im.le4 (Im.fnv (bs.take p)) then .error (p, 163) else .ok p) = .ok p' → _)
          by_cases h5 : (bs.drop p).take 4 ≠ Im.le4 (Im.fnv (bs.take p))
          · rw [if_pos h5]
            exact ⟨fun e' h => by cases h; exact dec_5 h1' h2 h3 (by omega) h5, fun p h => by cases h⟩
          · rw [if_neg h5]
            have h5' : (bs.drop p).take 4 = Im.le4 (Im.fnv (bs.take p)) := Decidable.byContradiction h5
            show (∀ e, (if p + 4 < bs.length then .error (p + 4, 162) else .ok p : Except (Nat × Nat) Nat) = .error e → _) ∧ (∀ p', (if p + 4 < bs.length then .error (p + 4, 162) else .ok p : Except (Nat × Nat) Nat) = .ok p' → _)
            by_cases h6 : p + 4 < bs.length
            · rw [if_pos h6]
              exact ⟨fun e' h => by cases h; exact dec_6 h1' h2 h3 h6 h5', fun p h => by cases h⟩
            · rw [if_neg h6]
              exact ⟨fun e' h => (by cases h), fun p' h => (by cases h; exact ⟨g, rfl, dec_7 h1' h2 h3 (by omega) h5'⟩)⟩
    · rw [if_pos h2]
      exact ⟨fun e h => by cases h; exact dec_2 h1' h2, fun p h => by cases h⟩

/-- Four bytes as a number. -/
theorem le4_eq {c0 c1 c2 c3 f : Nat} (h0 : c0 < 256) (h1 : c1 < 256) (h2 : c2 < 256) (h3 : c3 < 256) (hf : f < 4294967296) : [c0, c1, c2, c3] = Im.le4 f ↔ c0 + 256 * c1 + 65536 * c2 + 16777216 * c3 = f := by
  unfold Im.le4
  simp only [List.cons.injEq, and_true]
  omega

theorem four_at {bs : List Nat} {p : Nat} (h : p + 4 ≤ bs.length) : ∃ c0 c1 c2 c3, bs[p]? = some c0 ∧ bs[p + 1]? = some c1 ∧ bs[p + 2]? = some c2 ∧ bs[p + 3]? = some c3 ∧ (bs.drop p).take 4 = [c0, c1, c2, c3] := by
  refine ⟨bs[p]'(by omega), bs[p + 1]'(by omega), bs[p + 2]'(by omega), bs[p + 3]'(by omega), List.getElem?_eq_getElem _, List.getElem?_eq_getElem _, List.getElem?_eq_getElem _, List.getElem?_eq_getElem _, ?_⟩
  refine List.ext_getElem? fun i => ?_
  rw [List.getElem?_take]
  split
  · rename_i hi
    rw [List.getElem?_drop]
    rcases i with _ | _ | _ | _ | i
    · simp
    · simp
    · simp
    · simp
    · omega
  · rename_i hi
    rw [List.getElem?_eq_none]
    simp
    omega

end Go.Proofs.YtblbiikfipcbcaaGreatDoor
