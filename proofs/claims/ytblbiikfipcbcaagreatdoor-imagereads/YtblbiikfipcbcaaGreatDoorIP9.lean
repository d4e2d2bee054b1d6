/-
  Images, the pure side: the document's serials.
-/
import Derived.Test.YtblbiikfipcbcaaGreatDoorPRo
set_option linter.unusedVariables false
namespace Go.Proofs.YtblbiikfipcbcaaGreatDoor
namespace Im

/-- The sum of the serials is too great. -/
def over (last step : Nat) : Bool := decide (4611686018427387904 < step) || decide (4611686018427387904 - step < last)
def rser (last step : Nat) : Nat := if over last step then 0 else last + step
def rObs : Nat → List RO → List Ob
  | _, [] => []
  | last, o :: r => ⟨rser last o.1, o.2.1, o.2.2.1, o.2.2.2.1.map Int.ofNat, o.2.2.2.2⟩ :: rObs (rser last o.1) r
def rOver : Nat → List RO → Bool
  | _, [] => false
  | last, o :: r => over last o.1 || rOver (rser last o.1) r
/-- The last serial. -/
def rLast : Nat → List RO → Nat
  | last, [] => last
  | last, o :: r => rLast (rser last o.1) r

theorem over_no {last step : Nat} (h : over last step = false) : step ≤ 4611686018427387904 ∧ last + step ≤ 4611686018427387904 := by
  unfold over at h
  simp at h
  omega
theorem over_of {last step : Nat} (h : last + step ≤ 4611686018427387904) : over last step = false := by
  unfold over
  simp
  omega
theorem rser_le (last step : Nat) : rser last step ≤ 4611686018427387904 := by
  unfold rser
  cases h : over last step with
  | true => simp
  | false => have := over_no h; simp; omega

theorem rObs_snoc : ∀ (l : List RO) (last : Nat) (o : RO), rObs last (l ++ [o]) = rObs last l ++ [⟨rser (rLast last l) o.1, o.2.1, o.2.2.1, o.2.2.2.1.map Int.ofNat, o.2.2.2.2⟩]
  | [], _, _ => rfl
  | x :: r, last, o => by
    show _ :: rObs _ (r ++ [o]) = _ :: (rObs _ r ++ _)
    rw [rObs_snoc r]
    rfl
theorem rOver_snoc : ∀ (l : List RO) (last : Nat) (o : RO), rOver last (l ++ [o]) = (rOver last l || over (rLast last l) o.1)
  | [], _, _ => by simp [rOver, rLast]
  | x :: r, last, o => by
    show (over last x.1 || rOver _ (r ++ [o])) = _
    rw [rOver_snoc r, ← Bool.or_assoc]
    rfl
theorem rLast_snoc : ∀ (l : List RO) (last : Nat) (o : RO), rLast last (l ++ [o]) = rser (rLast last l) o.1
  | [], _, _ => rfl
  | x :: r, last, o => rLast_snoc r (rser last x.1) o

theorem rObs_eq : ∀ (l : List RO) (last : Nat), rOver last l = false → rObs last l = wObs last l
  | [], _, _ => rfl
  | o :: r, last, h => by
    have h' : (over last o.1 || rOver (rser last o.1) r) = false := h
    rw [Bool.or_eq_false_iff] at h'
    have h1 := over_no h'.1
    have e1 : rser last o.1 = last + o.1 := by unfold rser; rw [h'.1]; rfl
    have e2 : (last + o.1) % 18446744073709551616 = last + o.1 := Nat.mod_eq_of_lt (by omega)
    have h2 := h'.2
    rw [e1] at h2
    show _ :: rObs (rser last o.1) r = _ :: wObs ((last + o.1) % 18446744073709551616) r
    rw [e1, e2, rObs_eq r _ h2]

theorem rOver_no : ∀ (l : List RO) (last : Nat), last ≤ 4611686018427387904 → (∀ x, x ∈ l → x.1 ≤ great) → Rise last (wObs last l) → (∀ o, o ∈ wObs last l → o.ser ≤ 4611686018427387904) → rOver last l = false
  | [], _, _, _, _, _ => rfl
  | o :: r, last, h0, h1, h2, h3 => by
    have h4 := h1 o (by simp)
    unfold great at h4
    have e2 : (last + o.1) % 18446744073709551616 = last + o.1 := Nat.mod_eq_of_lt (by omega)
    have h5 : (last + o.1) % 18446744073709551616 ≤ 4611686018427387904 := h3 _ (List.mem_cons_self ..)
    rw [e2] at h5
    have h6 := over_of h5
    have e1 : rser last o.1 = last + o.1 := by unfold rser; rw [h6]; rfl
    have h7 : Rise ((last + o.1) % 18446744073709551616) (wObs ((last + o.1) % 18446744073709551616) r) := h2.2
    have h8 : ∀ x, x ∈ wObs ((last + o.1) % 18446744073709551616) r → x.ser ≤ 4611686018427387904 := fun x hx => h3 x (List.mem_cons_of_mem _ hx)
    rw [e2] at h7 h8
    show (over last o.1 || rOver (rser last o.1) r) = false
    rw [h6, e1, rOver_no r _ h5 (fun x hx => h1 x (by simp [hx])) h7 h8]
    rfl

end Im

/-- Where a sum was too great the graph may not be. -/
theorem over_bad {n : Im.NG} (h : Im.ngOk n) (ho : Im.rOver 0 n.2.1 = true) : ¬ MB (Im.wNG n) := fun hm => by
  have h1 := hm.o.rise
  have h2 : ∀ o, o ∈ Im.wObs 0 n.2.1 → o.ser ≤ 4611686018427387904 := fun o hom => by
    have h3 := rise_le _ _ hm.o.rise o hom
    have h4 := hm.o.low
    have h5 := hm.o.nx
    omega
  rw [Im.rOver_no n.2.1 0 (by decide) (fun x hx => (h.2.1.2 x hx).1) h1 h2] at ho
  cases ho

end Go.Proofs.YtblbiikfipcbcaaGreatDoor
