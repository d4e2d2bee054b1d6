/-
  known: the chapter's example.
-/
import Derived.Test.YtlnfhnahnmblmaaDoorM14
set_option linter.unusedVariables false
set_option maxRecDepth 100000
namespace Go.Proofs.YtlnfhnahnmblmaaDoor
open Go.RowKit Go.Shelf

def km (k : Nat) : Bool := (decide (3 ≤ k) && decide (k < 8)) || (decide (64 ≤ k) && decide (k < 135))

theorem km_fil : fil 200 (([3, 4, 6, 2, 64, 1, 65, 70] : List Int).take 600) (fun _ => false) = km := by
  have h : fil 200 (([3, 4, 6, 2, 64, 1, 65, 70] : List Int).take 600) (fun _ => false) = add (add (add (add (fun _ => false) 3 7) 6 8) 64 65) 65 135 := by
    simp [fil, fil1]
  rw [h]
  funext k
  simp only [add, km, Bool.false_or]
  rw [Bool.eq_iff_iff]
  simp only [Bool.or_eq_true, Bool.and_eq_true, decide_eq_true_eq]
  omega

theorem km_rk : rk km 200 = 76 := by decide
theorem km_cut : rk (cut km 1 200) 200 = 76 := by decide
theorem km_134 : rk (cut km 1 200) 134 = 75 := by decide
theorem km_sk : Sk km false 8 200 64 := .inr ⟨by decide, by decide, by decide, fun k h1 h2 => by simp only [km]; rw [Bool.eq_false_iff]; simp only [ne_eq, Bool.or_eq_true, Bool.and_eq_true, decide_eq_true_eq]; omega⟩

theorem eight_lst (w : World) : Lst (w.alloc (.cells #[.int .i64 3, .int .i64 4, .int .i64 6, .int .i64 2, .int .i64 64, .int .i64 1, .int .i64 65, .int .i64 70] 3)) (some ⟨w.heap.size, 0, none⟩) [3, 4, 6, 2, 64, 1, 65, 70] := by
  intro i u hu
  have hc : ∀ j, (w.alloc (.cells #[.int .i64 3, .int .i64 4, .int .i64 6, .int .i64 2, .int .i64 64, .int .i64 1, .int .i64 65, .int .i64 70] 3)).cell? ⟨w.heap.size, j, none⟩ = (#[.int .i64 3, .int .i64 4, .int .i64 6, .int .i64 2, .int .i64 64, .int .i64 1, .int .i64 65, .int .i64 70] : Array Value)[j]? := fun j => cell_of_row _ _ j _ _ _ (heap_alloc_new w _)
  match i, hu with
  | 0, h | 1, h | 2, h | 3, h | 4, h | 5, h | 6, h | 7, h =>
    simp at h
    subst h
    exact ⟨by decide, _, 0, rfl, by simp, by rw [Nat.zero_add]; exact hc _⟩
  | j + 8, h => simp at h

set_option maxHeartbeats 8000000 in
theorem known_any (w : World) (hL : Laid w) :
    Calls Tryd.prog 9 #[] w fun r w' => r = .returned (.bool true) ∧ Below w.heap.size w w' := by
  have b0 : Below w.heap.size w (w.alloc (.cells #[.int .i64 3, .int .i64 4, .int .i64 6, .int .i64 2, .int .i64 64, .int .i64 1, .int .i64 65, .int .i64 70] 3)) := Below.alloc (Below.refl _ _) (Nat.le_refl _) _
  have hfi := filled_in 200 (by decide) (some ⟨w.heap.size, 0, none⟩) 8 [3, 4, 6, 2, 64, 1, 65, 70] (by decide) _ (hL.below b0) (eight_lst w)
  rw [km_fil] at hfi
  have HL : Hid (Laid w) := hL
  clear hL
  go_enter Tryd.func9, Tryd.ntmps9
  go_wp2_with fail
  refine hfi.mono ?_
  rintro r w1 ⟨⟨b, g, rfl, hM, -, -⟩, b1⟩
  have b2 := b0.trans (b1.mono b0.size)
  clear hfi b0 b1
  have HM : Hid (Mp w1 b g 200 km) := hM
  have hh7 := has_any b g 200 km 7 w1 hM
  rw [show hasB km 7 = true by decide] at hh7
  have hh8 := has_any b g 200 km 8 w1 hM
  rw [show hasB km 8 = false by decide] at hh8
  have hco := count_any b g 200 km 0 200 (by decide) w1 hM (HL.out.below b2)
  rw [show rk km (min (200 : Int) (200 : Nat)).toNat - rk km (max (0 : Int) 0).toNat = 76 by decide] at hco
  clear hM
  go_wp2_with fail
  refine hh7.mono ?_
  rintro r w2 ⟨rfl, rfl⟩
  clear hh7
  go_wp2_with fail
  refine hh8.mono ?_
  rintro r w2 ⟨rfl, rfl⟩
  clear hh8
  go_wp2_with fail
  refine hco.mono ?_
  rintro r w3 ⟨rfl, b3⟩
  have hM3 := HM.out.below b3
  have b4 := b2.trans (b3.mono b2.size)
  have hne := next_nat b g 200 8 64 km 8 (by decide) (by decide) km_sk w3 hM3 (HL.out.below b4)
  rw [show (if (64 : Nat) = 200 then (-1 : Int) else ((64 : Nat) : Int)) = 64 by decide] at hne
  have HM3 : Hid (Mp w3 b g 200 km) := hM3
  clear hco b3 b2 hM3 HM
  go_wp2_with fail
  refine hne.mono ?_
  rintro r w4 ⟨rfl, b5⟩
  have hM4 := HM3.out.below b5
  have b6 := b4.trans (b5.mono b4.size)
  have hsl := slide_in b g 200 1 200 1 km (by decide) (by decide) (by decide) w4 hM4 (HL.out.below b6)
  clear hne b5 b4 HM3 hM4
  go_wp2_with fail
  refine hsl.mono ?_
  rintro r w5 ⟨⟨s, kb, kg, q, rfl, hS, -, -, -, -⟩, b7⟩
  have b8 := b6.trans (b7.mono b6.size)
  have HS : Hid (Sl w5 s kb kg q 1 200 (cut km 1 200)) := hS
  have hnum := num_any 0 w5
  have hto := total_any s kb kg q 1 200 _ w5 hS
  rw [km_cut] at hto
  clear hsl b7 b6 hS
  go_wp2_with fail
  refine hnum.mono ?_
  rintro r w6 ⟨rfl, rfl⟩
  clear hnum
  go_wp2_with fail
  refine hto.mono ?_
  rintro r w6 ⟨rfl, rfl⟩
  clear hto
  have h134 := to_in s kb kg q 1 200 134 (cut km 1 200) (by decide) w5 HS.out (HL.out.below b8)
  rw [km_134] at h134
  go_wp2_with fail
  refine h134.mono ?_
  rintro r w7 ⟨rfl, b9⟩
  have b10 := b8.trans (b9.mono b8.size)
  have hno := to_out s kb kg q 1 200 (cut km 1 200) 8 (by decide) w7 (HS.out.below b9)
  clear h134 b9 b8
  go_wp2_with fail
  refine hno.mono ?_
  rintro r w8 ⟨rfl, rfl⟩
  clear hno
  go_wp2
  go_ret
  exact ⟨rfl, b10⟩
end Go.Proofs.YtlnfhnahnmblmaaDoor
