/-
  known: the chapter's examples hold.
-/
import Derived.Test.YtcjblafohfiiaaaTN
set_option linter.unusedVariables false
namespace Go.Proofs.Ytcjblafohfiiaaa
open Go.RowKit

theorem num_any (x : Int) (w : World) : Calls Try.prog 13 #[.int .i64 x] w fun e w' => e = .returned (.int .i64 x) ∧ w = w' := by
  go_enter Try.func13, Try.ntmps13
  go_wp2
  go_ret
  exact ⟨rfl, rfl⟩

theorem slen_same (b : Nat) (v : Value) (n : Nat) (w : World) (base : Nat) (xs : List Value) (hc : w.cell? ⟨b, 0, none⟩ = some v) (hr : w.ownsRow base 3 1 v n xs) :
    Calls Try.prog 16 #[.pointer (some ⟨b, 0, none⟩)] w fun e w' => e = .returned (.int .i64 n) ∧ w = w' :=
  (slen_any b v n w base xs hc hr).mono fun _ _ h => ⟨h.1, h.2.symm⟩

theorem lenT_same (b base n : Nat) (vk : Value) (xs : List Value) (w : World) (hc : w.cell? ⟨b, 0, none⟩ = some vk) (hr : w.ownsRow base 9 1 vk n xs) :
    Calls Try.prog 36 #[.pointer (some ⟨b, 0, none⟩)] w fun e w' => e = .returned (.int .i64 n) ∧ w = w' :=
  (lenT_any b base n vk xs w hc hr).mono fun _ _ h => ⟨h.1, h.2.symm⟩

abbrev sA : ByteArray := ⟨#[97]⟩
abbrev sB : ByteArray := ⟨#[98]⟩
abbrev sAA : ByteArray := ⟨#[97, 97]⟩

theorem less_ab : ltS sA sB = true := by simp only [ltS, ByteArray.toList_eq]; decide
theorem less_ba : ltS sB sA = false := by simp only [ltS, ByteArray.toList_eq]; decide
theorem less_a_aa : ltS sA sAA = true := by simp only [ltS, ByteArray.toList_eq]; decide
theorem less_b_aa : ltS sB sAA = false := by simp only [ltS, ByteArray.toList_eq]; decide

theorem cut1 : CutAt ltS [sB] sA 0 := ⟨by simp, fun i a h => by omega, fun i a _ h => by
  match i, h with
  | 0, h => simp at h; subst h; exact less_ba⟩
theorem cut2 : CutAt ltS [sA, sB] sB 1 := ⟨by simp, fun i a h h1 => by
  obtain rfl : i = 0 := by omega
  simp at h1; subst h1; exact less_ab, fun i a h0 h => by
  match i, h with
  | 1, h => simp at h; subst h; exact sordS.irr _⟩
theorem cut3 : CutAt ltS [sA, sB] sAA 1 := ⟨by simp, fun i a h h1 => by
  obtain rfl : i = 0 := by omega
  simp at h1; subst h1; exact less_a_aa, fun i a h0 h => by
  match i, h with
  | 1, h => simp at h; subst h; exact less_b_aa⟩

set_option maxHeartbeats 2000000 in
theorem known_any (w : World) : Calls Try.prog 7 #[] w fun e w' => e = .returned (.bool true) ∧ Below w.heap.size w w' := by
  go_enter Try.func7, Try.ntmps7
  go_wp2_with fail
  refine (newintstack_any 2 (by decide) _).mono ?_
  rintro e w1 ⟨rfl, hs1, ht1, hz1⟩
  have hB1 : Below w.heap.size w w1 := ht1.below (Nat.le_refl _) (by simp)
  have hl1 : w.heap.size < w1.heap.size := by omega
  clear hz1 ht1
  go_wp2_with (go_at_call 13; refine (num_any _ _).mono ?_; rintro e w' ⟨rfl, rfl⟩)
  refine (push_any _ _ 2 5 [] _ w1 hs1 hB1.size (by decide) (by simp)).mono ?_
  rintro e w2 ⟨rfl, F2, hs2, ht2, -⟩
  have hB2 : Below w.heap.size w w2 := hB1.trans (ht2.below hB1.size (fun k hk => (hs1.mem k hk).1))
  have hl2 : w.heap.size < w2.heap.size := Nat.lt_of_lt_of_le hl1 ht2.size
  clear hB1 ht2 hs1 hl1
  go_wp2_with fail
  refine (push_any _ _ 2 7 [5] _ w2 hs2 hB2.size (by decide) (by simp)).mono ?_
  rintro e w3 ⟨rfl, F3, hs3, ht3, -⟩
  have hB3 : Below w.heap.size w w3 := hB2.trans (ht3.below hB2.size (fun k hk => (hs2.mem k hk).1))
  have hl3 : w.heap.size < w3.heap.size := Nat.lt_of_lt_of_le hl2 ht3.size
  clear hB2 ht3 hs2 hl2
  go_wp2_with fail
  refine (push_full _ _ 2 9 [5, 7] _ w3 hs3 (by simp)).mono ?_
  rintro e w4 ⟨rfl, hs4, ht4⟩
  have hB4 : Below w.heap.size w w4 := hB3.trans (ht4.below hB3.size (by simp))
  have hl4 : w.heap.size < w4.heap.size := Nat.lt_of_lt_of_le hl3 ht4.size
  clear hB3 ht4 hs3 hl3
  go_wp2_with fail
  refine (pop_any _ _ 2 7 [5] _ w4 hs4 (by decide)).mono ?_
  rintro e w5 ⟨rfl, hs5, ht5⟩
  have hB5 : Below w.heap.size w w5 := hB4.trans (ht5.below hB4.size (fun k hk => (hs4.mem k hk).1))
  have hl5 : w.heap.size < w5.heap.size := Nat.lt_of_lt_of_le hl4 ht5.size
  clear hB4 ht5 hs4 hl4
  obtain ⟨v5, hh5, -, hr5, -⟩ := hs5
  have hc5 := heap_cell hh5 0
  simp only [List.getElem?_toArray, List.getElem?_cons_zero] at hc5
  clear hh5
  go_wp2_with (first | (go_at_call 13; refine (num_any _ _).mono ?_; rintro e w' ⟨rfl, rfl⟩) | (go_at_call 16; refine (slen_same _ _ 1 _ _ _ hc5 hr5).mono ?_; rintro e w' ⟨rfl, rfl⟩))
  clear hc5 hr5
  refine (newtext_any w5).mono ?_
  rintro e w6 ⟨rfl, hs6, ht6, hz6⟩
  have hB6 : Below w.heap.size w w6 := hB5.trans (ht6.below hB5.size (by simp))
  have hl6 : w5.heap.size < w6.heap.size := by omega
  have hl65 : w.heap.size ≤ w5.heap.size := hB5.size
  clear hB5 ht6 hl5 hz6
  go_wp2_with fail
  refine (setT_fresh _ _ 0 2 sB [] [] _ w6 hs6 (by omega) (by decide) (cut_nil _) (by simp)).mono ?_
  rintro e w7 ⟨rfl, F7, hs7, ht7, -⟩
  have hB7 : Below w.heap.size w w7 := hB6.trans (ht7.below hB6.size (fun k hk => Nat.le_trans hl65 (hs6.mem k hk).1))
  have hl7 : w5.heap.size < w7.heap.size := Nat.lt_of_lt_of_le hl6 ht7.size
  clear hB6 ht7 hs6 hl6
  go_wp2_with fail
  refine (setT_fresh _ _ 0 1 sA [sB] [2] _ w7 hs7 (by omega) (by decide) cut1 (by decide)).mono ?_
  rintro e w8 ⟨rfl, F8, hs8, ht8, -⟩
  have hB8 : Below w.heap.size w w8 := hB7.trans (ht8.below hB7.size (fun k hk => Nat.le_trans hl65 (hs7.mem k hk).1))
  clear hB7 ht8 hs7 hl7
  go_wp2_with fail
  refine (setT_again _ _ 1 3 sB [sA, sB] [1, 2] _ w8 hs8 (by decide) cut2 rfl).mono ?_
  rintro e w9 ⟨rfl, hs9, ht9⟩
  have hB9 : Below w.heap.size w w9 := hB8.trans (ht9.below hB8.size (fun k hk => Nat.le_trans hl65 (hs8.mem k hk).1))
  clear hB8 ht9 hs8
  go_wp2_with fail
  refine (nearT_yes _ _ 1 0 sAA sA 1 [sA, sB] [1, 3] _ w9 hs9 (by decide) cut3 (.inr ⟨by decide, rfl⟩) rfl rfl).mono ?_
  rintro e w10 ⟨rfl, nq, rfl⟩
  obtain ⟨vk, vv, hh9, -, hk9, -⟩ := hs9
  have hc9 := heap_cell hh9 0
  simp only [List.getElem?_toArray, List.getElem?_cons_zero] at hc9
  clear hh9
  go_wp2_with (go_at_call 36; refine (lenT_same _ _ 2 vk _ (w9.drewN nq) hc9 hk9).mono ?_; rintro e w' ⟨rfl, rfl⟩)
  go_ret
  exact ⟨rfl, below_drewN hB9 nq⟩

end Go.Proofs.Ytcjblafohfiiaaa
