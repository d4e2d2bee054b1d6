/-
  The document's own answer for forwarding words and fillers; CellCounts: the walk.
-/
import Derived.Test.YtoanmgnoonmkbaaDoorCTag
set_option linter.unusedVariables false
namespace Go.Proofs.YtoanmgnoonmkbaaDoor
open Go.RowKit

set_option maxHeartbeats 1000000 in
theorem counted_any (c n : Int) (h0 : 0 ≤ c) (h1 : c < 4) (w : World) :
    Calls Tryd.prog 38 #[.int .i64 n, .int .u64 c] w fun e w' => e = .returned (.int .u64 (tg c n)) ∧ w' = w := by
  by_cases a : n < 1
  · have e : tg c n = 0 := by unfold tg; rw [if_pos (.inl a)]
    rw [e]
    clear e
    go_enter Tryd.func38, Tryd.ntmps38
    go_wp2
    go_ret
    exact ⟨rfl, rfl⟩
  · by_cases b : 1099511627776 < n
    · have e : tg c n = 0 := by unfold tg; rw [if_pos (.inr b)]
      rw [e]
      clear e
      go_enter Tryd.func38, Tryd.ntmps38
      go_wp2
      go_ret
      exact ⟨rfl, rfl⟩
    · have e : tg c n = n * 4 + c := by unfold tg; rw [if_neg (by omega)]
      rw [e]
      clear e
      go_enter Tryd.func38, Tryd.ntmps38
      go_wp2
      go_ret
      exact ⟨rfl, rfl⟩

set_option maxHeartbeats 1000000 in
theorem told_any (c m : Int) (hm : Wd m) (w : World) :
    Calls Tryd.prog 37 #[.int .u64 m, .int .u64 c] w fun e w' => e = .returned (.tuple #[.int .i64 (tn c m), .bool (decide (IsTag c m))]) ∧ w' = w := by
  obtain ⟨m0, m1⟩ := id hm
  unfold tn
  by_cases a : m % 4 = c
  · by_cases b : 1 ≤ m / 4
    · by_cases d : m / 4 ≤ 1099511627776
      · have x : IsTag c m := ⟨a, b, d⟩
        rw [if_pos x, decide_eq_true x]
        clear x
        go_enter Tryd.func37, Tryd.ntmps37
        go_wp2
        go_ret2
        exact ⟨rfl, rfl⟩
      · have x : ¬ IsTag c m := fun h => d h.2.2
        rw [if_neg x, decide_eq_false x]
        clear x
        go_enter Tryd.func37, Tryd.ntmps37
        go_wp2
        go_ret2
        exact ⟨rfl, rfl⟩
    · have x : ¬ IsTag c m := fun h => b h.2.1
      rw [if_neg x, decide_eq_false x]
      clear x
      go_enter Tryd.func37, Tryd.ntmps37
      go_wp2
      go_ret2
      exact ⟨rfl, rfl⟩
  · have x : ¬ IsTag c m := fun h => a h.1
    rw [if_neg x, decide_eq_false x]
    clear x
    go_enter Tryd.func37, Tryd.ntmps37
    go_wp2
    go_ret2
    exact ⟨rfl, rfl⟩

set_option maxHeartbeats 400000 in
theorem rforward_any (n : Int) (w : World) :
    Calls Tryd.prog 21 #[.int .i64 n] w fun e w' => e = .returned (.int .u64 (tg 2 n)) ∧ w' = w := by
  go_enter Tryd.func21, Tryd.ntmps21
  go_wp2_with fail
  refine (counted_any 2 n (by decide) (by decide) _).mono ?_
  rintro e w' ⟨rfl, rfl⟩
  go_wp2
  go_ret
  exact ⟨rfl, rfl⟩

set_option maxHeartbeats 400000 in
theorem rfiller_any (n : Int) (w : World) :
    Calls Tryd.prog 22 #[.int .i64 n] w fun e w' => e = .returned (.int .u64 (tg 3 n)) ∧ w' = w := by
  go_enter Tryd.func22, Tryd.ntmps22
  go_wp2_with fail
  refine (counted_any 3 n (by decide) (by decide) _).mono ?_
  rintro e w' ⟨rfl, rfl⟩
  go_wp2
  go_ret
  exact ⟨rfl, rfl⟩

set_option maxHeartbeats 400000 in
theorem rforwarded_any (m : Int) (hm : Wd m) (w : World) :
    Calls Tryd.prog 19 #[.int .u64 m] w fun e w' => e = .returned (.tuple #[.int .i64 (tn 2 m), .bool (decide (IsTag 2 m))]) ∧ w' = w := by
  have h := told_any 2 m hm w
  generalize tn 2 m = a, decide (IsTag 2 m) = b at h ⊢
  go_enter Tryd.func19, Tryd.ntmps19
  go_wp2_with fail
  refine h.mono ?_
  rintro e w' ⟨rfl, rfl⟩
  go_wp2
  go_ret2
  exact ⟨rfl, rfl⟩

set_option maxHeartbeats 400000 in
theorem rfilled_any (m : Int) (hm : Wd m) (w : World) :
    Calls Tryd.prog 20 #[.int .u64 m] w fun e w' => e = .returned (.tuple #[.int .i64 (tn 3 m), .bool (decide (IsTag 3 m))]) ∧ w' = w := by
  have h := told_any 3 m hm w
  generalize tn 3 m = a, decide (IsTag 3 m) = b at h ⊢
  go_enter Tryd.func20, Tryd.ntmps20
  go_wp2_with fail
  refine h.mono ?_
  rintro e w' ⟨rfl, rfl⟩
  go_wp2
  go_ret2
  exact ⟨rfl, rfl⟩

set_option maxHeartbeats 1000000 in
theorem counts_any (n m : Int) (hm : Wd m) (w : World) (hL : LaidB w) :
    Calls Tryd.prog 5 #[.int .i64 n, .int .u64 m] w fun e w' => e = .returned (.bool true) ∧ Below w.heap.size w w' := by
  have h1 := forwarded_any m hm w hL
  have h2 := rforwarded_any m hm
  have h3 : ∀ i, _ := fun i => filled_any m hm (w.drewN i) (hL.drewN i)
  have h4 := rfilled_any m hm
  have h5 := forward_any n
  have h6 := rforward_any n
  have h7 := filler_any n
  have h8 := rfiller_any n
  generalize tn 2 m = a, tn 3 m = b, decide (IsTag 2 m) = c, decide (IsTag 3 m) = d, tg 2 n = f, tg 3 n = g at h1 h2 h3 h4 h5 h6 h7 h8
  go_enter Tryd.func5, Tryd.ntmps5
  go_wp2_with fail
  refine h1.mono ?_
  rintro e w' ⟨rfl, i, rfl⟩
  go_wp2_with fail
  refine (h2 _).mono ?_
  rintro e w' ⟨rfl, rfl⟩
  go_wp2_with fail
  refine (h3 _).mono ?_
  rintro e w' ⟨rfl, j, rfl⟩
  go_wp2_with fail
  refine (h4 _).mono ?_
  rintro e w' ⟨rfl, rfl⟩
  go_wp2_with fail
  refine (h5 _).mono ?_
  rintro e w' ⟨rfl, rfl⟩
  go_wp2_with fail
  refine (h6 _).mono ?_
  rintro e w' ⟨rfl, rfl⟩
  go_wp2_with fail
  refine (h7 _).mono ?_
  rintro e w' ⟨rfl, rfl⟩
  go_wp2_with fail
  refine (h8 _).mono ?_
  rintro e w' ⟨rfl, rfl⟩
  go_wp2
  go_ret
  exact ⟨by first | rfl | simp, below_drewN (Below.refl _ _) _⟩

end Go.Proofs.YtoanmgnoonmkbaaDoor
