import Derived.Test.YtpiemfchjlihfaaGreatDoorPCa
/-
  The document's own answer for forwarding words and fillers; CellCounts: the walk.
-/
set_option linter.unusedVariables false
namespace Go.Proofs.YtpiemfchjlihfaaGreatDoor
open Go.RowKit

set_option maxHeartbeats 1000000 in
theorem counted_any (c n : Int) (h0 : 0 ≤ c) (h1 : c < 4) (w : World) :
    Calls Tryz.prog 114 #[.int .i64 n, .int .u64 c] w fun e w' => e = .returned (.int .u64 (tg c n)) ∧ w' = w := by
  by_cases a : n < 1
  · have e : tg c n = 0 := by unfold tg; rw [if_pos (.inl a)]
    rw [e]
    clear e
    go_enter Tryz.func114, Tryz.ntmps114
    go_wp2
    go_ret
    exact ⟨rfl, rfl⟩
  · by_cases b : 1099511627776 < n
    · have e : tg c n = 0 := by unfold tg; rw [if_pos (.inr b)]
      rw [e]
      clear e
      go_enter Tryz.func114, Tryz.ntmps114
      go_wp2
      go_ret
      exact ⟨rfl, rfl⟩
    · have e : tg c n = n * 4 + c := by unfold tg; rw [if_neg (by omega)]
      rw [e]
      clear e
      go_enter Tryz.func114, Tryz.ntmps114
      go_wp2
      go_ret
      exact ⟨rfl, rfl⟩

set_option maxHeartbeats 1000000 in
theorem told_any (c m : Int) (hm : Wd m) (w : World) :
    Calls Tryz.prog 102 #[.int .u64 m, .int .u64 c] w fun e w' => e = .returned (.tuple #[.int .i64 (tn c m), .bool (decide (IsTag c m))]) ∧ w' = w := by
  obtain ⟨m0, m1⟩ := id hm
  unfold tn
  by_cases a : m % 4 = c
  · by_cases b : 1 ≤ m / 4
    · by_cases d : m / 4 ≤ 1099511627776
      · have x : IsTag c m := ⟨a, b, d⟩
        rw [if_pos x, decide_eq_true x]
        clear x
        go_enter Tryz.func102, Tryz.ntmps102
        go_wp2
        go_ret2
        exact ⟨rfl, rfl⟩
      · have x : ¬ IsTag c m := fun h => d h.2.2
        rw [if_neg x, decide_eq_false x]
        clear x
        go_enter Tryz.func102, Tryz.ntmps102
        go_wp2
        go_ret2
        exact ⟨rfl, rfl⟩
    · have x : ¬ IsTag c m := fun h => b h.2.1
      rw [if_neg x, decide_eq_false x]
      clear x
      go_enter Tryz.func102, Tryz.ntmps102
      go_wp2
      go_ret2
      exact ⟨rfl, rfl⟩
  · have x : ¬ IsTag c m := fun h => a h.1
    rw [if_neg x, decide_eq_false x]
    clear x
    go_enter Tryz.func102, Tryz.ntmps102
    go_wp2
    go_ret2
    exact ⟨rfl, rfl⟩

set_option maxHeartbeats 400000 in
theorem rfiller_any (n : Int) (w : World) :
    Calls Tryz.prog 93 #[.int .i64 n] w fun e w' => e = .returned (.int .u64 (tg 3 n)) ∧ w' = w := by
  go_enter Tryz.func93, Tryz.ntmps93
  go_wp2_with fail
  refine (counted_any 3 n (by decide) (by decide) _).mono ?_
  rintro e w' ⟨rfl, rfl⟩
  go_wp2
  go_ret
  exact ⟨rfl, rfl⟩

set_option maxHeartbeats 400000 in
theorem rfilled_any (m : Int) (hm : Wd m) (w : World) :
    Calls Tryz.prog 77 #[.int .u64 m] w fun e w' => e = .returned (.tuple #[.int .i64 (tn 3 m), .bool (decide (IsTag 3 m))]) ∧ w' = w := by
  have h := told_any 3 m hm w
  generalize tn 3 m = a, decide (IsTag 3 m) = b at h ⊢
  go_enter Tryz.func77, Tryz.ntmps77
  go_wp2_with fail
  refine h.mono ?_
  rintro e w' ⟨rfl, rfl⟩
  go_wp2
  go_ret2
  exact ⟨rfl, rfl⟩

end Go.Proofs.YtpiemfchjlihfaaGreatDoor

/-
  The document's own answer for heads.
-/
set_option linter.unusedVariables false
namespace Go.Proofs.YtpiemfchjlihfaaGreatDoor
open Go.RowKit

set_option maxHeartbeats 1000000 in
theorem rcheck_bad (s k p r a t : Int) (h : Bool) (hk : k < 1 ∨ 4 < k ∨ (k = 2 ∧ p < 1) ∨ (k = 3 ∧ p < 2)) (w : World) :
    Calls Tryz.prog 92 #[hv s k p r a t h] w fun e w' => e = .returned (.int .i64 20) ∧ w' = w.alloc (.cells (hcells s k p r a t h) 46) := by
  rcases hk with c | c | ⟨rfl, c⟩ | ⟨rfl, c⟩
  all_goals
    go_enter Tryz.func92, Tryz.ntmps92
    go_wp2
    go_ret
    exact ⟨rfl, rfl⟩

structure Good (k p : Int) : Prop where
  h : ¬ (k < 1 ∨ 4 < k ∨ (k = 2 ∧ p < 1) ∨ (k = 3 ∧ p < 2))

set_option maxHeartbeats 1000000 in
theorem rcheck_good (s k p r a t : Int) (h : Bool) (hk : ¬ (k < 1 ∨ 4 < k ∨ (k = 2 ∧ p < 1) ∨ (k = 3 ∧ p < 2))) (w : World) :
    Calls Tryz.prog 92 #[hv s k p r a t h] w fun e w' => e = .returned (.int .i64 (flt k p r a t)) ∧ w' = w.alloc (.cells (hcells s k p r a t h) 46) := by
  generalize hf : flt k p r a t = f
  have hg : Good k p := ⟨hk⟩
  obtain rfl | rfl | ⟨rfl, hp⟩ | ⟨rfl, hp⟩ : k = 1 ∨ k = 4 ∨ (k = 2 ∧ 1 ≤ p) ∨ (k = 3 ∧ 2 ≤ p) := by omega
  all_goals
    clear hk
    go_enter Tryz.func92, Tryz.ntmps92
    go_upto_region 3 with fail
    by_cases c0 : p < 0
    · first
      | (exfalso; omega)
      | (go_wp2
         go_ret
         refine ⟨?_, rfl⟩
         rw [← hf, flt_ptrs hg.h (by omega)]
         rfl)
    by_cases c1 : 4095 < p
    · go_wp2
      go_ret
      refine ⟨?_, rfl⟩
      rw [← hf, flt_ptrs hg.h (by omega)]
      rfl
    by_cases c2 : r < 0
    · go_wp2
      go_ret
      refine ⟨?_, rfl⟩
      rw [← hf, flt_raws hg.h (by omega) (by omega)]
      rfl
    by_cases c3 : 65535 < r
    · go_wp2
      go_ret
      refine ⟨?_, rfl⟩
      rw [← hf, flt_raws hg.h (by omega) (by omega)]
      rfl
    by_cases c4 : a < 0
    · go_wp2
      go_ret
      refine ⟨?_, rfl⟩
      rw [← hf, flt_age hg.h (by omega) (by omega) (by omega)]
      rfl
    by_cases c5 : 15 < a
    · go_wp2
      go_ret
      refine ⟨?_, rfl⟩
      rw [← hf, flt_age hg.h (by omega) (by omega) (by omega)]
      rfl
    by_cases c6 : t < 0
    · go_wp2
      go_ret
      refine ⟨?_, rfl⟩
      rw [← hf, flt_site hg.h (by omega) (by omega) (by omega) (by omega)]
      rfl
    by_cases c7 : 255 < t
    · go_wp2
      go_ret
      refine ⟨?_, rfl⟩
      rw [← hf, flt_site hg.h (by omega) (by omega) (by omega) (by omega)]
      rfl
    go_wp2
    go_ret
    refine ⟨?_, rfl⟩
    rw [← hf, flt_ok hg.h (by omega) (by omega) (by omega) (by omega)]
    rfl

theorem rcheck_any (s k p r a t : Int) (h : Bool) (w : World) :
    Calls Tryz.prog 92 #[hv s k p r a t h] w fun e w' => e = .returned (.int .i64 (flt k p r a t)) ∧ w' = w.alloc (.cells (hcells s k p r a t h) 46) := by
  by_cases hk : k < 1 ∨ 4 < k ∨ (k = 2 ∧ p < 1) ∨ (k = 3 ∧ p < 2)
  · rw [flt_kind hk]
    exact rcheck_bad s k p r a t h hk w
  · exact rcheck_good s k p r a t h hk w

end Go.Proofs.YtpiemfchjlihfaaGreatDoor

/-
  The document's own answer: Pack, Unpack, Size.
-/
set_option linter.unusedVariables false
namespace Go.Proofs.YtpiemfchjlihfaaGreatDoor
open Go.RowKit

set_option maxHeartbeats 1000000 in
theorem rpack_any (s k p r a t : Int) (h : Bool) (w : World) :
    Calls Tryz.prog 57 #[hv s k p r a t h] w fun e w' => e = .returned (.tuple #[.int .u64 (pck k p r a t h), .int .i64 (flt k p r a t)]) ∧ Below w.heap.size w w' := by
  by_cases hf : flt k p r a t = 0
  · have hp : pck k p r a t h = wrd k p r a t h := by unfold pck; rw [if_pos hf]
    have hfa := rcheck_any s k p r a t h (w.alloc (.cells (hcells s k p r a t h) 46))
    obtain ⟨h1, h2, h3, h4, h5, h6, h7, h8, h9, h10, h11, h12⟩ := May.of hf
    clear h3 h4
    rw [hf] at hfa ⊢
    rw [hp]
    clear hf hp
    have hw : wrd k p r a t h = ((((((r * 4096 + p) * 256 + t) * 16 + a) * 2 + (if h then 1 else 0)) * 8 + k) * 4 + 1) := by
      unfold wrd
      cases h <;> simp <;> omega
    rw [hw]
    clear hw
    have hb : Below w.heap.size w ((w.alloc (.cells (hcells s k p r a t h) 46)).alloc (.cells (hcells s k p r a t h) 46)) := by go_grown
    cases h
    all_goals
      go_enter Tryz.func57, Tryz.ntmps57
      go_wp2_with fail
      refine hfa.mono ?_
      rintro e w' ⟨rfl, rfl⟩
      go_wp2
      go_ret2
      refine ⟨?_, hb⟩
      simp
  · have hp : pck k p r a t h = 0 := by unfold pck; rw [if_neg hf]
    have hfa := rcheck_any s k p r a t h (w.alloc (.cells (hcells s k p r a t h) 46))
    rw [hp]
    generalize flt k p r a t = f at hf hfa ⊢
    go_enter Tryz.func57, Tryz.ntmps57
    go_wp2_with fail
    refine hfa.mono ?_
    rintro e w' ⟨rfl, rfl⟩
    go_wp2
    go_ret2
    refine ⟨rfl, ?_⟩
    go_grown

set_option maxHeartbeats 1000000 in
theorem runpack_a (m : Int) (hm : Wd m) (h : m % 4 ≠ 1) (w : World) :
    Calls Tryz.prog 98 #[.int .u64 m] w fun e w' => e = .returned (.tuple #[hv 0 0 0 0 0 0 false, .bool false]) ∧ Below w.heap.size w w' := by
  obtain ⟨m0, m1⟩ := hm
  go_enter Tryz.func98, Tryz.ntmps98
  go_wp2
  go_returns
  refine ⟨rfl, ?_⟩
  go_grown

set_option maxHeartbeats 1000000 in
theorem runpack_b (m : Int) (hm : Wd m) (h : m % 4 = 1) (h2 : m / 70368744177664 % 262144 ≠ 0) (w : World) :
    Calls Tryz.prog 98 #[.int .u64 m] w fun e w' => e = .returned (.tuple #[hv 0 0 0 0 0 0 false, .bool false]) ∧ Below w.heap.size w w' := by
  obtain ⟨m0, m1⟩ := hm
  have hq : 65535 < m / 4 / 8 / 2 / 16 / 256 / 4096 := by omega
  clear h2
  go_enter Tryz.func98, Tryz.ntmps98
  go_upto_region 15 with fail
  generalize m / 4 / 8 / 2 / 16 / 256 / 4096 = r at hq ⊢
  rw [h]
  go_wp2
  go_returns
  refine ⟨rfl, ?_⟩
  go_grown

set_option maxHeartbeats 1000000 in
theorem runpack_c (m k p r a t : Int) (hh : Bool) (hm : Wd m) (h : m % 4 = 1) (hk : m / 4 % 8 = k) (hhd : (m / 4 / 8 % 2 == 1) = hh) (ha : m / 4 / 8 / 2 % 16 = a) (ht : m / 4 / 8 / 2 / 16 % 256 = t) (hp : m / 4 / 8 / 2 / 16 / 256 % 4096 = p) (hr : m / 4 / 8 / 2 / 16 / 256 / 4096 = r) (r0 : 0 ≤ r) (r1 : r ≤ 65535)
    (hf : flt k p r a t ≠ 0) (w : World) :
    Calls Tryz.prog 98 #[.int .u64 m] w fun e w' => e = .returned (.tuple #[hv 0 0 0 0 0 0 false, .bool false]) ∧ Below w.heap.size w w' := by
  obtain ⟨m0, m1⟩ := hm
  go_enter Tryz.func98, Tryz.ntmps98
  go_upto_region 15 with fail
  simp only [h, hk, ha, ht, hp, hr]
  clear h hk hhd ha ht hp hr m0 m1
  have hX := Box.new w 46 (.int .u64 0) (.int .i64 0) (.int .i64 0) (.int .i64 0) (.int .i64 0) (.int .i64 0) (.bool false)
  have hb := Below.alloc (Below.refl w.heap.size w) (Nat.le_refl _) (.cells (hcells 0 0 0 0 0 0 false) 46)
  have hxlt := hX.lt
  generalize (w.alloc (.cells (hcells 0 0 0 0 0 0 false) 46)) = w1 at hX hb hxlt ⊢
  go_upto_region 18 with fail
  have hX3 := hX.keep (Below.alloc (Below.refl _ _) (Nat.le_refl _) (.cells (hcells 0 k p r a t hh) 46)) hxlt
  have hY := Box.new w1 46 (.int .u64 0) (.int .i64 k) (.int .i64 p) (.int .i64 r) (.int .i64 a) (.int .i64 t) (.bool hh)
  have hb3 := Below.alloc hb hb.size (.cells (hcells 0 k p r a t hh) 46)
  have hne : w.heap.size ≠ w1.heap.size := Nat.ne_of_lt hxlt
  have hylt := hY.lt
  have hxlt3 := hX3.lt
  clear hX hb hxlt
  have hfa := rcheck_any 0 k p r a t hh (w1.alloc (.cells (hcells 0 k p r a t hh) 46))
  generalize (w1.alloc (.cells (hcells 0 k p r a t hh) 46)) = w3 at hX3 hY hb3 hylt hxlt3 hfa ⊢
  generalize flt k p r a t = f at hf hfa
  have hY0 := hY
  obtain ⟨y0, y1, y2, y3, y4, y5, y6, -, -, -, -, -, -, -⟩ := hY
  go_wp2_with fail
  clear y0 y1 y2 y3 y4 y5 y6
  refine hfa.mono ?_
  rintro e w' ⟨rfl, rfl⟩
  have hX4 := hX3.keep (Below.alloc (Below.refl _ _) (Nat.le_refl _) (.cells (hcells 0 k p r a t hh) 46)) hxlt3
  have hY4 := hY0.keep (Below.alloc (Below.refl _ _) (Nat.le_refl _) (.cells (hcells 0 k p r a t hh) 46)) hylt
  have hb4 := Below.alloc hb3 hb3.size (.cells (hcells 0 k p r a t hh) 46)
  clear hX3 hY0 hb3 hfa
  generalize (w3.alloc (.cells (hcells 0 k p r a t hh) 46)) = w4 at hX4 hY4 hb4 ⊢
  go_upto_region 20 with fail
  obtain ⟨x0, x1, x2, x3, x4, x5, x6, f0, f1, f2, f3, f4, f5, f6⟩ := hX4
  obtain ⟨y0, y1, y2, y3, y4, y5, y6, -, -, -, -, -, -, -⟩ := hY4
  go_wp2
  refine bodyPost_ret (by simp [results, Tryz.results98, go_sem, x0, x1, x2, x3, x4, x5, x6]; try rfl) rfl ?_
  refine ⟨rfl, ?_⟩
  go_grown

set_option maxHeartbeats 1000000 in
theorem runpack_d (m k p r a t : Int) (hh : Bool) (hm : Wd m) (h : m % 4 = 1) (hk : m / 4 % 8 = k) (hhd : (m / 4 / 8 % 2 == 1) = hh) (ha : m / 4 / 8 / 2 % 16 = a) (ht : m / 4 / 8 / 2 / 16 % 256 = t) (hp : m / 4 / 8 / 2 / 16 / 256 % 4096 = p) (hr : m / 4 / 8 / 2 / 16 / 256 / 4096 = r) (r0 : 0 ≤ r) (r1 : r ≤ 65535)
    (hf : flt k p r a t = 0) (w : World) :
    Calls Tryz.prog 98 #[.int .u64 m] w fun e w' => e = .returned (.tuple #[hv 0 k p r a t hh, .bool true]) ∧ Below w.heap.size w w' := by
  obtain ⟨m0, m1⟩ := hm
  go_enter Tryz.func98, Tryz.ntmps98
  go_upto_region 15 with fail
  simp only [h, hk, ha, ht, hp, hr]
  clear h hk hhd ha ht hp hr m0 m1
  have hX := Box.new w 46 (.int .u64 0) (.int .i64 0) (.int .i64 0) (.int .i64 0) (.int .i64 0) (.int .i64 0) (.bool false)
  have hb := Below.alloc (Below.refl w.heap.size w) (Nat.le_refl _) (.cells (hcells 0 0 0 0 0 0 false) 46)
  have hxlt := hX.lt
  generalize (w.alloc (.cells (hcells 0 0 0 0 0 0 false) 46)) = w1 at hX hb hxlt ⊢
  go_upto_region 18 with fail
  have hX3 := hX.keep (Below.alloc (Below.refl _ _) (Nat.le_refl _) (.cells (hcells 0 k p r a t hh) 46)) hxlt
  have hY := Box.new w1 46 (.int .u64 0) (.int .i64 k) (.int .i64 p) (.int .i64 r) (.int .i64 a) (.int .i64 t) (.bool hh)
  have hb3 := Below.alloc hb hb.size (.cells (hcells 0 k p r a t hh) 46)
  have hne : w.heap.size ≠ w1.heap.size := Nat.ne_of_lt hxlt
  have hylt := hY.lt
  have hxlt3 := hX3.lt
  clear hX hb hxlt
  have hfa := rcheck_any 0 k p r a t hh (w1.alloc (.cells (hcells 0 k p r a t hh) 46))
  generalize (w1.alloc (.cells (hcells 0 k p r a t hh) 46)) = w3 at hX3 hY hb3 hylt hxlt3 hfa ⊢
  rw [hf] at hfa
  clear hf
  have hY0 := hY
  obtain ⟨y0, y1, y2, y3, y4, y5, y6, -, -, -, -, -, -, -⟩ := hY
  go_wp2_with fail
  clear y0 y1 y2 y3 y4 y5 y6
  refine hfa.mono ?_
  rintro e w' ⟨rfl, rfl⟩
  have hX4 := hX3.keep (Below.alloc (Below.refl _ _) (Nat.le_refl _) (.cells (hcells 0 k p r a t hh) 46)) hxlt3
  have hY4 := hY0.keep (Below.alloc (Below.refl _ _) (Nat.le_refl _) (.cells (hcells 0 k p r a t hh) 46)) hylt
  have hb4 := Below.alloc hb3 hb3.size (.cells (hcells 0 k p r a t hh) 46)
  clear hX3 hY0 hb3 hfa
  generalize (w3.alloc (.cells (hcells 0 k p r a t hh) 46)) = w4 at hX4 hY4 hb4 ⊢
  go_upto_region 21 with fail
  obtain ⟨x0, x1, x2, x3, x4, x5, x6, f0, f1, f2, f3, f4, f5, f6⟩ := hX4
  obtain ⟨y0, y1, y2, y3, y4, y5, y6, -, -, -, -, -, -, -⟩ := hY4
  go_wp2
  refine bodyPost_ret (by simp [results, Tryz.results98, go_sem, x0, x1, x2, x3, x4, x5, x6]; try rfl) rfl ?_
  refine ⟨rfl, ?_⟩
  go_grown

theorem parts_of {m : Int} (hm : Wd m) (h2 : m / 70368744177664 % 262144 = 0) : (m / 4 / 8 % 2 == 1) = hdOf m ∧ m / 4 / 8 / 2 % 16 = agOf m ∧ m / 4 / 8 / 2 / 16 % 256 = stOf m ∧ m / 4 / 8 / 2 / 16 / 256 % 4096 = ptOf m ∧ m / 4 / 8 / 2 / 16 / 256 / 4096 = rwOf m := by
  obtain ⟨m0, m1⟩ := hm
  unfold hdOf agOf stOf ptOf rwOf
  refine ⟨?_, by omega, by omega, by omega, by omega⟩
  have e : m / 4 / 8 % 2 = m / 32 % 2 := by omega
  rw [e]
  rfl

theorem runpack_yes (m : Int) (hm : Wd m) (h : IsHead m) (w : World) :
    Calls Tryz.prog 98 #[.int .u64 m] w fun e w' => e = .returned (.tuple #[hv 0 (kdOf m) (ptOf m) (rwOf m) (agOf m) (stOf m) (hdOf m), .bool true]) ∧ Below w.heap.size w w' := by
  obtain ⟨e1, e2, e3, e4, e5⟩ := parts_of hm h.2.1
  exact runpack_d m _ _ _ _ _ _ hm h.1 rfl e1 e2 e3 e4 e5 (by unfold rwOf; omega) (by unfold rwOf; omega) h.2.2 w

theorem runpack_no (m : Int) (hm : Wd m) (h : ¬ IsHead m) (w : World) :
    Calls Tryz.prog 98 #[.int .u64 m] w fun e w' => e = .returned (.tuple #[hv 0 0 0 0 0 0 false, .bool false]) ∧ Below w.heap.size w w' := by
  by_cases h1 : m % 4 = 1
  · by_cases h2 : m / 70368744177664 % 262144 = 0
    · obtain ⟨e1, e2, e3, e4, e5⟩ := parts_of hm h2
      exact runpack_c m _ _ _ _ _ _ hm h1 rfl e1 e2 e3 e4 e5 (by unfold rwOf; omega) (by unfold rwOf; omega) (fun h3 => h ⟨h1, h2, h3⟩) w
    · exact runpack_b m hm h1 h2 w
  · exact runpack_a m hm h1 w

end Go.Proofs.YtpiemfchjlihfaaGreatDoor

