import Derived.Test.YtlkengnefhhppaaGreatDoorPCa
import Derived.Test.YtlkengnefhhppaaGreatDoorPBa
set_option linter.unusedVariables false
set_option maxHeartbeats 8000000
set_option maxRecDepth 20000
namespace Go.Proofs.YtlkengnefhhppaaGreatDoor
open Go.RowKit
theorem counted_any (c n : Int) (h0 : 0 ≤ c) (h1 : c < 4) (w : World) :
    Calls Tryz.prog 161 #[.int .i64 n, .int .u64 c] w fun e w' => e = .returned (.int .u64 (tg c n)) ∧ w' = w := by
  by_cases a : n < 1
  · have e : tg c n = 0 := by unfold tg; rw [if_pos (.inl a)]
    rw [e]
    clear e
    go_enter Tryz.func161, Tryz.ntmps161
    go_wp2
    go_ret
    exact ⟨rfl, rfl⟩
  · by_cases b : 1099511627776 < n
    · have e : tg c n = 0 := by unfold tg; rw [if_pos (.inr b)]
      rw [e]
      clear e
      go_enter Tryz.func161, Tryz.ntmps161
      go_wp2
      go_ret
      exact ⟨rfl, rfl⟩
    · have e : tg c n = n * 4 + c := by unfold tg; rw [if_neg (by omega)]
      rw [e]
      clear e
      go_enter Tryz.func161, Tryz.ntmps161
      go_wp2
      go_ret
      exact ⟨rfl, rfl⟩
theorem told_any (c m : Int) (hm : Wd m) (w : World) :
    Calls Tryz.prog 166 #[.int .u64 m, .int .u64 c] w fun e w' => e = .returned (.tuple #[.int .i64 (tn c m), .bool (decide (IsTag c m))]) ∧ w' = w := by
  obtain ⟨m0, m1⟩ := id hm
  unfold tn
  by_cases a : m % 4 = c
  · by_cases b : 1 ≤ m / 4
    · by_cases d : m / 4 ≤ 1099511627776
      · have x : IsTag c m := ⟨a, b, d⟩
        rw [if_pos x, decide_eq_true x]
        clear x
        go_enter Tryz.func166, Tryz.ntmps166
        go_wp2
        go_ret2
        exact ⟨rfl, rfl⟩
      · have x : ¬ IsTag c m := fun h => d h.2.2
        rw [if_neg x, decide_eq_false x]
        clear x
        go_enter Tryz.func166, Tryz.ntmps166
        go_wp2
        go_ret2
        exact ⟨rfl, rfl⟩
    · have x : ¬ IsTag c m := fun h => b h.2.1
      rw [if_neg x, decide_eq_false x]
      clear x
      go_enter Tryz.func166, Tryz.ntmps166
      go_wp2
      go_ret2
      exact ⟨rfl, rfl⟩
  · have x : ¬ IsTag c m := fun h => a h.1
    rw [if_neg x, decide_eq_false x]
    clear x
    go_enter Tryz.func166, Tryz.ntmps166
    go_wp2
    go_ret2
    exact ⟨rfl, rfl⟩
theorem rfiller_any (n : Int) (w : World) :
    Calls Tryz.prog 112 #[.int .i64 n] w fun e w' => e = .returned (.int .u64 (tg 3 n)) ∧ w' = w := by
  go_enter Tryz.func112, Tryz.ntmps112
  go_wp2_with fail
  refine (counted_any 3 n (by decide) (by decide) _).mono ?_
  rintro e w' ⟨rfl, rfl⟩
  go_wp2
  go_ret
  exact ⟨rfl, rfl⟩
theorem rfilled_any (m : Int) (hm : Wd m) (w : World) :
    Calls Tryz.prog 131 #[.int .u64 m] w fun e w' => e = .returned (.tuple #[.int .i64 (tn 3 m), .bool (decide (IsTag 3 m))]) ∧ w' = w := by
  have h := told_any 3 m hm w
  generalize tn 3 m = a, decide (IsTag 3 m) = b at h ⊢
  go_enter Tryz.func131, Tryz.ntmps131
  go_wp2_with fail
  refine h.mono ?_
  rintro e w' ⟨rfl, rfl⟩
  go_wp2
  go_ret2
  exact ⟨rfl, rfl⟩
theorem rcheck_bad (s k p r a t : Int) (h : Bool) (hk : k < 1 ∨ 4 < k ∨ (k = 2 ∧ p < 1) ∨ (k = 3 ∧ p < 2)) (w : World) :
    Calls Tryz.prog 140 #[hv s k p r a t h] w fun e w' => e = .returned (.int .i64 20) ∧ w' = w.alloc (.cells (hcells s k p r a t h) 38) := by
  rcases hk with c | c | ⟨rfl, c⟩ | ⟨rfl, c⟩
  all_goals
    go_enter Tryz.func140, Tryz.ntmps140
    go_wp2
    go_ret
    exact ⟨rfl, rfl⟩
structure Good (k p : Int) : Prop where
  h : ¬ (k < 1 ∨ 4 < k ∨ (k = 2 ∧ p < 1) ∨ (k = 3 ∧ p < 2))
theorem rcheck_good (s k p r a t : Int) (h : Bool) (hk : ¬ (k < 1 ∨ 4 < k ∨ (k = 2 ∧ p < 1) ∨ (k = 3 ∧ p < 2))) (w : World) :
    Calls Tryz.prog 140 #[hv s k p r a t h] w fun e w' => e = .returned (.int .i64 (flt k p r a t)) ∧ w' = w.alloc (.cells (hcells s k p r a t h) 38) := by
  generalize hf : flt k p r a t = f
  have hg : Good k p := ⟨hk⟩
  obtain rfl | rfl | ⟨rfl, hp⟩ | ⟨rfl, hp⟩ : k = 1 ∨ k = 4 ∨ (k = 2 ∧ 1 ≤ p) ∨ (k = 3 ∧ 2 ≤ p) := by omega
  all_goals
    clear hk
    go_enter Tryz.func140, Tryz.ntmps140
    go_upto_region 3 with fail
    by_cases c0 : p < 0
    · first
      | (exfalso; omega)
      | (go_wp2
         go_ret
         refine ⟨?_, rfl⟩
         rw [← hf, flt_ptrs hg.h (by omega)]
         rfl)
    by_cases c1 : 4095 < p
    · go_wp2
      go_ret
      refine ⟨?_, rfl⟩
      rw [← hf, flt_ptrs hg.h (by omega)]
      rfl
    by_cases c2 : r < 0
    · go_wp2
      go_ret
      refine ⟨?_, rfl⟩
      rw [← hf, flt_raws hg.h (by omega) (by omega)]
      rfl
    by_cases c3 : 65535 < r
    · go_wp2
      go_ret
      refine ⟨?_, rfl⟩
      rw [← hf, flt_raws hg.h (by omega) (by omega)]
      rfl
    by_cases c4 : a < 0
    · go_wp2
      go_ret
      refine ⟨?_, rfl⟩
      rw [← hf, flt_age hg.h (by omega) (by omega) (by omega)]
      rfl
    by_cases c5 : 15 < a
    · go_wp2
      go_ret
      refine ⟨?_, rfl⟩
      rw [← hf, flt_age hg.h (by omega) (by omega) (by omega)]
      rfl
    by_cases c6 : t < 0
    · go_wp2
      go_ret
      refine ⟨?_, rfl⟩
      rw [← hf, flt_site hg.h (by omega) (by omega) (by omega) (by omega)]
      rfl
    by_cases c7 : 255 < t
    · go_wp2
      go_ret
      refine ⟨?_, rfl⟩
      rw [← hf, flt_site hg.h (by omega) (by omega) (by omega) (by omega)]
      rfl
    go_wp2
    go_ret
    refine ⟨?_, rfl⟩
    rw [← hf, flt_ok hg.h (by omega) (by omega) (by omega) (by omega)]
    rfl
theorem rcheck_any (s k p r a t : Int) (h : Bool) (w : World) :
    Calls Tryz.prog 140 #[hv s k p r a t h] w fun e w' => e = .returned (.int .i64 (flt k p r a t)) ∧ w' = w.alloc (.cells (hcells s k p r a t h) 38) := by
  by_cases hk : k < 1 ∨ 4 < k ∨ (k = 2 ∧ p < 1) ∨ (k = 3 ∧ p < 2)
  · rw [flt_kind hk]
    exact rcheck_bad s k p r a t h hk w
  · exact rcheck_good s k p r a t h hk w
theorem rpack_any (s k p r a t : Int) (h : Bool) (w : World) :
    Calls Tryz.prog 81 #[hv s k p r a t h] w fun e w' => e = .returned (.tuple #[.int .u64 (pck k p r a t h), .int .i64 (flt k p r a t)]) ∧ Below w.heap.size w w' := by
  by_cases hf : flt k p r a t = 0
  · have hp : pck k p r a t h = wrd k p r a t h := by unfold pck; rw [if_pos hf]
    have hfa := rcheck_any s k p r a t h (w.alloc (.cells (hcells s k p r a t h) 38))
    obtain ⟨h1, h2, h3, h4, h5, h6, h7, h8, h9, h10, h11, h12⟩ := May.of hf
    clear h3 h4
    rw [hf] at hfa ⊢
    rw [hp]
    clear hf hp
    have hw : wrd k p r a t h = ((((((r * 4096 + p) * 256 + t) * 16 + a) * 2 + (if h then 1 else 0)) * 8 + k) * 4 + 1) := by
      unfold wrd
      cases h <;> simp <;> omega
    rw [hw]
    clear hw
    have hb : Below w.heap.size w ((w.alloc (.cells (hcells s k p r a t h) 38)).alloc (.cells (hcells s k p r a t h) 38)) := by go_grown
    cases h
    all_goals
      go_enter Tryz.func81, Tryz.ntmps81
      go_wp2_with fail
      refine hfa.mono ?_
      rintro e w' ⟨rfl, rfl⟩
      go_wp2
      go_ret2
      refine ⟨?_, hb⟩
      simp
  · have hp : pck k p r a t h = 0 := by unfold pck; rw [if_neg hf]
    have hfa := rcheck_any s k p r a t h (w.alloc (.cells (hcells s k p r a t h) 38))
    rw [hp]
    generalize flt k p r a t = f at hf hfa ⊢
    go_enter Tryz.func81, Tryz.ntmps81
    go_wp2_with fail
    refine hfa.mono ?_
    rintro e w' ⟨rfl, rfl⟩
    go_wp2
    go_ret2
    refine ⟨rfl, ?_⟩
    go_grown
theorem runpack_a (m : Int) (hm : Wd m) (h : m % 4 ≠ 1) (w : World) :
    Calls Tryz.prog 134 #[.int .u64 m] w fun e w' => e = .returned (.tuple #[hv 0 0 0 0 0 0 false, .bool false]) ∧ Below w.heap.size w w' := by
  obtain ⟨m0, m1⟩ := hm
  go_enter Tryz.func134, Tryz.ntmps134
  go_wp2
  go_returns
  refine ⟨rfl, ?_⟩
  go_grown
theorem runpack_b (m : Int) (hm : Wd m) (h : m % 4 = 1) (h2 : m / 70368744177664 % 262144 ≠ 0) (w : World) :
    Calls Tryz.prog 134 #[.int .u64 m] w fun e w' => e = .returned (.tuple #[hv 0 0 0 0 0 0 false, .bool false]) ∧ Below w.heap.size w w' := by
  obtain ⟨m0, m1⟩ := hm
  have hq : 65535 < m / 4 / 8 / 2 / 16 / 256 / 4096 := by omega
  clear h2
  go_enter Tryz.func134, Tryz.ntmps134
  go_upto_region 15 with fail
  generalize m / 4 / 8 / 2 / 16 / 256 / 4096 = r at hq ⊢
  rw [h]
  go_wp2
  go_returns
  refine ⟨rfl, ?_⟩
  go_grown
theorem runpack_c (m k p r a t : Int) (hh : Bool) (hm : Wd m) (h : m % 4 = 1) (hk : m / 4 % 8 = k) (hhd : (m / 4 / 8 % 2 == 1) = hh) (ha : m / 4 / 8 / 2 % 16 = a) (ht : m / 4 / 8 / 2 / 16 % 256 = t) (hp : m / 4 / 8 / 2 / 16 / 256 % 4096 = p) (hr : m / 4 / 8 / 2 / 16 / 256 / 4096 = r) (r0 : 0 ≤ r) (r1 : r ≤ 65535)
    (hf : flt k p r a t ≠ 0) (w : World) :
    Calls Tryz.prog 134 #[.int .u64 m] w fun e w' => e = .returned (.tuple #[hv 0 0 0 0 0 0 false, .bool false]) ∧ Below w.heap.size w w' := by
  obtain ⟨m0, m1⟩ := hm
  go_enter Tryz.func134, Tryz.ntmps134
  go_upto_region 15 with fail
  simp only [h, hk, ha, ht, hp, hr]
  clear h hk hhd ha ht hp hr m0 m1
  have hX := Box.new w 38 (.int .u64 0) (.int .i64 0) (.int .i64 0) (.int .i64 0) (.int .i64 0) (.int .i64 0) (.bool false)
  have hb := Below.alloc (Below.refl w.heap.size w) (Nat.le_refl _) (.cells (hcells 0 0 0 0 0 0 false) 38)
  have hxlt := hX.lt
  generalize (w.alloc (.cells (hcells 0 0 0 0 0 0 false) 38)) = w1 at hX hb hxlt ⊢
  go_upto_region 18 with fail
  have hX3 := hX.keep (Below.alloc (Below.refl _ _) (Nat.le_refl _) (.cells (hcells 0 k p r a t hh) 38)) hxlt
  have hY := Box.new w1 38 (.int .u64 0) (.int .i64 k) (.int .i64 p) (.int .i64 r) (.int .i64 a) (.int .i64 t) (.bool hh)
  have hb3 := Below.alloc hb hb.size (.cells (hcells 0 k p r a t hh) 38)
  have hne : w.heap.size ≠ w1.heap.size := Nat.ne_of_lt hxlt
  have hylt := hY.lt
  have hxlt3 := hX3.lt
  clear hX hb hxlt
  have hfa := rcheck_any 0 k p r a t hh (w1.alloc (.cells (hcells 0 k p r a t hh) 38))
  generalize (w1.alloc (.cells (hcells 0 k p r a t hh) 38)) = w3 at hX3 hY hb3 hylt hxlt3 hfa ⊢
  generalize flt k p r a t = f at hf hfa
  have hY0 := hY
  obtain ⟨y0, y1, y2, y3, y4, y5, y6, -, -, -, -, -, -, -⟩ := hY
  go_wp2_with fail
  clear y0 y1 y2 y3 y4 y5 y6
  refine hfa.mono ?_
  rintro e w' ⟨rfl, rfl⟩
  have hX4 := hX3.keep (Below.alloc (Below.refl _ _) (Nat.le_refl _) (.cells (hcells 0 k p r a t hh) 38)) hxlt3
  have hY4 := hY0.keep (Below.alloc (Below.refl _ _) (Nat.le_refl _) (.cells (hcells 0 k p r a t hh) 38)) hylt
  have hb4 := Below.alloc hb3 hb3.size (.cells (hcells 0 k p r a t hh) 38)
  clear hX3 hY0 hb3 hfa
  generalize (w3.alloc (.cells (hcells 0 k p r a t hh) 38)) = w4 at hX4 hY4 hb4 ⊢
  go_upto_region 20 with fail
  obtain ⟨x0, x1, x2, x3, x4, x5, x6, f0, f1, f2, f3, f4, f5, f6⟩ := hX4
  obtain ⟨y0, y1, y2, y3, y4, y5, y6, -, -, -, -, -, -, -⟩ := hY4
  go_wp2
  refine bodyPost_ret (by simp [results, Tryz.results134, go_sem, x0, x1, x2, x3, x4, x5, x6]; try rfl) rfl ?_
  refine ⟨rfl, ?_⟩
  go_grown
theorem runpack_d (m k p r a t : Int) (hh : Bool) (hm : Wd m) (h : m % 4 = 1) (hk : m / 4 % 8 = k) (hhd : (m / 4 / 8 % 2 == 1) = hh) (ha : m / 4 / 8 / 2 % 16 = a) (ht : m / 4 / 8 / 2 / 16 % 256 = t) (hp : m / 4 / 8 / 2 / 16 / 256 % 4096 = p) (hr : m / 4 / 8 / 2 / 16 / 256 / 4096 = r) (r0 : 0 ≤ r) (r1 : r ≤ 65535)
    (hf : flt k p r a t = 0) (w : World) :
    Calls Tryz.prog 134 #[.int .u64 m] w fun e w' => e = .returned (.tuple #[hv 0 k p r a t hh, .bool true]) ∧ Below w.heap.size w w' := by
  obtain ⟨m0, m1⟩ := hm
  go_enter Tryz.func134, Tryz.ntmps134
  go_upto_region 15 with fail
  simp only [h, hk, ha, ht, hp, hr]
  clear h hk hhd ha ht hp hr m0 m1
  have hX := Box.new w 38 (.int .u64 0) (.int .i64 0) (.int .i64 0) (.int .i64 0) (.int .i64 0) (.int .i64 0) (.bool false)
  have hb := Below.alloc (Below.refl w.heap.size w) (Nat.le_refl _) (.cells (hcells 0 0 0 0 0 0 false) 38)
  have hxlt := hX.lt
  generalize (w.alloc (.cells (hcells 0 0 0 0 0 0 false) 38)) = w1 at hX hb hxlt ⊢
  go_upto_region 18 with fail
  have hX3 := hX.keep (Below.alloc (Below.refl _ _) (Nat.le_refl _) (.cells (hcells 0 k p r a t hh) 38)) hxlt
  have hY := Box.new w1 38 (.int .u64 0) (.int .i64 k) (.int .i64 p) (.int .i64 r) (.int .i64 a) (.int .i64 t) (.bool hh)
  have hb3 := Below.alloc hb hb.size (.cells (hcells 0 k p r a t hh) 38)
  have hne : w.heap.size ≠ w1.heap.size := Nat.ne_of_lt hxlt
  have hylt := hY.lt
  have hxlt3 := hX3.lt
  clear hX hb hxlt
  have hfa := rcheck_any 0 k p r a t hh (w1.alloc (.cells (hcells 0 k p r a t hh) 38))
  generalize (w1.alloc (.cells (hcells 0 k p r a t hh) 38)) = w3 at hX3 hY hb3 hylt hxlt3 hfa ⊢
  rw [hf] at hfa
  clear hf
  have hY0 := hY
  obtain ⟨y0, y1, y2, y3, y4, y5, y6, -, -, -, -, -, -, -⟩ := hY
  go_wp2_with fail
  clear y0 y1 y2 y3 y4 y5 y6
  refine hfa.mono ?_
  rintro e w' ⟨rfl, rfl⟩
  have hX4 := hX3.keep (Below.alloc (Below.refl _ _) (Nat.le_refl _) (.cells (hcells 0 k p r a t hh) 38)) hxlt3
  have hY4 := hY0.keep (Below.alloc (Below.refl _ _) (Nat.le_refl _) (.cells (hcells 0 k p r a t hh) 38)) hylt
  have hb4 := Below.alloc hb3 hb3.size (.cells (hcells 0 k p r a t hh) 38)
  clear hX3 hY0 hb3 hfa
  generalize (w3.alloc (.cells (hcells 0 k p r a t hh) 38)) = w4 at hX4 hY4 hb4 ⊢
  go_upto_region 21 with fail
  obtain ⟨x0, x1, x2, x3, x4, x5, x6, f0, f1, f2, f3, f4, f5, f6⟩ := hX4
  obtain ⟨y0, y1, y2, y3, y4, y5, y6, -, -, -, -, -, -, -⟩ := hY4
  go_wp2
  refine bodyPost_ret (by simp [results, Tryz.results134, go_sem, x0, x1, x2, x3, x4, x5, x6]; try rfl) rfl ?_
  refine ⟨rfl, ?_⟩
  go_grown
theorem parts_of {m : Int} (hm : Wd m) (h2 : m / 70368744177664 % 262144 = 0) : (m / 4 / 8 % 2 == 1) = hdOf m ∧ m / 4 / 8 / 2 % 16 = agOf m ∧ m / 4 / 8 / 2 / 16 % 256 = stOf m ∧ m / 4 / 8 / 2 / 16 / 256 % 4096 = ptOf m ∧ m / 4 / 8 / 2 / 16 / 256 / 4096 = rwOf m := by
  obtain ⟨m0, m1⟩ := hm
  unfold hdOf agOf stOf ptOf rwOf
  refine ⟨?_, by omega, by omega, by omega, by omega⟩
  have e : m / 4 / 8 % 2 = m / 32 % 2 := by omega
  rw [e]
  rfl
theorem runpack_yes (m : Int) (hm : Wd m) (h : IsHead m) (w : World) :
    Calls Tryz.prog 134 #[.int .u64 m] w fun e w' => e = .returned (.tuple #[hv 0 (kdOf m) (ptOf m) (rwOf m) (agOf m) (stOf m) (hdOf m), .bool true]) ∧ Below w.heap.size w w' := by
  obtain ⟨e1, e2, e3, e4, e5⟩ := parts_of hm h.2.1
  exact runpack_d m _ _ _ _ _ _ hm h.1 rfl e1 e2 e3 e4 e5 (by unfold rwOf; omega) (by unfold rwOf; omega) h.2.2 w
theorem runpack_no (m : Int) (hm : Wd m) (h : ¬ IsHead m) (w : World) :
    Calls Tryz.prog 134 #[.int .u64 m] w fun e w' => e = .returned (.tuple #[hv 0 0 0 0 0 0 false, .bool false]) ∧ Below w.heap.size w w' := by
  by_cases h1 : m % 4 = 1
  · by_cases h2 : m / 70368744177664 % 262144 = 0
    · obtain ⟨e1, e2, e3, e4, e5⟩ := parts_of hm h2
      exact runpack_c m _ _ _ _ _ _ hm h1 rfl e1 e2 e3 e4 e5 (by unfold rwOf; omega) (by unfold rwOf; omega) (fun h3 => h ⟨h1, h2, h3⟩) w
    · exact runpack_b m hm h1 h2 w
  · exact runpack_a m hm h1 w
end Go.Proofs.YtlkengnefhhppaaGreatDoor
namespace Go.Proofs.YtlkengnefhhppaaGreatDoor
open Go.RowKit Go.Shelf
theorem rsizeh_any (s k p r a t : Int) (h : Bool) (p0 : 0 ≤ p) (p1 : p ≤ 4095) (r0 : 0 ≤ r) (r1 : r ≤ 65535) (w : World) :
    Calls Tryz.prog 83 #[hv s k p r a t h] w fun e w' => e = .returned (.int .i64 (2 + p + r)) ∧ w' = w.alloc (.cells (hcells s k p r a t h) 38) := by
  go_enter Tryz.func83, Tryz.ntmps83
  go_wp2
  go_ret
  exact ⟨rfl, rfl⟩
section
variable (b : Nat) (g : Nat → Nat) (c : Cfg) (x : Tps) (sw : Bool) (ws : Nat → Int)
theorem rhead_out (a : Int) (hno : spc c a = 0 ∨ x.top (spc c a) ≤ a) (w : World) (h : Ra w b g c x sw ws) :
    Calls Tryz.prog 75 #[.pointer (some ⟨b, 0, none⟩), .int .i64 a] w fun e w' => e = .returned (.tuple #[hv 0 0 0 0 0 0 false, .bool false]) ∧ Below w.heap.size w w' := by
  have hX := Box.new w 38 (.int .u64 0) (.int .i64 0) (.int .i64 0) (.int .i64 0) (.int .i64 0) (.int .i64 0) (.bool false)
  have hb := Below.alloc (Below.refl w.heap.size w) (Nat.le_refl _) (.cells (hcells 0 0 0 0 0 0 false) 38)
  have HS : Hid (∀ w1, Below w.heap.size w w1 → Calls Tryz.prog 99 #[.pointer (some ⟨b, 0, none⟩), .int .i64 a] w1 fun e w' => e = .returned (.int .i64 (spc c a)) ∧ Below w1.heap.size w1 w') := fun w1 l => rspaceof_any b g c x sw ws a w1 (h.below l)
  have HT : Hid (∀ w1, Below w.heap.size w w1 → Calls Tryz.prog 130 #[.pointer (some ⟨b, 0, none⟩), .int .i64 (spc c a)] w1 fun e w' => e = .returned (.int .i64 (x.top (spc c a))) ∧ Below w1.heap.size w1 w') := fun w1 l => rtop_any b g c x sw ws _ w1 (h.below l)
  have hxlt := hX.lt
  clear h
  generalize x.top (spc c a) = T at *
  generalize spc c a = S at *
  go_enter Tryz.func75, Tryz.ntmps75
  go_upto_region 1 with fail
  generalize (w.alloc (.cells (hcells 0 0 0 0 0 0 false) 38)) = w0 at *
  go_wp2_with fail
  refine (HS.out w0 hb).mono ?_
  rintro e w1 ⟨rfl, l1⟩
  have b1 := hb.trans (l1.mono hb.size)
  have hX1 := hX.keep l1 hxlt
  clear hb HS hX
  by_cases hz : S = 0
  · subst hz
    obtain ⟨x0, x1, x2, x3, x4, x5, x6, f0, f1, f2, f3, f4, f5, f6⟩ := hX1
    clear hno HT l1 hxlt
    go_wp2
    refine bodyPost_ret (by simp [results, Tryz.results75, go_sem, x0, x1, x2, x3, x4, x5, x6]; try rfl) rfl ?_
    refine ⟨rfl, ?_⟩
    go_grown
  · have hz' : decide (S = 0) = false := decide_eq_false hz
    have hTa : T ≤ a := by omega
    have hx1 := hX1.lt
    go_wp2_with fail
    refine (HT.out w1 b1).mono ?_
    rintro e w2 ⟨rfl, l2⟩
    have b2 := b1.trans (l2.mono b1.size)
    have hX2 := hX1.keep l2 hx1
    clear HT l1 l2 hxlt b1 hX1 hx1 hno
    obtain ⟨x0, x1, x2, x3, x4, x5, x6, f0, f1, f2, f3, f4, f5, f6⟩ := hX2
    go_wp2
    refine bodyPost_ret (by simp [results, Tryz.results75, go_sem, x0, x1, x2, x3, x4, x5, x6]; try rfl) rfl ?_
    refine ⟨rfl, ?_⟩
    go_grown
theorem rhead_bad (a : Int) (hS0 : spc c a ≠ 0) (ht : a < x.top (spc c a)) (hs : ¬ IsHead (wat c ws a)) (hw : Wd (wat c ws a)) (w : World) (h : Ra w b g c x sw ws) :
    Calls Tryz.prog 75 #[.pointer (some ⟨b, 0, none⟩), .int .i64 a] w fun e w' => e = .returned (.tuple #[hv 0 0 0 0 0 0 false, .bool false]) ∧ Below w.heap.size w w' := by
  have hX := Box.new w 38 (.int .u64 0) (.int .i64 0) (.int .i64 0) (.int .i64 0) (.int .i64 0) (.int .i64 0) (.bool false)
  have hb := Below.alloc (Below.refl w.heap.size w) (Nat.le_refl _) (.cells (hcells 0 0 0 0 0 0 false) 38)
  have HS : Hid (∀ w1, Below w.heap.size w w1 → Calls Tryz.prog 99 #[.pointer (some ⟨b, 0, none⟩), .int .i64 a] w1 fun e w' => e = .returned (.int .i64 (spc c a)) ∧ Below w1.heap.size w1 w') := fun w1 l => rspaceof_any b g c x sw ws a w1 (h.below l)
  have HT : Hid (∀ w1, Below w.heap.size w w1 → Calls Tryz.prog 130 #[.pointer (some ⟨b, 0, none⟩), .int .i64 (spc c a)] w1 fun e w' => e = .returned (.int .i64 (x.top (spc c a))) ∧ Below w1.heap.size w1 w') := fun w1 l => rtop_any b g c x sw ws _ w1 (h.below l)
  have HW : Hid (∀ w1, Below w.heap.size w w1 → Calls Tryz.prog 38 #[.pointer (some ⟨b, 0, none⟩), .int .i64 a] w1 fun e w' => e = .returned (.int .u64 (wat c ws a)) ∧ Below w1.heap.size w1 w') := fun w1 l => rword_any b g c x sw ws a w1 (h.below l)
  have HU : Hid (∀ w1, Calls Tryz.prog 134 #[.int .u64 (wat c ws a)] w1 fun e w' => e = .returned (.tuple #[hv 0 0 0 0 0 0 false, .bool false]) ∧ Below w1.heap.size w1 w') := fun w1 => runpack_no _ hw hs w1
  have hxlt := hX.lt
  clear h hs hw
  generalize x.top (spc c a) = T at *
  generalize spc c a = S at *
  generalize wat c ws a = m at *
  have hz' : (S == 0) = false := by simp [hS0]
  have ht' : decide (T ≤ a) = false := decide_eq_false (by omega)
  go_enter Tryz.func75, Tryz.ntmps75
  go_upto_region 1 with fail
  generalize (w.alloc (.cells (hcells 0 0 0 0 0 0 false) 38)) = w0 at *
  go_wp2_with fail
  refine (HS.out w0 hb).mono ?_
  rintro e w1 ⟨rfl, l1⟩
  have b1 := hb.trans (l1.mono hb.size)
  have hX1 := hX.keep l1 hxlt
  have hx1 := hX1.lt
  clear hb HS hX l1 hxlt
  go_wp2_with fail
  refine (HT.out w1 b1).mono ?_
  rintro e w2 ⟨rfl, l2⟩
  have b2 := b1.trans (l2.mono b1.size)
  have hX2 := hX1.keep l2 hx1
  have hx2 := hX2.lt
  clear HT l2 b1 hX1 hx1
  go_wp2_with fail
  refine (HW.out w2 b2).mono ?_
  rintro e w3 ⟨rfl, l3⟩
  have b3 := b2.trans (l3.mono b2.size)
  have hX3 := hX2.keep l3 hx2
  have hx3 := hX3.lt
  clear HW l3 b2 hX2 hx2
  go_wp2_with fail
  refine (HU.out w3).mono ?_
  rintro e w4 ⟨rfl, l4⟩
  have b4 := b3.trans (l4.mono b3.size)
  have hX4 := hX3.keep l4 hx3
  have hx4 := hX4.lt
  clear HU l4 b3 hX3 hx3
  go_upto_region 5 with fail
  have hX5 := hX4.keep (Below.alloc (Below.refl _ _) (Nat.le_refl _) (.cells (hcells 0 0 0 0 0 0 false) 38)) hx4
  have b5 := Below.alloc b4 b4.size (.cells (hcells 0 0 0 0 0 0 false) 38)
  clear hX4 b4 hx4
  generalize (w4.alloc (.cells (hcells 0 0 0 0 0 0 false) 38)) = w5 at *
  obtain ⟨x0, x1, x2, x3, x4, x5, x6, f0, f1, f2, f3, f4, f5, f6⟩ := hX5
  go_wp2
  refine bodyPost_ret (by simp [results, Tryz.results75, go_sem, x0, x1, x2, x3, x4, x5, x6]; try rfl) rfl ?_
  refine ⟨rfl, ?_⟩
  go_grown
end
end Go.Proofs.YtlkengnefhhppaaGreatDoor
