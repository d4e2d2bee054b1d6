/-
  The document's own answer: Pack, Unpack, Size.
-/
import Derived.Test.YtoanmgnoonmkbaaDoorCRefB
set_option linter.unusedVariables false
namespace Go.Proofs.YtoanmgnoonmkbaaDoor
open Go.RowKit

set_option maxHeartbeats 1000000 in
theorem rpack_any (s k p r a t : Int) (h : Bool) (w : World) :
    Calls Tryd.prog 16 #[hv s k p r a t h] w fun e w' => e = .returned (.tuple #[.int .u64 (pck k p r a t h), .int .i64 (flt k p r a t)]) ∧ Below w.heap.size w w' := by
  by_cases hf : flt k p r a t = 0
  · have hp : pck k p r a t h = wrd k p r a t h := by unfold pck; rw [if_pos hf]
    have hfa := rcheck_any s k p r a t h (w.alloc (.cells (hcells s k p r a t h) 25))
    obtain ⟨h1, h2, h3, h4, h5, h6, h7, h8, h9, h10, h11, h12⟩ := May.of hf
    clear h3 h4
    rw [hf] at hfa ⊢
    rw [hp]
    clear hf hp
    have hw : wrd k p r a t h = ((((((r * 4096 + p) * 256 + t) * 16 + a) * 2 + (if h then 1 else 0)) * 8 + k) * 4 + 1) := by
      unfold wrd
      cases h <;> simp <;> omega
    rw [hw]
    clear hw
    have hb : Below w.heap.size w ((w.alloc (.cells (hcells s k p r a t h) 25)).alloc (.cells (hcells s k p r a t h) 25)) := by go_grown
    cases h
    all_goals
      go_enter Tryd.func16, Tryd.ntmps16
      go_wp2_with fail
      refine hfa.mono ?_
      rintro e w' ⟨rfl, rfl⟩
      go_wp2
      go_ret2
      refine ⟨?_, hb⟩
      simp
  · have hp : pck k p r a t h = 0 := by unfold pck; rw [if_neg hf]
    have hfa := rcheck_any s k p r a t h (w.alloc (.cells (hcells s k p r a t h) 25))
    rw [hp]
    generalize flt k p r a t = f at hf hfa ⊢
    go_enter Tryd.func16, Tryd.ntmps16
    go_wp2_with fail
    refine hfa.mono ?_
    rintro e w' ⟨rfl, rfl⟩
    go_wp2
    go_ret2
    refine ⟨rfl, ?_⟩
    go_grown

set_option maxHeartbeats 1000000 in
theorem runpack_a (m : Int) (hm : Wd m) (h : m % 4 ≠ 1) (w : World) :
    Calls Tryd.prog 17 #[.int .u64 m] w fun e w' => e = .returned (.tuple #[hv 0 0 0 0 0 0 false, .bool false]) ∧ Below w.heap.size w w' := by
  obtain ⟨m0, m1⟩ := hm
  go_enter Tryd.func17, Tryd.ntmps17
  go_wp2
  go_returns
  refine ⟨rfl, ?_⟩
  go_grown

set_option maxHeartbeats 1000000 in
theorem runpack_b (m : Int) (hm : Wd m) (h : m % 4 = 1) (h2 : m / 70368744177664 % 262144 ≠ 0) (w : World) :
    Calls Tryd.prog 17 #[.int .u64 m] w fun e w' => e = .returned (.tuple #[hv 0 0 0 0 0 0 false, .bool false]) ∧ Below w.heap.size w w' := by
  obtain ⟨m0, m1⟩ := hm
  have hq : 65535 < m / 4 / 8 / 2 / 16 / 256 / 4096 := by omega
  clear h2
  go_enter Tryd.func17, Tryd.ntmps17
  go_upto_region 15 with fail
  generalize m / 4 / 8 / 2 / 16 / 256 / 4096 = r at hq ⊢
  rw [h]
  go_wp2
  go_returns
  refine ⟨rfl, ?_⟩
  go_grown

set_option maxHeartbeats 1000000 in
theorem runpack_c (m k p r a t : Int) (hh : Bool) (hm : Wd m) (h : m % 4 = 1) (hk : m / 4 % 8 = k) (hhd : (m / 4 / 8 % 2 == 1) = hh) (ha : m / 4 / 8 / 2 % 16 = a) (ht : m / 4 / 8 / 2 / 16 % 256 = t) (hp : m / 4 / 8 / 2 / 16 / 256 % 4096 = p) (hr : m / 4 / 8 / 2 / 16 / 256 / 4096 = r) (r0 : 0 ≤ r) (r1 : r ≤ 65535)
    (hf : flt k p r a t ≠ 0) (w : World) :
    Calls Tryd.prog 17 #[.int .u64 m] w fun e w' => e = .returned (.tuple #[hv 0 0 0 0 0 0 false, .bool false]) ∧ Below w.heap.size w w' := by
  obtain ⟨m0, m1⟩ := hm
  go_enter Tryd.func17, Tryd.ntmps17
  go_upto_region 15 with fail
  simp only [h, hk, ha, ht, hp, hr]
  clear h hk hhd ha ht hp hr m0 m1
  have hX := Box.new w 25 (.int .u64 0) (.int .i64 0) (.int .i64 0) (.int .i64 0) (.int .i64 0) (.int .i64 0) (.bool false)
  have hb := Below.alloc (Below.refl w.heap.size w) (Nat.le_refl _) (.cells (hcells 0 0 0 0 0 0 false) 25)
  have hxlt := hX.lt
  generalize (w.alloc (.cells (hcells 0 0 0 0 0 0 false) 25)) = w1 at hX hb hxlt ⊢
  go_upto_region 18 with fail
  have hX3 := hX.keep (Below.alloc (Below.refl _ _) (Nat.le_refl _) (.cells (hcells 0 k p r a t hh) 25)) hxlt
  have hY := Box.new w1 25 (.int .u64 0) (.int .i64 k) (.int .i64 p) (.int .i64 r) (.int .i64 a) (.int .i64 t) (.bool hh)
  have hb3 := Below.alloc hb hb.size (.cells (hcells 0 k p r a t hh) 25)
  have hne : w.heap.size ≠ w1.heap.size := Nat.ne_of_lt hxlt
  have hylt := hY.lt
  have hxlt3 := hX3.lt
  clear hX hb hxlt
  have hfa := rcheck_any 0 k p r a t hh (w1.alloc (.cells (hcells 0 k p r a t hh) 25))
  generalize (w1.alloc (.cells (hcells 0 k p r a t hh) 25)) = w3 at hX3 hY hb3 hylt hxlt3 hfa ⊢
  generalize flt k p r a t = f at hf hfa
  have hY0 := hY
  obtain ⟨y0, y1, y2, y3, y4, y5, y6, -, -, -, -, -, -, -⟩ := hY
  go_wp2_with fail
  clear y0 y1 y2 y3 y4 y5 y6
  refine hfa.mono ?_
  rintro e w' ⟨rfl, rfl⟩
  have hX4 := hX3.keep (Below.alloc (Below.refl _ _) (Nat.le_refl _) (.cells (hcells 0 k p r a t hh) 25)) hxlt3
  have hY4 := hY0.keep (Below.alloc (Below.refl _ _) (Nat.le_refl _) (.cells (hcells 0 k p r a t hh) 25)) hylt
  have hb4 := Below.alloc hb3 hb3.size (.cells (hcells 0 k p r a t hh) 25)
  clear hX3 hY0 hb3 hfa
  generalize (w3.alloc (.cells (hcells 0 k p r a t hh) 25)) = w4 at hX4 hY4 hb4 ⊢
  go_upto_region 20 with fail
  obtain ⟨x0, x1, x2, x3, x4, x5, x6, f0, f1, f2, f3, f4, f5, f6⟩ := hX4
  obtain ⟨y0, y1, y2, y3, y4, y5, y6, -, -, -, -, -, -, -⟩ := hY4
  go_wp2
  refine bodyPost_ret (by simp [results, Tryd.results17, go_sem, x0, x1, x2, x3, x4, x5, x6]; try rfl) rfl ?_
  refine ⟨rfl, ?_⟩
  go_grown

set_option maxHeartbeats 1000000 in
theorem runpack_d (m k p r a t : Int) (hh : Bool) (hm : Wd m) (h : m % 4 = 1) (hk : m / 4 % 8 = k) (hhd : (m / 4 / 8 % 2 == 1) = hh) (ha : m / 4 / 8 / 2 % 16 = a) (ht : m / 4 / 8 / 2 / 16 % 256 = t) (hp : m / 4 / 8 / 2 / 16 / 256 % 4096 = p) (hr : m / 4 / 8 / 2 / 16 / 256 / 4096 = r) (r0 : 0 ≤ r) (r1 : r ≤ 65535)
    (hf : flt k p r a t = 0) (w : World) :
    Calls Tryd.prog 17 #[.int .u64 m] w fun e w' => e = .returned (.tuple #[hv 0 k p r a t hh, .bool true]) ∧ Below w.heap.size w w' := by
  obtain ⟨m0, m1⟩ := hm
  go_enter Tryd.func17, Tryd.ntmps17
  go_upto_region 15 with fail
  simp only [h, hk, ha, ht, hp, hr]
  clear h hk hhd ha ht hp hr m0 m1
  have hX := Box.new w 25 (.int .u64 0) (.int .i64 0) (.int .i64 0) (.int .i64 0) (.int .i64 0) (.int .i64 0) (.bool false)
  have hb := Below.alloc (Below.refl w.heap.size w) (Nat.le_refl _) (.cells (hcells 0 0 0 0 0 0 false) 25)
  have hxlt := hX.lt
  generalize (w.alloc (.cells (hcells 0 0 0 0 0 0 false) 25)) = w1 at hX hb hxlt ⊢
  go_upto_region 18 with fail
  have hX3 := hX.keep (Below.alloc (Below.refl _ _) (Nat.le_refl _) (.cells (hcells 0 k p r a t hh) 25)) hxlt
  have hY := Box.new w1 25 (.int .u64 0) (.int .i64 k) (.int .i64 p) (.int .i64 r) (.int .i64 a) (.int .i64 t) (.bool hh)
  have hb3 := Below.alloc hb hb.size (.cells (hcells 0 k p r a t hh) 25)
  have hne : w.heap.size ≠ w1.heap.size := Nat.ne_of_lt hxlt
  have hylt := hY.lt
  have hxlt3 := hX3.lt
  clear hX hb hxlt
  have hfa := rcheck_any 0 k p r a t hh (w1.alloc (.cells (hcells 0 k p r a t hh) 25))
  generalize (w1.alloc (.cells (hcells 0 k p r a t hh) 25)) = w3 at hX3 hY hb3 hylt hxlt3 hfa ⊢
  rw [hf] at hfa
  clear hf
  have hY0 := hY
  obtain ⟨y0, y1, y2, y3, y4, y5, y6, -, -, -, -, -, -, -⟩ := hY
  go_wp2_with fail
  clear y0 y1 y2 y3 y4 y5 y6
  refine hfa.mono ?_
  rintro e w' ⟨rfl, rfl⟩
  have hX4 := hX3.keep (Below.alloc (Below.refl _ _) (Nat.le_refl _) (.cells (hcells 0 k p r a t hh) 25)) hxlt3
  have hY4 := hY0.keep (Below.alloc (Below.refl _ _) (Nat.le_refl _) (.cells (hcells 0 k p r a t hh) 25)) hylt
  have hb4 := Below.alloc hb3 hb3.size (.cells (hcells 0 k p r a t hh) 25)
  clear hX3 hY0 hb3 hfa
  generalize (w3.alloc (.cells (hcells 0 k p r a t hh) 25)) = w4 at hX4 hY4 hb4 ⊢
  go_upto_region 21 with fail
  obtain ⟨x0, x1, x2, x3, x4, x5, x6, f0, f1, f2, f3, f4, f5, f6⟩ := hX4
  obtain ⟨y0, y1, y2, y3, y4, y5, y6, -, -, -, -, -, -, -⟩ := hY4
  go_wp2
  refine bodyPost_ret (by simp [results, Tryd.results17, go_sem, x0, x1, x2, x3, x4, x5, x6]; try rfl) rfl ?_
  refine ⟨rfl, ?_⟩
  go_grown

theorem parts_of {m : Int} (hm : Wd m) (h2 : m / 70368744177664 % 262144 = 0) : (m / 4 / 8 % 2 == 1) = hdOf m ∧ m / 4 / 8 / 2 % 16 = agOf m ∧ m / 4 / 8 / 2 / 16 % 256 = stOf m ∧ m / 4 / 8 / 2 / 16 / 256 % 4096 = ptOf m ∧ m / 4 / 8 / 2 / 16 / 256 / 4096 = rwOf m := by
  obtain ⟨m0, m1⟩ := hm
  unfold hdOf agOf stOf ptOf rwOf
  refine ⟨?_, by omega, by omega, by omega, by omega⟩
  have e : m / 4 / 8 % 2 = m / 32 % 2 := by omega
  rw [e]
  rfl

theorem runpack_yes (m : Int) (hm : Wd m) (h : IsHead m) (w : World) :
    Calls Tryd.prog 17 #[.int .u64 m] w fun e w' => e = .returned (.tuple #[hv 0 (kdOf m) (ptOf m) (rwOf m) (agOf m) (stOf m) (hdOf m), .bool true]) ∧ Below w.heap.size w w' := by
  obtain ⟨e1, e2, e3, e4, e5⟩ := parts_of hm h.2.1
  exact runpack_d m _ _ _ _ _ _ hm h.1 rfl e1 e2 e3 e4 e5 (by unfold rwOf; omega) (by unfold rwOf; omega) h.2.2 w

theorem runpack_no (m : Int) (hm : Wd m) (h : ¬ IsHead m) (w : World) :
    Calls Tryd.prog 17 #[.int .u64 m] w fun e w' => e = .returned (.tuple #[hv 0 0 0 0 0 0 false, .bool false]) ∧ Below w.heap.size w w' := by
  by_cases h1 : m % 4 = 1
  · by_cases h2 : m / 70368744177664 % 262144 = 0
    · obtain ⟨e1, e2, e3, e4, e5⟩ := parts_of hm h2
      exact runpack_c m _ _ _ _ _ _ hm h1 rfl e1 e2 e3 e4 e5 (by unfold rwOf; omega) (by unfold rwOf; omega) (fun h3 => h ⟨h1, h2, h3⟩) w
    · exact runpack_b m hm h1 h2 w
  · exact runpack_a m hm h1 w

set_option maxHeartbeats 1000000 in
theorem rsize_any (m : Int) (hm : Wd m) (w : World) :
    Calls Tryd.prog 18 #[.int .u64 m] w fun e w' => e = .returned (.int .i64 (siz m)) ∧ Below w.heap.size w w' := by
  by_cases h : IsHead m
  · have e : siz m = 2 + ptOf m + rwOf m := by unfold siz; rw [if_pos h]
    have hu := runpack_yes m hm h w
    have p0 : 0 ≤ ptOf m := by unfold ptOf; omega
    have p1 : ptOf m ≤ 4095 := by unfold ptOf; omega
    have r0 : 0 ≤ rwOf m := by unfold rwOf; omega
    have r1 : rwOf m ≤ 65535 := by unfold rwOf; omega
    rw [e]
    clear e h
    generalize kdOf m = k, ptOf m = p, rwOf m = r, agOf m = a, stOf m = t, hdOf m = hh at hu p0 p1 r0 r1 ⊢
    go_enter Tryd.func18, Tryd.ntmps18
    go_wp2_with fail
    refine hu.mono ?_
    rintro e w1 ⟨rfl, b⟩
    go_wp2
    go_ret
    refine ⟨rfl, ?_⟩
    go_grown
    exact b.size
  · have e : siz m = tn 3 m := by unfold siz; rw [if_neg h]
    have hu := runpack_no m hm h w
    have hf := rfilled_any m hm
    rw [e]
    clear e h
    generalize tn 3 m = n, decide (IsTag 3 m) = d at hf ⊢
    go_enter Tryd.func18, Tryd.ntmps18
    go_wp2_with fail
    refine hu.mono ?_
    rintro e w1 ⟨rfl, b⟩
    have b1 := Below.alloc b b.size (.cells (hcells 0 0 0 0 0 0 false) 25)
    go_wp2_with fail
    refine (hf _).mono ?_
    rintro e w' ⟨rfl, rfl⟩
    generalize (w1.alloc (.cells (hcells 0 0 0 0 0 0 false) 25)) = w2 at *
    go_wp2
    go_ret
    exact ⟨rfl, b1⟩

end Go.Proofs.YtoanmgnoonmkbaaDoor
