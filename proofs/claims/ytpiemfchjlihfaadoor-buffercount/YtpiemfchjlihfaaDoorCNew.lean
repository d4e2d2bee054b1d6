/-
  New blocks of seven cells.
-/
import Derived.Test.YtpiemfchjlihfaaDoorCHead
import Derived.Deep.Cut
set_option linter.unusedVariables false
namespace Go.Proofs.YtpiemfchjlihfaaDoor
open Go.RowKit

theorem push_modify {α : Type} (xs : Array α) (x : α) (f : α → α) : (xs.push x).modify xs.size f = xs.push (f x) := by
  apply Array.ext_getElem?
  intro i
  simp only [Array.getElem?_modify, Array.getElem?_push]
  by_cases h : xs.size = i
  · subst h; simp
  · have h' : ¬ i = xs.size := fun e => h e.symm
    simp [h, h']

theorem set_new (w : World) (t : TypeId) (cs : Array Value) (j : Nat) (v : Value) :
    (w.alloc (.cells cs t)).setCell ⟨w.heap.size, j, none⟩ v = w.alloc (.cells (cs.setIfInBounds j v) t) := by
  unfold World.setCell World.alloc
  simp only []
  rw [push_modify]
  simp

/-- A new block that is written over at once. -/
theorem store_new (w : World) (t : TypeId) (d0 d1 d2 d3 d4 d5 d6 c0 c1 c2 c3 c4 c5 c6 : Value) :
    ((((((((w.alloc (.cells #[d0, d1, d2, d3, d4, d5, d6] t)).setCell ⟨w.heap.size, 0, none⟩ c0).setCell ⟨w.heap.size, 1, none⟩ c1).setCell ⟨w.heap.size, 2, none⟩ c2).setCell ⟨w.heap.size, 3, none⟩ c3).setCell ⟨w.heap.size, 4, none⟩ c4).setCell ⟨w.heap.size, 5, none⟩ c5).setCell ⟨w.heap.size, 6, none⟩ c6) = w.alloc (.cells #[c0, c1, c2, c3, c4, c5, c6] t) := by
  simp only [set_new]
  rfl

/-- What a block of seven cells holds, cell by cell. -/
structure Box (w : World) (b : Nat) (c0 c1 c2 c3 c4 c5 c6 : Value) : Prop where
  h0 : w.cell? ⟨b, 0, none⟩ = some c0
  h1 : w.cell? ⟨b, 1, none⟩ = some c1
  h2 : w.cell? ⟨b, 2, none⟩ = some c2
  h3 : w.cell? ⟨b, 3, none⟩ = some c3
  h4 : w.cell? ⟨b, 4, none⟩ = some c4
  h5 : w.cell? ⟨b, 5, none⟩ = some c5
  h6 : w.cell? ⟨b, 6, none⟩ = some c6
  f0 : w.frozen? ⟨b, 0, none⟩ = false
  f1 : w.frozen? ⟨b, 1, none⟩ = false
  f2 : w.frozen? ⟨b, 2, none⟩ = false
  f3 : w.frozen? ⟨b, 3, none⟩ = false
  f4 : w.frozen? ⟨b, 4, none⟩ = false
  f5 : w.frozen? ⟨b, 5, none⟩ = false
  f6 : w.frozen? ⟨b, 6, none⟩ = false

theorem Box.new (w : World) (t : TypeId) (c0 c1 c2 c3 c4 c5 c6 : Value) : Box (w.alloc (.cells #[c0, c1, c2, c3, c4, c5, c6] t)) w.heap.size c0 c1 c2 c3 c4 c5 c6 := by
  have h := heap_alloc_new w (.cells #[c0, c1, c2, c3, c4, c5, c6] t (0, 0))
  have hc := fun j => cell_of_row _ _ j _ _ _ h
  have hf : ∀ j, (w.alloc (.cells #[c0, c1, c2, c3, c4, c5, c6] t)).frozen? ⟨w.heap.size, j, none⟩ = false := fun j => by unfold World.frozen?; simp only [h]; simp
  exact ⟨hc 0, hc 1, hc 2, hc 3, hc 4, hc 5, hc 6, hf 0, hf 1, hf 2, hf 3, hf 4, hf 5, hf 6⟩

theorem Box.lt {w : World} {b : Nat} {c0 c1 c2 c3 c4 c5 c6 : Value} (h : Box w b c0 c1 c2 c3 c4 c5 c6) : b < w.heap.size := World.block_lt_of_cell? _ _ h.h0

theorem Box.keep {w w' : World} {b B : Nat} {c0 c1 c2 c3 c4 c5 c6 : Value} (h : Box w b c0 c1 c2 c3 c4 c5 c6) (k : Below B w w') (hB : b < B) : Box w' b c0 c1 c2 c3 c4 c5 c6 := by
  obtain ⟨h0, h1, h2, h3, h4, h5, h6, f0, f1, f2, f3, f4, f5, f6⟩ := h
  exact ⟨(k.cell hB).trans h0, (k.cell hB).trans h1, (k.cell hB).trans h2, (k.cell hB).trans h3, (k.cell hB).trans h4, (k.cell hB).trans h5, (k.cell hB).trans h6, (k.frozen hB).trans f0, (k.frozen hB).trans f1, (k.frozen hB).trans f2, (k.frozen hB).trans f3, (k.frozen hB).trans f4, (k.frozen hB).trans f5, (k.frozen hB).trans f6⟩

theorem Laid.drewN {w : World} (h : Laid w) (n : Nat) : Laid (w.drewN n) := ⟨h.b, h.k⟩

theorem below_new (w : World) (o : Obj) (n : Nat) : Below w.heap.size w ((w.alloc o).drewN n) := below_drewN (Below.alloc (Below.refl _ _) (Nat.le_refl _) _) _

set_option maxHeartbeats 1000000 in
theorem unpack_a (m : Int) (hm : Wd m) (h : m % 4 ≠ 1) (w : World) (hL : Laid w) :
    Calls Tryd.prog 46 #[.int .u64 m] w fun e w' => e = .returned (.tuple #[hv 0 0 0 0 0 0 false, .bool false]) ∧ Below w.heap.size w w' := by
  have hL1 := hL.alloc (.cells (hcells 0 0 0 0 0 0 false) 38)
  go_enter Tryd.func46, Tryd.ntmps46
  go_wp2_with fail
  refine (read_0 m hm _ hL1.b).mono ?_
  rintro e w' ⟨rfl, n, rfl⟩
  go_wp2
  go_returns
  refine ⟨rfl, ?_⟩
  go_grown
  exact below_new _ _ _

set_option maxHeartbeats 1000000 in
theorem unpack_b (m : Int) (hm : Wd m) (h : m % 4 = 1) (h2 : m / 70368744177664 % 262144 ≠ 0) (w : World) (hL : Laid w) :
    Calls Tryd.prog 46 #[.int .u64 m] w fun e w' => e = .returned (.tuple #[hv 0 0 0 0 0 0 false, .bool false]) ∧ Below w.heap.size w w' := by
  have hL1 := hL.alloc (.cells (hcells 0 0 0 0 0 0 false) 38)
  go_enter Tryd.func46, Tryd.ntmps46
  go_wp2_with fail
  refine (read_0 m hm _ hL1.b).mono ?_
  rintro e w' ⟨rfl, n, rfl⟩
  rw [h]
  go_wp2_with fail
  refine (read_7 m hm _ (hL1.b.drewN _)).mono ?_
  rintro e w' ⟨rfl, n', rfl⟩
  go_wp2
  go_returns
  refine ⟨rfl, ?_⟩
  go_grown
  exact below_new _ _ _

set_option maxHeartbeats 1000000 in
theorem unpack_c (m : Int) (hm : Wd m) (h : m % 4 = 1) (h2 : m / 70368744177664 % 262144 = 0) (h3 : flt (kdOf m) (ptOf m) (rwOf m) (agOf m) (stOf m) ≠ 0) (w : World) (hL : Laid w) :
    Calls Tryd.prog 46 #[.int .u64 m] w fun e w' => e = .returned (.tuple #[hv 0 0 0 0 0 0 false, .bool false]) ∧ Below w.heap.size w w' := by
  have hL1 := hL.alloc (.cells (hcells 0 0 0 0 0 0 false) 38)
  have hX := Box.new w 38 (.int .u64 0) (.int .i64 0) (.int .i64 0) (.int .i64 0) (.int .i64 0) (.int .i64 0) (.bool false)
  go_enter Tryd.func46, Tryd.ntmps46
  go_wp2_with fail
  refine (read_0 m hm _ hL1.b).mono ?_
  rintro e w' ⟨rfl, n, rfl⟩
  rw [h]
  go_wp2_with fail
  refine (read_7 m hm _ (hL1.b.drewN _)).mono ?_
  rintro e w' ⟨rfl, n', rfl⟩
  rw [h2]
  go_wp2_with fail
  have hb := below_new w (.cells (hcells 0 0 0 0 0 0 false) 38) (n + n')
  have hX' : Box ((w.alloc (.cells (hcells 0 0 0 0 0 0 false) 38)).drewN (n + n')) w.heap.size (.int .u64 0) (.int .i64 0) (.int .i64 0) (.int .i64 0) (.int .i64 0) (.int .i64 0) (.bool false) := hX.keep (below_drewN (Below.refl _ _) _) (hX.lt)
  have hL2 := hL1.drewN (n + n')
  have hlt := hX'.lt
  clear hX hL1
  generalize ((w.alloc (.cells (hcells 0 0 0 0 0 0 false) 38)).drewN (n + n')) = w1 at hb hX' hL2 hlt ⊢
  refine (head_any m hm _ hL2.b).mono ?_
  rintro e w2 ⟨rfl, b2⟩
  have hX2 := hX'.keep b2 hlt
  have hL3 := hL2.keep b2
  have hb2 := hb.trans (b2.mono hb.size)
  clear hX' hL2 hb b2
  go_upto_region 4 with fail
  have hX3 := hX2.keep (Below.alloc (Below.refl _ _) (Nat.le_refl _) (.cells (hcells 0 (kdOf m) (ptOf m) (rwOf m) (agOf m) (stOf m) (hdOf m)) 38)) hX2.lt
  have hY := Box.new w2 38 (.int .u64 0) (.int .i64 (kdOf m)) (.int .i64 (ptOf m)) (.int .i64 (rwOf m)) (.int .i64 (agOf m)) (.int .i64 (stOf m)) (.bool (hdOf m))
  have hL4 := hL3.alloc (.cells (hcells 0 (kdOf m) (ptOf m) (rwOf m) (agOf m) (stOf m) (hdOf m)) 38)
  have hb3 := Below.alloc hb2 hb2.size (.cells (hcells 0 (kdOf m) (ptOf m) (rwOf m) (agOf m) (stOf m) (hdOf m)) 38)
  have hne : w.heap.size ≠ w2.heap.size := Nat.ne_of_lt hX2.lt
  have hylt := hY.lt
  have hxlt := hX3.lt
  clear hX2 hL3 hb2
  have hfa := fault_any 0 (kdOf m) (ptOf m) (rwOf m) (agOf m) (stOf m) (hdOf m) _ hL4.k
  generalize (w2.alloc (.cells (hcells 0 (kdOf m) (ptOf m) (rwOf m) (agOf m) (stOf m) (hdOf m)) 38)) = w3 at hX3 hY hL4 hb3 hylt hxlt hfa ⊢
  generalize flt (kdOf m) (ptOf m) (rwOf m) (agOf m) (stOf m) = f at h3 hfa
  clear h h2 hL4 hlt
  generalize kdOf m = k, ptOf m = p, rwOf m = r, agOf m = a, stOf m = t, hdOf m = hh at *
  have hY0 := hY
  obtain ⟨y0, y1, y2, y3, y4, y5, y6, -, -, -, -, -, -, -⟩ := hY
  go_wp2_with fail
  clear y0 y1 y2 y3 y4 y5 y6
  refine hfa.mono ?_
  rintro e w' ⟨rfl, rfl⟩
  have hX4 := hX3.keep (Below.alloc (Below.refl _ _) (Nat.le_refl _) (.cells (hcells 0 k p r a t hh) 38)) hxlt
  have hY4 := hY0.keep (Below.alloc (Below.refl _ _) (Nat.le_refl _) (.cells (hcells 0 k p r a t hh) 38)) hylt
  have hb4 := Below.alloc hb3 hb3.size (.cells (hcells 0 k p r a t hh) 38)
  clear hX3 hY0 hb3 hfa
  generalize (w3.alloc (.cells (hcells 0 k p r a t hh) 38)) = w4 at hX4 hY4 hb4 ⊢
  go_upto_region 5 with fail
  obtain ⟨x0, x1, x2, x3, x4, x5, x6, f0, f1, f2, f3, f4, f5, f6⟩ := hX4
  obtain ⟨y0, y1, y2, y3, y4, y5, y6, -, -, -, -, -, -, -⟩ := hY4
  go_wp2
  refine bodyPost_ret (by simp [results, Tryd.results46, go_sem, x0, x1, x2, x3, x4, x5, x6]; try rfl) rfl ?_
  refine ⟨rfl, ?_⟩
  go_grown

set_option maxHeartbeats 1000000 in
theorem unpack_d (m : Int) (hm : Wd m) (h : m % 4 = 1) (h2 : m / 70368744177664 % 262144 = 0) (h3 : flt (kdOf m) (ptOf m) (rwOf m) (agOf m) (stOf m) = 0) (w : World) (hL : Laid w) :
    Calls Tryd.prog 46 #[.int .u64 m] w fun e w' => e = .returned (.tuple #[hv 0 (kdOf m) (ptOf m) (rwOf m) (agOf m) (stOf m) (hdOf m), .bool true]) ∧ Below w.heap.size w w' := by
  have hL1 := hL.alloc (.cells (hcells 0 0 0 0 0 0 false) 38)
  have hX := Box.new w 38 (.int .u64 0) (.int .i64 0) (.int .i64 0) (.int .i64 0) (.int .i64 0) (.int .i64 0) (.bool false)
  go_enter Tryd.func46, Tryd.ntmps46
  go_wp2_with fail
  refine (read_0 m hm _ hL1.b).mono ?_
  rintro e w' ⟨rfl, n, rfl⟩
  rw [h]
  go_wp2_with fail
  refine (read_7 m hm _ (hL1.b.drewN _)).mono ?_
  rintro e w' ⟨rfl, n', rfl⟩
  rw [h2]
  go_wp2_with fail
  have hb := below_new w (.cells (hcells 0 0 0 0 0 0 false) 38) (n + n')
  have hX' : Box ((w.alloc (.cells (hcells 0 0 0 0 0 0 false) 38)).drewN (n + n')) w.heap.size (.int .u64 0) (.int .i64 0) (.int .i64 0) (.int .i64 0) (.int .i64 0) (.int .i64 0) (.bool false) := hX.keep (below_drewN (Below.refl _ _) _) (hX.lt)
  have hL2 := hL1.drewN (n + n')
  have hlt := hX'.lt
  clear hX hL1
  generalize ((w.alloc (.cells (hcells 0 0 0 0 0 0 false) 38)).drewN (n + n')) = w1 at hb hX' hL2 hlt ⊢
  refine (head_any m hm _ hL2.b).mono ?_
  rintro e w2 ⟨rfl, b2⟩
  have hX2 := hX'.keep b2 hlt
  have hL3 := hL2.keep b2
  have hb2 := hb.trans (b2.mono hb.size)
  clear hX' hL2 hb b2
  go_upto_region 4 with fail
  have hX3 := hX2.keep (Below.alloc (Below.refl _ _) (Nat.le_refl _) (.cells (hcells 0 (kdOf m) (ptOf m) (rwOf m) (agOf m) (stOf m) (hdOf m)) 38)) hX2.lt
  have hY := Box.new w2 38 (.int .u64 0) (.int .i64 (kdOf m)) (.int .i64 (ptOf m)) (.int .i64 (rwOf m)) (.int .i64 (agOf m)) (.int .i64 (stOf m)) (.bool (hdOf m))
  have hL4 := hL3.alloc (.cells (hcells 0 (kdOf m) (ptOf m) (rwOf m) (agOf m) (stOf m) (hdOf m)) 38)
  have hb3 := Below.alloc hb2 hb2.size (.cells (hcells 0 (kdOf m) (ptOf m) (rwOf m) (agOf m) (stOf m) (hdOf m)) 38)
  have hne : w.heap.size ≠ w2.heap.size := Nat.ne_of_lt hX2.lt
  have hylt := hY.lt
  have hxlt := hX3.lt
  clear hX2 hL3 hb2
  have hfa := fault_any 0 (kdOf m) (ptOf m) (rwOf m) (agOf m) (stOf m) (hdOf m) _ hL4.k
  generalize (w2.alloc (.cells (hcells 0 (kdOf m) (ptOf m) (rwOf m) (agOf m) (stOf m) (hdOf m)) 38)) = w3 at hX3 hY hL4 hb3 hylt hxlt hfa ⊢
  rw [h3] at hfa
  clear h3
  clear h h2 hL4 hlt
  generalize hk : kdOf m = k, hp : ptOf m = p, hr : rwOf m = r, ha : agOf m = a, ht : stOf m = t, hhd : hdOf m = hh at *
  have hY0 := hY
  obtain ⟨y0, y1, y2, y3, y4, y5, y6, -, -, -, -, -, -, -⟩ := hY
  go_wp2_with fail
  clear y0 y1 y2 y3 y4 y5 y6
  refine hfa.mono ?_
  rintro e w' ⟨rfl, rfl⟩
  have hX4 := hX3.keep (Below.alloc (Below.refl _ _) (Nat.le_refl _) (.cells (hcells 0 k p r a t hh) 38)) hxlt
  have hY4 := hY0.keep (Below.alloc (Below.refl _ _) (Nat.le_refl _) (.cells (hcells 0 k p r a t hh) 38)) hylt
  have hb4 := Below.alloc hb3 hb3.size (.cells (hcells 0 k p r a t hh) 38)
  clear hX3 hY0 hb3 hfa
  generalize (w3.alloc (.cells (hcells 0 k p r a t hh) 38)) = w4 at hX4 hY4 hb4 ⊢
  go_upto_region 6 with fail
  obtain ⟨x0, x1, x2, x3, x4, x5, x6, f0, f1, f2, f3, f4, f5, f6⟩ := hX4
  obtain ⟨y0, y1, y2, y3, y4, y5, y6, -, -, -, -, -, -, -⟩ := hY4
  go_wp2
  refine bodyPost_ret (by simp [results, Tryd.results46, go_sem, x0, x1, x2, x3, x4, x5, x6]; try rfl) rfl ?_
  subst hk hp hr ha ht hhd
  refine ⟨rfl, ?_⟩
  go_grown

/-- A header's first word (P2.1). -/
abbrev IsHead (m : Int) : Prop := m % 4 = 1 ∧ m / 70368744177664 % 262144 = 0 ∧ flt (kdOf m) (ptOf m) (rwOf m) (agOf m) (stOf m) = 0

theorem unpack_yes (m : Int) (hm : Wd m) (h : IsHead m) (w : World) (hL : Laid w) :
    Calls Tryd.prog 46 #[.int .u64 m] w fun e w' => e = .returned (.tuple #[hv 0 (kdOf m) (ptOf m) (rwOf m) (agOf m) (stOf m) (hdOf m), .bool true]) ∧ Below w.heap.size w w' :=
  unpack_d m hm h.1 h.2.1 h.2.2 w hL

theorem unpack_no (m : Int) (hm : Wd m) (h : ¬ IsHead m) (w : World) (hL : Laid w) :
    Calls Tryd.prog 46 #[.int .u64 m] w fun e w' => e = .returned (.tuple #[hv 0 0 0 0 0 0 false, .bool false]) ∧ Below w.heap.size w w' := by
  by_cases h1 : m % 4 = 1
  · by_cases h2 : m / 70368744177664 % 262144 = 0
    · exact unpack_c m hm h1 h2 (fun h3 => h ⟨h1, h2, h3⟩) w hL
    · exact unpack_b m hm h1 h2 w hL
  · exact unpack_a m hm h1 w hL

end Go.Proofs.YtpiemfchjlihfaaDoor
