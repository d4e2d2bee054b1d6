/-
  sound: a head that may be.
-/
import Derived.Test.YtpiemfchjlihfaaDoorBS1
import Derived.Test.YtpiemfchjlihfaaDoorPBc
import Derived.Test.YtpiemfchjlihfaaDoorBWb
import Derived.Test.YtpiemfchjlihfaaDoorKGF
set_option linter.unusedVariables false
set_option maxRecDepth 20000
namespace Go.Proofs.YtpiemfchjlihfaaDoor
open Go.RowKit Go.Shelf

set_option maxHeartbeats 4000000 in
theorem sound13_any (s k p r a y : Int) (h : Bool) (hk : -9223372036854775808 ≤ k ∧ k < 9223372036854775808) (hp : -9223372036854775808 ≤ p ∧ p < 9223372036854775808) (hr : -9223372036854775808 ≤ r ∧ r < 9223372036854775808) (ha : -9223372036854775808 ≤ a ∧ a < 9223372036854775808) (hy : -9223372036854775808 ≤ y ∧ y < 9223372036854775808) :
    ∃ (k' p' r' a' y' : Nat), flt k' p' r' a' y' = 0 ∧ p' ≤ 21 ∧ r' ≤ 19 ∧ 2 ≤ p' ∧ ∀ w : World, Calls Tryd.prog 33 #[hv s k p r a y h] w fun e w' => e = .returned (hv s k' p' r' a' y' h) ∧ Below w.heap.size w w' := by
  obtain ⟨k', k1, k2⟩ := among13_nat k 4 hk.1 hk.2 (by omega)
  obtain ⟨p', p1, p2⟩ := among13_nat p 20 hp.1 hp.2 (by omega)
  obtain ⟨r', r1, r2⟩ := among13_nat r 20 hr.1 hr.2 (by omega)
  obtain ⟨a', a1, a2⟩ := among13_nat a 16 ha.1 ha.2 (by omega)
  obtain ⟨y', y1, y2⟩ := among13_nat y 256 hy.1 hy.2 (by omega)
  refine ⟨1 + k', 2 + p', r', a', y', ?_, by omega, by omega, by omega, fun w => ?_⟩
  · unfold flt
    rw [if_neg (by omega), if_neg (by omega), if_neg (by omega), if_neg (by omega), if_neg (by omega)]
  have HK : Hid (∀ w : World, Calls Tryd.prog 8 #[.int .i64 k, .int .i64 4] w fun e w' => e = .returned (.int .i64 k') ∧ Below w.heap.size w w') := fun w => (k2 w).mono fun _ _ h => ⟨h.1, h.2 ▸ Below.refl _ _⟩
  have HP : Hid (∀ w : World, Calls Tryd.prog 8 #[.int .i64 p, .int .i64 20] w fun e w' => e = .returned (.int .i64 p') ∧ Below w.heap.size w w') := fun w => (p2 w).mono fun _ _ h => ⟨h.1, h.2 ▸ Below.refl _ _⟩
  have HR : Hid (∀ w : World, Calls Tryd.prog 8 #[.int .i64 r, .int .i64 20] w fun e w' => e = .returned (.int .i64 r') ∧ Below w.heap.size w w') := fun w => (r2 w).mono fun _ _ h => ⟨h.1, h.2 ▸ Below.refl _ _⟩
  have HA : Hid (∀ w : World, Calls Tryd.prog 8 #[.int .i64 a, .int .i64 16] w fun e w' => e = .returned (.int .i64 a') ∧ Below w.heap.size w w') := fun w => (a2 w).mono fun _ _ h => ⟨h.1, h.2 ▸ Below.refl _ _⟩
  have HY : Hid (∀ w : World, Calls Tryd.prog 8 #[.int .i64 y, .int .i64 256] w fun e w' => e = .returned (.int .i64 y') ∧ Below w.heap.size w w') := fun w => (y2 w).mono fun _ _ h => ⟨h.1, h.2 ▸ Below.refl _ _⟩
  clear k2 p2 r2 a2 y2 hk hp hr ha hy
  go_enter Tryd.func33, Tryd.ntmps33
  go_upto_region 1 with fail
  have X0 : ((w.alloc (.cells (hcells s k p r a y h) 38)).alloc (.cells #[.int .u64 0, .int .i64 0, .int .i64 0, .int .i64 0, .int .i64 0, .int .i64 0, .bool false] 38)).heap[w.heap.size]? = some (.cells (hcells s k p r a y h) 38 (0, 0)) := (Below.heap_alloc _ _ _ (by simp)).trans (heap_alloc_new w _)
  have X1 : ((w.alloc (.cells (hcells s k p r a y h) 38)).alloc (.cells #[.int .u64 0, .int .i64 0, .int .i64 0, .int .i64 0, .int .i64 0, .int .i64 0, .bool false] 38)).heap[w.heap.size + 1]? = some (.cells #[.int .u64 0, .int .i64 0, .int .i64 0, .int .i64 0, .int .i64 0, .int .i64 0, .bool false] 38 (0, 0)) := by
    have := heap_alloc_new (w.alloc (.cells (hcells s k p r a y h) 38)) (.cells #[.int .u64 0, .int .i64 0, .int .i64 0, .int .i64 0, .int .i64 0, .int .i64 0, .bool false] 38)
    simpa using this
  have B0 : Below w.heap.size w ((w.alloc (.cells (hcells s k p r a y h) 38)).alloc (.cells #[.int .u64 0, .int .i64 0, .int .i64 0, .int .i64 0, .int .i64 0, .int .i64 0, .bool false] 38)) := Below.alloc (Below.alloc (Below.refl _ _) (Nat.le_refl _) _) (by simp) _
  generalize hv2 : (w.alloc (.cells (hcells s k p r a y h) 38)).alloc (.cells #[.int .u64 0, .int .i64 0, .int .i64 0, .int .i64 0, .int .i64 0, .int .i64 0, .bool false] 38) = v2 at *
  clear hv2
  have HB0 : Hid (Below w.heap.size w v2) := B0
  have HX : Hid (v2.heap[w.heap.size]? = some (.cells (hcells s k p r a y h) 38 (0, 0))) := X0
  have HX1 : Hid (v2.heap[w.heap.size + 1]? = some (.cells #[.int .u64 0, .int .i64 0, .int .i64 0, .int .i64 0, .int .i64 0, .int .i64 0, .bool false] 38 (0, 0))) := X1
  have hXl : w.heap.size < v2.heap.size := (Array.getElem?_eq_some_iff.1 X0).1
  haveI hinh : Inhabited (Kg.Bel v2) := ⟨⟨v2, Below.refl _ _⟩⟩
  have z1 : ∀ q : Kg.Bel v2, q.v.cell? ⟨w.heap.size, 1, none⟩ = some (.int .i64 k) := fun q => (q.h.cell (p := ⟨w.heap.size, 1, none⟩) hXl).trans (cell_of_row _ _ 1 _ _ _ X0)
  have z2 : ∀ q : Kg.Bel v2, q.v.cell? ⟨w.heap.size, 2, none⟩ = some (.int .i64 p) := fun q => (q.h.cell (p := ⟨w.heap.size, 2, none⟩) hXl).trans (cell_of_row _ _ 2 _ _ _ X0)
  have z3 : ∀ q : Kg.Bel v2, q.v.cell? ⟨w.heap.size, 3, none⟩ = some (.int .i64 r) := fun q => (q.h.cell (p := ⟨w.heap.size, 3, none⟩) hXl).trans (cell_of_row _ _ 3 _ _ _ X0)
  have z4 : ∀ q : Kg.Bel v2, q.v.cell? ⟨w.heap.size, 4, none⟩ = some (.int .i64 a) := fun q => (q.h.cell (p := ⟨w.heap.size, 4, none⟩) hXl).trans (cell_of_row _ _ 4 _ _ _ X0)
  have z5 : ∀ q : Kg.Bel v2, q.v.cell? ⟨w.heap.size, 5, none⟩ = some (.int .i64 y) := fun q => (q.h.cell (p := ⟨w.heap.size, 5, none⟩) hXl).trans (cell_of_row _ _ 5 _ _ _ X0)
  clear X0 X1 B0
  refine Kg.float_tail 18 7 { dst := some 10, op := Op.binOp BinOp.add 3 (Operand.const (Value.int IntKind.i64 2)) (Operand.tmp 9) 3, type := 3, pos := "outright.go:64", after := #[{ on := 6, ground := Ground.data }, { on := 18, ground := Ground.gcOnly Departure.lateStores }], guard := none } rfl mixed (by kernel_rfl) ?_
  simp only [List.take_succ_cons, List.take_zero, List.drop_succ_cons, List.drop_zero, Nat.reduceAdd]
  repeat (go_big_quiet_step (first | (go_at_call 8; first | with_reducible exact Kg.calls_bel (HK.out _) | with_reducible exact Kg.calls_bel (HP.out _) | with_reducible exact Kg.calls_bel (HR.out _) | with_reducible exact Kg.calls_bel (HA.out _) | with_reducible exact Kg.calls_bel (HY.out _))))
  refine wpQuiet_nil ⟨.int .i64 (2 + p'), .inl ⟨rfl, fun w => ?_⟩, ?_⟩
  · simp [execOp, binOp, go_sem]
    rw [IntKind.wrap_i64]; omega
  simp only [Act.put, List.setIfInBounds_toArray, List.set_cons_succ, List.set_cons_zero]
  repeat (go_big_quiet_step (first | (go_at_call 8; first | with_reducible exact Kg.calls_bel (HK.out _) | with_reducible exact Kg.calls_bel (HP.out _) | with_reducible exact Kg.calls_bel (HR.out _) | with_reducible exact Kg.calls_bel (HA.out _) | with_reducible exact Kg.calls_bel (HY.out _))))
  refine wpQuiet_nil ?_
  rintro w8 ⟨⟨w8, b8⟩, rfl⟩
  have HX8 : Hid (w8.heap[w.heap.size]? = some (.cells (hcells s k p r a y h) 38 (0, 0))) := (b8.block _ hXl).trans HX.out
  have HB8 : Hid (Below v2.heap.size v2 w8) := b8
  clear z1 z2 z3 z4 z5 hinh b8 HK HP HR HA HY
  have y1' : w8.cell? ⟨w.heap.size, 1, none⟩ = some (.int .i64 k) := cell_of_row _ _ 1 _ _ _ HX8.out
  have y2' : w8.cell? ⟨w.heap.size, 2, none⟩ = some (.int .i64 p) := cell_of_row _ _ 2 _ _ _ HX8.out
  have y3' : w8.cell? ⟨w.heap.size, 3, none⟩ = some (.int .i64 r) := cell_of_row _ _ 3 _ _ _ HX8.out
  have y4' : w8.cell? ⟨w.heap.size, 4, none⟩ = some (.int .i64 a) := cell_of_row _ _ 4 _ _ _ HX8.out
  have y5' : w8.cell? ⟨w.heap.size, 5, none⟩ = some (.int .i64 y) := cell_of_row _ _ 5 _ _ _ HX8.out
  have g1 : w8.frozen? ⟨w.heap.size, 1, none⟩ = false := by unfold World.frozen?; rw [HX8.out]; rfl
  have g2 : w8.frozen? ⟨w.heap.size, 2, none⟩ = false := by unfold World.frozen?; rw [HX8.out]; rfl
  have g3 : w8.frozen? ⟨w.heap.size, 3, none⟩ = false := by unfold World.frozen?; rw [HX8.out]; rfl
  have g4 : w8.frozen? ⟨w.heap.size, 4, none⟩ = false := by unfold World.frozen?; rw [HX8.out]; rfl
  have g5 : w8.frozen? ⟨w.heap.size, 5, none⟩ = false := by unfold World.frozen?; rw [HX8.out]; rfl
  go_wp2_with fail
  refine NoPanic.normal ?_
  have R0 : w8.rowIs w.heap.size 38 7 (fun j => (hcells s k p r a y h).getD j default) := ⟨_, HX8.out, rfl, fun i hi => by
    match i, hi with
    | 0, _ | 1, _ | 2, _ | 3, _ | 4, _ | 5, _ | 6, _ => rfl
    | n + 7, h => exact absurd h (by omega)⟩
  have R5 := ((((R0.set 1 (.int .i64 (1 + k'))).set 2 (.int .i64 (2 + p'))).set 3 (.int .i64 r')).set 4 (.int .i64 a')).set 5 (.int .i64 y')
  have HX9 : Hid (w8.heap[w.heap.size + 1]? = some (.cells #[.int .u64 0, .int .i64 0, .int .i64 0, .int .i64 0, .int .i64 0, .int .i64 0, .bool false] 38 (0, 0))) := (HB8.out.block _ (Array.getElem?_eq_some_iff.1 HX1.out).1).trans HX1.out
  have B5 : Below w.heap.size w (((((w8.setCell ⟨w.heap.size, 1, none⟩ (.int .i64 (1 + k'))).setCell ⟨w.heap.size, 2, none⟩ (.int .i64 (2 + p'))).setCell ⟨w.heap.size, 3, none⟩ (.int .i64 r')).setCell ⟨w.heap.size, 4, none⟩ (.int .i64 a')).setCell ⟨w.heap.size, 5, none⟩ (.int .i64 y')) := Below.setCell (Below.setCell (Below.setCell (Below.setCell (Below.setCell (HB0.out.trans (HB8.out.mono HB0.out.size)) (Nat.le_refl _) _) (Nat.le_refl _) _) (Nat.le_refl _) _) (Nat.le_refl _) _) (Nat.le_refl _) _
  have X5 : (((((w8.setCell ⟨w.heap.size, 1, none⟩ (.int .i64 (1 + k'))).setCell ⟨w.heap.size, 2, none⟩ (.int .i64 (2 + p'))).setCell ⟨w.heap.size, 3, none⟩ (.int .i64 r')).setCell ⟨w.heap.size, 4, none⟩ (.int .i64 a')).setCell ⟨w.heap.size, 5, none⟩ (.int .i64 y')).heap[w.heap.size + 1]? = some (.cells #[.int .u64 0, .int .i64 0, .int .i64 0, .int .i64 0, .int .i64 0, .int .i64 0, .bool false] 38 (0, 0)) := by
    have hne : w.heap.size + 1 ≠ w.heap.size := by omega
    exact (Below.heap_setCell _ _ _ _ hne).trans ((Below.heap_setCell _ _ _ _ hne).trans ((Below.heap_setCell _ _ _ _ hne).trans ((Below.heap_setCell _ _ _ _ hne).trans ((Below.heap_setCell _ _ _ _ hne).trans HX9.out))))
  generalize ((((w8.setCell ⟨w.heap.size, 1, none⟩ (.int .i64 (1 + k'))).setCell ⟨w.heap.size, 2, none⟩ (.int .i64 (2 + p'))).setCell ⟨w.heap.size, 3, none⟩ (.int .i64 r')).setCell ⟨w.heap.size, 4, none⟩ (.int .i64 a')).setCell ⟨w.heap.size, 5, none⟩ (.int .i64 y') = w9 at *
  clear y1' y2' y3' y4' y5' g1 g2 g3 g4 g5 R0
  have n0 : w9.cell? ⟨w.heap.size, 0, none⟩ = some (.int .u64 s) := R5.cell (i := 0) (by omega)
  have n1 : w9.cell? ⟨w.heap.size, 1, none⟩ = some (.int .i64 (1 + k')) := R5.cell (i := 1) (by omega)
  have n2 : w9.cell? ⟨w.heap.size, 2, none⟩ = some (.int .i64 (2 + p')) := R5.cell (i := 2) (by omega)
  have n3 : w9.cell? ⟨w.heap.size, 3, none⟩ = some (.int .i64 r') := R5.cell (i := 3) (by omega)
  have n4 : w9.cell? ⟨w.heap.size, 4, none⟩ = some (.int .i64 a') := R5.cell (i := 4) (by omega)
  have n5 : w9.cell? ⟨w.heap.size, 5, none⟩ = some (.int .i64 y') := R5.cell (i := 5) (by omega)
  have n6 : w9.cell? ⟨w.heap.size, 6, none⟩ = some (.bool h) := R5.cell (i := 6) (by omega)
  obtain ⟨o0, o1, o2, o3, o4, o5, o6, f0, f1, f2, f3, f4, f5, f6⟩ := Box.of_at X5
  have HB5 : Hid (Below w.heap.size w w9) := B5
  have HX5 : Hid (w9.heap[w.heap.size + 1]? = some (.cells #[.int .u64 0, .int .i64 0, .int .i64 0, .int .i64 0, .int .i64 0, .int .i64 0, .bool false] 38 (0, 0))) := X5
  clear B5 R5 X5
  go_wp2
  have h7 := set_at (set_at (set_at (set_at (set_at (set_at (set_at HX5.out 0 (.int .u64 s)) 1 (.int .i64 (1 + k'))) 2 (.int .i64 (2 + p'))) 3 (.int .i64 r')) 4 (.int .i64 a')) 5 (.int .i64 y')) 6 (.bool h)
  have bl := seven_below (.int .u64 s) (.int .i64 (1 + k')) (.int .i64 (2 + p')) (.int .i64 r') (.int .i64 a') (.int .i64 y') (.bool h) HB5.out (show w.heap.size ≤ w.heap.size + 1 by omega)
  generalize ((((((w9.setCell ⟨w.heap.size + 1, 0, none⟩ (.int .u64 s)).setCell ⟨w.heap.size + 1, 1, none⟩ (.int .i64 (1 + k'))).setCell ⟨w.heap.size + 1, 2, none⟩ (.int .i64 (2 + p'))).setCell ⟨w.heap.size + 1, 3, none⟩ (.int .i64 r')).setCell ⟨w.heap.size + 1, 4, none⟩ (.int .i64 a')).setCell ⟨w.heap.size + 1, 5, none⟩ (.int .i64 y')).setCell ⟨w.heap.size + 1, 6, none⟩ (.bool h) = wz at *
  have h8 : wz.heap[w.heap.size + 1]? = some (.cells (hcells s (1 + k') (2 + p') r' a' y' h) 38 (0, 0)) := h7
  refine bodyPost_ret (results_cell1 Tryd.results33 rfl (run_loadVar_row wz (w.heap.size + 1) 38 38 _ (0, 0) _ h8 Tryd.underlying38 rfl (by kernel_rfl))) rfl ?_
  exact ⟨by simp [hv], bl⟩

end Go.Proofs.YtpiemfchjlihfaaDoor
