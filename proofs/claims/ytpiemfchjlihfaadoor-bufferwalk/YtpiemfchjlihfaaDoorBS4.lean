/-
  step: one call of a script.
-/
import Derived.Test.YtpiemfchjlihfaaDoorBS2
import Derived.Test.YtpiemfchjlihfaaDoorBS3
import Derived.Test.YtpiemfchjlihfaaDoorBW4
set_option linter.unusedVariables false
set_option maxRecDepth 20000
namespace Go.Proofs.YtpiemfchjlihfaaDoor
open Go.RowKit Go.Shelf

/-- A call of a script. -/
structure Op13 where
  k : Int
  t : Int
  s : Int
  kd : Int
  p : Int
  r : Int
  a : Int
  y : Int
  h : Bool
  n : Int
  i : Int
  w : Int

abbrev I64 (z : Int) : Prop := -9223372036854775808 ≤ z ∧ z < 9223372036854775808

structure Op13.Ok (o : Op13) : Prop where
  t : I64 o.t
  s : Wd o.s
  kd : I64 o.kd
  p : I64 o.p
  r : I64 o.r
  a : I64 o.a
  y : I64 o.y
  n : I64 o.n
  i : I64 o.i
  w : Wd o.w

abbrev Op13.cells (o : Op13) : Array Value := #[.int .i64 o.k, .int .i64 o.t, .int .u64 o.s, .int .i64 o.kd, .int .i64 o.p, .int .i64 o.r, .int .i64 o.a, .int .i64 o.y, .bool o.h, .int .i64 o.n, .int .i64 o.i, .int .u64 o.w]
abbrev Op13.val (o : Op13) : Value := .agg o.cells

section
variable {n0 : Nat} {w w' : World} {wb b ab ag nt : Nat} {c : Cfg} {top : Nat} {ws : Nat → Int} {B : Bfs} {L : List Sg} {Th : List Ob} {lv : Value}

/-- Retire, in the whole state. -/
theorem Ws.retire (S : Ws n0 w wb b ab ag nt c top ws B L Th lv) (t1 : Touch [b] w w') (hb : Bf w' b (bfs0 B.n B.size)) : Ws n0 w' wb b ab ag nt c top ws (bfs0 B.n B.size) L Th lv := by
  have t2 : Touch [b, ab, ag] w w' := (Touch.refl _ _).then t1 (fun z hz => .inl (by simp only [List.mem_cons, List.not_mem_nil, or_false] at hz ⊢; exact .inl hz))
  obtain ⟨h1, h2⟩ := S.frame t2
  have hB := S.bw
  refine ⟨⟨hb, hB.ar.touch t1 (by simp only [List.mem_cons, List.not_mem_nil, or_false]; exact hB.ne.1.symm) (by simp only [List.mem_cons, List.not_mem_nil, or_false]; exact hB.ne.2.symm), hB.ld.touch t2 hB.glob.1 hB.glob.2, hB.ne, hB.lo, hB.gl, fun t _ => ⟨Int.le_refl _, fun _ => rfl, fun h => absurd h (Int.lt_irrefl 0), fun h => absurd h (Int.lt_irrefl 0)⟩⟩, S.wo.retire, h1.trans S.wq, h2, S.lo, S.nt⟩

set_option maxHeartbeats 4000000 in
/-- P13.5: KRetire. -/
theorem step_retire (S : Ws n0 w wb b ab ag nt c top ws B L Th lv) (hn0 : n0 ≤ w.heap.size) (o : Op13) (ho : o.Ok) (hk : o.k = 4) :
    Calls Tryd.prog 15 #[.pointer (some ⟨wb, 0, none⟩), o.val] w fun e w' => e = .returned (.bool true) ∧ Ws n0 w' wb b ab ag nt c top ws (bfs0 B.n B.size) L Th lv ∧ Below n0 w w' := by
  have HS : Hid (Ws n0 w wb b ab ag nt c top ws B L Th lv) := S
  have hnt : 1 ≤ nt ∧ nt ≤ 8 := by have := S.bw.bf.n1; have := S.bw.bf.n0; have := S.nt; omega
  obtain ⟨tt, htt, HT0⟩ := among13_nat o.t nt ho.t.1 ho.t.2 ⟨by omega, by omega⟩
  have HT : Hid (∀ w : World, Calls Tryd.prog 8 #[.int .i64 o.t, .int .i64 nt] w fun e w' => e = .returned (.int .i64 tt) ∧ Below w.heap.size w w') := fun w => (HT0 w).mono fun _ _ h => ⟨h.1, h.2 ▸ Below.refl _ _⟩
  obtain ⟨k', p', r', a', y', hf, hp1, hr1, hp2, HD0⟩ := sound13_any o.s o.kd o.p o.r o.a o.y o.h ho.kd ho.p ho.r ho.a ho.y
  have HD : Hid (∀ w : World, Calls Tryd.prog 33 #[hv o.s o.kd o.p o.r o.a o.y o.h] w fun e w' => e = .returned (hv o.s k' p' r' a' y' o.h) ∧ Below w.heap.size w w') := HD0
  have Hn0 : Hid (n0 ≤ w.heap.size) := hn0
  clear S HT0 HD0 ho hn0
  go_enter Tryd.func15, Tryd.ntmps15
  go_upto_region 1 with fail
  have B0 : Below w.heap.size w (w.alloc (.cells o.cells 49)) := Below.alloc (Below.refl _ _) (Nat.le_refl _) _
  have X0 := heap_alloc_new w (.cells o.cells 49)
  generalize w.alloc (.cells o.cells 49) = v at *
  have HX : Hid (v.heap[w.heap.size]? = some (.cells o.cells 49 (0, 0))) := X0
  have HB : Hid (Below w.heap.size w v) := B0
  have HSv : Hid (Ws n0 v wb b ab ag nt c top ws B L Th lv) := HS.out.below B0
  have hXl : w.heap.size < v.heap.size := (Array.getElem?_eq_some_iff.1 X0).1
  have hWl : wb < v.heap.size := (Array.getElem?_eq_some_iff.1 HSv.out.wq).1
  haveI hinh : Inhabited (Kg.Bel v) := ⟨⟨v, Below.refl _ _⟩⟩
  have z0 : ∀ p : Kg.Bel v, p.v.cell? ⟨w.heap.size, 1, none⟩ = some (.int .i64 o.t) := fun p => (p.h.cell (p := ⟨w.heap.size, 1, none⟩) hXl).trans (cell_of_row _ _ 1 _ _ _ X0)
  have z1 : ∀ p : Kg.Bel v, p.v.cell? ⟨wb, 2, none⟩ = some (.int .i64 nt) := fun p => (p.h.cell (p := ⟨wb, 2, none⟩) hWl).trans HSv.out.wp.c2
  clear X0 B0
  refine Kg.region_below Kg.mixed (by kernel_rfl) ?_
  repeat (go_big_quiet_step (first | (go_at_call 8; exact Kg.calls_bel (HT.out _))))
  refine wpQuiet_nil ?_
  rintro w1 ⟨⟨w1, b1⟩, rfl⟩
  have HB1 : Hid (Below v.heap.size v w1) := b1
  have X1 : w1.heap[w.heap.size]? = some (.cells o.cells 49 (0, 0)) := (b1.block _ hXl).trans HX.out
  clear z0 z1 hinh b1 HT hXl hWl
  have x0 : w1.cell? ⟨w.heap.size, 0, none⟩ = some (.int .i64 4) := by rw [← hk]; exact cell_of_row _ _ 0 _ _ _ X1
  have x2 : w1.cell? ⟨w.heap.size, 2, none⟩ = some (.int .u64 o.s) := cell_of_row _ _ 2 _ _ _ X1
  have x3 : w1.cell? ⟨w.heap.size, 3, none⟩ = some (.int .i64 o.kd) := cell_of_row _ _ 3 _ _ _ X1
  have x4 : w1.cell? ⟨w.heap.size, 4, none⟩ = some (.int .i64 o.p) := cell_of_row _ _ 4 _ _ _ X1
  have x5 : w1.cell? ⟨w.heap.size, 5, none⟩ = some (.int .i64 o.r) := cell_of_row _ _ 5 _ _ _ X1
  have x6 : w1.cell? ⟨w.heap.size, 6, none⟩ = some (.int .i64 o.a) := cell_of_row _ _ 6 _ _ _ X1
  have x7 : w1.cell? ⟨w.heap.size, 7, none⟩ = some (.int .i64 o.y) := cell_of_row _ _ 7 _ _ _ X1
  have x8 : w1.cell? ⟨w.heap.size, 8, none⟩ = some (.bool o.h) := cell_of_row _ _ 8 _ _ _ X1
  have HX1 : Hid (w1.heap[w.heap.size]? = some (.cells o.cells 49 (0, 0))) := X1
  have q := HD.out w1
  clear X1 HD
  go_wp2_with fail
  refine q.mono ?_
  rintro e w2 ⟨rfl, b2⟩
  have HB2 : Hid (Below w1.heap.size w1 w2) := b2
  clear q b2 x2 x3 x4 x5 x6 x7 x8 x0
  go_upto_region 3 with fail
  have B3 : Below v.heap.size v (w2.alloc (.cells (hcells o.s k' p' r' a' y' o.h) 38)) := Below.alloc (HB1.out.trans (HB2.out.mono HB1.out.size)) ((HB1.out.trans (HB2.out.mono HB1.out.size)).size) _
  have X3 : (w2.alloc (.cells (hcells o.s k' p' r' a' y' o.h) 38)).heap[w.heap.size]? = some (.cells o.cells 49 (0, 0)) := (B3.block _ (Array.getElem?_eq_some_iff.1 HX.out).1).trans HX.out
  have Y3 := heap_alloc_new w2 (.cells (hcells o.s k' p' r' a' y' o.h) 38)
  have hYl : w.heap.size ≤ w2.heap.size := by have := HB.out.size; have := HB1.out.size; have := HB2.out.size; omega
  generalize w2.alloc (.cells (hcells o.s k' p' r' a' y' o.h) 38) = v3 at *
  have HB3 : Hid (Below w.heap.size w v3) := HB.out.trans (B3.mono HB.out.size)
  have HX3 : Hid (v3.heap[w.heap.size]? = some (.cells o.cells 49 (0, 0))) := X3
  have HY3 : Hid (v3.heap[w2.heap.size]? = some (.cells (hcells o.s k' p' r' a' y' o.h) 38 (0, 0))) := Y3
  have HS3 : Hid (Ws n0 v3 wb b ab ag nt c top ws B L Th lv) := HS.out.below HB3.out
  have x0 : v3.cell? ⟨w.heap.size, 0, none⟩ = some (.int .i64 4) := by rw [← hk]; exact cell_of_row _ _ 0 _ _ _ X3
  clear B3 X3 Y3 HSv HX1 HB2 HB1 HX HB hk
  generalize w2.heap.size = Y at *
  go_upto_region 16 with fail
  clear x0
  have k0 := HS3.out.wp.c0
  have k1 := HS3.out.wp.c1
  have q := bretire_any (HS3.out.bw.below (below_drewN (Below.refl _ _) 1)).bf (.pointer (some ⟨ab, 0, none⟩))
  have HQ : Hid (Calls Tryd.prog 19 #[.pointer (some ⟨b, 0, none⟩), .pointer (some ⟨ab, 0, none⟩)] v3.drew fun e w' => e = .returned (.tuple #[]) ∧ Bf w' b (bfs0 B.n B.size) ∧ Touch [b] v3.drew w') := q
  clear q
  refine quiet_tail 8 mixed (by kernel_rfl) ?_
  simp only [List.take_succ_cons, List.take_zero, List.drop_succ_cons, List.drop_zero]
  repeat (go_big_quiet_step (fail))
  refine wpQuiet_nil ?_
  go_wp2_with fail
  refine HQ.out.mono ?_
  rintro e w4 ⟨rfl, bf4, t4⟩
  have HW : Hid (Ws n0 w4 wb b ab ag nt c top ws (bfs0 B.n B.size) L Th lv) := (HS3.out.below (below_drewN (Below.refl _ _) 1)).retire t4 bf4
  have HZ : Hid (Below n0 w w4) := ((HB3.out.mono Hn0.out).trans ((below_drewN (Below.refl _ _) 1).mono (Nat.le_trans Hn0.out HB3.out.size))).trans (t4.below (by have := HB3.out.size; have := Hn0.out; simp; omega) (fun z hz => by simp only [List.mem_cons, List.not_mem_nil, or_false] at hz; rw [hz]; exact HS3.out.bw.lo.1))
  clear HQ bf4 t4 k0 k1
  go_wp2
  go_ret
  exact ⟨rfl, HW.out, HZ.out⟩
end
end Go.Proofs.YtpiemfchjlihfaaDoor
