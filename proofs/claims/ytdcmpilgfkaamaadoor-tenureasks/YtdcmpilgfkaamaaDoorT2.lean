/-
  with: a past that goes on.
-/
import Derived.Test.YtdcmpilgfkaamaaDoorT1
set_option linter.unusedVariables false
set_option maxRecDepth 20000
namespace Go.Proofs.YtdcmpilgfkaamaaDoor
open Go.RowKit

/-- What with makes of a past. -/
def wf (f : Nat → Int) (n : Nat) (x : Int) : Nat → Int := if n = 16 then (fun j => if j = 15 then x else f (j + 1)) else (fun j => if j = n then x else f j)
def wn (n : Nat) : Nat := if n = 16 then 16 else n + 1

theorem two_blocks (w : World) (A B : Obj) : ((w.alloc A).alloc B).heap[w.heap.size]? = some A ∧ ((w.alloc A).alloc B).heap[w.heap.size + 1]? = some B ∧ Below w.heap.size w ((w.alloc A).alloc B) := by
  refine ⟨heap_alloc2_old w A B, heap_alloc2_new w A B, ?_⟩
  exact Below.alloc (Below.alloc (Below.refl _ _) (Nat.le_refl _) _) (by simp) _

theorem Below.set {w w1 : World} {a : Addr} {u : Value} {k : Nat} (h : Below k w w1) (ha : k ≤ a.block) : Below k w (w1.setCell a u) := Below.setCell h ha _

theorem wpList_store_row {P : Program} {ops : Array Oper} {rest : List Oper} {op : Oper} {a : Act} {w : World} {Q : Exit → Act → World → Prop} (hgd : op.guard = none) (ty : TypeId) (x y : Operand) (ho : op.op = .store ty x y)
    (g : Nat) (t : TypeId) (old cells : Array Value) (hx : a.eval x = .pointer (some ⟨g, 0, none⟩)) (hy : a.eval y = .agg cells)
    (hg : w.heap[g]? = some (.cells old t (0, 0))) (hi : (P.info? ty).map (·.size) = some cells.size) (ho2 : old.size = cells.size) (h1 : cells.all (·.oneCell') = true)
    (h : wpList P ops Q rest (a.put op.dst undef) (w.setRow g cells)) : wpList P ops Q (op :: rest) a w :=
  wpList_plain hgd fun _ hK => by
    unfold Oper.wp execOp
    simp only [ho, hx, hy, Instr.storeAt, Instr.sureAddr, Sem.run_bind, Sem.run_pure, Result.andThen_ok, run_storeVar_row w g t ty old cells hg hi ho2 h1]
    exact hK _ _ h

theorem row_setRow {w : World} {k : Nat} {cs : Array Value} {t : TypeId} (h : w.heap[k]? = some (.cells cs t (0, 0))) (c : Array Value) : (w.setRow k c).heap[k]? = some (.cells c t (0, 0)) := by
  simp [World.setRow, Array.getElem?_modify, h]

theorem row_setRow_other {w : World} {k : Nat} {o : Obj} (h : w.heap[k]? = some o) (g : Nat) (c : Array Value) (hg : k ≠ g) : (w.setRow g c).heap[k]? = some o := by
  simp [World.setRow, Array.getElem?_modify, h, Ne.symm hg]

set_option maxHeartbeats 1000000 in
theorem with_room (f : Nat → Int) (n : Nat) (hn : n < 16) (x : Int) (w : World) :
    Calls Tryd.prog 38 #[.agg (pv f n), .int .i64 x] w fun e w' => e = .returned (.agg (pv (fun j => if j = n then x else f j) (n + 1 : Nat))) ∧ Below w.heap.size w w' := by
  obtain ⟨hz, hs⟩ := zero_of_info Tryd.infoPast
  have hd : decide ((n : Int) = 16) = false := by simp; omega
  obtain ⟨hA, hB, hbel⟩ := two_blocks w (.cells (pv f n) 63) (.cells (pv (fun _ => 0) 0) 63)
  go_enter Tryd.func38, Tryd.ntmps38
  go_upto_region 1 with fail
  generalize ((w.alloc (Obj.cells (pv f ↑n) 63)).alloc (Obj.cells (pv (fun x => 0) 0) 63)) = w1 at hA hB hbel ⊢
  have c16 := (heap_cell hA 16).trans (pv_last f n)
  have cn := (heap_cell hA n).trans (pv_get f n n hn)
  have fn := heap_frozen hA n
  go_upto_region 5 with fail
  have hA2 := heap_set hA n (.int .i64 x)
  rw [pv_set f n x n hn] at hA2
  have hB2 : (w1.setCell ⟨w.heap.size, n, none⟩ (.int .i64 x)).heap[w.heap.size + 1]? = _ := (heap_setCell_other w1 ⟨w.heap.size, n, none⟩ (w.heap.size + 1) (.int .i64 x) (by simp)).trans hB
  have hbel2 := Below.set hbel (a := ⟨w.heap.size, n, none⟩) (u := .int .i64 x) (Nat.le_refl _)
  clear hA hB hbel c16 cn fn hd
  generalize (w1.setCell ⟨w.heap.size, n, none⟩ (.int .i64 x)) = w2 at hA2 hB2 hbel2 ⊢
  have c16 := (heap_cell hA2 16).trans (pv_last _ n)
  have fn := heap_frozen hA2 16
  go_upto_region 6 with fail
  have hA3 := heap_set hA2 16 (.int .i64 ((n : Int) + 1))
  rw [pv_set16] at hA3
  have hB3 : (w2.setCell ⟨w.heap.size, 16, none⟩ (.int .i64 ((n : Int) + 1))).heap[w.heap.size + 1]? = _ := (heap_setCell_other w2 ⟨w.heap.size, 16, none⟩ (w.heap.size + 1) (.int .i64 ((n : Int) + 1)) (by simp)).trans hB2
  have hbel3 := Below.set hbel2 (a := ⟨w.heap.size, 16, none⟩) (u := .int .i64 ((n : Int) + 1)) (Nat.le_refl _)
  clear hA2 hB2 hbel2 c16 fn
  generalize (w2.setCell ⟨w.heap.size, 16, none⟩ (.int .i64 ((n : Int) + 1))) = w3 at hA3 hB3 hbel3 ⊢
  generalize hG : (fun j => if j = n then x else f j) = G at hA3 ⊢
  have hi : (Tryd.prog.info? 63).map (·.size) = some (pv G ((n : Int) + 1)).size := by rw [pv_size]; exact Tryd.sizePast
  have hr := row_setRow hB3 (pv G ((n : Int) + 1))
  have hbel4 := below_setRow (g := w.heap.size + 1) hbel3 (by omega) (pv G ((n : Int) + 1))
  have Hi : Hid (_ = _) := hi
  have Hr : Hid (_ = _) := hr
  have Hb : Hid (Below _ _ _) := hbel4
  have HA : Hid (_ = _) := hA3
  have HB : Hid (_ = _) := hB3
  have HG : Hid (_ = _) := hG
  clear hA3 hB3 hbel3 hbel4 hr hs hz hi hG
  go_wp2_with (first
    | refine wpList_load_row rfl 63 _ rfl _ rfl _ _ _ _ HA.out Tryd.underlying63 rfl Hi.out ?_
    | refine wpList_store_row rfl 63 _ _ rfl _ _ _ _ rfl rfl HB.out Hi.out (by rw [pv_size, pv_size]) (pv_one _ _) ?_)
  refine ⟨rfl, _, results_cell_row rfl _ _ (w.heap.size + 1) _ _ _ _ rfl Hr.out Tryd.underlying63 rfl Hi.out, ?_, Hb.out⟩
  rw [HG.out]
  simp

theorem copy16 (f : Nat → Int) (n : Int) : ((pv f n).toList.take 0 ++ ((row16 f).drop 1) ++ (pv f n).toList.drop (0 + ((row16 f).drop 1).length)).toArray = pv (fun j => if j = 15 then f 15 else f (j + 1)) n := by
  apply Array.ext_getElem?
  intro j
  simp only [List.take_zero, List.nil_append, List.getElem?_toArray, Nat.zero_add, List.length_drop, row16_length]
  by_cases hj : j < 15
  · rw [pv_get _ _ _ (by omega), List.getElem?_append_left (by simp [row16_length]; omega), List.getElem?_drop, row16_get _ _ (by omega), if_neg (by omega), Nat.add_comm]
  · rw [List.getElem?_append_right (by simp [row16_length]; omega), List.getElem?_drop]
    simp only [List.length_drop, row16_length]
    rw [show 16 - 1 + (j - (16 - 1)) = j by omega, Array.getElem?_toList]
    by_cases h5 : j = 15
    · subst h5; rw [pv_get _ _ _ (by omega), pv_get _ _ _ (by omega)]; simp
    · by_cases h6 : j = 16
      · subst h6; rw [pv_last, pv_last]
      · rw [Array.getElem?_eq_none (by rw [pv_size]; omega), Array.getElem?_eq_none (by rw [pv_size]; omega)]

theorem slice_all (k : Nat) (w : World) : (Instr.sliceAt 53 (.pointer (some ⟨k, 0, none⟩)) none none none).run Tryd.prog w = .ok (.slice (some ⟨k, 0, none⟩) 16 16) w := by kernel_rfl
theorem slice_one (k : Nat) (w : World) : (Instr.sliceAt 53 (.pointer (some ⟨k, 0, none⟩)) (some (.int .i64 1)) none none).run Tryd.prog w = .ok (.slice (some ⟨k, 1, none⟩) 15 15) w := by kernel_rfl

set_option maxHeartbeats 1000000 in
theorem with_full (f : Nat → Int) (x : Int) (w : World) :
    Calls Tryd.prog 38 #[.agg (pv f 16), .int .i64 x] w fun e w' => e = .returned (.agg (pv (fun j => if j = 15 then x else f (j + 1)) 16)) ∧ Below w.heap.size w w' := by
  obtain ⟨hz, hs⟩ := zero_of_info Tryd.infoPast
  obtain ⟨hA, hB, hbel⟩ := two_blocks w (.cells (pv f 16) 63) (.cells (pv (fun _ => 0) 0) 63)
  have sa := slice_all w.heap.size
  have so := slice_one w.heap.size
  go_enter Tryd.func38, Tryd.ntmps38
  go_upto_region 1 with fail
  generalize ((w.alloc (Obj.cells (pv f 16) 63)).alloc (Obj.cells (pv (fun x => 0) 0) 63)) = w1 at hA hB hbel ⊢
  have c16 := (heap_cell hA 16).trans (pv_last f 16)
  have hcp := fun wx (hx : wx.heap[w.heap.size]? = some (.cells (pv f 16) 63 (0, 0))) => run_copy_row (P := Tryd.prog) wx 29 29 3 3 w.heap.size 0 16 16 ⟨w.heap.size, 1, none⟩ 15 15 (pv f 16) 63 ((row16 f).drop 1) Tryd.underlying29 (by kernel_rfl) hx (by simp [row16_length]) (fun j v hv => by
      have hj : j < 15 := by have := (List.getElem?_eq_some_iff.1 hv).1; simpa [row16_length] using this
      rw [Addr.add_mid, heap_cell hx, pv_get _ _ _ (by omega), ← hv, List.getElem?_drop, row16_get _ _ (by omega)]) (by simp [row16_length, pv_size]) (fun v hv => row16_one f v (List.mem_of_mem_drop hv))
  rw [copy16] at hcp
  go_upto_region 2 with fail
  have hcp1 := hcp w1 hA
  have hcp2 := hcp w1.drew hA
  clear hcp
  go_region
  have hA' : w1.drew.heap[w.heap.size]? = some (.cells (pv f 16) 63 (0, 0)) := hA
  have hB' : w1.drew.heap[w.heap.size + 1]? = _ := hB
  have hbel' : Below w.heap.size w w1.drew := hbel.trans ⟨rfl, rfl, rfl, Nat.le_refl _, fun _ _ => rfl⟩
  have hA2 := row_setRow hA' (pv (fun j => if j = 15 then f 15 else f (j + 1)) 16)
  have hB2 := row_setRow_other hB' w.heap.size (pv (fun j => if j = 15 then f 15 else f (j + 1)) 16) (by omega)
  have hbel2 := below_setRow (g := w.heap.size) hbel' (Nat.le_refl _) (pv (fun j => if j = 15 then f 15 else f (j + 1)) 16)
  clear hA hB hbel hA' hB' hbel' hcp1 hcp2 sa so c16
  generalize (w1.drew.setRow w.heap.size (pv (fun j => if j = 15 then f 15 else f (j + 1)) 16)) = w2 at hA2 hB2 hbel2 ⊢
  have c16 := (heap_cell hA2 16).trans (pv_last _ 16)
  have f16 := heap_frozen hA2 16
  go_upto_region 4 with fail
  have hA3 := heap_set hA2 16 (.int .i64 15)
  rw [pv_set16] at hA3
  have hB3 : (w2.setCell ⟨w.heap.size, 16, none⟩ (.int .i64 15)).heap[w.heap.size + 1]? = _ := (heap_setCell_other w2 ⟨w.heap.size, 16, none⟩ (w.heap.size + 1) (.int .i64 15) (by simp)).trans hB2
  have hbel3 := Below.set hbel2 (a := ⟨w.heap.size, 16, none⟩) (u := .int .i64 15) (Nat.le_refl _)
  clear hA2 hB2 hbel2 c16 f16
  generalize (w2.setCell ⟨w.heap.size, 16, none⟩ (.int .i64 15)) = w3 at hA3 hB3 hbel3 ⊢
  have c16 := (heap_cell hA3 16).trans (pv_last _ 15)
  have c15 := (heap_cell hA3 15).trans (pv_get _ 15 15 (by omega))
  have f15 := heap_frozen hA3 15
  go_upto_region 5 with fail
  have hA4 := heap_set hA3 15 (.int .i64 x)
  rw [pv_set _ _ _ _ (by omega)] at hA4
  have hB4 : (w3.setCell ⟨w.heap.size, 15, none⟩ (.int .i64 x)).heap[w.heap.size + 1]? = _ := (heap_setCell_other w3 ⟨w.heap.size, 15, none⟩ (w.heap.size + 1) (.int .i64 x) (by simp)).trans hB3
  have hbel4 := Below.set hbel3 (a := ⟨w.heap.size, 15, none⟩) (u := .int .i64 x) (Nat.le_refl _)
  clear hA3 hB3 hbel3 c16 f15 c15
  generalize (w3.setCell ⟨w.heap.size, 15, none⟩ (.int .i64 x)) = w4 at hA4 hB4 hbel4 ⊢
  have hG : (fun j => if j = 15 then x else if j = 15 then f 15 else f (j + 1)) = (fun j => if j = 15 then x else f (j + 1)) := by
    funext j; split <;> simp_all
  rw [hG] at hA4
  clear hG
  generalize hG : (fun j => if j = 15 then x else f (j + 1)) = G at hA4 ⊢
  have c16 := (heap_cell hA4 16).trans (pv_last _ 15)
  have f16 := heap_frozen hA4 16
  go_upto_region 6 with fail
  have hA5 := heap_set hA4 16 (.int .i64 16)
  rw [pv_set16] at hA5
  have hB5 : (w4.setCell ⟨w.heap.size, 16, none⟩ (.int .i64 16)).heap[w.heap.size + 1]? = _ := (heap_setCell_other w4 ⟨w.heap.size, 16, none⟩ (w.heap.size + 1) (.int .i64 16) (by simp)).trans hB4
  have hbel5 := Below.set hbel4 (a := ⟨w.heap.size, 16, none⟩) (u := .int .i64 16) (Nat.le_refl _)
  clear hA4 hB4 hbel4 c16 f16
  generalize (w4.setCell ⟨w.heap.size, 16, none⟩ (.int .i64 16)) = w5 at hA5 hB5 hbel5 ⊢
  have hi : (Tryd.prog.info? 63).map (·.size) = some (pv G 16).size := by rw [pv_size]; exact Tryd.sizePast
  have hr := row_setRow hB5 (pv G 16)
  have hbel6 := below_setRow (g := w.heap.size + 1) hbel5 (by omega) (pv G 16)
  have Hi : Hid (_ = _) := hi
  have Hr : Hid (_ = _) := hr
  have Hb : Hid (Below _ _ _) := hbel6
  have HA : Hid (_ = _) := hA5
  have HB : Hid (_ = _) := hB5
  have HG : Hid (_ = _) := hG
  clear hA5 hB5 hbel5 hbel6 hr hs hz hi hG
  go_wp2_with (first
    | refine wpList_load_row rfl 63 _ rfl _ rfl _ _ _ _ HA.out Tryd.underlying63 rfl Hi.out ?_
    | refine wpList_store_row rfl 63 _ _ rfl _ _ _ _ rfl rfl HB.out Hi.out (by rw [pv_size, pv_size]) (pv_one _ _) ?_)
  refine ⟨rfl, _, results_cell_row rfl _ _ (w.heap.size + 1) _ _ _ _ rfl Hr.out Tryd.underlying63 rfl Hi.out, ?_, Hb.out⟩
  rw [HG.out]

theorem with_any (f : Nat → Int) (n : Nat) (hn : n ≤ 16) (x : Int) (w : World) :
    Calls Tryd.prog 38 #[.agg (pv f n), .int .i64 x] w fun e w' => e = .returned (.agg (pv (wf f n x) (wn n))) ∧ Below w.heap.size w w' := by
  by_cases h : n = 16
  · subst h
    simpa [wf, wn] using with_full f x w
  · simpa [wf, wn, h] using with_room f n (by omega) x w

end Go.Proofs.YtdcmpilgfkaamaaDoor
