/-
  last, list; a tenure in memory: Threshold, Old, History.
-/
import Derived.Test.YtdcmpilgfkaamaaDoorT2
import Derived.Laws.MakeOwn
set_option linter.unusedVariables false
set_option maxRecDepth 20000
namespace Go.Proofs.YtdcmpilgfkaamaaDoor
open Go.RowKit

set_option maxHeartbeats 1000000 in
theorem last_core (f : Nat → Int) (N : Int) (m : Nat) (hN : N - 1 = m) (hm : m < 16) (w : World) :
    Calls Tryd.prog 19 #[.agg (pv f N)] w fun e w' => e = .returned (.int .i64 (f m)) ∧ Below w.heap.size w w' := by
  have hA : (w.alloc (.cells (pv f N) 63)).heap[w.heap.size]? = _ := heap_alloc_new w (.cells (pv f N) 63)
  have hb := Below.alloc (Below.refl w.heap.size w) (Nat.le_refl _) (.cells (pv f N) 63)
  go_enter Tryd.func19, Tryd.ntmps19
  go_upto_region 1 with fail
  generalize (w.alloc (.cells (pv f N) 63)) = w1 at hA hb ⊢
  have c16 := (heap_cell hA 16).trans (pv_last f _)
  have cm := (heap_cell hA m).trans (pv_get f _ m (by omega))
  go_wp2
  go_ret
  exact ⟨rfl, hb⟩

theorem last_any (f : Nat → Int) (n : Nat) (h1 : 1 ≤ n) (hn : n ≤ 16) (w : World) :
    Calls Tryd.prog 19 #[.agg (pv f n)] w fun e w' => e = .returned (.int .i64 (f (n - 1))) ∧ Below w.heap.size w w' :=
  last_core f n (n - 1) (by omega) (by omega) w

/-- A list of numbers in a block of its own, no longer than it is. -/
def Lone (w : World) (k : Nat) (l : List Int) : Prop := w.heap[k]? = some (.cells (ints l).toArray 3 (0, 0))

theorem list_take (f : Nat → Int) (n : Nat) (hn : n ≤ 16) (cur : Array Value) (hc : cur.size = n) :
    (cur.toList.take 0 ++ ((row16 f).take n) ++ cur.toList.drop (0 + ((row16 f).take n).length)).toArray = (ints ((List.range n).map f)).toArray := by
  have hl : ((row16 f).take n).length = n := by simp [row16_length]; omega
  rw [hl, List.take_zero, List.nil_append, List.drop_eq_nil_of_le (by simp [hc]), List.append_nil]
  congr 1
  apply List.ext_getElem?
  intro j
  by_cases hj : j < n
  · rw [List.getElem?_take_of_lt hj, row16_get _ _ (by omega)]
    simp [ints, hj]
  · rw [List.getElem?_eq_none (by omega), List.getElem?_eq_none (by simp [ints]; omega)]

set_option maxHeartbeats 1000000 in
theorem list_any (f : Nat → Int) (n : Nat) (h1 : 1 ≤ n) (hn : n ≤ 16) (w : World) :
    Calls Tryd.prog 20 #[.agg (pv f n)] w fun e w' => ∃ k, e = .returned (.slice (some ⟨k, 0, none⟩) n n) ∧ w.heap.size ≤ k ∧ Lone w' k ((List.range n).map f) ∧ Below w.heap.size w w' := by
  have hA : (w.alloc (.cells (pv f n) 63)).heap[w.heap.size]? = _ := heap_alloc_new w (.cells (pv f n) 63)
  have hb := Below.alloc (Below.refl w.heap.size w) (Nat.le_refl _) (.cells (pv f n) 63)
  have hsz : (w.alloc (.cells (pv f n) 63)).heap.size = w.heap.size + 1 := by simp
  obtain ⟨i0, hi0, hz0, hz1, hz2⟩ := info_parts Tryd.infoInt
  have mk1 : ∀ w, (Instr.makeSlice 29 (.int .i64 (n : Int)) (.int .i64 (n : Int))).run Tryd.prog w = .ok (.slice (some ⟨w.heap.size, 0, none⟩) n n) (w.alloc (.cells (madeCells #[.int .i64 0] n) 3)) := fun w => by
    have := run_make (P := Tryd.prog) w 29 3 i0 _ Tryd.underlying29 hi0 hz0 .i64 .i64 (n : Int) (n : Int) (by omega) (Int.le_refl _) (by rw [hz2]; omega) (by omega)
    rw [hz1] at this
    simpa [Value.cells] using this
  clear hi0 hz0 hz1 hz2
  have sa := slice_all w.heap.size
  go_enter Tryd.func20, Tryd.ntmps20
  go_upto_region 1 with fail
  generalize (w.alloc (.cells (pv f n) 63)) = w1 at hA hb hsz ⊢
  have c16 := (heap_cell hA 16).trans (pv_last f _)
  have hB2 : (w1.alloc (.cells (madeCells #[.int .i64 0] n) 3)).heap[w1.heap.size]? = _ := heap_alloc_new w1 (.cells (madeCells #[.int .i64 0] n) 3)
  have hA2 : (w1.alloc (.cells (madeCells #[.int .i64 0] n) 3)).heap[w.heap.size]? = _ := (Below.heap_alloc w1 (.cells (madeCells #[.int .i64 0] n) 3) w.heap.size (by omega)).trans hA
  have hb2 := Below.alloc hb (by omega) (.cells (madeCells #[.int .i64 0] n) 3)
  rw [hsz] at hB2
  go_upto_region 2 with fail
  generalize (w1.alloc (.cells (madeCells #[.int .i64 0] n) 3)) = w2 at hA2 hB2 hb2 ⊢
  have hms : (madeCells #[Value.int .i64 0] n).size = n := size_madeCells _ _
  have hcp := run_copy_row (P := Tryd.prog) w2 29 29 3 3 (w.heap.size + 1) 0 n n ⟨w.heap.size, 0, none⟩ 16 16 _ 3 ((row16 f).take n) Tryd.underlying29 (by kernel_rfl) hB2 (by rw [List.length_take, row16_length]; exact Nat.min_comm _ _) (fun j v hv => by
      have hj : j < n := by have := (List.getElem?_eq_some_iff.1 hv).1; simp [row16_length] at this; omega
      rw [Addr.add_mid, heap_cell hA2, Nat.zero_add, pv_get _ _ _ (by omega), ← hv, List.getElem?_take_of_lt hj, row16_get _ _ (by omega)]) (by simp [row16_length, hms]; omega) (fun v hv => row16_one f v (List.mem_of_mem_take hv))
  rw [list_take f n hn _ hms] at hcp
  have hB3 := row_setRow hB2 (ints ((List.range n).map f)).toArray
  have hb3 := below_setRow (g := w.heap.size + 1) hb2 (by omega) (ints ((List.range n).map f)).toArray
  clear hA2 hB2 hb2 hA c16 mk1
  generalize hR : (ints ((List.range n).map f)).toArray = R at hcp hB3 hb3
  go_wp2
  go_ret
  exact ⟨_, rfl, by omega, by unfold Lone; rw [hR]; exact hB3, hb3⟩

/-- The cells of a tenure. -/
def tv (wa mo : Int) (f : Nat → Int) (n : Nat) : Array Value := #[.int .i64 wa, .int .i64 mo] ++ pv f n

/-- A tenure in block b. -/
structure Tn (w : World) (b : Nat) (wa : Int) (mo : Nat) (f : Nat → Int) (n : Nat) : Prop where
  at_ : w.heap[b]? = some (.cells (tv wa mo f n) 65 (0, 0))
  w0 : 0 ≤ wa
  w1 : wa ≤ 65536
  m0 : 1 ≤ mo
  m1 : mo ≤ 15
  n0 : 1 ≤ n
  n1 : n ≤ 16

theorem tv_size (wa mo : Int) (f : Nat → Int) (n : Nat) : (tv wa mo f n).size = 19 := by simp [tv, pv_size]
theorem tv_get0 (wa mo : Int) (f : Nat → Int) (n : Nat) : (tv wa mo f n)[0]? = some (.int .i64 wa) := by simp [tv, Array.getElem?_append]
theorem tv_get1 (wa mo : Int) (f : Nat → Int) (n : Nat) : (tv wa mo f n)[1]? = some (.int .i64 mo) := by simp [tv, Array.getElem?_append]
theorem tv_rest (wa mo : Int) (f : Nat → Int) (n : Nat) (j : Nat) : (tv wa mo f n)[2 + j]? = (pv f n)[j]? := by
  rw [tv, Array.getElem?_append_right (by simp)]
  simp

theorem Tn.range {w : World} {b : Nat} {wa : Int} {mo n : Nat} {f : Nat → Int} (H : Tn w b wa mo f n) : w.rangeAt b 2 (pv f n).toList := by
  intro j v hv
  rw [heap_cell H.at_, tv_rest, ← hv]
  simp

theorem Tn.c0 {w : World} {b : Nat} {wa : Int} {mo n : Nat} {f : Nat → Int} (H : Tn w b wa mo f n) : w.cell? ⟨b, 0, none⟩ = some (.int .i64 wa) := (heap_cell H.at_ 0).trans (tv_get0 _ _ _ _)
theorem Tn.c1 {w : World} {b : Nat} {wa : Int} {mo n : Nat} {f : Nat → Int} (H : Tn w b wa mo f n) : w.cell? ⟨b, 1, none⟩ = some (.int .i64 mo) := (heap_cell H.at_ 1).trans (tv_get1 _ _ _ _)

theorem Tn.touch {w w' : World} {b : Nat} {wa : Int} {mo n : Nat} {f : Nat → Int} {G : List Nat} (H : Tn w b wa mo f n) (ht : Touch G w w') (hb : b ∉ G) : Tn w' b wa mo f n :=
  ⟨(ht.block b (heap_lt H.at_) hb).trans H.at_, H.w0, H.w1, H.m0, H.m1, H.n0, H.n1⟩

theorem Tn.below {w w' : World} {b : Nat} {wa : Int} {mo n : Nat} {f : Nat → Int} (H : Tn w b wa mo f n) (ht : Below w.heap.size w w') : Tn w' b wa mo f n :=
  H.touch (Touch.of_below ht []) (by simp)

theorem size_pvl (f : Nat → Int) (n : Int) : (Tryd.prog.info? 63).map (·.size) = some (pv f n).toList.length := by rw [Array.length_toList, pv_size]; exact Tryd.sizePast

set_option maxHeartbeats 1000000 in
theorem threshold_any {w : World} {b : Nat} {wa : Int} {mo n : Nat} {f : Nat → Int} (H : Tn w b wa mo f n) :
    Calls Tryd.prog 5 #[.pointer (some ⟨b, 0, none⟩)] w fun e w' => e = .returned (.int .i64 (f (n - 1))) ∧ Below w.heap.size w w' := by
  have hl := last_any f n H.n0 H.n1 w
  have Hr : Hid (w.rangeAt b 2 (pv f n).toList) := H.range
  go_enter Tryd.func5, Tryd.ntmps5
  go_wp2_with (first
    | refine wpList_load_mid rfl 63 _ rfl b 2 rfl _ _ Hr.out Tryd.underlying63 rfl (size_pvl _ _) ?_)
  refine hl.mono ?_
  rintro e w' ⟨rfl, hb⟩
  go_wp2
  go_ret
  exact ⟨rfl, hb⟩

set_option maxHeartbeats 1000000 in
theorem history_any {w : World} {b : Nat} {wa : Int} {mo n : Nat} {f : Nat → Int} (H : Tn w b wa mo f n) :
    Calls Tryd.prog 9 #[.pointer (some ⟨b, 0, none⟩)] w fun e w' => ∃ k, e = .returned (.slice (some ⟨k, 0, none⟩) n n) ∧ w.heap.size ≤ k ∧ Lone w' k ((List.range n).map f) ∧ Below w.heap.size w w' := by
  have hl := list_any f n H.n0 H.n1 w
  have Hr : Hid (w.rangeAt b 2 (pv f n).toList) := H.range
  go_enter Tryd.func9, Tryd.ntmps9
  go_wp2_with (first
    | refine wpList_load_mid rfl 63 _ rfl b 2 rfl _ _ Hr.out Tryd.underlying63 rfl (size_pvl _ _) ?_)
  refine hl.mono ?_
  rintro e w' ⟨k, rfl, hb⟩
  go_wp2
  go_ret
  exact ⟨k, rfl, hb⟩

set_option maxHeartbeats 1000000 in
theorem old_any {w : World} {b : Nat} {wa : Int} {mo n : Nat} {f : Nat → Int} (H : Tn w b wa mo f n) (age : Int) :
    Calls Tryd.prog 6 #[.pointer (some ⟨b, 0, none⟩), .int .i64 age] w fun e w' => e = .returned (.bool (decide (f (n - 1) ≤ age))) ∧ Below w.heap.size w w' := by
  have hl := threshold_any H
  go_enter Tryd.func6, Tryd.ntmps6
  go_wp2_with fail
  refine hl.mono ?_
  rintro e w' ⟨rfl, hb⟩
  go_wp2
  go_ret
  refine ⟨?_, hb⟩
  simp

end Go.Proofs.YtdcmpilgfkaamaaDoor
