/-
  Shortest paths: slices.Sorted of slices.Values of a list.
-/
import Derived.Test.YtckgcpoheodbcaaGreatDoorPLt
import Derived.Test.YtckgcpoheodbcaaGreatDoorLPT
import Derived.Test.YtckgcpoheodbcaaGreatDoorPLr
import Derived.Shelf.SlIterI.Nil
import Derived.CallsIn
set_option linter.unusedVariables false
set_option maxRecDepth 20000
namespace Go.Proofs.YtckgcpoheodbcaaGreatDoor
open Go.RowKit Go.Shelf Go.Lib Go.Sort Go.Proofs.YtckgcpoheodbcaaGreatDoor.Lp

attribute [local go_sem] Oper.semAt_some

set_option maxHeartbeats 2000000 in
theorem valuesN_full (Bs n0 : Nat) (a : Option Addr) (cap : Nat) (w : World) (hBs : Bs < w.heap.size) (hc : w.cell? ⟨Bs, 0, none⟩ = some (.slice a 0 cap)) :
    Kg.SeqFull Tryz.prog 70 #[.pointer (some ⟨Bs, 0, none⟩)] (fun x : Int => #[Value.int .i64 x]) [] n0 (fun _ => False) w := fun n l J W S0 hW _ hJ hY h0 => by
  have hc' := (hW.cell (p := ⟨Bs, 0, none⟩) hBs).trans hc
  refine callsIn_of_wp Tryz.func70 rfl trivial ?_ rfl
  simp only [Tryz.ntmps70, List.size_toArray, List.length_cons, List.length_nil, Nat.reduceAdd, Nat.reduceSub, Array.replicate_succ, Array.replicate_zero, List.push_toArray, List.append_toArray, List.nil_append, List.cons_append]
  gi_wp2
  gi_loopw [7] (fun i wr => i = .int .i64 0 ∧ J S0 [] wr) (fun _ _ => 0)
  case atStart => exact ⟨rfl, h0⟩
  case round =>
    obtain ⟨rfl, hJs⟩ := hrel
    gi_wp2
    go_end0
    exact ⟨⟨_, rfl⟩, _, hJs⟩

/-- What is read, for slices.Values. -/
theorem seq_of {n0 : Nat} {w : World} {v : Value} {zs : List Int} (hl : Lrd n0 w v .i64 zs) (hn : n0 ≤ w.heap.size) (hlen : zs.length ≤ 1000000000) :
    Kg.SeqFull Tryz.prog 70 #[.pointer (some ⟨w.heap.size, 0, none⟩)] (fun x : Int => #[Value.int .i64 x]) zs (w.alloc (.cells #[v] 24)).heap.size (fun _ => False) (w.alloc (.cells #[v] 24)) := by
  have hb : Below n0 w (w.alloc (.cells #[v] 24)) := Below.alloc (Below.refl _ _) hn _
  have hc : (w.alloc (.cells #[v] 24)).cell? ⟨w.heap.size, 0, none⟩ = some v := cell_of_row _ _ 0 _ _ _ (heap_alloc_new w (.cells #[v] 24 (0, 0)))
  obtain ⟨a, cap, rfl, -, h3⟩ := hl.below hb
  cases zs with
  | nil => exact valuesN_full _ _ _ _ _ (by simp) hc
  | cons z r =>
    refine Kg.valuesI_full _ _ _ _ _ (by simp) (Nat.le_refl _) (by omega) hc (.inr ?_)
    obtain ⟨q, off, rfl, hq, -⟩ := h3 0 z rfl
    refine ⟨q, off, cap, rfl, by simp; omega, fun j x hj => ?_⟩
    obtain ⟨q', off', e, -, h6⟩ := h3 j x hj
    simp only [Option.some.injEq, Addr.mk.injEq, and_true] at e
    obtain ⟨rfl, rfl⟩ := e
    exact h6

set_option maxHeartbeats 2000000 in
theorem sortedV_any (n0 : Nat) (v : Value) (zs : List Int) (w : World) (hl : Lrd n0 w v .i64 zs) (hn : n0 ≤ w.heap.size) (hlen : zs.length ≤ 1000000000) :
    Calls Tryz.prog 42 #[.func (.func 70) #[] #[.pointer (some ⟨w.heap.size, 0, none⟩)]] (w.alloc (.cells #[v] 24)) fun e w' => ∃ v', e = .returned v' ∧ Il w' (w.heap.size + 1) v' (zs.mergeSort (fun x y => decide (x ≤ y))) ∧ Below (w.heap.size + 1) (w.alloc (.cells #[v] 24)) w' := by
  have hcol := Kg.collect_any 70 #[.pointer (some ⟨w.heap.size, 0, none⟩)] zs (fun _ => False) (w.alloc (.cells #[v] 24)) (enters_of Tryz.func70 (by kernel_rfl) rfl) (seq_of hl hn hlen) (fun k h => h.elim) (by omega)
  have hs : (w.alloc (.cells #[v] 24)).heap.size = w.heap.size + 1 := by simp
  generalize w.alloc (.cells #[v] 24) = w1 at *
  rw [hs] at hcol
  have HS : Hid (w1.heap.size = w.heap.size + 1) := hs
  clear hl hs
  go_enter Tryz.func42, Tryz.ntmps42
  go_wp2_with fail
  refine hcol.mono ?_
  rintro e W1 ⟨vc, rfl, ho, hb⟩
  clear hcol
  rcases ho.2 with ⟨rfl, hz⟩ | ⟨gb, cap, cur, rfl, hbase, hgb, r1, r2, r3, r4⟩
  · obtain rfl : zs = [] := List.eq_nil_of_length_eq_zero hz
    have q := AnyM.slices_Sort_int_none Tryz.sortA none 0 W1
    have HO : Hid (W1.ownsRow (w.heap.size + 1) 3 1 (.slice none 0 0) 0 []) := World.ownsRow_nil _ _ _ _
    have HB : Hid (Below (w.heap.size + 1) w1 W1) := hb
    clear ho hb
    go_wp2_with fail
    refine q.mono ?_
    rintro e w' ⟨rfl, rfl⟩
    go_wp2
    go_ret
    refine ⟨_, rfl, ?_, HB.out⟩
    show World.ownsRow _ _ _ _ _ (List.mergeSort [] _).length (Kg.ints (List.mergeSort [] _))
    rw [List.mergeSort_nil]
    exact HO.out
  · have hH : Holds (Value.int .i64) W1 gb 0 zs.toArray := holds_of_block_i hgb (by simpa using r4)
    have q := AnyM.slices_Sort_int Tryz.sortA gb 0 cap zs W1 hH (Array.getElem?_eq_some_iff.1 hgb).1 (by omega)
    have HO : Hid (∀ n os, (grow (putRow (Value.int .i64) (Sort.ahead W1 n) gb 0 (zs.mergeSort fun x y => decide (x ≤ y)).toArray) os).ownsRow (w.heap.size + 1) 3 1 (.slice (some ⟨gb, 0, none⟩) zs.length cap) zs.length ((zs.mergeSort (fun x y => decide (x ≤ y))).map (Value.int .i64))) := fun n os => ownsRow_sorted_i (by simp) hbase hgb r1 r2 r3
    have HB : Hid (∀ n os, Below (w.heap.size + 1) w1 (grow (putRow (Value.int .i64) (Sort.ahead W1 n) gb 0 (zs.mergeSort fun x y => decide (x ≤ y)).toArray) os)) := fun n os => hb.grown (grownBy_sorted_i _) (by rw [← HS.out]; exact hb.size) (fun j hj => by cases hj; exact hbase)
    clear ho hb hH hbase hgb r1 r2 r3 r4
    go_wp2_with fail
    refine q.mono ?_
    rintro e w' ⟨rfl, nn, os, rfl⟩
    go_wp2
    go_ret
    refine ⟨_, rfl, ?_, HB.out nn os⟩
    show World.ownsRow _ _ _ _ _ (zs.mergeSort _).length _
    rw [List.length_mergeSort]
    exact HO.out nn os

end Go.Proofs.YtckgcpoheodbcaaGreatDoor
