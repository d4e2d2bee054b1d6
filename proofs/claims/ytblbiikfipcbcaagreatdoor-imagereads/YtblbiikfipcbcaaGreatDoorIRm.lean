/-
  Images, the reader: Read's deferred closure.
-/
import Derived.Test.YtblbiikfipcbcaaGreatDoorPRk
set_option linter.unusedVariables false
set_option maxRecDepth 20000
namespace Go.Proofs.YtblbiikfipcbcaaGreatDoor
open Go.RowKit Go.Shelf

set_option maxHeartbeats 4000000 in
theorem read1_idle (P E : Nat) (w : World) : CallsD Tryz.prog 19 #[.pointer (some ⟨P, 0, none⟩), .pointer (some ⟨E, 0, none⟩)] .returning w fun e u' w' => e = .returned (.tuple #[]) ∧ u' = .returning ∧ Below w.heap.size w w' := by
  refine callsD_of_wpS Tryz.func19 rfl fun c₀ cs hu => ?_
  apply wpS_seq
  apply wpS_region
  simp [wpOpsS, go_sem, recoverD, hu, Tryz.ntmps19, Exit.thenS]
  refine (caught_nil w).mono ?_
  rintro e w1 ⟨rfl, b1⟩
  have b2 := Below.alloc b1 b1.size (.cells #[.int .i64 0, .int .i64 0] 67)
  have hB := heap_alloc_new w1 (.cells #[.int .i64 0, .int .i64 0] 67 (0, 0))
  simp [go_sem]
  refine wpS_of_wp ?_
  generalize w1.alloc (.cells #[.int .i64 0, .int .i64 0] 67) = W at *
  have c1 := (Kg.heap_cell hB 1).trans (show _ = some (.int .i64 0) from rfl)
  go_wp2
  cases c₀
  simp_all [bodyPostS, results, Tryz.results19]

set_option maxHeartbeats 4000000 in
theorem read1_thrown (P E : Nat) (pl why : Int) (hy : ¬ why = 0) (w : World) (hP : w.heap[P]? = some (.cells #[.int .i64 0] 3 (0, 0))) (hE : w.heap[E]? = some (.cells #[.int .i64 0] 42 (0, 0))) (hne : P ≠ E) : CallsD Tryz.prog 19 #[.pointer (some ⟨P, 0, none⟩), .pointer (some ⟨E, 0, none⟩)] (.panicking (thrown pl why)) w fun e u' w' => e = .returned (.tuple #[]) ∧ u' = .panicking [{ v := .iface 67 (.agg #[.int .i64 pl, .int .i64 why]), recovered := true }] ∧ Kg.Touch [P, E] w w' ∧ w'.heap[P]? = some (.cells #[.int .i64 pl] 3 (0, 0)) ∧ w'.heap[E]? = some (.cells #[.int .i64 why] 42 (0, 0)) := by
  refine callsD_of_wpS Tryz.func19 rfl fun c₀ cs hu => ?_
  unfold thrown at hu
  apply wpS_seq
  apply wpS_region
  simp [wpOpsS, go_sem, recoverD, hu, Tryz.ntmps19, Exit.thenS]
  refine (caught_fault pl why w).mono ?_
  rintro e w1 ⟨rfl, b1⟩
  have b2 := Below.alloc b1 b1.size (.cells #[.int .i64 pl, .int .i64 why] 67)
  have hB := heap_alloc_new w1 (.cells #[.int .i64 pl, .int .i64 why] 67 (0, 0))
  simp [go_sem]
  refine wpS_of_wp ?_
  generalize w1.alloc (.cells #[.int .i64 pl, .int .i64 why] 67) = W at *
  have c1 := (Kg.heap_cell hB 1).trans (show _ = some (.int .i64 why) from rfl)
  have c0 := (Kg.heap_cell hB 0).trans (show _ = some (.int .i64 pl) from rfl)
  have hP1 := (b2.block P (Kg.heap_lt hP)).trans hP
  have hE1 := (b2.block E (Kg.heap_lt hE)).trans hE
  have cP := (Kg.heap_cell hP1 0).trans (show _ = some (.int .i64 0) from rfl)
  have cE := (Kg.heap_cell hE1 0).trans (show _ = some (.int .i64 0) from rfl)
  have fP := Kg.heap_frozen hP1 0
  have fE := Kg.heap_frozen hE1 0
  have hF : w1.heap.size < W.heap.size := Kg.heap_lt hB
  have hPl := Kg.heap_lt hP
  have hEl := Kg.heap_lt hE
  have hs1 := b1.size
  have hB2 : (W.setCell ⟨P, 0, none⟩ (.int .i64 pl)).heap[w1.heap.size]? = _ := (Kg.Touch.block (Kg.Touch.setCell (F := [P]) _ _ _ (by simp)) _ hF (by simp; omega)).trans hB
  have hE2 : (W.setCell ⟨P, 0, none⟩ (.int .i64 pl)).heap[E]? = _ := (Kg.Touch.block (Kg.Touch.setCell (F := [P]) _ _ _ (by simp)) _ (Kg.heap_lt hE1) (by simp; exact Ne.symm hne)).trans hE1
  have d0 := (Kg.heap_cell hB2 0).trans (show _ = some (.int .i64 pl) from rfl)
  have d1 := (Kg.heap_cell hB2 1).trans (show _ = some (.int .i64 why) from rfl)
  have dE := (Kg.heap_cell hE2 0).trans (show _ = some (.int .i64 0) from rfl)
  have gE := Kg.heap_frozen hE2 0
  have hyb : (why != 0) = true := by simpa using hy
  have hP3 := Kg.heap_set hP1 0 (.int .i64 pl)
  have hE3 := Kg.heap_set hE2 0 (.int .i64 why)
  have hP4 := (Kg.Touch.block (Kg.Touch.setCell (F := [E]) (W.setCell ⟨P, 0, none⟩ (.int .i64 pl)) ⟨E, 0, none⟩ (.int .i64 why) (by simp)) P (Kg.heap_lt hP3) (by simp; exact hne)).trans hP3
  have tt : Kg.Touch [P, E] w ((W.setCell ⟨P, 0, none⟩ (.int .i64 pl)).setCell ⟨E, 0, none⟩ (.int .i64 why)) := ((Kg.Touch.of_below b2 _).trans (Kg.Touch.setCell _ _ _ (by simp))).trans (Kg.Touch.setCell _ _ _ (by simp))
  have FIN : Hid (Kg.Touch [P, E] w (((W.setCell ⟨P, 0, none⟩ (.int .i64 pl)).setCell ⟨E, 0, none⟩ (.int .i64 why)).drew) ∧ (((W.setCell ⟨P, 0, none⟩ (.int .i64 pl)).setCell ⟨E, 0, none⟩ (.int .i64 why)).drew).heap[P]? = some (.cells #[.int .i64 pl] 3 (0, 0)) ∧ (((W.setCell ⟨P, 0, none⟩ (.int .i64 pl)).setCell ⟨E, 0, none⟩ (.int .i64 why)).drew).heap[E]? = some (.cells #[.int .i64 why] 42 (0, 0))) := ⟨⟨tt.os, tt.tape, tt.output, tt.size, tt.block⟩, hP4, hE3⟩
  clear hP3 hE3 hP4 tt hB2 hE2 hP1 hE1 hB
  go_upto_region 2 with fail
  go_region
  all_goals exact ⟨rfl, _, rfl, _, by simp [results, Tryz.results19], rfl, rfl, FIN.out⟩

end Go.Proofs.YtblbiikfipcbcaaGreatDoor
