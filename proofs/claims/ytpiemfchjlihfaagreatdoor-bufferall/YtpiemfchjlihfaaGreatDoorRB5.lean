/-
  The document's buffers: New.
-/
import Derived.Test.YtpiemfchjlihfaaGreatDoorRB3
set_option linter.unusedVariables false
set_option maxRecDepth 20000
namespace Go.Proofs.YtpiemfchjlihfaaGreatDoor
open Go.RowKit Go.Shelf

theorem rbs_made {w : World} {vb ga gr n : Nat} {s : Int} (h1 : w.heap[vb]? = some (.cells #[.int .i64 s, .slice (some ⟨ga, 0, none⟩) n n, .slice (some ⟨gr, 0, none⟩) n n] 77 (0, 0))) (h2 : w.heap[ga]? = some (.cells (madeCells #[.int .i64 0] n) 3 (0, 0))) (h3 : w.heap[gr]? = some (.cells (madeCells #[.int .i64 0] n) 3 (0, 0))) (hne : ga ≠ gr) (hn : 1 ≤ n ∧ n ≤ 8) (hs : 0 ≤ s ∧ s ≤ 65536) : Rbs w vb ga gr n s (fun _ => 0) (fun _ => 0) := by
  have key : ∀ q, w.heap[q]? = some (.cells (madeCells #[.int .i64 0] n) 3 (0, 0)) → w.rowIs q 3 n (fun _ => .int .i64 0) := fun q h => ⟨_, h, by simp [size_madeCells], fun i hi => by
    have hs : i < (madeCells #[Value.int .i64 0] n).size := by simp [size_madeCells]; exact hi
    rw [Array.getElem?_eq_getElem hs]
    simp [madeCells, Nat.mod_one]⟩
  exact ⟨h1, key ga h2, key gr h3, hne, hn, hs⟩

theorem three_new (w : World) (o bx : Obj) : (((w.alloc o).alloc o).alloc bx).heap[w.heap.size]? = some o ∧ (((w.alloc o).alloc o).alloc bx).heap[w.heap.size + 1]? = some o ∧ (((w.alloc o).alloc o).alloc bx).heap[w.heap.size + 1 + 1]? = some bx ∧ Below w.heap.size w (((w.alloc o).alloc o).alloc bx) := by
  have e1 : (w.alloc o).heap.size = w.heap.size + 1 := by simp
  have e2 : ((w.alloc o).alloc o).heap.size = w.heap.size + 1 + 1 := by simp
  refine ⟨?_, ?_, ?_, (((Below.refl _ w).alloc (Nat.le_refl _) _).alloc (by simp) _).alloc (by simp; omega) _⟩
  · rw [Below.heap_alloc _ _ _ (by omega), Below.heap_alloc _ _ _ (by omega)]
    exact heap_alloc_new w o
  · rw [Below.heap_alloc _ _ _ (by omega), ← e1]
    exact heap_alloc_new _ o
  · rw [← e2]
    exact heap_alloc_new _ bx

set_option maxHeartbeats 4000000 in
theorem r13new_yes (n : Nat) (s : Int) (hn : 1 ≤ n ∧ n ≤ 8) (hs : 0 ≤ s ∧ s ≤ 65536) (w : World) :
    Calls Tryz.prog 8 #[.int .i64 n, .int .i64 s] w fun e w' => ∃ vb ga gr, e = .returned (.tuple #[.pointer (some ⟨vb, 0, none⟩), .int .i64 0]) ∧ Rbs w' vb ga gr n s (fun _ => 0) (fun _ => 0) ∧ Below w.heap.size w w' ∧ (w.heap.size ≤ vb ∧ w.heap.size ≤ ga ∧ w.heap.size ≤ gr) := by
  have H : Hid ((1 ≤ n ∧ n ≤ 8) ∧ (0 ≤ s ∧ s ≤ 65536)) := ⟨hn, hs⟩
  have g1 : ¬ (n : Int) < 1 := by omega
  have g2 : ¬ (8 : Int) < (n : Int) := by omega
  have g3 : ¬ s < 0 := by omega
  have g4 : ¬ (65536 : Int) < s := by omega
  obtain ⟨i0, hi0, hz0, hz1, hz2⟩ : ∃ i0 : TypeInfo, Tryz.prog.info? 3 = some i0 ∧ i0.zero = some (.int .i64 0) ∧ i0.size = 1 ∧ i0.bytes = 8 := ⟨_, rfl, rfl, rfl, rfl⟩
  have hmk : ∀ w, (Instr.makeSlice 40 (.int .i64 n) (.int .i64 n)).run Tryz.prog w = .ok (.slice (some ⟨w.heap.size, 0, none⟩) n n) (w.alloc (.cells (madeCells #[.int .i64 0] n) 3)) := fun w => by
    have := run_make (P := Tryz.prog) w 40 3 i0 (.int .i64 0) Tryz.underlying40 hi0 hz0 .i64 .i64 n n (by omega) (Int.le_refl _) (by rw [hz2]; omega) (by omega)
    rw [hz1, Nat.mul_one] at this
    simpa [Value.cells] using this
  clear hi0 hz0 hz1 hz2
  go_enter Tryz.func8, Tryz.ntmps8
  go_upto_region 3 with fail
  clear g1 g2 g3 g4
  go_region
  all_goals
    go_wp2
    go_ret2
  · obtain ⟨t1, t2, t3, t4⟩ := three_new w (.cells (madeCells #[.int .i64 0] n) 3) (.cells #[.int .i64 s, .slice (some ⟨w.heap.size, 0, none⟩) n n, .slice (some ⟨w.heap.size + 1, 0, none⟩) n n] 77)
    exact ⟨_, _, _, rfl, (rbs_made t3 t1 t2 (by omega) H.out.1 H.out.2).below (below_drewN (Below.refl _ _) 1), below_drewN t4 1, by omega, by omega, by omega⟩
  · obtain ⟨t1, t2, t3, t4⟩ := three_new w (.cells (madeCells #[.int .i64 0] n) 3) (.cells #[.int .i64 s, .slice (some ⟨w.heap.size + 1, 0, none⟩) n n, .slice (some ⟨w.heap.size, 0, none⟩) n n] 77)
    exact ⟨_, _, _, rfl, (rbs_made t3 t2 t1 (by omega) H.out.1 H.out.2).below (below_drewN (Below.refl _ _) 1), below_drewN t4 1, by omega, by omega, by omega⟩

end Go.Proofs.YtpiemfchjlihfaaGreatDoor
