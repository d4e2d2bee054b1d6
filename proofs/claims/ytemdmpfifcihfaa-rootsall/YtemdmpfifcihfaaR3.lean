/-
  New.
-/
import Derived.Test.YtemdmpfifcihfaaR2
import Derived.Laws.MakeOwn
set_option linter.unusedVariables false
namespace Go.Proofs.Ytemdmpfifcihfaa
open Go.RowKit

theorem Try.infoThread : (Try.prog.info? 90).map (fun i => (i.zero, i.size, i.bytes)) = some (some (.agg #[.slice none 0 0, .slice none 0 0]), 2, 48) := by kernel_rfl
theorem Try.infoHandle : (Try.prog.info? 78).map (fun i => (i.zero, i.size, i.bytes)) = some (some (.agg #[.bool false, .int .i64 0]), 2, 16) := by kernel_rfl

/-- Roots, whatever blocks they lie in; F: their blocks. -/
def Rts (w : World) (base b N : Nat) (S : Sta) (F : List Nat) : Prop := ∃ g h q FQ vs, Rt w base b g h q N FQ vs S ∧ F = fp b g h FQ S.T vs

theorem Rts.mem {w : World} {base b N : Nat} {S : Sta} {F : List Nat} (H : Rts w base b N S F) : ∀ k, k ∈ F → base ≤ k ∧ k < w.heap.size := by
  obtain ⟨g, h, q, FQ, vs, H, rfl⟩ := H
  exact H.mem

theorem Rts.keep {w w' : World} {base b N : Nat} {S : Sta} {F G : List Nat} (H : Rts w base b N S F) (ht : Touch G w w') (ha : Apart F G) : Rts w' base b N S F := by
  obtain ⟨g, h, q, FQ, vs, H, rfl⟩ := H
  exact ⟨g, h, q, FQ, vs, H.touch ht ha, rfl⟩

theorem Rts.nil {w w' : World} {base b N : Nat} {S : Sta} {F : List Nat} (H : Rts w base b N S F) (ht : Touch [] w w') : Rts w' base b N S F := H.keep ht (fun k _ h => by cases h)

/-- What is made. -/
def sta0 (T most H : Nat) : Sta := ⟨T, most, fun _ => [], List.replicate H none, []⟩

theorem made_two (a b : Value) (n j : Nat) (hj : j < n * 2) : (madeCells #[a, b] (n * 2))[j]? = some (if j % 2 = 0 then a else b) := by
  have h : j % 2 = 0 ∨ j % 2 = 1 := by omega
  rcases h with h | h <;> simp [madeCells, hj, h]

theorem hcell_none (H j : Nat) : hcell (List.replicate H none) j = if j % 2 = 0 then .bool false else .int .i64 0 := by
  unfold hcell
  by_cases h : j / 2 < H
  · simp [h]
  · simp [h]

theorem heap3 (w : World) (o0 o1 o2 : Obj) : (((w.alloc o0).alloc o1).alloc o2).heap[w.heap.size]? = some o0 ∧ (((w.alloc o0).alloc o1).alloc o2).heap[w.heap.size + 1]? = some o1 ∧ (((w.alloc o0).alloc o1).alloc o2).heap[w.heap.size + 1 + 1]? = some o2 := by
  refine ⟨?_, ?_, ?_⟩
  · rw [Below.heap_alloc _ _ _ (by simp; omega), Below.heap_alloc _ _ _ (by simp)]; exact heap_alloc_new w _
  · rw [Below.heap_alloc _ _ _ (by simp)]
    have := heap_alloc_new (w.alloc o0) o1
    rwa [World.size_alloc] at this
  · have := heap_alloc_new ((w.alloc o0).alloc o1) o2
    rwa [World.size_alloc, World.size_alloc] at this

theorem touch3 {w w4 : World} (ht : Touch [] w w4) (o0 o1 o2 : Obj) : Touch [] w (((w4.alloc o0).alloc o1).alloc o2).drew := (((ht.trans (Touch.alloc _ _ _)).trans (Touch.alloc _ _ _)).trans (Touch.alloc _ _ _)).trans (Touch.drew _ _)

theorem que3 {w4 : World} {base q : Nat} (hq : Que w4 base q 0 0 [] [q]) (o0 o1 o2 : Obj) : Que (((w4.alloc o0).alloc o1).alloc o2).drew base q 0 0 [] [q] := hq.keep (touch3 (Touch.refl _ _) o0 o1 o2) (fun k _ h => by cases h)

/-- What lies there behind New. -/
theorem made_rt {w w' : World} {base b g h q T most H : Nat} (bb : base ≤ b) (bg : base ≤ g) (bh : base ≤ h) (hq : Que w' base q 0 0 [] [q])
    (ho : w'.heap[b]? = some (.cells #[.slice (some ⟨g, 0, none⟩) T T, .int .i64 most, .slice (some ⟨h, 0, none⟩) H H, .pointer (some ⟨q, 0, none⟩)] 71 (0, 0)))
    (hg : w'.heap[g]? = some (.cells (madeCells #[.slice none 0 0, .slice none 0 0] (T * 2)) 90 (0, 0))) (hh : w'.heap[h]? = some (.cells (madeCells #[.bool false, .int .i64 0] (H * 2)) 78 (0, 0))) :
    Rts w' base b 0 (sta0 T most H) [b, g, h, q] := by
  refine ⟨g, h, q, [q], fun _ => .slice none 0 0, ⟨bb, bg, bh, by simpa [sta0] using ho, ⟨_, hg, size_madeCells _ _, fun i hi => ?_⟩, ⟨_, hh, by simp [size_madeCells, sta0], fun i hi => ?_⟩, hq, fun i hi => World.ownsRow_nil _ _ _ _, ?_, ?_⟩, ?_⟩
  · simp only [sta0] at hi
    rw [made_two _ _ _ _ hi]; simp
  · simp only [sta0, List.length_replicate] at hi ⊢
    rw [made_two _ _ _ _ hi, hcell_none]
  · intro i j k _ _ e; simp [Value.ownBlock] at e
  · intro i k _ e; simp [Value.ownBlock] at e
  · have : (List.range (T * 2)).filterMap (fun _ => (Value.slice none 0 0).ownBlock) = [] := by simp [Value.ownBlock]
    simp [fp, sta0, Value.ownBlock]

set_option maxHeartbeats 2000000 in
theorem new_in (T most H : Nat) (hT : 1 ≤ T) (hT8 : T ≤ 8) (hm : 1 ≤ most) (hm2 : most ≤ 4096) (hH : H ≤ 1024) (w : World) :
    Calls Try.prog 8 #[.int .i64 T, .int .i64 most, .int .i64 H] w fun e w' => ∃ b F, e = .returned (.tuple #[.pointer (some ⟨b, 0, none⟩), .int .i64 0]) ∧ Rts w' w.heap.size b 0 (sta0 T most H) F ∧ Touch [] w w' := by
  have w1 := within_any (T : Int) 1 8 w
  have w2 := within_any (most : Int) 1 4096 w
  have w3 := within_any (H : Int) 0 1024 w
  rw [show decide ((1 : Int) ≤ (T : Int) ∧ (T : Int) ≤ 8) = true by simp; omega] at w1
  rw [show decide ((1 : Int) ≤ (most : Int) ∧ (most : Int) ≤ 4096) = true by simp; omega] at w2
  rw [show decide ((0 : Int) ≤ (H : Int) ∧ (H : Int) ≤ 1024) = true by simp; omega] at w3
  have hq := newintqueue_any 0 (by decide) w
  obtain ⟨i0, hi0, hz0, hz1, hz2⟩ := info_parts Try.infoThread
  obtain ⟨i1, hi1, hy0, hy1, hy2⟩ := info_parts Try.infoHandle
  have mk1 : ∀ w, (Instr.makeSlice 68 (.int .i64 (T : Int)) (.int .i64 (T : Int))).run Try.prog w = .ok (.slice (some ⟨w.heap.size, 0, none⟩) T T) (w.alloc (.cells (madeCells #[.slice none 0 0, .slice none 0 0] (T * 2)) 90)) := fun w => by
    have := run_make (P := Try.prog) w 68 90 i0 _ Try.underlying68 hi0 hz0 .i64 .i64 (T : Int) (T : Int) (by omega) (Int.le_refl _) (by rw [hz2]; omega) (by omega)
    rw [hz1] at this
    simpa [Value.cells] using this
  have mk2 : ∀ w, (Instr.makeSlice 69 (.int .i64 (H : Int)) (.int .i64 (H : Int))).run Try.prog w = .ok (.slice (some ⟨w.heap.size, 0, none⟩) H H) (w.alloc (.cells (madeCells #[.bool false, .int .i64 0] (H * 2)) 78)) := fun w => by
    have := run_make (P := Try.prog) w 69 78 i1 _ Try.underlying69 hi1 hy0 .i64 .i64 (H : Int) (H : Int) (by omega) (Int.le_refl _) (by rw [hy2]; omega) (by omega)
    rw [hy1] at this
    simpa [Value.cells] using this
  clear hi0 hz0 hz1 hz2 hi1 hy0 hy1 hy2
  go_enter Try.func8, Try.ntmps8
  go_wp2_with fail
  refine w1.mono ?_
  rintro e w' ⟨rfl, rfl⟩
  go_wp2_with fail
  refine w2.mono ?_
  rintro e w' ⟨rfl, rfl⟩
  go_wp2_with fail
  refine w3.mono ?_
  rintro e w' ⟨rfl, rfl⟩
  go_wp2_with fail
  refine hq.mono ?_
  rintro e w4 ⟨rfl, hQ, ht, hsz⟩
  have HQ : Hid (Que w4 w.heap.size w.heap.size 0 0 [] [w.heap.size]) := hQ
  have Hsz : Hid (w4.heap.size = w.heap.size + 1) := hsz
  have Ht : Hid (Touch [] w w4) := ht
  clear w1 w2 w3 hq hQ hsz ht
  go_wp2
  go_region
  · go_wp2
    go_ret2
    have hh := heap3 w4 (.cells (madeCells #[.slice none 0 0, .slice none 0 0] (T * 2)) 90) (.cells (madeCells #[.bool false, .int .i64 0] (H * 2)) 78) (.cells #[.slice (some ⟨w4.heap.size, 0, none⟩) T T, .int .i64 most, .slice (some ⟨w4.heap.size + 1, 0, none⟩) H H, .pointer (some ⟨w.heap.size, 0, none⟩)] 71)
    exact ⟨_, _, rfl, made_rt (w := w) (by have := Hsz.out; omega) (by have := Hsz.out; omega) (by have := Hsz.out; omega) (que3 HQ.out _ _ _) hh.2.2 hh.1 hh.2.1, touch3 Ht.out _ _ _⟩
  · go_wp2
    go_ret2
    have hh := heap3 w4 (.cells (madeCells #[.bool false, .int .i64 0] (H * 2)) 78) (.cells (madeCells #[.slice none 0 0, .slice none 0 0] (T * 2)) 90) (.cells #[.slice (some ⟨w4.heap.size + 1, 0, none⟩) T T, .int .i64 most, .slice (some ⟨w4.heap.size, 0, none⟩) H H, .pointer (some ⟨w.heap.size, 0, none⟩)] 71)
    exact ⟨_, _, rfl, made_rt (w := w) (by have := Hsz.out; omega) (by have := Hsz.out; omega) (by have := Hsz.out; omega) (que3 HQ.out _ _ _) hh.2.2 hh.2.1 hh.1, touch3 Ht.out _ _ _⟩

/-- Numbers that may be. -/
def Mays (a b c : Int) : Prop := 1 ≤ a ∧ a ≤ 8 ∧ 1 ≤ b ∧ b ≤ 4096 ∧ 0 ≤ c ∧ c ≤ 1024

set_option maxHeartbeats 1000000 in
theorem new_out (a b c : Int) (h : ¬ Mays a b c) (w : World) :
    Calls Try.prog 8 #[.int .i64 a, .int .i64 b, .int .i64 c] w fun e w' => e = .returned (.tuple #[.pointer none, .int .i64 50]) ∧ w = w' := by
  have w1 := within_any a 1 8 w
  have w2 := within_any b 1 4096 w
  have w3 := within_any c 0 1024 w
  by_cases h1 : 1 ≤ a ∧ a ≤ 8
  · rw [decide_eq_true h1] at w1
    by_cases h2 : 1 ≤ b ∧ b ≤ 4096
    · rw [decide_eq_true h2] at w2
      have h3 : ¬ (0 ≤ c ∧ c ≤ 1024) := fun h3 => h ⟨h1.1, h1.2, h2.1, h2.2, h3.1, h3.2⟩
      rw [decide_eq_false h3] at w3
      clear h h1 h2 h3
      go_enter Try.func8, Try.ntmps8
      go_wp2_with fail
      refine w1.mono ?_
      rintro e w' ⟨rfl, rfl⟩
      go_wp2_with fail
      refine w2.mono ?_
      rintro e w' ⟨rfl, rfl⟩
      go_wp2_with fail
      refine w3.mono ?_
      rintro e w' ⟨rfl, rfl⟩
      go_wp2
      go_ret2
      exact ⟨rfl, rfl⟩
    · rw [decide_eq_false h2] at w2
      clear h h1 h2 w3
      go_enter Try.func8, Try.ntmps8
      go_wp2_with fail
      refine w1.mono ?_
      rintro e w' ⟨rfl, rfl⟩
      go_wp2_with fail
      refine w2.mono ?_
      rintro e w' ⟨rfl, rfl⟩
      go_wp2
      go_ret2
      exact ⟨rfl, rfl⟩
  · rw [decide_eq_false h1] at w1
    clear h h1 w2 w3
    go_enter Try.func8, Try.ntmps8
    go_wp2_with fail
    refine w1.mono ?_
    rintro e w' ⟨rfl, rfl⟩
    go_wp2
    go_ret2
    exact ⟨rfl, rfl⟩

end Go.Proofs.Ytemdmpfifcihfaa
