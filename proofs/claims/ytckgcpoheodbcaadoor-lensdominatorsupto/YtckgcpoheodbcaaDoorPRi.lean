import Derived.Test.YtckgcpoheodbcaaDoorPRh
/-
  Images: a room's marks are held. (Printed by mkRM12.py.)
-/
set_option linter.unusedVariables false
set_option maxRecDepth 20000
namespace Go.Proofs.YtckgcpoheodbcaaDoor
open Go.RowKit Go.Shelf


set_option maxHeartbeats 8000000 in
theorem roomHJ_rg {w : World} {R : Nat} {N : Nat → Nat} {S : RS} (H : Rg w R N S) :
    Calls Tryd.prog 27 #[.pointer (some ⟨R, 0, none⟩)] w fun e w' => e = .returned (.bool true) ∧ Below w.heap.size w w' := by
  have x0 : (w.alloc (.cells #[.int .u64 0, .int .i64 (-7701), .int .i64 0, .slice none 0 0, .slice none 0 0, .int .u64 0, .int .i64 (-7702), .int .i64 0, .slice none 0 0, .slice none 0 0] 62)).cell? ⟨w.heap.size, 0, none⟩ = some (.int .u64 0) := cell_of_row _ _ 0 _ _ _ (heap_alloc_new w _)
  have x1 : (w.alloc (.cells #[.int .u64 0, .int .i64 (-7701), .int .i64 0, .slice none 0 0, .slice none 0 0, .int .u64 0, .int .i64 (-7702), .int .i64 0, .slice none 0 0, .slice none 0 0] 62)).cell? ⟨w.heap.size, 1, none⟩ = some (.int .i64 (-7701)) := cell_of_row _ _ 1 _ _ _ (heap_alloc_new w _)
  have x2 : (w.alloc (.cells #[.int .u64 0, .int .i64 (-7701), .int .i64 0, .slice none 0 0, .slice none 0 0, .int .u64 0, .int .i64 (-7702), .int .i64 0, .slice none 0 0, .slice none 0 0] 62)).cell? ⟨w.heap.size, 2, none⟩ = some (.int .i64 0) := cell_of_row _ _ 2 _ _ _ (heap_alloc_new w _)
  have x3 : (w.alloc (.cells #[.int .u64 0, .int .i64 (-7701), .int .i64 0, .slice none 0 0, .slice none 0 0, .int .u64 0, .int .i64 (-7702), .int .i64 0, .slice none 0 0, .slice none 0 0] 62)).cell? ⟨w.heap.size, 3, none⟩ = some (.slice none 0 0) := cell_of_row _ _ 3 _ _ _ (heap_alloc_new w _)
  have x4 : (w.alloc (.cells #[.int .u64 0, .int .i64 (-7701), .int .i64 0, .slice none 0 0, .slice none 0 0, .int .u64 0, .int .i64 (-7702), .int .i64 0, .slice none 0 0, .slice none 0 0] 62)).cell? ⟨w.heap.size, 4, none⟩ = some (.slice none 0 0) := cell_of_row _ _ 4 _ _ _ (heap_alloc_new w _)
  have x5 : (w.alloc (.cells #[.int .u64 0, .int .i64 (-7701), .int .i64 0, .slice none 0 0, .slice none 0 0, .int .u64 0, .int .i64 (-7702), .int .i64 0, .slice none 0 0, .slice none 0 0] 62)).cell? ⟨w.heap.size, 5, none⟩ = some (.int .u64 0) := cell_of_row _ _ 5 _ _ _ (heap_alloc_new w _)
  have x6 : (w.alloc (.cells #[.int .u64 0, .int .i64 (-7701), .int .i64 0, .slice none 0 0, .slice none 0 0, .int .u64 0, .int .i64 (-7702), .int .i64 0, .slice none 0 0, .slice none 0 0] 62)).cell? ⟨w.heap.size, 6, none⟩ = some (.int .i64 (-7702)) := cell_of_row _ _ 6 _ _ _ (heap_alloc_new w _)
  have x7 : (w.alloc (.cells #[.int .u64 0, .int .i64 (-7701), .int .i64 0, .slice none 0 0, .slice none 0 0, .int .u64 0, .int .i64 (-7702), .int .i64 0, .slice none 0 0, .slice none 0 0] 62)).cell? ⟨w.heap.size, 7, none⟩ = some (.int .i64 0) := cell_of_row _ _ 7 _ _ _ (heap_alloc_new w _)
  have x8 : (w.alloc (.cells #[.int .u64 0, .int .i64 (-7701), .int .i64 0, .slice none 0 0, .slice none 0 0, .int .u64 0, .int .i64 (-7702), .int .i64 0, .slice none 0 0, .slice none 0 0] 62)).cell? ⟨w.heap.size, 8, none⟩ = some (.slice none 0 0) := cell_of_row _ _ 8 _ _ _ (heap_alloc_new w _)
  have x9 : (w.alloc (.cells #[.int .u64 0, .int .i64 (-7701), .int .i64 0, .slice none 0 0, .slice none 0 0, .int .u64 0, .int .i64 (-7702), .int .i64 0, .slice none 0 0, .slice none 0 0] 62)).cell? ⟨w.heap.size, 9, none⟩ = some (.slice none 0 0) := cell_of_row _ _ 9 _ _ _ (heap_alloc_new w _)
  have b1 : Below w.heap.size w (w.alloc (.cells #[.int .u64 0, .int .i64 (-7701), .int .i64 0, .slice none 0 0, .slice none 0 0, .int .u64 0, .int .i64 (-7702), .int .i64 0, .slice none 0 0, .slice none 0 0] 62)) := Below.alloc (Below.refl _ _) (Nat.le_refl _) _
  have H1 := H.keep (Keeps.below b1)
  have hel : S.E7.length ≤ 1000000000 := Nat.le_trans (by unfold RS.tot; omega) H.t
  have k1 : (w.alloc (.cells #[.int .u64 0, .int .i64 (-7701), .int .i64 0, .slice none 0 0, .slice none 0 0, .int .u64 0, .int .i64 (-7702), .int .i64 0, .slice none 0 0, .slice none 0 0] 62)).cell? ⟨R, 7, none⟩ = some S.v7 := H1.c 7 (by omega)
  have Hb1 : Hid (Below w.heap.size w (w.alloc (.cells #[.int .u64 0, .int .i64 (-7701), .int .i64 0, .slice none 0 0, .slice none 0 0, .int .u64 0, .int .i64 (-7702), .int .i64 0, .slice none 0 0, .slice none 0 0] 62))) := b1
  have HR1 : Hid (Rg (w.alloc (.cells #[.int .u64 0, .int .i64 (-7701), .int .i64 0, .slice none 0 0, .slice none 0 0, .int .u64 0, .int .i64 (-7702), .int .i64 0, .slice none 0 0, .slice none 0 0] 62)) R N S) := H1
  obtain ⟨a, cap, ev, -⟩ := H1.w7
  rw [ev] at k1
  have Hev : Hid (S.v7 = .slice a S.E7.length cap) := ev
  clear H b1 H1 ev
  go_enter Tryd.func27, Tryd.ntmps27
  go_upto_region 2 with fail
  generalize w.alloc (.cells #[.int .u64 0, .int .i64 (-7701), .int .i64 0, .slice none 0 0, .slice none 0 0, .int .u64 0, .int .i64 (-7702), .int .i64 0, .slice none 0 0, .slice none 0 0] 62) = w1 at *
  have HM : Hid (∀ w', Below w1.heap.size w1 w' → (w'.cell? ⟨R, 7, none⟩ = some (.slice a S.E7.length cap) ∧ w'.cell? ⟨w.heap.size, 0, none⟩ = some (.int .u64 0) ∧ w'.cell? ⟨w.heap.size, 1, none⟩ = some (.int .i64 (-7701)) ∧ w'.cell? ⟨w.heap.size, 2, none⟩ = some (.int .i64 0) ∧ w'.cell? ⟨w.heap.size, 3, none⟩ = some (.slice none 0 0) ∧ w'.cell? ⟨w.heap.size, 4, none⟩ = some (.slice none 0 0) ∧ w'.cell? ⟨w.heap.size, 5, none⟩ = some (.int .u64 0) ∧ w'.cell? ⟨w.heap.size, 6, none⟩ = some (.int .i64 (-7702)) ∧ w'.cell? ⟨w.heap.size, 7, none⟩ = some (.int .i64 0) ∧ w'.cell? ⟨w.heap.size, 8, none⟩ = some (.slice none 0 0) ∧ w'.cell? ⟨w.heap.size, 9, none⟩ = some (.slice none 0 0)) ∧ Rg w' R N S) := fun w' b' => ⟨⟨(b'.cell (p := ⟨R, 7, none⟩) HR1.out.l).trans k1, (b'.cell (p := ⟨w.heap.size, 0, none⟩) (World.block_lt_of_cell? _ _ x0)).trans x0, (b'.cell (p := ⟨w.heap.size, 1, none⟩) (World.block_lt_of_cell? _ _ x1)).trans x1, (b'.cell (p := ⟨w.heap.size, 2, none⟩) (World.block_lt_of_cell? _ _ x2)).trans x2, (b'.cell (p := ⟨w.heap.size, 3, none⟩) (World.block_lt_of_cell? _ _ x3)).trans x3, (b'.cell (p := ⟨w.heap.size, 4, none⟩) (World.block_lt_of_cell? _ _ x4)).trans x4, (b'.cell (p := ⟨w.heap.size, 5, none⟩) (World.block_lt_of_cell? _ _ x5)).trans x5, (b'.cell (p := ⟨w.heap.size, 6, none⟩) (World.block_lt_of_cell? _ _ x6)).trans x6, (b'.cell (p := ⟨w.heap.size, 7, none⟩) (World.block_lt_of_cell? _ _ x7)).trans x7, (b'.cell (p := ⟨w.heap.size, 8, none⟩) (World.block_lt_of_cell? _ _ x8)).trans x8, (b'.cell (p := ⟨w.heap.size, 9, none⟩) (World.block_lt_of_cell? _ _ x9)).trans x9⟩, HR1.out.keep (Keeps.below b')⟩
  clear k1 x0 x1 x2 x3 x4 x5 x6 x7 x8 x9
  go_wp2
  go_loopw [4] (fun v4 wr => ∃ k : Nat, k ≤ S.E7.length ∧ v4 = .int .i64 k ∧ Hid (Below w1.heap.size w1 wr)) (fun v4 _ => S.E7.length - (intOf v4).toNat)
  case atStart => exact ⟨0, by omega, rfl, Below.refl _ _⟩
  case round =>
    obtain ⟨k, hk, rfl, Hw⟩ := hrel
    obtain ⟨⟨k1, x0, x1, x2, x3, x4, x5, x6, x7, x8, x9⟩, hRr⟩ := HM.out _ Hw.out
    have HRr : Hid (Rg wr R N S) := hRr
    clear hRr
    by_cases hk0 : k < S.E7.length
    · have hki : (k : Int) < (S.E7.length : Int) := by omega
      have hu : S.E7[k]? = some (S.E7[k]'hk0) := List.getElem?_eq_getElem hk0
      generalize S.E7[k]'hk0 = u at hu
      obtain ⟨a', cap', ev', hrw⟩ := HRr.out.w7
      rw [Hev.out] at ev'
      cases ev'
      obtain ⟨q, rfl, hq, hz, hcu⟩ := hrw k u hu
      obtain ⟨b, c, n, rfl, hNb, -, hbl, hnb, hmk⟩ := HRr.out.m7 u (List.mem_of_getElem? hu)
      have Hmk : Hid (∀ w', Below wr.heap.size wr w' → w'.cell? ⟨q, k, none⟩ = some (.slice (some ⟨b, 0, none⟩) (n + 8) c) ∧ ∀ j, j < 8 → ∀ i, i < 5 → w'.cell? ⟨b, (n + j) * 5 + i, none⟩ = (mob j)[i]?) := fun w' b' => ⟨(b'.cell (p := ⟨q, k, none⟩) hq).trans hcu, fun j hj i hi => (b'.cell (p := ⟨b, (n + j) * 5 + i, none⟩) hbl).trans (hmk j hj i hi)⟩
      have hnn : n ≤ 1000000000000 := by omega
      clear hmk hnb hNb
      obtain ⟨wA, hwA⟩ : ∃ wA, wA = wr := ⟨_, rfl⟩
      subst hwA
      clear hrw hu
      go_wp2
      go_loopw [6] (fun v6 w3 => ∃ j : Nat, j ≤ 8 ∧ v6 = .int .i64 j ∧ Hid (Below wA.heap.size wA w3)) (fun v6 _ => 8 - (intOf v6).toNat)
      case atStart => exact ⟨0, by omega, rfl, Below.refl _ _⟩
      case round =>
        obtain ⟨j, hj, rfl, Hw3⟩ := hrel
        have HB3 : Hid (Below w1.heap.size w1 wr) := Hw.out.trans (Hw3.out.mono Hw.out.size)
        clear k1 x0 x1 x2 x3 x4 x5 x6 x7 x8 x9 HRr hcu
        obtain ⟨⟨k1, x0, x1, x2, x3, x4, x5, x6, x7, x8, x9⟩, hRr⟩ := HM.out _ HB3.out
        obtain ⟨hcu, hmk⟩ := Hmk.out _ Hw3.out
        by_cases hj0 : j < 8
        · have hjI : (j : Int) < 8 := by omega
          have c0 : wr.cell? ⟨b, (n + j) * 5, none⟩ = some (.int .u64 0) := hmk j hj0 0 (by omega)
          have c1 : wr.cell? ⟨b, (n + j) * 5 + 1, none⟩ = some (.int .i64 (mrk j)) := hmk j hj0 1 (by omega)
          have c2 : wr.cell? ⟨b, (n + j) * 5 + 2, none⟩ = some (.int .i64 0) := hmk j hj0 2 (by omega)
          have c3 : wr.cell? ⟨b, (n + j) * 5 + 3, none⟩ = some (.slice none 0 0) := hmk j hj0 3 (by omega)
          have c4 : wr.cell? ⟨b, (n + j) * 5 + 4, none⟩ = some (.slice none 0 0) := hmk j hj0 4 (by omega)
          have hMl : w.heap.size < wr.heap.size := World.block_lt_of_cell? _ _ x0
          clear hmk
          by_cases hpar : j % 2 = 0
          · rw [mrk0 hpar] at c1
            have hp2 : Int.tmod (j : Int) 2 = 0 := by rw [Int.tmod_eq_emod_of_nonneg (by omega)]; omega
            go_wp2
            exact ⟨⟨j + 1, by omega, by go_num, (Hw3.out.alloc Hw3.out.size _).alloc ((Hw3.out.alloc Hw3.out.size _).size) _⟩, by simp [intOf]; omega⟩
          · rw [mrk1 hpar] at c1
            have hp2 : Int.tmod (j : Int) 2 = 1 := by rw [Int.tmod_eq_emod_of_nonneg (by omega)]; omega
            go_wp2
            exact ⟨⟨j + 1, by omega, by go_num, (Hw3.out.alloc Hw3.out.size _).alloc ((Hw3.out.alloc Hw3.out.size _).size) _⟩, by simp [intOf]; omega⟩
        · have hjI : ¬ (j : Int) < 8 := by omega
          go_wp2
          exact ⟨⟨k + 1, by omega, by go_num, Hw.out.trans (Hw3.out.mono Hw.out.size)⟩, by simp [intOf]; omega⟩
    · have hk1 : ¬ (k : Int) < (S.E7.length : Int) := by omega
      go_wp2
      go_ret
      exact ⟨rfl, Hb1.out.trans (Hw.out.mono Hb1.out.size)⟩

end Go.Proofs.YtckgcpoheodbcaaDoor

/-
  Images: Hold.
-/
set_option linter.unusedVariables false
set_option maxRecDepth 20000
namespace Go.Proofs.YtckgcpoheodbcaaDoor
open Go.RowKit Go.Shelf

set_option maxHeartbeats 4000000 in
/-- No mark is written over. -/
theorem roomHold_rg {w : World} {R : Nat} {N : Nat → Nat} {S : RS} (H : Rg w R N S) :
    Calls Tryd.prog 9 #[.pointer (some ⟨R, 0, none⟩)] w fun e w' => e = .returned (.bool true) ∧ Below w.heap.size w w' := by
  have HB0 : Hid (Below w.heap.size w w) := Below.refl _ _
  have HR : Hid (∀ w', Below w.heap.size w w' → Rg w' R N S) := fun w' b' => H.keep (Keeps.below b')
  clear H
  go_enter Tryd.func9, Tryd.ntmps9
  have hc0 := roomHB_nil (w := w) (R := R) ((HR.out w HB0.out).c 0 (by omega))
  go_wp2_with fail
  refine hc0.mono ?_
  rintro e w1 ⟨rfl, b1⟩
  have HB1 : Hid (Below w.heap.size w w1) := HB0.out.trans (b1.mono HB0.out.size)
  clear hc0 b1
  have hc1 := roomHI_rg (HR.out w1 HB1.out)
  go_wp2_with fail
  refine hc1.mono ?_
  rintro e w2 ⟨rfl, b2⟩
  have HB2 : Hid (Below w.heap.size w w2) := HB1.out.trans (b2.mono HB1.out.size)
  clear hc1 b2
  have hc2 := roomHW_rg (HR.out w2 HB2.out)
  go_wp2_with fail
  refine hc2.mono ?_
  rintro e w3 ⟨rfl, b3⟩
  have HB3 : Hid (Below w.heap.size w w3) := HB2.out.trans (b3.mono HB2.out.size)
  clear hc2 b3
  have hc3 := roomHT_nil (w := w3) (R := R) ((HR.out w3 HB3.out).c 3 (by omega))
  go_wp2_with fail
  refine hc3.mono ?_
  rintro e w4 ⟨rfl, b4⟩
  have HB4 : Hid (Below w.heap.size w w4) := HB3.out.trans (b4.mono HB3.out.size)
  clear hc3 b4
  have hc4 := roomHO_nil (w := w4) (R := R) ((HR.out w4 HB4.out).c 4 (by omega))
  go_wp2_with fail
  refine hc4.mono ?_
  rintro e w5 ⟨rfl, b5⟩
  have HB5 : Hid (Below w.heap.size w w5) := HB4.out.trans (b5.mono HB4.out.size)
  clear hc4 b5
  have hc5 := roomHL_rg (HR.out w5 HB5.out)
  go_wp2_with fail
  refine hc5.mono ?_
  rintro e w6 ⟨rfl, b6⟩
  have HB6 : Hid (Below w.heap.size w w6) := HB5.out.trans (b6.mono HB5.out.size)
  clear hc5 b6
  have hc6 := roomHF_rg (HR.out w6 HB6.out)
  go_wp2_with fail
  refine hc6.mono ?_
  rintro e w7 ⟨rfl, b7⟩
  have HB7 : Hid (Below w.heap.size w w7) := HB6.out.trans (b7.mono HB6.out.size)
  clear hc6 b7
  have hc7 := roomHJ_rg (HR.out w7 HB7.out)
  go_wp2_with fail
  refine hc7.mono ?_
  rintro e w8 ⟨rfl, b8⟩
  have HB8 : Hid (Below w.heap.size w w8) := HB7.out.trans (b8.mono HB7.out.size)
  clear hc7 b8
  go_wp2
  go_ret
  exact ⟨rfl, HB8.out⟩

end Go.Proofs.YtckgcpoheodbcaaDoor

