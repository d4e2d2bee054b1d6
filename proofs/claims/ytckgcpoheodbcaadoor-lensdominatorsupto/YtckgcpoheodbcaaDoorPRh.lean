import Derived.Test.YtckgcpoheodbcaaDoorPRk
/-
  Images: a room's marks are held. (Printed by mkRM11.py.)
-/
set_option linter.unusedVariables false
set_option maxRecDepth 20000
namespace Go.Proofs.YtckgcpoheodbcaaDoor
open Go.RowKit Go.Shelf

theorem mrk0 {j : Nat} (h : j % 2 = 0) : mrk j = -7701 := by unfold mrk; rw [if_pos h]
theorem mrk1 {j : Nat} (h : ¬ j % 2 = 0) : mrk j = -7702 := by unfold mrk; rw [if_neg h]
theorem mru0 {j : Nat} (h : j % 2 = 0) : mru j = 7701 := by unfold mru; rw [if_pos h]
theorem mru1 {j : Nat} (h : ¬ j % 2 = 0) : mru j = 7702 := by unfold mru; rw [if_neg h]

set_option maxHeartbeats 8000000 in
theorem roomHI_rg {w : World} {R : Nat} {N : Nat → Nat} {S : RS} (H : Rg w R N S) :
    Calls Tryd.prog 21 #[.pointer (some ⟨R, 0, none⟩)] w fun e w' => e = .returned (.bool true) ∧ Below w.heap.size w w' := by
  have b1 : Below w.heap.size w (w.alloc (.cells #[.int .i64 (-7701), .int .i64 (-7702)] 3)) := Below.alloc (Below.refl _ _) (Nat.le_refl _) _
  have H1 := H.keep (Keeps.below b1)
  have hel : S.E1.length ≤ 1000000000 := Nat.le_trans (by unfold RS.tot; omega) H.t
  have k1 : (w.alloc (.cells #[.int .i64 (-7701), .int .i64 (-7702)] 3)).cell? ⟨R, 1, none⟩ = some S.v1 := H1.c 1 (by omega)
  have m0 : (w.alloc (.cells #[.int .i64 (-7701), .int .i64 (-7702)] 3)).cell? ⟨w.heap.size, 0, none⟩ = some (.int .i64 (-7701)) := cell_of_row _ _ 0 _ _ _ (heap_alloc_new w _)
  have m1 : (w.alloc (.cells #[.int .i64 (-7701), .int .i64 (-7702)] 3)).cell? ⟨w.heap.size, 1, none⟩ = some (.int .i64 (-7702)) := cell_of_row _ _ 1 _ _ _ (heap_alloc_new w _)
  have Hb1 : Hid (Below w.heap.size w (w.alloc (.cells #[.int .i64 (-7701), .int .i64 (-7702)] 3))) := b1
  have HR1 : Hid (Rg (w.alloc (.cells #[.int .i64 (-7701), .int .i64 (-7702)] 3)) R N S) := H1
  obtain ⟨a, cap, ev, -⟩ := H1.w1
  rw [ev] at k1
  have Hev : Hid (S.v1 = .slice a S.E1.length cap) := ev
  clear H b1 H1 ev
  go_enter Tryd.func21, Tryd.ntmps21
  go_upto_region 2 with fail
  generalize w.alloc (.cells #[.int .i64 (-7701), .int .i64 (-7702)] 3) = w1 at *
  obtain ⟨M, hM⟩ : ∃ M, M = w.heap.size := ⟨_, rfl⟩
  rw [← hM] at m0 m1 ⊢
  clear hM
  go_wp2
  go_loopw [4] (fun v4 wr => ∃ k : Nat, k ≤ S.E1.length ∧ v4 = .int .i64 k ∧ w1 = wr) (fun v4 _ => S.E1.length - (intOf v4).toNat)
  case atStart => exact ⟨0, by omega, rfl, rfl⟩
  case round =>
    obtain ⟨k, hk, rfl, rfl⟩ := hrel
    have HRr := HR1
    by_cases hk0 : k < S.E1.length
    · have hki : (k : Int) < (S.E1.length : Int) := by omega
      have hu : S.E1[k]? = some (S.E1[k]'hk0) := List.getElem?_eq_getElem hk0
      generalize S.E1[k]'hk0 = u at hu
      obtain ⟨a', cap', ev', hrw⟩ := HRr.out.w1
      rw [Hev.out] at ev'
      cases ev'
      obtain ⟨q, rfl, hq, hz, hcu⟩ := hrw k u hu
      obtain ⟨b, c, rfl, -, hbl, hnb, hmk⟩ := HRr.out.m1 u (List.mem_of_getElem? hu)
      have Hmk : Hid (∀ j, j < 40 → w1.cell? ⟨b, N b + j, none⟩ = some (.int .i64 (mrk j))) := hmk
      generalize N b = n at *
      clear hmk
      clear hrw hu
      go_wp2
      go_loopw [6] (fun v6 w3 => ∃ j : Nat, j ≤ 40 ∧ v6 = .int .i64 j ∧ w1 = w3) (fun v6 _ => 40 - (intOf v6).toNat)
      case atStart => exact ⟨0, by omega, rfl, rfl⟩
      case round =>
        obtain ⟨j, hj, rfl, rfl⟩ := hrel
        skip
        by_cases hj0 : j < 40
        · have hjI : (j : Int) < 40 := by omega
          have hc := Hmk.out j hj0
          by_cases hpar : j % 2 = 0
          · rw [mrk0 hpar] at hc
            have hp2 : Int.tmod (j : Int) 2 = 0 := by rw [Int.tmod_eq_emod_of_nonneg (by omega)]; omega
            go_wp2
            exact ⟨⟨j + 1, by omega, by go_num, trivial⟩, by simp [intOf]; omega⟩
          · rw [mrk1 hpar] at hc
            have hp2 : Int.tmod (j : Int) 2 = 1 := by rw [Int.tmod_eq_emod_of_nonneg (by omega)]; omega
            go_wp2
            exact ⟨⟨j + 1, by omega, by go_num, trivial⟩, by simp [intOf]; omega⟩
        · have hjI : ¬ (j : Int) < 40 := by omega
          go_wp2
          exact ⟨⟨k + 1, by omega, by go_num, trivial⟩, by simp [intOf]; omega⟩
    · have hk1 : ¬ (k : Int) < (S.E1.length : Int) := by omega
      go_wp2
      go_ret
      exact ⟨rfl, Hb1.out⟩

set_option maxHeartbeats 8000000 in
theorem roomHW_rg {w : World} {R : Nat} {N : Nat → Nat} {S : RS} (H : Rg w R N S) :
    Calls Tryd.prog 22 #[.pointer (some ⟨R, 0, none⟩)] w fun e w' => e = .returned (.bool true) ∧ Below w.heap.size w w' := by
  have b1 : Below w.heap.size w (w.alloc (.cells #[.int .u64 7701, .int .u64 7702] 25)) := Below.alloc (Below.refl _ _) (Nat.le_refl _) _
  have H1 := H.keep (Keeps.below b1)
  have hel : S.E2.length ≤ 1000000000 := Nat.le_trans (by unfold RS.tot; omega) H.t
  have k1 : (w.alloc (.cells #[.int .u64 7701, .int .u64 7702] 25)).cell? ⟨R, 2, none⟩ = some S.v2 := H1.c 2 (by omega)
  have m0 : (w.alloc (.cells #[.int .u64 7701, .int .u64 7702] 25)).cell? ⟨w.heap.size, 0, none⟩ = some (.int .u64 7701) := cell_of_row _ _ 0 _ _ _ (heap_alloc_new w _)
  have m1 : (w.alloc (.cells #[.int .u64 7701, .int .u64 7702] 25)).cell? ⟨w.heap.size, 1, none⟩ = some (.int .u64 7702) := cell_of_row _ _ 1 _ _ _ (heap_alloc_new w _)
  have Hb1 : Hid (Below w.heap.size w (w.alloc (.cells #[.int .u64 7701, .int .u64 7702] 25))) := b1
  have HR1 : Hid (Rg (w.alloc (.cells #[.int .u64 7701, .int .u64 7702] 25)) R N S) := H1
  obtain ⟨a, cap, ev, -⟩ := H1.w2
  rw [ev] at k1
  have Hev : Hid (S.v2 = .slice a S.E2.length cap) := ev
  clear H b1 H1 ev
  go_enter Tryd.func22, Tryd.ntmps22
  go_upto_region 2 with fail
  generalize w.alloc (.cells #[.int .u64 7701, .int .u64 7702] 25) = w1 at *
  obtain ⟨M, hM⟩ : ∃ M, M = w.heap.size := ⟨_, rfl⟩
  rw [← hM] at m0 m1 ⊢
  clear hM
  go_wp2
  go_loopw [4] (fun v4 wr => ∃ k : Nat, k ≤ S.E2.length ∧ v4 = .int .i64 k ∧ w1 = wr) (fun v4 _ => S.E2.length - (intOf v4).toNat)
  case atStart => exact ⟨0, by omega, rfl, rfl⟩
  case round =>
    obtain ⟨k, hk, rfl, rfl⟩ := hrel
    have HRr := HR1
    by_cases hk0 : k < S.E2.length
    · have hki : (k : Int) < (S.E2.length : Int) := by omega
      have hu : S.E2[k]? = some (S.E2[k]'hk0) := List.getElem?_eq_getElem hk0
      generalize S.E2[k]'hk0 = u at hu
      obtain ⟨a', cap', ev', hrw⟩ := HRr.out.w2
      rw [Hev.out] at ev'
      cases ev'
      obtain ⟨q, rfl, hq, hz, hcu⟩ := hrw k u hu
      obtain ⟨b, c, rfl, -, hbl, hnb, hmk⟩ := HRr.out.m2 u (List.mem_of_getElem? hu)
      have Hmk : Hid (∀ j, j < 40 → w1.cell? ⟨b, N b + j, none⟩ = some (.int .u64 (mru j))) := hmk
      generalize N b = n at *
      clear hmk
      clear hrw hu
      go_wp2
      go_loopw [6] (fun v6 w3 => ∃ j : Nat, j ≤ 40 ∧ v6 = .int .i64 j ∧ w1 = w3) (fun v6 _ => 40 - (intOf v6).toNat)
      case atStart => exact ⟨0, by omega, rfl, rfl⟩
      case round =>
        obtain ⟨j, hj, rfl, rfl⟩ := hrel
        skip
        by_cases hj0 : j < 40
        · have hjI : (j : Int) < 40 := by omega
          have hc := Hmk.out j hj0
          by_cases hpar : j % 2 = 0
          · rw [mru0 hpar] at hc
            have hp2 : Int.tmod (j : Int) 2 = 0 := by rw [Int.tmod_eq_emod_of_nonneg (by omega)]; omega
            go_wp2
            exact ⟨⟨j + 1, by omega, by go_num, trivial⟩, by simp [intOf]; omega⟩
          · rw [mru1 hpar] at hc
            have hp2 : Int.tmod (j : Int) 2 = 1 := by rw [Int.tmod_eq_emod_of_nonneg (by omega)]; omega
            go_wp2
            exact ⟨⟨j + 1, by omega, by go_num, trivial⟩, by simp [intOf]; omega⟩
        · have hjI : ¬ (j : Int) < 40 := by omega
          go_wp2
          exact ⟨⟨k + 1, by omega, by go_num, trivial⟩, by simp [intOf]; omega⟩
    · have hk1 : ¬ (k : Int) < (S.E2.length : Int) := by omega
      go_wp2
      go_ret
      exact ⟨rfl, Hb1.out⟩

end Go.Proofs.YtckgcpoheodbcaaDoor

/-
  Images: a room's marks are held. (Printed by mkRM12.py.)
-/
set_option linter.unusedVariables false
set_option maxRecDepth 20000
namespace Go.Proofs.YtckgcpoheodbcaaDoor
open Go.RowKit Go.Shelf


set_option maxHeartbeats 8000000 in
theorem roomHL_rg {w : World} {R : Nat} {N : Nat → Nat} {S : RS} (H : Rg w R N S) :
    Calls Tryd.prog 25 #[.pointer (some ⟨R, 0, none⟩)] w fun e w' => e = .returned (.bool true) ∧ Below w.heap.size w w' := by
  have hmk0 := marks_Ql (w := w) (F := []) (N := fun _ => 0) (by simp) (fun _ _ => rfl) 0
  have x0 : (((w.alloc (.cells #[.int .i64 (-7701)] 3)).alloc (.cells #[.int .i64 (-7702)] 3)).alloc (.cells #[.slice (some ⟨w.heap.size, 0, none⟩) 1 1, .slice (some ⟨w.heap.size + 1, 0, none⟩) 1 1] 24)).cell? ⟨w.heap.size + 1 + 1, 0, none⟩ = some (.slice (some ⟨w.heap.size, 0, none⟩) 1 1) := by have h9 := hmk0.2.2.2 0 _ rfl; rw [Addr.add_lit] at h9; exact h9
  have x1 : (((w.alloc (.cells #[.int .i64 (-7701)] 3)).alloc (.cells #[.int .i64 (-7702)] 3)).alloc (.cells #[.slice (some ⟨w.heap.size, 0, none⟩) 1 1, .slice (some ⟨w.heap.size + 1, 0, none⟩) 1 1] 24)).cell? ⟨w.heap.size + 1 + 1, 1, none⟩ = some (.slice (some ⟨w.heap.size + 1, 0, none⟩) 1 1) := by have h9 := hmk0.2.2.2 1 _ rfl; rw [Addr.add_lit] at h9; exact h9
  have x2 : (((w.alloc (.cells #[.int .i64 (-7701)] 3)).alloc (.cells #[.int .i64 (-7702)] 3)).alloc (.cells #[.slice (some ⟨w.heap.size, 0, none⟩) 1 1, .slice (some ⟨w.heap.size + 1, 0, none⟩) 1 1] 24)).cell? ⟨w.heap.size, 0, none⟩ = some (.int .i64 (-7701)) := by obtain ⟨b, c, e, -, -, -, h⟩ := hmk0.2.1; cases e; exact h
  have x3 : (((w.alloc (.cells #[.int .i64 (-7701)] 3)).alloc (.cells #[.int .i64 (-7702)] 3)).alloc (.cells #[.slice (some ⟨w.heap.size, 0, none⟩) 1 1, .slice (some ⟨w.heap.size + 1, 0, none⟩) 1 1] 24)).cell? ⟨w.heap.size + 1, 0, none⟩ = some (.int .i64 (-7702)) := by obtain ⟨b, c, e, -, -, -, h⟩ := hmk0.2.2.1; cases e; exact h
  have b1 : Below w.heap.size w (((w.alloc (.cells #[.int .i64 (-7701)] 3)).alloc (.cells #[.int .i64 (-7702)] 3)).alloc (.cells #[.slice (some ⟨w.heap.size, 0, none⟩) 1 1, .slice (some ⟨w.heap.size + 1, 0, none⟩) 1 1] 24)) := (hmk0).1
  have H1 := H.keep (Keeps.below b1)
  have hel : S.E5.length ≤ 1000000000 := Nat.le_trans (by unfold RS.tot; omega) H.t
  have k1 : (((w.alloc (.cells #[.int .i64 (-7701)] 3)).alloc (.cells #[.int .i64 (-7702)] 3)).alloc (.cells #[.slice (some ⟨w.heap.size, 0, none⟩) 1 1, .slice (some ⟨w.heap.size + 1, 0, none⟩) 1 1] 24)).cell? ⟨R, 5, none⟩ = some S.v5 := H1.c 5 (by omega)
  have Hb1 : Hid (Below w.heap.size w (((w.alloc (.cells #[.int .i64 (-7701)] 3)).alloc (.cells #[.int .i64 (-7702)] 3)).alloc (.cells #[.slice (some ⟨w.heap.size, 0, none⟩) 1 1, .slice (some ⟨w.heap.size + 1, 0, none⟩) 1 1] 24))) := b1
  have HR1 : Hid (Rg (((w.alloc (.cells #[.int .i64 (-7701)] 3)).alloc (.cells #[.int .i64 (-7702)] 3)).alloc (.cells #[.slice (some ⟨w.heap.size, 0, none⟩) 1 1, .slice (some ⟨w.heap.size + 1, 0, none⟩) 1 1] 24)) R N S) := H1
  obtain ⟨a, cap, ev, -⟩ := H1.w5
  rw [ev] at k1
  have Hev : Hid (S.v5 = .slice a S.E5.length cap) := ev
  clear H b1 H1 ev hmk0
  go_enter Tryd.func25, Tryd.ntmps25
  go_upto_region 2 with fail
  generalize ((w.alloc (.cells #[.int .i64 (-7701)] 3)).alloc (.cells #[.int .i64 (-7702)] 3)).alloc (.cells #[.slice (some ⟨w.heap.size, 0, none⟩) 1 1, .slice (some ⟨w.heap.size + 1, 0, none⟩) 1 1] 24) = w1 at *
  have HM : Hid (∀ w', Below w1.heap.size w1 w' → (w'.cell? ⟨R, 5, none⟩ = some (.slice a S.E5.length cap) ∧ w'.cell? ⟨w.heap.size + 1 + 1, 0, none⟩ = some (.slice (some ⟨w.heap.size, 0, none⟩) 1 1) ∧ w'.cell? ⟨w.heap.size + 1 + 1, 1, none⟩ = some (.slice (some ⟨w.heap.size + 1, 0, none⟩) 1 1) ∧ w'.cell? ⟨w.heap.size, 0, none⟩ = some (.int .i64 (-7701)) ∧ w'.cell? ⟨w.heap.size + 1, 0, none⟩ = some (.int .i64 (-7702))) ∧ Rg w' R N S) := fun w' b' => ⟨⟨(b'.cell (p := ⟨R, 5, none⟩) HR1.out.l).trans k1, (b'.cell (p := ⟨w.heap.size + 1 + 1, 0, none⟩) (World.block_lt_of_cell? _ _ x0)).trans x0, (b'.cell (p := ⟨w.heap.size + 1 + 1, 1, none⟩) (World.block_lt_of_cell? _ _ x1)).trans x1, (b'.cell (p := ⟨w.heap.size, 0, none⟩) (World.block_lt_of_cell? _ _ x2)).trans x2, (b'.cell (p := ⟨w.heap.size + 1, 0, none⟩) (World.block_lt_of_cell? _ _ x3)).trans x3⟩, HR1.out.keep (Keeps.below b')⟩
  clear k1 x0 x1 x2 x3
  go_wp2
  go_loopw [4] (fun v4 wr => ∃ k : Nat, k ≤ S.E5.length ∧ v4 = .int .i64 k ∧ Hid (Below w1.heap.size w1 wr)) (fun v4 _ => S.E5.length - (intOf v4).toNat)
  case atStart => exact ⟨0, by omega, rfl, Below.refl _ _⟩
  case round =>
    obtain ⟨k, hk, rfl, Hw⟩ := hrel
    obtain ⟨⟨k1, x0, x1, x2, x3⟩, hRr⟩ := HM.out _ Hw.out
    have HRr : Hid (Rg wr R N S) := hRr
    clear hRr
    by_cases hk0 : k < S.E5.length
    · have hki : (k : Int) < (S.E5.length : Int) := by omega
      have hu : S.E5[k]? = some (S.E5[k]'hk0) := List.getElem?_eq_getElem hk0
      generalize S.E5[k]'hk0 = u at hu
      obtain ⟨a', cap', ev', hrw⟩ := HRr.out.w5
      rw [Hev.out] at ev'
      cases ev'
      obtain ⟨q, rfl, hq, hz, hcu⟩ := hrw k u hu
      obtain ⟨b, c, rfl, -, hbl, hnb, hmk⟩ := HRr.out.m5 u (List.mem_of_getElem? hu)
      have Hmk : Hid (∀ w', Below wr.heap.size wr w' → w'.cell? ⟨q, k, none⟩ = some (.slice (some ⟨b, 0, none⟩) (N b + 8) c) ∧ ∀ j, j < 8 → ∃ u, w'.cell? ⟨b, N b + j, none⟩ = some u ∧ Ml w' N [] j u) := fun w' b' => ⟨(b'.cell (p := ⟨q, k, none⟩) hq).trans hcu, fun j hj => by
        obtain ⟨u, h1, h2⟩ := hmk j hj
        exact ⟨u, (b'.cell (p := ⟨b, N b + j, none⟩) hbl).trans h1, h2.keep (Keeps.below b')⟩⟩
      clear hmk
      have hnb' : N b ≤ 1000000000000 := hnb
      obtain ⟨wA, hwA⟩ : ∃ wA, wA = wr := ⟨_, rfl⟩
      subst hwA
      clear hrw hu
      go_wp2
      go_loopw [6] (fun v6 w3 => ∃ j : Nat, j ≤ 8 ∧ v6 = .int .i64 j ∧ Hid (Below wA.heap.size wA w3)) (fun v6 _ => 8 - (intOf v6).toNat)
      case atStart => exact ⟨0, by omega, rfl, Below.refl _ _⟩
      case round =>
        obtain ⟨j, hj, rfl, Hw3⟩ := hrel
        have HB3 : Hid (Below w1.heap.size w1 wr) := Hw.out.trans (Hw3.out.mono Hw.out.size)
        clear k1 x0 x1 x2 x3 HRr hcu
        obtain ⟨⟨k1, x0, x1, x2, x3⟩, hRr⟩ := HM.out _ HB3.out
        obtain ⟨hcu, hmk⟩ := Hmk.out _ Hw3.out
        by_cases hj0 : j < 8
        · have hjI : (j : Int) < 8 := by omega
          obtain ⟨u, hc, b5, c5, rfl, -, hl5, -, hc5⟩ := hmk j hj0
          clear hmk
          by_cases hpar : j % 2 = 0
          · rw [mrk0 hpar] at hc5
            have hp2 : Int.tmod (j : Int) 2 = 0 := by rw [Int.tmod_eq_emod_of_nonneg (by omega)]; omega
            go_upto_region 11 with fail
            go_quiet (fail)
            go_wp2
            exact ⟨⟨j + 1, by omega, by go_num, Below.drewN' Hw3.out _⟩, by simp [intOf]; omega⟩
          · rw [mrk1 hpar] at hc5
            have hp2 : Int.tmod (j : Int) 2 = 1 := by rw [Int.tmod_eq_emod_of_nonneg (by omega)]; omega
            go_upto_region 11 with fail
            go_quiet (fail)
            go_wp2
            exact ⟨⟨j + 1, by omega, by go_num, Below.drewN' Hw3.out _⟩, by simp [intOf]; omega⟩
        · have hjI : ¬ (j : Int) < 8 := by omega
          go_wp2
          exact ⟨⟨k + 1, by omega, by go_num, Hw.out.trans (Hw3.out.mono Hw.out.size)⟩, by simp [intOf]; omega⟩
    · have hk1 : ¬ (k : Int) < (S.E5.length : Int) := by omega
      go_wp2
      go_ret
      exact ⟨rfl, Hb1.out.trans (Hw.out.mono Hb1.out.size)⟩

end Go.Proofs.YtckgcpoheodbcaaDoor

/-
  Images: a room's marks are held. (Printed by mkRM12.py.)
-/
set_option linter.unusedVariables false
set_option maxRecDepth 20000
namespace Go.Proofs.YtckgcpoheodbcaaDoor
open Go.RowKit Go.Shelf


set_option maxHeartbeats 8000000 in
theorem roomHF_rg {w : World} {R : Nat} {N : Nat → Nat} {S : RS} (H : Rg w R N S) :
    Calls Tryd.prog 26 #[.pointer (some ⟨R, 0, none⟩)] w fun e w' => e = .returned (.bool true) ∧ Below w.heap.size w w' := by
  have hmk0 := marks_Qm (w := w) (F := []) (N := fun _ => 0) (by simp) (fun _ _ => rfl) 0
  have x0 : (((((w.alloc (.cells #[.int .i64 (-7701)] 3)).alloc (.cells #[.slice (some ⟨w.heap.size, 0, none⟩) 1 1] 24)).alloc (.cells #[.int .i64 (-7702)] 3)).alloc (.cells #[.slice (some ⟨w.heap.size + 1 + 1, 0, none⟩) 1 1] 24)).alloc (.cells #[.slice (some ⟨w.heap.size + 1, 0, none⟩) 1 1, .slice (some ⟨w.heap.size + 1 + 1 + 1, 0, none⟩) 1 1] 30)).cell? ⟨w.heap.size + 1 + 1 + 1 + 1, 0, none⟩ = some (.slice (some ⟨w.heap.size + 1, 0, none⟩) 1 1) := by have h9 := hmk0.2.2.2 0 _ rfl; rw [Addr.add_lit] at h9; exact h9
  have x1 : (((((w.alloc (.cells #[.int .i64 (-7701)] 3)).alloc (.cells #[.slice (some ⟨w.heap.size, 0, none⟩) 1 1] 24)).alloc (.cells #[.int .i64 (-7702)] 3)).alloc (.cells #[.slice (some ⟨w.heap.size + 1 + 1, 0, none⟩) 1 1] 24)).alloc (.cells #[.slice (some ⟨w.heap.size + 1, 0, none⟩) 1 1, .slice (some ⟨w.heap.size + 1 + 1 + 1, 0, none⟩) 1 1] 30)).cell? ⟨w.heap.size + 1 + 1 + 1 + 1, 1, none⟩ = some (.slice (some ⟨w.heap.size + 1 + 1 + 1, 0, none⟩) 1 1) := by have h9 := hmk0.2.2.2 1 _ rfl; rw [Addr.add_lit] at h9; exact h9
  obtain ⟨x2, x3⟩ : (((((w.alloc (.cells #[.int .i64 (-7701)] 3)).alloc (.cells #[.slice (some ⟨w.heap.size, 0, none⟩) 1 1] 24)).alloc (.cells #[.int .i64 (-7702)] 3)).alloc (.cells #[.slice (some ⟨w.heap.size + 1 + 1, 0, none⟩) 1 1] 24)).alloc (.cells #[.slice (some ⟨w.heap.size + 1, 0, none⟩) 1 1, .slice (some ⟨w.heap.size + 1 + 1 + 1, 0, none⟩) 1 1] 30)).cell? ⟨w.heap.size + 1, 0, none⟩ = some (.slice (some ⟨w.heap.size, 0, none⟩) 1 1) ∧ (((((w.alloc (.cells #[.int .i64 (-7701)] 3)).alloc (.cells #[.slice (some ⟨w.heap.size, 0, none⟩) 1 1] 24)).alloc (.cells #[.int .i64 (-7702)] 3)).alloc (.cells #[.slice (some ⟨w.heap.size + 1 + 1, 0, none⟩) 1 1] 24)).alloc (.cells #[.slice (some ⟨w.heap.size + 1, 0, none⟩) 1 1, .slice (some ⟨w.heap.size + 1 + 1 + 1, 0, none⟩) 1 1] 30)).cell? ⟨w.heap.size, 0, none⟩ = some (.int .i64 (-7701)) := by
    have c1 := Kg.heap_cell (heap_alloc_new w (.cells #[.int .i64 (-7701)] 3 (0, 0))) 0
    have c2 := Kg.heap_cell (heap_alloc_new (w.alloc (.cells #[.int .i64 (-7701)] 3)) (.cells #[.slice (some ⟨w.heap.size, 0, none⟩) 1 1] 24 (0, 0))) 0
    rw [World.size_alloc] at c2
    refine ⟨(World.cell?_of_block ?_).trans c2, (World.cell?_of_block ?_).trans c1⟩
    · rw [Below.heap_alloc _ _ _ (by simp <;> omega), Below.heap_alloc _ _ _ (by simp <;> omega), Below.heap_alloc _ _ _ (by simp)]
    · rw [Below.heap_alloc _ _ _ (by simp <;> omega), Below.heap_alloc _ _ _ (by simp <;> omega), Below.heap_alloc _ _ _ (by simp <;> omega), Below.heap_alloc _ _ _ (by simp)]
  obtain ⟨x4, x5⟩ : (((((w.alloc (.cells #[.int .i64 (-7701)] 3)).alloc (.cells #[.slice (some ⟨w.heap.size, 0, none⟩) 1 1] 24)).alloc (.cells #[.int .i64 (-7702)] 3)).alloc (.cells #[.slice (some ⟨w.heap.size + 1 + 1, 0, none⟩) 1 1] 24)).alloc (.cells #[.slice (some ⟨w.heap.size + 1, 0, none⟩) 1 1, .slice (some ⟨w.heap.size + 1 + 1 + 1, 0, none⟩) 1 1] 30)).cell? ⟨w.heap.size + 1 + 1 + 1, 0, none⟩ = some (.slice (some ⟨w.heap.size + 1 + 1, 0, none⟩) 1 1) ∧ (((((w.alloc (.cells #[.int .i64 (-7701)] 3)).alloc (.cells #[.slice (some ⟨w.heap.size, 0, none⟩) 1 1] 24)).alloc (.cells #[.int .i64 (-7702)] 3)).alloc (.cells #[.slice (some ⟨w.heap.size + 1 + 1, 0, none⟩) 1 1] 24)).alloc (.cells #[.slice (some ⟨w.heap.size + 1, 0, none⟩) 1 1, .slice (some ⟨w.heap.size + 1 + 1 + 1, 0, none⟩) 1 1] 30)).cell? ⟨w.heap.size + 1 + 1, 0, none⟩ = some (.int .i64 (-7702)) := by
    have c3 := Kg.heap_cell (heap_alloc_new ((w.alloc (.cells #[.int .i64 (-7701)] 3)).alloc (.cells #[.slice (some ⟨w.heap.size, 0, none⟩) 1 1] 24)) (.cells #[.int .i64 (-7702)] 3 (0, 0))) 0
    rw [World.size_alloc, World.size_alloc] at c3
    have c4 := Kg.heap_cell (heap_alloc_new (((w.alloc (.cells #[.int .i64 (-7701)] 3)).alloc (.cells #[.slice (some ⟨w.heap.size, 0, none⟩) 1 1] 24)).alloc (.cells #[.int .i64 (-7702)] 3)) (.cells #[.slice (some ⟨w.heap.size + 1 + 1, 0, none⟩) 1 1] 24 (0, 0))) 0
    rw [World.size_alloc, World.size_alloc, World.size_alloc] at c4
    refine ⟨(World.cell?_of_block ?_).trans c4, (World.cell?_of_block ?_).trans c3⟩
    · rw [Below.heap_alloc _ _ _ (by simp)]
    · rw [Below.heap_alloc _ _ _ (by simp <;> omega), Below.heap_alloc _ _ _ (by simp)]
  have b1 : Below w.heap.size w (((((w.alloc (.cells #[.int .i64 (-7701)] 3)).alloc (.cells #[.slice (some ⟨w.heap.size, 0, none⟩) 1 1] 24)).alloc (.cells #[.int .i64 (-7702)] 3)).alloc (.cells #[.slice (some ⟨w.heap.size + 1 + 1, 0, none⟩) 1 1] 24)).alloc (.cells #[.slice (some ⟨w.heap.size + 1, 0, none⟩) 1 1, .slice (some ⟨w.heap.size + 1 + 1 + 1, 0, none⟩) 1 1] 30)) := (hmk0).1
  have H1 := H.keep (Keeps.below b1)
  have hel : S.E6.length ≤ 1000000000 := Nat.le_trans (by unfold RS.tot; omega) H.t
  have k1 : (((((w.alloc (.cells #[.int .i64 (-7701)] 3)).alloc (.cells #[.slice (some ⟨w.heap.size, 0, none⟩) 1 1] 24)).alloc (.cells #[.int .i64 (-7702)] 3)).alloc (.cells #[.slice (some ⟨w.heap.size + 1 + 1, 0, none⟩) 1 1] 24)).alloc (.cells #[.slice (some ⟨w.heap.size + 1, 0, none⟩) 1 1, .slice (some ⟨w.heap.size + 1 + 1 + 1, 0, none⟩) 1 1] 30)).cell? ⟨R, 6, none⟩ = some S.v6 := H1.c 6 (by omega)
  have Hb1 : Hid (Below w.heap.size w (((((w.alloc (.cells #[.int .i64 (-7701)] 3)).alloc (.cells #[.slice (some ⟨w.heap.size, 0, none⟩) 1 1] 24)).alloc (.cells #[.int .i64 (-7702)] 3)).alloc (.cells #[.slice (some ⟨w.heap.size + 1 + 1, 0, none⟩) 1 1] 24)).alloc (.cells #[.slice (some ⟨w.heap.size + 1, 0, none⟩) 1 1, .slice (some ⟨w.heap.size + 1 + 1 + 1, 0, none⟩) 1 1] 30))) := b1
  have HR1 : Hid (Rg (((((w.alloc (.cells #[.int .i64 (-7701)] 3)).alloc (.cells #[.slice (some ⟨w.heap.size, 0, none⟩) 1 1] 24)).alloc (.cells #[.int .i64 (-7702)] 3)).alloc (.cells #[.slice (some ⟨w.heap.size + 1 + 1, 0, none⟩) 1 1] 24)).alloc (.cells #[.slice (some ⟨w.heap.size + 1, 0, none⟩) 1 1, .slice (some ⟨w.heap.size + 1 + 1 + 1, 0, none⟩) 1 1] 30)) R N S) := H1
  obtain ⟨a, cap, ev, -⟩ := H1.w6
  rw [ev] at k1
  have Hev : Hid (S.v6 = .slice a S.E6.length cap) := ev
  clear H b1 H1 ev hmk0
  go_enter Tryd.func26, Tryd.ntmps26
  go_upto_region 2 with fail
  generalize ((((w.alloc (.cells #[.int .i64 (-7701)] 3)).alloc (.cells #[.slice (some ⟨w.heap.size, 0, none⟩) 1 1] 24)).alloc (.cells #[.int .i64 (-7702)] 3)).alloc (.cells #[.slice (some ⟨w.heap.size + 1 + 1, 0, none⟩) 1 1] 24)).alloc (.cells #[.slice (some ⟨w.heap.size + 1, 0, none⟩) 1 1, .slice (some ⟨w.heap.size + 1 + 1 + 1, 0, none⟩) 1 1] 30) = w1 at *
  have HM : Hid (∀ w', Below w1.heap.size w1 w' → (w'.cell? ⟨R, 6, none⟩ = some (.slice a S.E6.length cap) ∧ w'.cell? ⟨w.heap.size + 1 + 1 + 1 + 1, 0, none⟩ = some (.slice (some ⟨w.heap.size + 1, 0, none⟩) 1 1) ∧ w'.cell? ⟨w.heap.size + 1 + 1 + 1 + 1, 1, none⟩ = some (.slice (some ⟨w.heap.size + 1 + 1 + 1, 0, none⟩) 1 1) ∧ w'.cell? ⟨w.heap.size + 1, 0, none⟩ = some (.slice (some ⟨w.heap.size, 0, none⟩) 1 1) ∧ w'.cell? ⟨w.heap.size, 0, none⟩ = some (.int .i64 (-7701)) ∧ w'.cell? ⟨w.heap.size + 1 + 1 + 1, 0, none⟩ = some (.slice (some ⟨w.heap.size + 1 + 1, 0, none⟩) 1 1) ∧ w'.cell? ⟨w.heap.size + 1 + 1, 0, none⟩ = some (.int .i64 (-7702))) ∧ Rg w' R N S) := fun w' b' => ⟨⟨(b'.cell (p := ⟨R, 6, none⟩) HR1.out.l).trans k1, (b'.cell (p := ⟨w.heap.size + 1 + 1 + 1 + 1, 0, none⟩) (World.block_lt_of_cell? _ _ x0)).trans x0, (b'.cell (p := ⟨w.heap.size + 1 + 1 + 1 + 1, 1, none⟩) (World.block_lt_of_cell? _ _ x1)).trans x1, (b'.cell (p := ⟨w.heap.size + 1, 0, none⟩) (World.block_lt_of_cell? _ _ x2)).trans x2, (b'.cell (p := ⟨w.heap.size, 0, none⟩) (World.block_lt_of_cell? _ _ x3)).trans x3, (b'.cell (p := ⟨w.heap.size + 1 + 1 + 1, 0, none⟩) (World.block_lt_of_cell? _ _ x4)).trans x4, (b'.cell (p := ⟨w.heap.size + 1 + 1, 0, none⟩) (World.block_lt_of_cell? _ _ x5)).trans x5⟩, HR1.out.keep (Keeps.below b')⟩
  clear k1 x0 x1 x2 x3 x4 x5
  go_wp2
  go_loopw [4] (fun v4 wr => ∃ k : Nat, k ≤ S.E6.length ∧ v4 = .int .i64 k ∧ Hid (Below w1.heap.size w1 wr)) (fun v4 _ => S.E6.length - (intOf v4).toNat)
  case atStart => exact ⟨0, by omega, rfl, Below.refl _ _⟩
  case round =>
    obtain ⟨k, hk, rfl, Hw⟩ := hrel
    obtain ⟨⟨k1, x0, x1, x2, x3, x4, x5⟩, hRr⟩ := HM.out _ Hw.out
    have HRr : Hid (Rg wr R N S) := hRr
    clear hRr
    by_cases hk0 : k < S.E6.length
    · have hki : (k : Int) < (S.E6.length : Int) := by omega
      have hu : S.E6[k]? = some (S.E6[k]'hk0) := List.getElem?_eq_getElem hk0
      generalize S.E6[k]'hk0 = u at hu
      obtain ⟨a', cap', ev', hrw⟩ := HRr.out.w6
      rw [Hev.out] at ev'
      cases ev'
      obtain ⟨q, rfl, hq, hz, hcu⟩ := hrw k u hu
      obtain ⟨b, c, rfl, -, hbl, hnb, hmk⟩ := HRr.out.m6 u (List.mem_of_getElem? hu)
      have Hmk : Hid (∀ w', Below wr.heap.size wr w' → w'.cell? ⟨q, k, none⟩ = some (.slice (some ⟨b, 0, none⟩) (N b + 8) c) ∧ ∀ j, j < 8 → ∃ u, w'.cell? ⟨b, N b + j, none⟩ = some u ∧ Mm w' N [] j u) := fun w' b' => ⟨(b'.cell (p := ⟨q, k, none⟩) hq).trans hcu, fun j hj => by
        obtain ⟨u, h1, h2⟩ := hmk j hj
        exact ⟨u, (b'.cell (p := ⟨b, N b + j, none⟩) hbl).trans h1, h2.keep (Keeps.below b')⟩⟩
      clear hmk
      have hnb' : N b ≤ 1000000000000 := hnb
      obtain ⟨wA, hwA⟩ : ∃ wA, wA = wr := ⟨_, rfl⟩
      subst hwA
      clear hrw hu
      go_wp2
      go_loopw [6] (fun v6 w3 => ∃ j : Nat, j ≤ 8 ∧ v6 = .int .i64 j ∧ Hid (Below wA.heap.size wA w3)) (fun v6 _ => 8 - (intOf v6).toNat)
      case atStart => exact ⟨0, by omega, rfl, Below.refl _ _⟩
      case round =>
        obtain ⟨j, hj, rfl, Hw3⟩ := hrel
        have HB3 : Hid (Below w1.heap.size w1 wr) := Hw.out.trans (Hw3.out.mono Hw.out.size)
        clear k1 x0 x1 x2 x3 x4 x5 HRr hcu
        obtain ⟨⟨k1, x0, x1, x2, x3, x4, x5⟩, hRr⟩ := HM.out _ HB3.out
        obtain ⟨hcu, hmk⟩ := Hmk.out _ Hw3.out
        by_cases hj0 : j < 8
        · have hjI : (j : Int) < 8 := by omega
          obtain ⟨u, hc, b5, c5, rfl, -, hl5, -, u6, hc6, b6, c6, rfl, -, hl6, -, hc5⟩ := hmk j hj0
          clear hmk
          by_cases hpar : j % 2 = 0
          · rw [mrk0 hpar] at hc5
            have hp2 : Int.tmod (j : Int) 2 = 0 := by rw [Int.tmod_eq_emod_of_nonneg (by omega)]; omega
            go_upto_region 11 with fail
            go_quiet (fail)
            go_wp2
            exact ⟨⟨j + 1, by omega, by go_num, Below.drewN' Hw3.out _⟩, by simp [intOf]; omega⟩
          · rw [mrk1 hpar] at hc5
            have hp2 : Int.tmod (j : Int) 2 = 1 := by rw [Int.tmod_eq_emod_of_nonneg (by omega)]; omega
            go_upto_region 11 with fail
            go_quiet (fail)
            go_wp2
            exact ⟨⟨j + 1, by omega, by go_num, Below.drewN' Hw3.out _⟩, by simp [intOf]; omega⟩
        · have hjI : ¬ (j : Int) < 8 := by omega
          go_wp2
          exact ⟨⟨k + 1, by omega, by go_num, Hw.out.trans (Hw3.out.mono Hw.out.size)⟩, by simp [intOf]; omega⟩
    · have hk1 : ¬ (k : Int) < (S.E6.length : Int) := by omega
      go_wp2
      go_ret
      exact ⟨rfl, Hb1.out.trans (Hw.out.mono Hb1.out.size)⟩

end Go.Proofs.YtckgcpoheodbcaaDoor

